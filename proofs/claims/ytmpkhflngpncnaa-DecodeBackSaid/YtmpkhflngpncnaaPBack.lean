/- PROVED: 'DecodeBack' returns true whatever the bits and the instruction are: there and back, both ways. No condition. -/
import Derived.Test.YtmpkhflngpncnaaPB1
namespace Go.Proofs.Ytmpkhflngpncnaa
open Go.ChangeShapes Go.WideShapes Go.ChangeAt Go.RowKit Go.Sort
set_option linter.unusedVariables false
set_option linter.unusedSimpArgs false
theorem decodeBack_walk (a0 : Int) (I : Ins) (w0 : (Lit.int .u32 a0).wf = true) (w : World) : Calls Try.prog 5 #[.int .u32 a0, .agg (cellsI I)] w (RetB true w) := by
  obtain ⟨b, rfl, hb⟩ := u32_of_wf w0
  have key : ∀ J : Ins, (∃ n, encF J = some n ∧ n < 4294967296 ∧ decF n = J ∧ (J.kind == 0) = false) ∨ encF J = none := fun J => by
    cases h : encF J with
    | none => exact .inr rfl
    | some n =>
      obtain ⟨q, hq, hk, hd, hn, hl⟩ := encF_some h
      have := row_pos q hq
      exact .inl ⟨n, rfl, hl, hd, by rw [beq_eq_false_iff_ne]; omega⟩
  have hX : (∃ n, Hid (∀ v, Calls Try.prog 12 #[.agg (cellsI I)] v (RetA n true v)) ∧ Hid (∀ v, Calls Try.prog 10 #[.int .u32 n] v (RetX I v)) ∧ (I.kind == 0) = false) ∨ Hid (∀ v, Calls Try.prog 12 #[.agg (cellsI I)] v (RetA 0 false v)) := by
    rcases key I with ⟨n, h1, h2, h3, h4⟩ | h
    · refine .inl ⟨n, fun v => ?_, fun v => ?_, h4⟩
      · have h := Encode_c I v
        rw [show encN I = n by unfold encN; rw [h1]; rfl, show encB I = true by unfold encB; rw [h1]; rfl] at h
        exact h
      · have h := Decode_c n h2 v; rw [h3] at h; exact h
    · refine .inr fun v => ?_
      have h' := Encode_c I v
      rw [show encN I = 0 by unfold encN; rw [h]; rfl, show encB I = false by unfold encB; rw [h]; rfl] at h'
      exact h'
  have hY : (∃ J c, Hid (∀ v, Calls Try.prog 10 #[.int .u32 b] v (RetX J v)) ∧ Hid (∀ v, Calls Try.prog 12 #[.agg (cellsI J)] v (RetA c true v)) ∧ Hid (∀ v, Calls Try.prog 10 #[.int .u32 c] v (RetX J v)) ∧ (J.kind == 0) = false ∧ (bits .andNot .u32 (c : Int) (b : Int) == 0) = true) ∨
      (Hid (∀ v, Calls Try.prog 10 #[.int .u32 b] v (RetX zeroI v)) ∧ Hid (∀ v, Calls Try.prog 12 #[.agg (cellsI zeroI)] v (RetA 0 false v))) := by
    rcases decF_cases b with ⟨h0, _⟩ | ⟨r, hr, h1, h2⟩
    · refine .inr ⟨fun v => ?_, fun v => ?_⟩
      · have h := Decode_c b hb v; rw [h0] at h; exact h
      · have h := Encode_c zeroI v
        have hz := enc_zero zeroI rfl
        rw [show encN zeroI = 0 by unfold encN; rw [hz]; rfl, show encB zeroI = false by unfold encB; rw [hz]; rfl] at h
        exact h
    · obtain ⟨n, n1, n2, n3, n4, _⟩ := enc_dec hr hb.out h1
      rw [← h2] at n1 n2
      refine .inl ⟨decF b, n, fun v => Decode_c b hb v, fun v => ?_, fun v => ?_, ?_, sub_and hb.out n4 n3⟩
      · have h := Encode_c (decF b) v
        rw [show encN (decF b) = n by unfold encN; rw [n1]; rfl, show encB (decF b) = true by unfold encB; rw [n1]; rfl] at h
        exact h
      · have h := Decode_c n n4 v; rw [n2] at h; exact h
      · rw [beq_eq_false_iff_ne, h2]; show (r.kind : Int) ≠ 0; have := row_pos r hr; omega
  obtain ⟨kind, rd, rs1, rs2, rs3, rm, csr, size, imm, ui, un, wo⟩ := I
  rcases hX with ⟨n, e1, e2, e3⟩ | e1 <;> rcases hY with ⟨J, c, y1, y2, y3, y4, y5⟩ | ⟨y1, y2⟩
  · obtain ⟨ykind, yrd, yrs1, yrs2, yrs3, yrm, ycsr, ysize, yimm, yui, yun, ywo⟩ := J
    exact back_11 b hb kind rd rs1 rs2 rs3 rm csr size imm ui un wo n e1 e2 e3 ykind yrd yrs1 yrs2 yrs3 yrm ycsr ysize yimm yui yun ywo y1 c y2 y3 y4 y5 w
  · exact back_10 b hb kind rd rs1 rs2 rs3 rm csr size imm ui un wo n e1 e2 e3 y1 y2 w
  · obtain ⟨ykind, yrd, yrs1, yrs2, yrs3, yrm, ycsr, ysize, yimm, yui, yun, ywo⟩ := J
    exact back_01 b hb kind rd rs1 rs2 rs3 rm csr size imm ui un wo e1 ykind yrd yrs1 yrs2 yrs3 yrm ycsr ysize yimm yui yun ywo y1 c y2 y3 y4 y5 w
  · exact back_00 b hb kind rd rs1 rs2 rs3 rm csr size imm ui un wo e1 y1 y2 w
end Go.Proofs.Ytmpkhflngpncnaa
namespace Go.Proofs.Ytmpkhflngpncnaa.decodeBack
open Go.ChangeShapes Go.WideShapes Go.ChangeAt Go.RowKit
set_option linter.unusedVariables false
theorem own : ownKnob Try.prog.godebug = none := by kernel_rfl
set_option maxRecDepth 100000 in
theorem lifted (os : Os) (started : os.Started) (H : Type) (enc : TypeId × Value → H) :
    ReturnsInHanded {} Try.checked os 5 .any (Rows.decodeBackSpec.pre6 enc Try.prog Try.f5 Rows.decodeBackRow.domain false) (Rows.decodeBackSpec.post enc Try.prog Try.f5 false true false false) := by
  refine returnsInHanded_of_change (C := Try.checked) own started (by kernel_rfl) Try.func5
    (ChangeSpec.witness6 (enc := enc) (C := Try.checked) false ⟨#[], #[.int .u32 0, .agg (cellsI zeroI)], []⟩ 8 (by kernel_rfl) (by kernel_rfl) (by kernel_rfl) (by kernel_rfl)) ?_
  intro W base args ds gs before hval0 hW hcnd _
  have hval : ∀ (j : Nat) t v, Try.f5.params[j]? = some t → args[j]? = some v → Value.okWide Try.prog W .any base t v := hval0
  have hW' := hW
  obtain ⟨p, q, hA0, hV, rfl, hfz, hnd⟩ := hW
  have hA : DataW.TrodAll enc Try.prog W 0 (fun _ => true) true Try.f5.params.toList args.toList ds p := hA0
  rw [Try.params5] at hA hval
  obtain ⟨v0, vs0, d0, ds0, p0, q0, hargs, rfl, rfl, h0, r0⟩ := trodAll_cons hA
  obtain ⟨v1, vs1, d1, ds1, p1, q1, rfl, rfl, rfl, h1, r1⟩ := trodAll_cons r0
  obtain ⟨rfl, rfl, rfl⟩ := trodAll_nil r1
  obtain rfl : args = #[v0, v1] := by cases args; simp_all
  obtain ⟨rfl, rfl⟩ := trodVars_none hV
  obtain ⟨a0, rfl, rfl, rfl, w0⟩ := open_int Try.underlying22 (hval 0 22 v0 rfl rfl) h0
  obtain ⟨a1, rfl, rfl, re1⟩ := open_ins (hval 1 25 v1 rfl rfl) h1
  clear hA0 hval0
  simp only [List.append_nil] at hW'
  refine (decodeBack_walk a0 a1 w0 W).mono fun e W' ⟨he, hg⟩ => ?_
  subst he
  exact ⟨_, rfl, post_nums hW' (fun _ _ _ => (trodAll_cons_mk (shut_bool Try.underlying4 _) trodAll_mk0)) (fun sp => (trodAll_cons_mk (shut_int Try.underlying22 w0) (trodAll_cons_mk (re1 _ _ _ _) trodAll_mk0))) (fun _ => rfl) hg (ok_one (by kernel_rfl) rfl (okWide_bool_mk Try.underlying4 _))⟩
theorem over : Rows.decodeBackRow.holds Try.pinned (OpenSpec.ofChange Rows.decodeBackSpec) :=
  OpenClaim.holds_of_wide 5 Try.f5 rfl rfl rfl rfl rfl rfl rfl ⟨rfl, rfl, rfl, rfl, rfl⟩ rfl rfl rfl rfl rfl (by kernel_rfl) Try.func5 (by kernel_rfl)
    (of_decide_eq_true (by kernel_rfl)) (by unfold Func.isWrapper; first | (rw [if_pos (by decide +kernel)]; kernel_rfl) | (rw [if_neg (by decide +kernel)]; exact ⟨rfl, rfl⟩))
    (fun os started H enc _ => lifted os started H enc)
theorem proved : Rows.DecodeBackSaid := over
#print axioms proved
end Go.Proofs.Ytmpkhflngpncnaa.decodeBack
