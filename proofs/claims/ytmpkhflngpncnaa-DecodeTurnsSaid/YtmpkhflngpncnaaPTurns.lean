/- PROVED: 'DecodeTurns' returns true whatever the bits and the register are: another target register turns nothing else. No condition. -/
import Derived.Test.YtmpkhflngpncnaaF2
import Derived.Test.YtmpkhflngpncnaaM5
import Derived.BigGuardPart
namespace Go.Proofs.Ytmpkhflngpncnaa
open Go.ChangeShapes Go.WideShapes Go.ChangeAt Go.RowKit
set_option linter.unusedVariables false
set_option linter.unusedSimpArgs false

theorem i64_and31 (n : Int) : bits .and .i64 n 31 = n % 32 := by
  have e : bits .and .i64 n 31 = IntKind.i64.wrap ((BitVec.ofInt 64 n &&& BitVec.ofInt 64 31).toNat : Nat) := rfl
  have k : (BitVec.ofInt 64 n &&& BitVec.ofInt 64 31).toNat = (n % ((2 ^ 64 : Nat) : Int)).toNat % 32 := by
    rw [BitVec.toNat_and, show (BitVec.ofInt 64 31).toNat = 2 ^ 5 - 1 by decide, Nat.and_two_pow_sub_one_eq_mod, BitVec.toNat_ofInt]
  have k2 : ((((n % ((2 ^ 64 : Nat) : Int)).toNat % 32 : Nat)) : Int) = n % 32 := by
    rw [Int.natCast_emod, Int.toNat_of_nonneg (Int.emod_nonneg _ (by decide))]
    have : ((2 ^ 64 : Nat) : Int) = 18446744073709551616 := by decide
    rw [this]; omega
  rw [e, k, k2, IntWalk.i64_in _ (by omega)]
theorem turn_bits (b d : Nat) (hb : b < 4294967296) (hd : d < 32) : bits .or .u32 (bits .andNot .u32 (b : Int) 3968) ((d : Int) * 128 % 4294967296) = ((turnB b d : Nat) : Int) := by
  have e1 : bits .andNot .u32 (b : Int) 3968 = ((b &&& 4294963327 : Nat) : Int) := u32_andNot_nat b 3968 hb (by decide)
  have e2 : ((d : Int) * 128 % 4294967296) = ((d * 128 : Nat) : Int) := by omega
  rw [e1, e2, u32_or_nat _ _ (Nat.lt_of_le_of_lt Nat.and_le_left hb) (by omega)]; rfl

set_option maxRecDepth 100000 in
set_option maxHeartbeats 8000000 in
theorem decodeTurns_walk (a0 a1 : Int) (w0 : (Lit.int .u32 a0).wf = true) (w1 : (Lit.int .i64 a1).wf = true) (w : World) : Calls Try.prog 7 #[.int .u32 a0, .int .i64 a1] w (RetB true w) := by
  obtain ⟨b, rfl, hb⟩ := u32_of_wf w0
  clear w0 w1
  obtain ⟨d, hd⟩ : ∃ d : Nat, a1 % 32 = d := ⟨(a1 % 32).toNat, by omega⟩
  have hdl : d < 32 := by omega
  have e31 : bits .and .i64 a1 31 = (d : Int) := by rw [i64_and31, hd]
  have etb : bits .or .u32 (bits .andNot .u32 (b : Int) 3968) ((d : Int) * 128 % 4294967296) = ((turnB b d : Nat) : Int) := turn_bits b d hb.out hdl
  have edw : (d : Int) % 4294967296 = d := by omega
  have HT : Hid (wrK (decF b).kind = true → (decF b).rd = (fld b 7 5 : Int) ∧ decF (turnB b d) = { decF b with rd := (d : Int) }) := turns hb.out hdl
  have hdc := Lib.hid (fun v => Decode_c b hb v)
  have hdy := Lib.hid (fun v => Decode_c (turnB b d) (turn_lt hb.out hdl) v)
  have ew7 : Hid (wrap64 (bits .and .u32 ((b : Int) / 128) 31) = ((fld b 7 5 : Nat) : Int)) := by
    show wrap64 (bits .and .u32 ((b : Int) / 128) 31) = ((fld b 7 5 : Nat) : Int)
    have h : bits .and .u32 ((b : Int) / 128) 31 = ((fld b 7 5 : Nat) : Int) := by
      rw [show ((b : Int) / 128) = ((b / 2 ^ 7 : Nat) : Int) by simp]
      exact u32_low (b / 2 ^ 7) 5 (Nat.lt_of_le_of_lt (Nat.div_le_self _ _) hb.out) (by decide)
    rw [h]; exact wr_7_5 b
  clear hd
  generalize turnB b d = c at *
  generalize decF b = I at *
  generalize decF c = J at *
  obtain ⟨kind, rd, rs1, rs2, rs3, rm, csr, size, imm, ui, un, wo⟩ := I
  obtain ⟨ykind, yrd, yrs1, yrs2, yrs3, yrm, ycsr, ysize, yimm, yui, yun, ywo⟩ := J
  have hdc2 : Hid (∀ v, Calls Try.prog 10 #[.int .u32 b] v (fun e w' => e = .returned (.agg #[.int .i64 kind, .int .i64 rd, .int .i64 rs1, .int .i64 rs2, .int .i64 rs3, .int .i64 rm, .int .i64 csr, .int .i64 size, .int .i64 imm, .bool ui, .bool un, .bool wo]) ∧ Below v.heap.size v w')) := hdc.out
  have hdy2 : Hid (∀ v, Calls Try.prog 10 #[.int .u32 c] v (fun e w' => e = .returned (.agg #[.int .i64 ykind, .int .i64 yrd, .int .i64 yrs1, .int .i64 yrs2, .int .i64 yrs3, .int .i64 yrm, .int .i64 ycsr, .int .i64 ysize, .int .i64 yimm, .bool yui, .bool yun, .bool ywo]) ∧ Below v.heap.size v w')) := hdy.out
  dsimp only at HT
  have HD := Lib.hid hdl
  clear hdc hdy hdl
  go_enter Try.func7, Try.ntmps7
  go_wp2_with fail
  refine (awake_c _).mono ?_; rintro e w1 ⟨rfl, hb1⟩
  go_wp2_with fail
  refine (hdc2.out _).mono ?_; rintro e w2 ⟨rfl, hb2⟩
  go_wp2_with fail
  refine (hdy2.out _).mono ?_; rintro e w3 ⟨rfl, hb3⟩
  obtain ⟨hc3, hf3⟩ := bcell hb3; have hz3 := hb3.size; (try simp only [sz_alloc, sz_drew, sz_set] at hz3 hc3 hf3); have l3_0 : w2.heap.size < w3.heap.size := (by omega); have n3_0 : ¬ w2.heap.size = w3.heap.size := (by omega); have m3_0 : ¬ w3.heap.size = w2.heap.size := (by omega); have k3_0 := fun o => hc3 (w2.heap.size) o (by omega); have f3_0 := fun o => hf3 (w2.heap.size) o (by omega); (try simp (disch := (first | rfl | omega | (simp only [sz_alloc, sz_drew, sz_set]; omega))) only [sz_alloc, sz_drew, sz_set, World.cell?_drew, World.frozen?_drew, World.cell?_alloc_at, World.cell?_alloc_past, World.frozen?_alloc_at, World.frozen?_alloc_past] at k3_0 f3_0)
  clear hc3 hf3
  go_upto_region 6 with fail
  try dsimp only [List.append]
  have x0 : w3.cell? ⟨w2.heap.size, 0, none⟩ = some (.int .i64 kind) := by rw [k3_0]; rfl
  have hne : ¬ w2.heap.size = w3.heap.size := by omega
  have hlt : w2.heap.size < w3.heap.size := by omega
  go_cut [7] (fun s7 wx => s7 = .bool (wrK kind) ∧ wx = w3.alloc (Obj.cells #[.int .i64 ykind, .int .i64 yrd, .int .i64 yrs1, .int .i64 yrs2, .int .i64 yrs3, .int .i64 yrm, .int .i64 ycsr, .int .i64 ysize, .int .i64 yimm, .bool yui, .bool yun, .bool ywo] 25))
  case first =>
    have hk : kind = 1 ∨ kind = 2 ∨ kind = 3 ∨ kind = 4 ∨ kind = 11 ∨ (¬ kind = 1 ∧ ¬ kind = 2 ∧ ¬ kind = 3 ∧ ¬ kind = 4 ∧ ¬ kind = 11) := by omega
    rcases hk with rfl | rfl | rfl | rfl | rfl | ⟨n1, n2, n3, n4, n5⟩
    iterate 5
      · as_aux_lemma =>
          go_wp2_with fail
          go_meet
          exact ⟨rfl, rfl⟩
    · have m1 : (kind == 1) = false := by rw [beq_eq_false_iff_ne]; exact n1
      have m2 : (kind == 2) = false := by rw [beq_eq_false_iff_ne]; exact n2
      have m3 : (kind == 3) = false := by rw [beq_eq_false_iff_ne]; exact n3
      have m4 : (kind == 4) = false := by rw [beq_eq_false_iff_ne]; exact n4
      have m5 : (kind == 11) = false := by rw [beq_eq_false_iff_ne]; exact n5
      by_cases r1 : 13 ≤ kind ∧ kind ≤ 30
      · as_aux_lemma =>
          have HW : Hid (wrK kind = true) := decide_eq_true (.inr (.inr (.inr (.inr (.inr (.inl r1))))))
          have d1 : decide (13 ≤ kind) = true := decide_eq_true r1.1
          have d2 : decide (kind ≤ 30) = true := decide_eq_true r1.2
          clear n1 n2 n3 n4 n5 r1
          go_wp2_with fail
          go_meet
          exact ⟨by rw [HW.out], rfl⟩
      · by_cases r2 : 35 ≤ kind ∧ kind ≤ 48
        · as_aux_lemma =>
            have HW : Hid (wrK kind = true) := decide_eq_true (.inr (.inr (.inr (.inr (.inr (.inr (.inl r2)))))))
            have d1 : decide (13 ≤ kind) = true := decide_eq_true (by omega)
            have d2 : decide (kind ≤ 30) = false := decide_eq_false (by omega)
            have d3 : decide (35 ≤ kind) = true := decide_eq_true r2.1
            have d4 : decide (kind ≤ 48) = true := decide_eq_true r2.2
            clear n1 n2 n3 n4 n5 r1 r2
            go_wp2_with fail
            go_meet
            exact ⟨by rw [HW.out], rfl⟩
        · by_cases r3 : 53 ≤ kind ∧ kind ≠ 54
          · as_aux_lemma =>
              have HW : Hid (wrK kind = true) := decide_eq_true (.inr (.inr (.inr (.inr (.inr (.inr (.inr r3)))))))
              have d1 : decide (13 ≤ kind) = true := decide_eq_true (by omega)
              have d2 : decide (kind ≤ 30) = false := decide_eq_false (by omega)
              have d3 : decide (35 ≤ kind) = true := decide_eq_true (by omega)
              have d4 : decide (kind ≤ 48) = false := decide_eq_false (by omega)
              have d5 : decide (53 ≤ kind) = true := decide_eq_true r3.1
              have d6 : (kind != 54) = true := by simpa using r3.2
              clear n1 n2 n3 n4 n5 r1 r2 r3
              go_wp2_with fail
              go_meet
              exact ⟨by rw [HW.out], rfl⟩
          · have HW : Hid (wrK kind = false) := decide_eq_false (by omega)
            by_cases q1 : 13 ≤ kind
            · have d1 : decide (13 ≤ kind) = true := decide_eq_true q1
              have d2 : decide (kind ≤ 30) = false := decide_eq_false (by omega)
              by_cases q2 : 35 ≤ kind
              · have d3 : decide (35 ≤ kind) = true := decide_eq_true q2
                have d4 : decide (kind ≤ 48) = false := decide_eq_false (by omega)
                by_cases q3 : 53 ≤ kind
                · as_aux_lemma =>
                    have d5 : decide (53 ≤ kind) = true := decide_eq_true q3
                    have d6 : (kind != 54) = false := by rw [bne_eq_false_iff_eq]; omega
                    clear n1 n2 n3 n4 n5 r1 r2 r3 q1 q2 q3
                    go_wp2_with fail
                    go_meet
                    exact ⟨by rw [HW.out], rfl⟩
                · as_aux_lemma =>
                    have d5 : decide (53 ≤ kind) = false := decide_eq_false q3
                    clear n1 n2 n3 n4 n5 r1 r2 r3 q1 q2 q3
                    go_wp2_with fail
                    go_meet
                    exact ⟨by rw [HW.out], rfl⟩
              · as_aux_lemma =>
                  have d3 : decide (35 ≤ kind) = false := decide_eq_false q2
                  have d5 : decide (53 ≤ kind) = false := decide_eq_false (by omega)
                  clear n1 n2 n3 n4 n5 r1 r2 r3 q1 q2
                  go_wp2_with fail
                  go_meet
                  exact ⟨by rw [HW.out], rfl⟩
            · as_aux_lemma =>
                have d1 : decide (13 ≤ kind) = false := decide_eq_false q1
                have d3 : decide (35 ≤ kind) = false := decide_eq_false (by omega)
                have d5 : decide (53 ≤ kind) = false := decide_eq_false (by omega)
                clear n1 n2 n3 n4 n5 r1 r2 r3 q1
                go_wp2_with fail
                go_meet
                exact ⟨by rw [HW.out], rfl⟩
  case rest =>
    as_aux_lemma =>
    obtain ⟨rfl, rfl⟩ := hcut
    cases hw : wrK kind with
    | false =>
      go_wp2_with fail
      go_ret
      exact retB_mk rfl (by repeat (first | (with_reducible first | exact Below.refl _ _ | assumption | exact Nat.le_refl _ | refine Below.drew ?_ | refine Below.alloc ?_ ?_ _ | refine Below.setCell ?_ ?_ _ | refine le_alloc ?_ | refine le_set ?_ | refine le_drew ?_ | refine below_step (by assumption) ?_ ?_ | refine le_below (by assumption) ?_) | (dsimp only; omega)))
    | true =>
      have h := HT.out hw
      obtain ⟨h1, h2⟩ := h
      rw [Ins.mk.injEq] at h2
      obtain ⟨rfl, rfl, rfl, rfl, rfl, rfl, rfl, rfl, rfl, rfl, rfl, rfl⟩ := h2
      have x1 : w3.cell? ⟨w2.heap.size, 1, none⟩ = some (.int .i64 rd) := by rw [k3_0]; rfl
      have x2 : w3.cell? ⟨w2.heap.size, 2, none⟩ = some (.int .i64 yrs1) := by rw [k3_0]; rfl
      have x3 : w3.cell? ⟨w2.heap.size, 3, none⟩ = some (.int .i64 yrs2) := by rw [k3_0]; rfl
      have x4 : w3.cell? ⟨w2.heap.size, 4, none⟩ = some (.int .i64 yrs3) := by rw [k3_0]; rfl
      have x5 : w3.cell? ⟨w2.heap.size, 5, none⟩ = some (.int .i64 yrm) := by rw [k3_0]; rfl
      have x6 : w3.cell? ⟨w2.heap.size, 6, none⟩ = some (.int .i64 ycsr) := by rw [k3_0]; rfl
      have x7 : w3.cell? ⟨w2.heap.size, 7, none⟩ = some (.int .i64 ysize) := by rw [k3_0]; rfl
      have x8 : w3.cell? ⟨w2.heap.size, 8, none⟩ = some (.int .i64 yimm) := by rw [k3_0]; rfl
      have x9 : w3.cell? ⟨w2.heap.size, 9, none⟩ = some (.bool yui) := by rw [k3_0]; rfl
      have x10 : w3.cell? ⟨w2.heap.size, 10, none⟩ = some (.bool yun) := by rw [k3_0]; rfl
      have x11 : w3.cell? ⟨w2.heap.size, 11, none⟩ = some (.bool ywo) := by rw [k3_0]; rfl
      have hfz : w3.frozen? ⟨w2.heap.size, 1, none⟩ = false := by rw [f3_0]
      have eqr : (rd != wrap64 (bits .and .u32 ((b : Int) / 128) 31)) = false := by rw [ew7.out, h1]; simp
      have g25 := guard25
      have e25 : ∀ v, (Op.equalIn 10000 25 (.agg #[.int .i64 ykind, .int .i64 (d : Int), .int .i64 yrs1, .int .i64 yrs2, .int .i64 yrs3, .int .i64 yrm, .int .i64 ycsr, .int .i64 ysize, .int .i64 yimm, .bool yui, .bool yun, .bool ywo]) (.agg #[.int .i64 ykind, .int .i64 (d : Int), .int .i64 yrs1, .int .i64 yrs2, .int .i64 yrs3, .int .i64 yrm, .int .i64 ycsr, .int .i64 ysize, .int .i64 yimm, .bool yui, .bool yun, .bool ywo])).run Try.prog v = .ok true v := fun v => by
        rw [eq25 ykind d yrs1 yrs2 yrs3 yrm ycsr ysize yimm yui yun ywo ykind d yrs1 yrs2 yrs3 yrm ycsr ysize yimm yui yun ywo v]; simp
      clear h1 HT
      go_wp2_with fail
      go_ret
      exact retB_mk rfl (by repeat (first | (with_reducible first | exact Below.refl _ _ | assumption | exact Nat.le_refl _ | refine Below.drew ?_ | refine Below.alloc ?_ ?_ _ | refine Below.setCell ?_ ?_ _ | refine le_alloc ?_ | refine le_set ?_ | refine le_drew ?_ | refine below_step (by assumption) ?_ ?_ | refine le_below (by assumption) ?_) | (dsimp only; omega)))
end Go.Proofs.Ytmpkhflngpncnaa
namespace Go.Proofs.Ytmpkhflngpncnaa.decodeTurns
open Go.ChangeShapes Go.WideShapes Go.ChangeAt Go.RowKit
set_option linter.unusedVariables false
theorem own : ownKnob Try.prog.godebug = none := by kernel_rfl
set_option maxRecDepth 100000 in
theorem lifted (os : Os) (started : os.Started) (H : Type) (enc : TypeId × Value → H) :
    ReturnsInHanded {} Try.checked os 7 .any (Rows.decodeTurnsSpec.pre6 enc Try.prog Try.f7 Rows.decodeTurnsRow.domain false) (Rows.decodeTurnsSpec.post enc Try.prog Try.f7 false true false false) := by
  refine returnsInHanded_of_change (C := Try.checked) own started (by kernel_rfl) Try.func7
    (ChangeSpec.witness6 (enc := enc) (C := Try.checked) false ⟨#[], #[.int .u32 0, .int .i64 0], []⟩ 8 (by kernel_rfl) (by kernel_rfl) (by kernel_rfl) (by kernel_rfl)) ?_
  intro W base args ds gs before hval0 hW hcnd _
  have hval : ∀ (j : Nat) t v, Try.f7.params[j]? = some t → args[j]? = some v → Value.okWide Try.prog W .any base t v := hval0
  have hW' := hW
  obtain ⟨p, q, hA0, hV, rfl, hfz, hnd⟩ := hW
  have hA : DataW.TrodAll enc Try.prog W 0 (fun _ => true) true Try.f7.params.toList args.toList ds p := hA0
  rw [Try.params7] at hA hval
  obtain ⟨v0, vs0, d0, ds0, p0, q0, hargs, rfl, rfl, h0, r0⟩ := trodAll_cons hA
  obtain ⟨v1, vs1, d1, ds1, p1, q1, rfl, rfl, rfl, h1, r1⟩ := trodAll_cons r0
  obtain ⟨rfl, rfl, rfl⟩ := trodAll_nil r1
  obtain rfl : args = #[v0, v1] := by cases args; simp_all
  obtain ⟨rfl, rfl⟩ := trodVars_none hV
  obtain ⟨a0, rfl, rfl, rfl, w0⟩ := open_int Try.underlying22 (hval 0 22 v0 rfl rfl) h0
  obtain ⟨a1, rfl, rfl, rfl, w1⟩ := open_int Try.underlying3 (hval 1 3 v1 rfl rfl) h1
  clear hA0 hval0
  simp only [List.append_nil] at hW'
  refine (decodeTurns_walk a0 a1 w0 w1 W).mono fun e W' ⟨he, hg⟩ => ?_
  subst he
  exact ⟨_, rfl, post_nums hW' (fun _ _ _ => (trodAll_cons_mk (shut_bool Try.underlying4 _) trodAll_mk0)) (fun sp => (trodAll_cons_mk (shut_int Try.underlying22 w0) (trodAll_cons_mk (shut_int Try.underlying3 w1) trodAll_mk0))) (fun _ => rfl) hg (ok_one (by kernel_rfl) rfl (okWide_bool_mk Try.underlying4 _))⟩
theorem over : Rows.decodeTurnsRow.holds Try.pinned (OpenSpec.ofChange Rows.decodeTurnsSpec) :=
  OpenClaim.holds_of_wide 7 Try.f7 rfl rfl rfl rfl rfl rfl rfl ⟨rfl, rfl, rfl, rfl, rfl⟩ rfl rfl rfl rfl rfl (by kernel_rfl) Try.func7 (by kernel_rfl)
    (of_decide_eq_true (by kernel_rfl)) (by unfold Func.isWrapper; first | (rw [if_pos (by decide +kernel)]; kernel_rfl) | (rw [if_neg (by decide +kernel)]; exact ⟨rfl, rfl⟩))
    (fun os started H enc _ => lifted os started H enc)
theorem proved : Rows.DecodeTurnsSaid := over
#print axioms proved
end Go.Proofs.Ytmpkhflngpncnaa.decodeTurns

