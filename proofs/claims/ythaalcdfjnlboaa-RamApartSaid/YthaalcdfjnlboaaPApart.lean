/- PROVED: 'RamApart' returns true whatever the two steps are: writes that have no byte in common may be done in either order. No condition. -/
import Derived.Test.YthaalcdfjnlboaaC2
import Derived.Test.YthaalcdfjnlboaaF2
import Derived.Lib.SmallJoins
namespace Go.Proofs.Ythaalcdfjnlboaa
open Go.ChangeShapes Go.WideShapes Go.ChangeAt Go.RowKit Go.Joins Go.Deep
set_option linter.unusedVariables false
set_option linter.unusedSimpArgs false
theorem open_one {H : Type} {enc : TypeId × Value → H} {w : World} {base : Nat} {spare : Nat → Bool} {held : Bool} {r : Reach} {b0 : Nat} {v : Value} {d : DataW H} {p : List MemPlace}
    (hv : Value.okWide Try.prog w r b0 32 v) (h : DataW.Trod enc Try.prog w base spare held 32 v d p) :
    ∃ (k z : Int) (xa xv l c : Nat) (sa : Option Addr), v = .agg #[.int .i64 k, .int .u64 xa, .int .i64 z, .int .u64 xv, .slice sa l c] ∧ Hid (xa < 18446744073709551616 ∧ xv < 18446744073709551616) := by
  have hs := Try.underlying32
  have ce : Try.prog.cellsOf 32 = 5 := by kernel_rfl
  have ci : Try.prog.cellsOf 3 = 1 := by kernel_rfl
  have cu : Try.prog.cellsOf 30 = 1 := by kernel_rfl
  have c8 : Try.prog.cellsOf 22 = 1 := by kernel_rfl
  obtain ⟨cs, rfl, hsz⟩ := okWide_struct hs hv
  obtain ⟨l⟩ := cs
  match l, hsz.trans ce with
  | [c0, c1, c2, c3, c4], _ =>
    obtain ⟨fuel, hf⟩ := h
    obtain ⟨xs, n, _, hx, _, hlen, hg⟩ := DataW.trod_struct hs hf
    match xs, hlen with
    | [y0, y1, y2, y3, y4], _ =>
      have g0 := hg 0 _ rfl; have g1 := hg 1 _ rfl; have g2 := hg 2 _ rfl; have g3 := hg 3 _ rfl; have g4 := hg 4 _ rfl
      simp [Value.cells, ci, cu, c8] at g0 g1 g2 g3 g4
      obtain ⟨a0, e0, z0, q0⟩ := DataW.trod_int Try.underlying3 g0
      obtain ⟨a1, e1, z1, q1⟩ := DataW.trod_int Try.underlying30 g1
      obtain ⟨a2, e2, z2, q2⟩ := DataW.trod_int Try.underlying3 g2
      obtain ⟨a3, e3, z3, q3⟩ := DataW.trod_int Try.underlying30 g3
      obtain ⟨x1, rfl, hx1⟩ := u64_of_wf q1
      obtain ⟨x3, rfl, hx3⟩ := u64_of_wf q3
      obtain ⟨sa, sl, sc, e4⟩ : ∃ sa sl sc, c4 = .slice sa sl sc := by
        rcases Deep.open_slice Try.underlying22 g4 with ⟨h0, -⟩ | ⟨a, len, cap, m, n, D, Pl, h0, -⟩
        · simp at h0; exact ⟨_, _, _, h0⟩
        · simp at h0; exact ⟨_, _, _, h0⟩
      simp only [List.cons.injEq, and_true] at e0 e1 e2 e3
      subst e0 e1 e2 e3 e4
      exact ⟨a0, a2, x1, x3, sl, sc, sa, rfl, hx1.out, hx3.out⟩
theorem ramApart_walk {H : Type} {enc : TypeId × Value → H} {W : World} {r : Reach} {b0 b1 : Nat} {v u : Value} {d f : DataW H} {p q : List MemPlace} (hv : Value.okWide Try.prog W r b0 32 v) (hu : Value.okWide Try.prog W r b1 32 u)
    (h : DataW.Trod enc Try.prog W 0 (fun _ => true) true 32 v d p) (k : DataW.Trod enc Try.prog W 0 (fun _ => true) true 32 u f q) : Calls Try.prog 5 #[v, u] W (RetB true W) := by
  obtain ⟨ka, za, xa, va, la, ca, pa, rfl, ha⟩ := open_one hv h
  obtain ⟨kb, zb, xb, vb, lb, cb, pb, rfl, hb⟩ := open_one hu k
  exact apart_core W ka kb za zb xa xb va vb la lb ca cb pa pb ha hb
end Go.Proofs.Ythaalcdfjnlboaa
namespace Go.Proofs.Ythaalcdfjnlboaa.ramApart
open Go.ChangeShapes Go.WideShapes Go.ChangeAt Go.RowKit
set_option linter.unusedVariables false
theorem own : ownKnob Try.prog.godebug = none := by kernel_rfl
set_option maxRecDepth 100000 in
theorem lifted (os : Os) (started : os.Started) (H : Type) (enc : TypeId × Value → H) :
    ReturnsInHanded {} Try.checked os 5 .any (Rows.ramApartSpec.pre6 enc Try.prog Try.f5 Rows.ramApartRow.domain false) (Rows.ramApartSpec.post enc Try.prog Try.f5 false true false false) := by
  refine returnsInHanded_of_change (C := Try.checked) own started (by kernel_rfl) Try.func5
    (ChangeSpec.witness6 (enc := enc) (C := Try.checked) false ⟨#[], #[.agg #[.int .i64 0, .int .u64 0, .int .i64 0, .int .u64 0, .slice none 0 0], .agg #[.int .i64 0, .int .u64 0, .int .i64 0, .int .u64 0, .slice none 0 0]], []⟩ 8 (by kernel_rfl) (by kernel_rfl) (by kernel_rfl) (by kernel_rfl)) ?_
  intro W base args ds gs before hval0 hW hcnd _
  have hval : ∀ (j : Nat) t v, Try.f5.params[j]? = some t → args[j]? = some v → Value.okWide Try.prog W .any base t v := hval0
  have hW' := hW
  have hlt := fun p hp => hW.lt (p := p) hp
  obtain ⟨p, q, hA0, hV, rfl, hfz, hnd⟩ := hW
  have hA : DataW.TrodAll enc Try.prog W 0 (fun _ => true) true Try.f5.params.toList args.toList ds p := hA0
  rw [Try.params5] at hA hval
  obtain ⟨v0, vs0, d0, ds0, p0, q0, hargs, rfl, rfl, h0, r0⟩ := trodAll_cons hA
  obtain ⟨v1, vs1, d1, ds1, p1, q1, rfl, rfl, rfl, h1, r1⟩ := trodAll_cons r0
  obtain ⟨rfl, rfl, rfl⟩ := trodAll_nil r1
  obtain rfl : args = #[v0, v1] := by cases args; simp_all
  obtain ⟨rfl, rfl⟩ := trodVars_none hV
  have k0 := hval 0 32 v0 rfl rfl
  have k1 := hval 1 32 v1 rfl rfl
  clear hA0 hval0
  simp only [List.append_nil] at hW' hlt
  refine (ramApart_walk k0 k1 h0 h1).mono fun e W' ⟨he, hg⟩ => ?_
  subst he
  have ht := Below.trod laidOut (by kernel_rfl) (of_decide_eq_true (by kernel_rfl)) h0 hg (fun x hx => hlt x (List.mem_append_left _ hx))
  have ht1 := Below.trod laidOut (by kernel_rfl) (of_decide_eq_true (by kernel_rfl)) h1 hg (fun x hx => hlt x (List.mem_append_right _ hx))
  refine ⟨_, rfl, post_old hW' (fun _ _ _ => (trodAll_cons_mk (shut_bool Try.underlying4 _) trodAll_mk0)) ?_ (fun _ => rfl) hg⟩
  have := trodAll_cons_mk ht (trodAll_cons_mk ht1 (trodAll_mk0 (enc := enc) (P := Try.prog) (w := W') (base := 0) (spare := fun b => decide (b < W.heap.size)) (held := true)))
  have h9 : DataW.TrodAll enc Try.prog W' 0 (fun b => decide (b < W.heap.size)) true [32, 32] [v0, v1] [d0, d1] (p0 ++ p1) := by simpa using this
  exact h9
theorem over : Rows.ramApartRow.holds Try.pinned (OpenSpec.ofChange Rows.ramApartSpec) :=
  OpenClaim.holds_of_wide 5 Try.f5 rfl rfl rfl rfl rfl rfl rfl ⟨rfl, rfl, rfl, rfl, rfl⟩ rfl rfl rfl rfl rfl (by kernel_rfl) Try.func5 (by kernel_rfl)
    (of_decide_eq_true (by kernel_rfl)) (by unfold Func.isWrapper; first | (rw [if_pos (by decide +kernel)]; kernel_rfl) | (rw [if_neg (by decide +kernel)]; exact ⟨rfl, rfl⟩))
    (fun os started H enc _ => lifted os started H enc)
theorem proved : Rows.RamApartSaid := over
#print axioms proved
end Go.Proofs.Ythaalcdfjnlboaa.ramApart
