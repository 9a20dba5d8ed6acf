/- PROVED: 'UartStill' returns true whatever the bytes, the place, the size and the number are: places that aren't named, and accesses that are refused, change nothing. No condition. -/
import Derived.Test.YtjjmohhkhadadaaC21
import Derived.Test.YtjjmohhkhadadaaC22
import Derived.Test.YtjjmohhkhadadaaC23
import Derived.Test.YtjjmohhkhadadaaF2
namespace Go.Proofs.Ytjjmohhkhadadaa
open Go.ChangeShapes Go.WideShapes Go.ChangeAt Go.RowKit
set_option linter.unusedVariables false
set_option linter.unusedSimpArgs false
theorem still_core (w : World) (sa : Option Addr) (g o n cap : Nat) (R : Nat → Nat) (a : Nat) (z : Int) (v : Nat) (hv : Hid (v < 18446744073709551616)) (hsa : Hid (0 < n → sa = some ⟨g, o, none⟩ ∧ g < w.heap.size)) (hr : Hid (∀ i, i < n → w.cell? ⟨g, o + i, none⟩ = some (.int .u8 (R i : Nat)))) (hR : Hid (∀ i, R i < 256)) (hn : Hid (n ≤ 9223372036854775807)) :
    Calls Try.prog 6 #[.slice sa n cap, .int .u64 a, .int .i64 z, .int .u64 v] w (RetB true w) := by
  by_cases hz : z = 1
  · subst hz
    by_cases ha : 8 ≤ a
    · exact still_a w sa g o n cap R a v hv hsa hr hR hn ha
    · rcases a8 (Nat.lt_of_not_le ha) with rfl | rfl | rfl | rfl | rfl | rfl | rfl | rfl
      · exact still_e0 w _ v
      · exact still_e1 w _ v
      · exact still_2 w sa g o n cap R v hv hsa hr hR hn
      · exact still_3 w sa g o n cap R v hv hsa hr hR hn
      · exact still_4 w sa g o n cap R v hv hsa hr hR hn
      · exact still_5 w sa g o n cap R v hv hsa hr hR hn
      · exact still_6 w sa g o n cap R v hv hsa hr hR hn
      · exact still_e7 w _ v
  · by_cases h5 : a = 5
    · subst h5
      exact still_z5 w sa g o n cap R z v hv hsa hr hR hn hz
    · exact still_z w sa g o n cap R a z v hv hsa hr hR hn hz h5
theorem uartStill_walk {H : Type} {enc : TypeId × Value → H} {W : World} {v : Value} {d : DataW H} {p : List MemPlace} (hv : ∃ a len cap, v = .slice a len cap) (h : DataW.Trod enc Try.prog W 0 (fun _ => true) true 35 v d p) (x : Int) (hx : (Lit.int .u64 x).wf = true) (z : Int) (y : Int) (hy : (Lit.int .u64 y).wf = true) :
    Calls Try.prog 6 #[v, .int .u64 x, .int .i64 z, .int .u64 y] W (RetB true W) := by
  obtain ⟨a, b, o, n, cap, R, rfl, ha, hnc, hr, hR, hn⟩ := open_bytes hv h
  obtain ⟨x0, rfl, hx0⟩ := u64_of_wf hx
  obtain ⟨y0, rfl, hy0⟩ := u64_of_wf hy
  exact still_core W a b o n cap R x0 z y0 hy0 (Lib.hid ha) (Lib.hid hr) (Lib.hid hR) (Lib.hid hn)
end Go.Proofs.Ytjjmohhkhadadaa
namespace Go.Proofs.Ytjjmohhkhadadaa.uartStill
open Go.ChangeShapes Go.WideShapes Go.ChangeAt Go.RowKit
set_option linter.unusedVariables false
theorem own : ownKnob Try.prog.godebug = none := by kernel_rfl
set_option maxRecDepth 100000 in
theorem lifted (os : Os) (started : os.Started) (H : Type) (enc : TypeId × Value → H) :
    ReturnsInHanded {} Try.checked os 6 .any (Rows.uartStillSpec.pre6 enc Try.prog Try.f6 Rows.uartStillRow.domain false) (Rows.uartStillSpec.post enc Try.prog Try.f6 false true false false) := by
  refine returnsInHanded_of_change (C := Try.checked) own started (by kernel_rfl) Try.func6
    (ChangeSpec.witness6 (enc := enc) (C := Try.checked) false ⟨#[], #[.slice none 0 0, .int .u64 0, .int .i64 0, .int .u64 0], []⟩ 8 (by kernel_rfl) (by kernel_rfl) (by kernel_rfl) (by kernel_rfl)) ?_
  intro W base args ds gs before hval0 hW hcnd _
  have hval : ∀ (j : Nat) t v, Try.f6.params[j]? = some t → args[j]? = some v → Value.okWide Try.prog W .any base t v := hval0
  have hW' := hW
  have hlt := fun p hp => hW.lt (p := p) hp
  obtain ⟨p, q, hA0, hV, rfl, hfz, hnd⟩ := hW
  have hA : DataW.TrodAll enc Try.prog W 0 (fun _ => true) true Try.f6.params.toList args.toList ds p := hA0
  rw [Try.params6] at hA hval
  obtain ⟨v0, vs0, d0, ds0, p0, q0, hargs, rfl, rfl, h0, r0⟩ := trodAll_cons hA
  obtain ⟨v1, vs1, d1, ds1, p1, q1, rfl, rfl, rfl, h1, r1⟩ := trodAll_cons r0
  obtain ⟨v2, vs2, d2, ds2, p2, q2, rfl, rfl, rfl, h2, r2⟩ := trodAll_cons r1
  obtain ⟨v3, vs3, d3, ds3, p3, q3, rfl, rfl, rfl, h3, r3⟩ := trodAll_cons r2
  obtain ⟨rfl, rfl, rfl⟩ := trodAll_nil r3
  obtain rfl : args = #[v0, v1, v2, v3] := by cases args; simp_all
  obtain ⟨rfl, rfl⟩ := trodVars_none hV
  have hsl := okWide_slice Try.underlying35 (hval 0 35 v0 rfl rfl)
  obtain ⟨a1, rfl, rfl, rfl, w1⟩ := open_int Try.underlying28 (hval 1 28 v1 rfl rfl) h1
  obtain ⟨a2, rfl, rfl, rfl, w2⟩ := open_int Try.underlying3 (hval 2 3 v2 rfl rfl) h2
  obtain ⟨a3, rfl, rfl, rfl, w3⟩ := open_int Try.underlying28 (hval 3 28 v3 rfl rfl) h3
  clear hA0 hval0
  simp only [List.append_nil] at hW' hlt
  refine (uartStill_walk hsl h0 a1 w1 a2 a3 w3).mono fun e W' ⟨he, hg⟩ => ?_
  subst he
  have ht := Below.trod laidOut (by kernel_rfl) (of_decide_eq_true (by kernel_rfl)) h0 hg (fun x hx => hlt x hx)
  refine ⟨_, rfl, post_old hW' (fun _ _ _ => (trodAll_cons_mk (shut_bool Try.underlying4 _) trodAll_mk0)) ?_ (fun _ => rfl) hg⟩
  have := trodAll_cons_mk ht (trodAll_cons_mk (shut_int Try.underlying28 w1) (trodAll_cons_mk (shut_int Try.underlying3 w2) (trodAll_cons_mk (shut_int Try.underlying28 w3) (trodAll_mk0 (enc := enc) (P := Try.prog) (w := W') (base := 0) (spare := fun b => decide (b < W.heap.size)) (held := true)))))
  have h9 : DataW.TrodAll enc Try.prog W' 0 (fun b => decide (b < W.heap.size)) true [35, 28, 3, 28] [v0, .int .u64 a1, .int .i64 a2, .int .u64 a3] [d0, .lit (.int .u64 a1), .lit (.int .i64 a2), .lit (.int .u64 a3)] p0 := by simpa using this
  exact h9
theorem over : Rows.uartStillRow.holds Try.pinned (OpenSpec.ofChange Rows.uartStillSpec) :=
  OpenClaim.holds_of_wide 6 Try.f6 rfl rfl rfl rfl rfl rfl rfl ⟨rfl, rfl, rfl, rfl, rfl⟩ rfl rfl rfl rfl rfl (by kernel_rfl) Try.func6 (by kernel_rfl)
    (of_decide_eq_true (by kernel_rfl)) (by unfold Func.isWrapper; first | (rw [if_pos (by decide +kernel)]; kernel_rfl) | (rw [if_neg (by decide +kernel)]; exact ⟨rfl, rfl⟩))
    (fun os started H enc _ => lifted os started H enc)
theorem proved : Rows.UartStillSaid := over
#print axioms proved
end Go.Proofs.Ytjjmohhkhadadaa.uartStill
