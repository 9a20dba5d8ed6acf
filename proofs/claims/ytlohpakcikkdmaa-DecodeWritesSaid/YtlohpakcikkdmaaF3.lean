/- An instruction that came in: opened and shut. -/
import Derived.Test.YtlohpakcikkdmaaF2
import Derived.Lib.SmallJoins
namespace Go.Proofs.Ytlohpakcikkdmaa
open Go.ChangeShapes Go.WideShapes Go.ChangeAt Go.RowKit Go.Joins Go.Deep
set_option linter.unusedVariables false
set_option linter.unusedSimpArgs false
theorem cells25 : Try.prog.cellsOf 25 = 12 := by kernel_rfl
theorem cells2 : Try.prog.cellsOf 2 = 1 := by kernel_rfl
theorem cells3 : Try.prog.cellsOf 3 = 1 := by kernel_rfl
theorem cells4 : Try.prog.cellsOf 4 = 1 := by kernel_rfl
theorem trod_b {H : Type} {enc : TypeId × Value → H} {w : World} {base : Nat} {spare : Nat → Bool} {held : Bool} (m : Nat) (b : Bool) : DataW.trod enc Try.prog w base spare held (m + 1) 4 [.bool b] = some (.lit (.bool b), []) := by
  simp [DataW.trod, Try.underlying4]
set_option maxRecDepth 100000 in
set_option maxHeartbeats 2000000 in
theorem open_ins {H : Type} {enc : TypeId × Value → H} {w : World} {base : Nat} {spare : Nat → Bool} {held : Bool} {r : Reach} {b0 : Nat} {v : Value} {d : DataW H} {p : List MemPlace}
    (hv : Value.okWide Try.prog w r b0 25 v) (h : DataW.Trod enc Try.prog w base spare held 25 v d p) :
    ∃ I : Ins, v = .agg (cellsI I) ∧ p = [] ∧ ∀ (w' : World) (base' : Nat) (spare' : Nat → Bool) (held' : Bool), DataW.Trod enc Try.prog w' base' spare' held' 25 (.agg (cellsI I)) d [] := by
  have hs := Try.underlying25
  obtain ⟨cs, rfl, hsz⟩ := okWide_struct hs hv
  obtain ⟨l⟩ := cs
  match l, hsz.trans cells25 with
  | [c0, c1, c2, c3, c4, c5, c6, c7, c8, c9, c10, c11], _ =>
    obtain ⟨fuel, hf⟩ := h
    obtain ⟨xs, n, _, hx, _, hlen, hg⟩ := DataW.trod_struct hs hf
    match xs, hlen with
    | [y0, y1, y2, y3, y4, y5, y6, y7, y8, y9, y10, y11], _ =>
      have g0 := hg 0 _ rfl; have g1 := hg 1 _ rfl; have g2 := hg 2 _ rfl; have g3 := hg 3 _ rfl; have g4 := hg 4 _ rfl; have g5 := hg 5 _ rfl
      have g6 := hg 6 _ rfl; have g7 := hg 7 _ rfl; have g8 := hg 8 _ rfl; have g9 := hg 9 _ rfl; have g10 := hg 10 _ rfl; have g11 := hg 11 _ rfl
      simp [Value.cells, cells2, cells3, cells4] at g0 g1 g2 g3 g4 g5 g6 g7 g8 g9 g10 g11
      obtain ⟨a0, e0, z0, q0⟩ := DataW.trod_int Try.underlying3 g0
      obtain ⟨a1, e1, z1, q1⟩ := DataW.trod_int Try.underlying3 g1
      obtain ⟨a2, e2, z2, q2⟩ := DataW.trod_int Try.underlying3 g2
      obtain ⟨a3, e3, z3, q3⟩ := DataW.trod_int Try.underlying3 g3
      obtain ⟨a4, e4, z4, q4⟩ := DataW.trod_int Try.underlying3 g4
      obtain ⟨a5, e5, z5, q5⟩ := DataW.trod_int Try.underlying3 g5
      obtain ⟨a6, e6, z6, q6⟩ := DataW.trod_int Try.underlying3 g6
      obtain ⟨a7, e7, z7, q7⟩ := DataW.trod_int Try.underlying3 g7
      obtain ⟨a8, e8, z8, q8⟩ := DataW.trod_int Try.underlying2 g8
      obtain ⟨a9, e9, z9⟩ := DataW.trod_bool Try.underlying4 g9
      obtain ⟨a10, e10, z10⟩ := DataW.trod_bool Try.underlying4 g10
      obtain ⟨a11, e11, z11⟩ := DataW.trod_bool Try.underlying4 g11
      simp only [List.cons.injEq, and_true] at e0 e1 e2 e3 e4 e5 e6 e7 e8 e9 e10 e11
      subst e0 e1 e2 e3 e4 e5 e6 e7 e8 e9 e10 e11 z0 z1 z2 z3 z4 z5 z6 z7 z8 z9 z10 z11
      simp only [Prod.mk.injEq] at hx
      obtain ⟨hx1, hx2⟩ := hx
      refine ⟨⟨a0, a1, a2, a3, a4, a5, a6, a7, a8, a9, a10, a11⟩, rfl, by simpa using hx2, fun w' base' spare' held' => ⟨2, ?_⟩⟩
      have := trod_struct_mk (enc := enc) (w := w') (base := base') (spare := spare') (held := held') (n := 1) (P := Try.prog) (t := 25) (cs := [.int .i64 a0, .int .i64 a1, .int .i64 a2, .int .i64 a3, .int .i64 a4, .int .i64 a5, .int .i64 a6, .int .i64 a7, .int .i64 a8, .bool a9, .bool a10, .bool a11])
        (xs := [(.lit (.int .i64 a0), []), (.lit (.int .i64 a1), []), (.lit (.int .i64 a2), []), (.lit (.int .i64 a3), []), (.lit (.int .i64 a4), []), (.lit (.int .i64 a5), []), (.lit (.int .i64 a6), []), (.lit (.int .i64 a7), []), (.lit (.int .i64 a8), []), (.lit (.bool a9), []), (.lit (.bool a10), []), (.lit (.bool a11), [])]) hs (by rw [cells25]; rfl)
        (by simp [cells2, cells3, cells4, trod_int_mk 0 Try.underlying3 q0, trod_int_mk 0 Try.underlying3 q1, trod_int_mk 0 Try.underlying3 q2, trod_int_mk 0 Try.underlying3 q3, trod_int_mk 0 Try.underlying3 q4, trod_int_mk 0 Try.underlying3 q5, trod_int_mk 0 Try.underlying3 q6, trod_int_mk 0 Try.underlying3 q7, trod_int_mk 0 Try.underlying2 q8, trod_b 0])
      rw [hx1]
      simpa [Value.cells, cellsI] using this
end Go.Proofs.Ytlohpakcikkdmaa
