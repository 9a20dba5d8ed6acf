/- Registers that came in: opened and shut. -/
import Derived.Test.YtmlbobjbkbcabaaC1
import Derived.Test.YtmlbobjbkbcabaaRows
import Derived.ProofKit
import Derived.OpenShut
import Derived.ChangeSame
import Derived.Lib.SmallJoins
namespace Go.Proofs.Ytmlbobjbkbcabaa
open Go.ChangeShapes Go.WideShapes Go.ChangeAt Go.RowKit Go.WideMaps Go.WideElems Go.Joins Go.Deep P
set_option linter.unusedVariables false
set_option linter.unusedSimpArgs false
theorem cells26 : Try.prog.cellsOf 26 = 38 := by kernel_rfl
theorem cells22 : Try.prog.cellsOf 22 = 1 := by kernel_rfl
theorem cells5 : Try.prog.cellsOf 5 = 1 := by kernel_rfl
theorem cells23 : Try.prog.cellsOf 23 = 8 := by kernel_rfl
theorem cells24 : Try.prog.cellsOf 24 = 8 := by kernel_rfl
set_option maxRecDepth 100000 in
set_option maxHeartbeats 2000000 in
theorem trod_arr8 {H : Type} {enc : TypeId × Value → H} {w : World} {base : Nat} {spare : Nat → Bool} {held : Bool} {fuel : Nat} {t e : TypeId} {q : IntKind} {c0 c1 c2 c3 c4 c5 c6 c7 : Value} {x : DataW H × List MemPlace}
    (ht : Try.prog.underlying t = some (.array 8 e)) (he : Try.prog.underlying e = some (.int q)) (hce : Try.prog.cellsOf e = 1) (hct : Try.prog.cellsOf t = 8)
    (h : DataW.trod enc Try.prog w base spare held fuel t [c0, c1, c2, c3, c4, c5, c6, c7] = some x) :
    ∃ a0 a1 a2 a3 a4 a5 a6 a7 : Int, ((Lit.int q a0).wf = true ∧ (Lit.int q a1).wf = true ∧ (Lit.int q a2).wf = true ∧ (Lit.int q a3).wf = true ∧ (Lit.int q a4).wf = true ∧ (Lit.int q a5).wf = true ∧ (Lit.int q a6).wf = true ∧ (Lit.int q a7).wf = true) ∧
      c0 = .int q a0 ∧ c1 = .int q a1 ∧ c2 = .int q a2 ∧ c3 = .int q a3 ∧ c4 = .int q a4 ∧ c5 = .int q a5 ∧ c6 = .int q a6 ∧ c7 = .int q a7 ∧ ∃ D, x = (D, []) ∧
      ∀ (w' : World) (base' : Nat) (spare' : Nat → Bool) (held' : Bool), DataW.trod enc Try.prog w' base' spare' held' 2 t [.int q a0, .int q a1, .int q a2, .int q a3, .int q a4, .int q a5, .int q a6, .int q a7] = some (D, []) := by
  obtain ⟨xs, n, _, hx, _, hlen, hg⟩ := DataW.trod_array ht h
  match xs, hlen with
  | [y0, y1, y2, y3, y4, y5, y6, y7], _ =>
    have g0 := hg 0 (by decide); have g1 := hg 1 (by decide); have g2 := hg 2 (by decide); have g3 := hg 3 (by decide); have g4 := hg 4 (by decide); have g5 := hg 5 (by decide); have g6 := hg 6 (by decide); have g7 := hg 7 (by decide)
    simp [hce] at g0 g1 g2 g3 g4 g5 g6 g7
    obtain ⟨a0, e0, z0, q0⟩ := DataW.trod_int he g0
    obtain ⟨a1, e1, z1, q1⟩ := DataW.trod_int he g1
    obtain ⟨a2, e2, z2, q2⟩ := DataW.trod_int he g2
    obtain ⟨a3, e3, z3, q3⟩ := DataW.trod_int he g3
    obtain ⟨a4, e4, z4, q4⟩ := DataW.trod_int he g4
    obtain ⟨a5, e5, z5, q5⟩ := DataW.trod_int he g5
    obtain ⟨a6, e6, z6, q6⟩ := DataW.trod_int he g6
    obtain ⟨a7, e7, z7, q7⟩ := DataW.trod_int he g7
    simp only [List.cons.injEq, and_true] at e0 e1 e2 e3 e4 e5 e6 e7
    subst e0 e1 e2 e3 e4 e5 e6 e7 z0 z1 z2 z3 z4 z5 z6 z7
    refine ⟨a0, a1, a2, a3, a4, a5, a6, a7, ⟨q0, q1, q2, q3, q4, q5, q6, q7⟩, rfl, rfl, rfl, rfl, rfl, rfl, rfl, rfl, _, by simpa using hx, fun w' base' spare' held' => ?_⟩
    have r8 : List.range 8 = [0, 1, 2, 3, 4, 5, 6, 7] := rfl
    simp [DataW.trod_step, DataW.trodStep, ht, he, Value.cells, hct, hce, r8, q0, q1, q2, q3, q4, q5, q6, q7]
theorem k38 {k : Nat} (h : k < 38) : k = 0 ∨ k = 1 ∨ k = 2 ∨ k = 3 ∨ k = 4 ∨ k = 5 ∨ k = 6 ∨ k = 7 ∨ k = 8 ∨ k = 9 ∨ k = 10 ∨ k = 11 ∨ k = 12 ∨ k = 13 ∨ k = 14 ∨ k = 15 ∨ k = 16 ∨ k = 17 ∨ k = 18 ∨ k = 19 ∨ k = 20 ∨ k = 21 ∨ k = 22 ∨ k = 23 ∨ k = 24 ∨ k = 25 ∨ k = 26 ∨ k = 27 ∨ k = 28 ∨ k = 29 ∨ k = 30 ∨ k = 31 ∨ k = 32 ∨ k = 33 ∨ k = 34 ∨ k = 35 ∨ k = 36 ∨ k = 37 := by omega
/-- Numbers chosen by a place. -/
def selL (l : List Nat) (k : Nat) : Nat := l.getD k 0
set_option maxRecDepth 100000 in
set_option maxHeartbeats 8000000 in
theorem open_csrs {H : Type} {enc : TypeId × Value → H} {w : World} {base : Nat} {spare : Nat → Bool} {held : Bool} {r : Reach} {b0 : Nat} {v : Value} {d : DataW H} {p : List MemPlace}
    (hv : Value.okWide Try.prog w r b0 26 v) (h : DataW.Trod enc Try.prog w base spare held 26 v d p) :
    ∃ S : Nat → Nat, Hid (OkS S) ∧ v = .agg (cs S) ∧ p = [] ∧ ∀ (w' : World) (base' : Nat) (spare' : Nat → Bool) (held' : Bool), DataW.Trod enc Try.prog w' base' spare' held' 26 (.agg (cs S)) d [] := by
  have hs := Try.underlying26
  obtain ⟨cs0, rfl, hsz⟩ := okWide_struct hs hv
  obtain ⟨l⟩ := cs0
  match l, hsz.trans cells26 with
  | kc0 :: kc1 :: kc2 :: kc3 :: kc4 :: kc5 :: kc6 :: kc7 :: kc8 :: kc9 :: kc10 :: kc11 :: kc12 :: kc13 :: kc14 :: kc15 :: kc16 :: kc17 :: kc18 :: kc19 :: kc20 :: kc21 :: kc22 :: kc23 :: kc24 :: kc25 :: kc26 :: kc27 :: kc28 :: kc29 :: kc30 :: kc31 :: kc32 :: kc33 :: kc34 :: kc35 :: kc36 :: kc37 :: [], _ =>
    obtain ⟨fuel, hf⟩ := h
    obtain ⟨xs, n, _, hx, _, hlen, hg⟩ := DataW.trod_struct hs hf
    match xs, hlen with
    | [ky0, ky1, ky2, ky3, ky4, ky5, ky6, ky7, ky8, ky9, ky10, ky11, ky12, ky13, ky14, ky15, ky16, ky17, ky18, ky19, ky20, ky21, ky22, ky23], _ =>
      have g0 := hg 0 _ rfl
      simp [Value.cells, cells22] at g0
      obtain ⟨a0, e0, z0, q0⟩ := DataW.trod_int Try.underlying22 g0
      have g1 := hg 1 _ rfl
      simp [Value.cells, cells22] at g1
      obtain ⟨a1, e1, z1, q1⟩ := DataW.trod_int Try.underlying22 g1
      have g2 := hg 2 _ rfl
      simp [Value.cells, cells22] at g2
      obtain ⟨a2, e2, z2, q2⟩ := DataW.trod_int Try.underlying22 g2
      have g3 := hg 3 _ rfl
      simp [Value.cells, cells22] at g3
      obtain ⟨a3, e3, z3, q3⟩ := DataW.trod_int Try.underlying22 g3
      have g4 := hg 4 _ rfl
      simp [Value.cells, cells22] at g4
      obtain ⟨a4, e4, z4, q4⟩ := DataW.trod_int Try.underlying22 g4
      have g5 := hg 5 _ rfl
      simp [Value.cells, cells22] at g5
      obtain ⟨a5, e5, z5, q5⟩ := DataW.trod_int Try.underlying22 g5
      have g6 := hg 6 _ rfl
      simp [Value.cells, cells22] at g6
      obtain ⟨a6, e6, z6, q6⟩ := DataW.trod_int Try.underlying22 g6
      have g7 := hg 7 _ rfl
      simp [Value.cells, cells22] at g7
      obtain ⟨a7, e7, z7, q7⟩ := DataW.trod_int Try.underlying22 g7
      have g8 := hg 8 _ rfl
      simp [Value.cells, cells22] at g8
      obtain ⟨a8, e8, z8, q8⟩ := DataW.trod_int Try.underlying22 g8
      have g9 := hg 9 _ rfl
      simp [Value.cells, cells22] at g9
      obtain ⟨a9, e9, z9, q9⟩ := DataW.trod_int Try.underlying22 g9
      have g10 := hg 10 _ rfl
      simp [Value.cells, cells22] at g10
      obtain ⟨a10, e10, z10, q10⟩ := DataW.trod_int Try.underlying22 g10
      have g11 := hg 11 _ rfl
      simp [Value.cells, cells22] at g11
      obtain ⟨a11, e11, z11, q11⟩ := DataW.trod_int Try.underlying22 g11
      have g12 := hg 12 _ rfl
      simp [Value.cells, cells22] at g12
      obtain ⟨a12, e12, z12, q12⟩ := DataW.trod_int Try.underlying22 g12
      have g13 := hg 13 _ rfl
      simp [Value.cells, cells22] at g13
      obtain ⟨a13, e13, z13, q13⟩ := DataW.trod_int Try.underlying22 g13
      have g14 := hg 14 _ rfl
      simp [Value.cells, cells22] at g14
      obtain ⟨a14, e14, z14, q14⟩ := DataW.trod_int Try.underlying22 g14
      have g15 := hg 15 _ rfl
      simp [Value.cells, cells22] at g15
      obtain ⟨a15, e15, z15, q15⟩ := DataW.trod_int Try.underlying22 g15
      have g16 := hg 16 _ rfl
      simp [Value.cells, cells22] at g16
      obtain ⟨a16, e16, z16, q16⟩ := DataW.trod_int Try.underlying22 g16
      have g17 := hg 17 _ rfl
      simp [Value.cells, cells22] at g17
      obtain ⟨a17, e17, z17, q17⟩ := DataW.trod_int Try.underlying22 g17
      have g18 := hg 18 _ rfl
      simp [Value.cells, cells22] at g18
      obtain ⟨a18, e18, z18, q18⟩ := DataW.trod_int Try.underlying22 g18
      have g19 := hg 19 _ rfl
      simp [Value.cells, cells22] at g19
      obtain ⟨a19, e19, z19, q19⟩ := DataW.trod_int Try.underlying22 g19
      have g20 := hg 20 _ rfl
      simp [Value.cells, cells22] at g20
      obtain ⟨a20, e20, z20, q20⟩ := DataW.trod_int Try.underlying22 g20
      have g21 := hg 21 _ rfl
      simp [Value.cells, cells22] at g21
      obtain ⟨a21, e21, z21, q21⟩ := DataW.trod_int Try.underlying22 g21
      have g22 := hg 22 _ rfl
      simp [Value.cells, cells23] at g22
      obtain ⟨b0', b1, b2, b3, b4, b5, b6, b7, ⟨m0, m1, m2, m3, m4, m5, m6, m7⟩, u0, u1, u2, u3, u4, u5, u6, u7, D1, z22, T1⟩ := trod_arr8 Try.underlying23 Try.underlying5 cells5 cells23 g22
      have g23 := hg 23 _ rfl
      simp [Value.cells, cells24] at g23
      obtain ⟨f0, f1, f2, f3, f4, f5, f6, f7, ⟨p0, p1, p2, p3, p4, p5, p6, p7⟩, v0, v1, v2, v3, v4, v5, v6, v7, D2, z23, T2⟩ := trod_arr8 Try.underlying24 Try.underlying22 cells22 cells24 g23
      clear hg g22 g23 g0 g1 g2 g3 g4 g5 g6 g7 g8 g9 g10 g11 g12 g13 g14 g15 g16 g17 g18 g19 g20 g21
      simp only [List.cons.injEq, and_true] at e0 e1 e2 e3 e4 e5 e6 e7 e8 e9 e10 e11 e12 e13 e14 e15 e16 e17 e18 e19 e20 e21
      subst e0 e1 e2 e3 e4 e5 e6 e7 e8 e9 e10 e11 e12 e13 e14 e15 e16 e17 e18 e19 e20 e21 z0 z1 z2 z3 z4 z5 z6 z7 z8 z9 z10 z11 z12 z13 z14 z15 z16 z17 z18 z19 z20 z21 z22 z23 u0 u1 u2 u3 u4 u5 u6 u7 v0 v1 v2 v3 v4 v5 v6 v7
      obtain ⟨n0, rfl, l0⟩ := u64_of_wf q0
      obtain ⟨n1, rfl, l1⟩ := u64_of_wf q1
      obtain ⟨n2, rfl, l2⟩ := u64_of_wf q2
      obtain ⟨n3, rfl, l3⟩ := u64_of_wf q3
      obtain ⟨n4, rfl, l4⟩ := u64_of_wf q4
      obtain ⟨n5, rfl, l5⟩ := u64_of_wf q5
      obtain ⟨n6, rfl, l6⟩ := u64_of_wf q6
      obtain ⟨n7, rfl, l7⟩ := u64_of_wf q7
      obtain ⟨n8, rfl, l8⟩ := u64_of_wf q8
      obtain ⟨n9, rfl, l9⟩ := u64_of_wf q9
      obtain ⟨n10, rfl, l10⟩ := u64_of_wf q10
      obtain ⟨n11, rfl, l11⟩ := u64_of_wf q11
      obtain ⟨n12, rfl, l12⟩ := u64_of_wf q12
      obtain ⟨n13, rfl, l13⟩ := u64_of_wf q13
      obtain ⟨n14, rfl, l14⟩ := u64_of_wf q14
      obtain ⟨n15, rfl, l15⟩ := u64_of_wf q15
      obtain ⟨n16, rfl, l16⟩ := u64_of_wf q16
      obtain ⟨n17, rfl, l17⟩ := u64_of_wf q17
      obtain ⟨n18, rfl, l18⟩ := u64_of_wf q18
      obtain ⟨n19, rfl, l19⟩ := u64_of_wf q19
      obtain ⟨n20, rfl, l20⟩ := u64_of_wf q20
      obtain ⟨n21, rfl, l21⟩ := u64_of_wf q21
      obtain ⟨n22, rfl, l22⟩ := u8_of_wf m0
      obtain ⟨n23, rfl, l23⟩ := u8_of_wf m1
      obtain ⟨n24, rfl, l24⟩ := u8_of_wf m2
      obtain ⟨n25, rfl, l25⟩ := u8_of_wf m3
      obtain ⟨n26, rfl, l26⟩ := u8_of_wf m4
      obtain ⟨n27, rfl, l27⟩ := u8_of_wf m5
      obtain ⟨n28, rfl, l28⟩ := u8_of_wf m6
      obtain ⟨n29, rfl, l29⟩ := u8_of_wf m7
      obtain ⟨n30, rfl, l30⟩ := u64_of_wf p0
      obtain ⟨n31, rfl, l31⟩ := u64_of_wf p1
      obtain ⟨n32, rfl, l32⟩ := u64_of_wf p2
      obtain ⟨n33, rfl, l33⟩ := u64_of_wf p3
      obtain ⟨n34, rfl, l34⟩ := u64_of_wf p4
      obtain ⟨n35, rfl, l35⟩ := u64_of_wf p5
      obtain ⟨n36, rfl, l36⟩ := u64_of_wf p6
      obtain ⟨n37, rfl, l37⟩ := u64_of_wf p7
      obtain ⟨hx1, hx2⟩ := Prod.mk.inj hx
      refine ⟨selL [n0, n1, n2, n3, n4, n5, n6, n7, n8, n9, n10, n11, n12, n13, n14, n15, n16, n17, n18, n19, n20, n21, n22, n23, n24, n25, n26, n27, n28, n29, n30, n31, n32, n33, n34, n35, n36, n37], fun k => ?_, rfl, by simpa using hx2, fun w' base' spare' held' => ⟨3, ?_⟩⟩
      · by_cases hk : k < 38
        · rcases k38 hk with rfl | rfl | rfl | rfl | rfl | rfl | rfl | rfl | rfl | rfl | rfl | rfl | rfl | rfl | rfl | rfl | rfl | rfl | rfl | rfl | rfl | rfl | rfl | rfl | rfl | rfl | rfl | rfl | rfl | rfl | rfl | rfl | rfl | rfl | rfl | rfl | rfl | rfl
          · exact l0.out
          · exact l1.out
          · exact l2.out
          · exact l3.out
          · exact l4.out
          · exact l5.out
          · exact l6.out
          · exact l7.out
          · exact l8.out
          · exact l9.out
          · exact l10.out
          · exact l11.out
          · exact l12.out
          · exact l13.out
          · exact l14.out
          · exact l15.out
          · exact l16.out
          · exact l17.out
          · exact l18.out
          · exact l19.out
          · exact l20.out
          · exact l21.out
          · exact l22
          · exact l23
          · exact l24
          · exact l25
          · exact l26
          · exact l27
          · exact l28
          · exact l29
          · exact l30.out
          · exact l31.out
          · exact l32.out
          · exact l33.out
          · exact l34.out
          · exact l35.out
          · exact l36.out
          · exact l37.out
        · rw [if_neg (by omega)]
          unfold selL
          rw [List.getD_eq_getElem?_getD, List.getElem?_eq_none (by simp; omega)]; decide
      · have := trod_struct_mk (enc := enc) (w := w') (base := base') (spare := spare') (held := held') (n := 2) (P := Try.prog) (t := 26) (cs := [.int .u64 (n0 : Nat), .int .u64 (n1 : Nat), .int .u64 (n2 : Nat), .int .u64 (n3 : Nat), .int .u64 (n4 : Nat), .int .u64 (n5 : Nat), .int .u64 (n6 : Nat), .int .u64 (n7 : Nat), .int .u64 (n8 : Nat), .int .u64 (n9 : Nat), .int .u64 (n10 : Nat), .int .u64 (n11 : Nat), .int .u64 (n12 : Nat), .int .u64 (n13 : Nat), .int .u64 (n14 : Nat), .int .u64 (n15 : Nat), .int .u64 (n16 : Nat), .int .u64 (n17 : Nat), .int .u64 (n18 : Nat), .int .u64 (n19 : Nat), .int .u64 (n20 : Nat), .int .u64 (n21 : Nat), .int .u8 (n22 : Nat), .int .u8 (n23 : Nat), .int .u8 (n24 : Nat), .int .u8 (n25 : Nat), .int .u8 (n26 : Nat), .int .u8 (n27 : Nat), .int .u8 (n28 : Nat), .int .u8 (n29 : Nat), .int .u64 (n30 : Nat), .int .u64 (n31 : Nat), .int .u64 (n32 : Nat), .int .u64 (n33 : Nat), .int .u64 (n34 : Nat), .int .u64 (n35 : Nat), .int .u64 (n36 : Nat), .int .u64 (n37 : Nat)])
          (xs := [(.lit (.int .u64 (n0 : Nat)), []), (.lit (.int .u64 (n1 : Nat)), []), (.lit (.int .u64 (n2 : Nat)), []), (.lit (.int .u64 (n3 : Nat)), []), (.lit (.int .u64 (n4 : Nat)), []), (.lit (.int .u64 (n5 : Nat)), []), (.lit (.int .u64 (n6 : Nat)), []), (.lit (.int .u64 (n7 : Nat)), []), (.lit (.int .u64 (n8 : Nat)), []), (.lit (.int .u64 (n9 : Nat)), []), (.lit (.int .u64 (n10 : Nat)), []), (.lit (.int .u64 (n11 : Nat)), []), (.lit (.int .u64 (n12 : Nat)), []), (.lit (.int .u64 (n13 : Nat)), []), (.lit (.int .u64 (n14 : Nat)), []), (.lit (.int .u64 (n15 : Nat)), []), (.lit (.int .u64 (n16 : Nat)), []), (.lit (.int .u64 (n17 : Nat)), []), (.lit (.int .u64 (n18 : Nat)), []), (.lit (.int .u64 (n19 : Nat)), []), (.lit (.int .u64 (n20 : Nat)), []), (.lit (.int .u64 (n21 : Nat)), []), (D1, []), (D2, [])]) hs (by rw [cells26]; rfl)
          (by simp [cells22, cells23, cells24, trod_int_mk 1 Try.underlying22 q0, trod_int_mk 1 Try.underlying22 q1, trod_int_mk 1 Try.underlying22 q2, trod_int_mk 1 Try.underlying22 q3, trod_int_mk 1 Try.underlying22 q4, trod_int_mk 1 Try.underlying22 q5, trod_int_mk 1 Try.underlying22 q6, trod_int_mk 1 Try.underlying22 q7, trod_int_mk 1 Try.underlying22 q8, trod_int_mk 1 Try.underlying22 q9, trod_int_mk 1 Try.underlying22 q10, trod_int_mk 1 Try.underlying22 q11, trod_int_mk 1 Try.underlying22 q12, trod_int_mk 1 Try.underlying22 q13, trod_int_mk 1 Try.underlying22 q14, trod_int_mk 1 Try.underlying22 q15, trod_int_mk 1 Try.underlying22 q16, trod_int_mk 1 Try.underlying22 q17, trod_int_mk 1 Try.underlying22 q18, trod_int_mk 1 Try.underlying22 q19, trod_int_mk 1 Try.underlying22 q20, trod_int_mk 1 Try.underlying22 q21, T1, T2])
        rw [hx1]
        exact Eq.trans this (by simp)
end Go.Proofs.Ytmlbobjbkbcabaa
