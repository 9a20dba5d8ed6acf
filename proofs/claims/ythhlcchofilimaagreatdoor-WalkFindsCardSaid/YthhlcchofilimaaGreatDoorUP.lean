/- Taken from other texts: what is needed of them. -/
import Derived.Test.YthhlcchofilimaaGreatDoorUA
import Derived.Test.YthhlcchofilimaaGreatDoorUB
import Derived.Test.YthhlcchofilimaaGreatDoorUC
import Derived.Test.YthhlcchofilimaaGreatDoorUD
import Derived.Test.YthhlcchofilimaaGreatDoorUE
import Derived.Test.YthhlcchofilimaaGreatDoorUG
import Derived.Test.YthhlcchofilimaaGreatDoorUI
import Derived.Test.YthhlcchofilimaaGreatDoorUJ
import Derived.Test.YthhlcchofilimaaGreatDoorUK
import Derived.Test.YthhlcchofilimaaGreatDoorUM
import Derived.Test.YthhlcchofilimaaGreatDoorUN
import Derived.Test.YthhlcchofilimaaGreatDoorUO
namespace Go.Proofs.YthhlcchofilimaaGreatDoor.U
set_option linter.unusedVariables false
set_option linter.unusedSimpArgs false
set_option maxRecDepth 20000
open Go.ChangeShapes Go.WideShapes Go.ChangeAt Go.RowKit Go.Sort
open M (Fp Dj Cw Up Th Grp GrpAt GrpC Cpd jn exT)
set_option maxRecDepth 20000
section
variable {n0 : Nat} {R0 W0 : Fp} {w0 w : World} {l : List Th}
end
theorem dj4 {R W : Nat → Fp} (h01 : Dj (W 0) (R 1)) (h02 : Dj (W 0) (R 2)) (h03 : Dj (W 0) (R 3)) (h10 : Dj (W 1) (R 0)) (h12 : Dj (W 1) (R 2)) (h13 : Dj (W 1) (R 3)) (h20 : Dj (W 2) (R 0)) (h21 : Dj (W 2) (R 1)) (h23 : Dj (W 2) (R 3)) (h30 : Dj (W 3) (R 0)) (h31 : Dj (W 3) (R 1)) (h32 : Dj (W 3) (R 2)) : ∀ i j, i < 4 → j < 4 → i ≠ j → Dj (W i) (R j) := by
  intro i j hi hj hne
  have i4 : i = 0 ∨ i = 1 ∨ i = 2 ∨ i = 3 := by omega
  have j4 : j = 0 ∨ j = 1 ∨ j = 2 ∨ j = 3 := by omega
  rcases i4 with rfl | rfl | rfl | rfl <;> rcases j4 with rfl | rfl | rfl | rfl <;> first | exact absurd rfl hne | assumption
theorem each4 {P : Nat → Th → Prop} {A B C D : Th} (h0 : P 0 A) (h1 : P 1 B) (h2 : P 2 C) (h3 : P 3 D) : ∀ (i : Nat) (E : Th), [A, B, C, D][i]? = some E → P i E := by
  intro i E h
  match i, h with
  | 0, h => obtain rfl : A = E := by simpa using h
            exact h0
  | 1, h => obtain rfl : B = E := by simpa using h
            exact h1
  | 2, h => obtain rfl : C = E := by simpa using h
            exact h2
  | 3, h => obtain rfl : D = E := by simpa using h
            exact h3
  | n + 4, h => simp at h
theorem all4 {P : Nat → Prop} (h0 : P 0) (h1 : P 1) (h2 : P 2) (h3 : P 3) : ∀ i, i < 4 → P i := by
  intro i hi
  have i4 : i = 0 ∨ i = 1 ∨ i = 2 ∨ i = 3 := by omega
  rcases i4 with rfl | rfl | rfl | rfl <;> assumption
def pk4 (a b c d : Fp) : Nat → Fp
  | 0 => a
  | 1 => b
  | 2 => c
  | _ => d
/-- The parts of a copy, put together as a bus' are. -/
theorem regroup {R W : Fp} {w : World} {A C Q U B V E : Th} (h : (jn [A, jn [C, Q, U], jn [B, V], E]).P R W w) : (jn [B, jn [V, C, Q, U], A, E]).P R W w := by
  obtain ⟨⟨Rs, Ws, h1, h2, h3, h4⟩, h5, h6⟩ := h
  have L : ∀ i, i < 4 → i < [A, jn [C, Q, U], jn [B, V], E].length := fun i hi => hi
  obtain ⟨⟨Rc, Wc, c1, c2, c3, c4⟩, c5, c6⟩ := h1 1 _ rfl
  obtain ⟨⟨Rb, Wb, b1, b2, b3, b4⟩, b5, b6⟩ := h1 2 _ rfl
  have d := fun i j (hi : i < 4) (hj : j < 4) (hne : i ≠ j) => h2 i j hi hj hne
  have r3 := fun i (hi : i < 4) => h3 i hi
  have w4 := fun i (hi : i < 4) => h4 i hi
  have cr := fun i (hi : i < 3) => c3 i hi
  have cw := fun i (hi : i < 3) => c4 i hi
  have br := fun i (hi : i < 2) => b3 i hi
  have bw := fun i (hi : i < 2) => b4 i hi
  have bd := fun i j (hi : i < 2) (hj : j < 2) (hne : i ≠ j) => b2 i j hi hj hne
  have cd := fun i j (hi : i < 3) (hj : j < 3) (hne : i ≠ j) => c2 i j hi hj hne
  refine ⟨⟨pk4 (Rb 0) (fun k j => Rb 1 k j ∨ Rs 1 k j) (Rs 0) (Rs 3), pk4 (Wb 0) (fun k j => Wb 1 k j ∨ Ws 1 k j) (Ws 0) (Ws 3), ?_, ?_, ?_, ?_⟩, h5, h6⟩
  · refine each4 (P := fun i E => E.P (pk4 (Rb 0) (fun k j => Rb 1 k j ∨ Rs 1 k j) (Rs 0) (Rs 3) i) (pk4 (Wb 0) (fun k j => Wb 1 k j ∨ Ws 1 k j) (Ws 0) (Ws 3) i) w) (b1 0 _ rfl) ?_ (h1 0 _ rfl) (h1 3 _ rfl)
    refine ⟨⟨pk4 (Rb 1) (Rc 0) (Rc 1) (Rc 2), pk4 (Wb 1) (Wc 0) (Wc 1) (Wc 2), ?_, ?_, ?_, ?_⟩, fun k j q => q.imp (V.wr (b1 1 _ rfl) k j) (c5 k j), fun k j q => q.elim (V.rlt (b1 1 _ rfl) k j) (c6 k j)⟩
    · exact each4 (P := fun i E => E.P (pk4 (Rb 1) (Rc 0) (Rc 1) (Rc 2) i) (pk4 (Wb 1) (Wc 0) (Wc 1) (Wc 2) i) w) (b1 1 _ rfl) (c1 0 _ rfl) (c1 1 _ rfl) (c1 2 _ rfl)
    · have x : ∀ i, i < 3 → Dj (Wb 1) (Rc i) := fun i hi k j q1 q2 => d 2 1 (by decide) (by decide) (by decide) k j (bw 1 (by decide) k j q1) (cr i hi k j q2)
      have y : ∀ i, i < 3 → Dj (Wc i) (Rb 1) := fun i hi k j q1 q2 => d 1 2 (by decide) (by decide) (by decide) k j (cw i hi k j q1) (br 1 (by decide) k j q2)
      exact dj4 (R := pk4 (Rb 1) (Rc 0) (Rc 1) (Rc 2)) (W := pk4 (Wb 1) (Wc 0) (Wc 1) (Wc 2)) (x 0 (by decide)) (x 1 (by decide)) (x 2 (by decide)) (y 0 (by decide)) (cd 0 1 (by decide) (by decide) (by decide)) (cd 0 2 (by decide) (by decide) (by decide)) (y 1 (by decide)) (cd 1 0 (by decide) (by decide) (by decide)) (cd 1 2 (by decide) (by decide) (by decide)) (y 2 (by decide)) (cd 2 0 (by decide) (by decide) (by decide)) (cd 2 1 (by decide) (by decide) (by decide))
    · exact all4 (P := fun i => ∀ k j, pk4 (Rb 1) (Rc 0) (Rc 1) (Rc 2) i k j → Rb 1 k j ∨ Rs 1 k j) (fun k j q => .inl q) (fun k j q => .inr (cr 0 (by decide) k j q)) (fun k j q => .inr (cr 1 (by decide) k j q)) (fun k j q => .inr (cr 2 (by decide) k j q))
    · exact all4 (P := fun i => ∀ k j, pk4 (Wb 1) (Wc 0) (Wc 1) (Wc 2) i k j → Wb 1 k j ∨ Ws 1 k j) (fun k j q => .inl q) (fun k j q => .inr (cw 0 (by decide) k j q)) (fun k j q => .inr (cw 1 (by decide) k j q)) (fun k j q => .inr (cw 2 (by decide) k j q))
  · have b0 : ∀ k j, Wb 0 k j → Ws 2 k j := bw 0 (by decide)
    have b0r : ∀ k j, Rb 0 k j → Rs 2 k j := br 0 (by decide)
    have b1' : ∀ k j, Wb 1 k j → Ws 2 k j := bw 1 (by decide)
    have b1r : ∀ k j, Rb 1 k j → Rs 2 k j := br 1 (by decide)
    refine dj4 (R := pk4 (Rb 0) (fun k j => Rb 1 k j ∨ Rs 1 k j) (Rs 0) (Rs 3)) (W := pk4 (Wb 0) (fun k j => Wb 1 k j ∨ Ws 1 k j) (Ws 0) (Ws 3)) ?_ ?_ ?_ ?_ ?_ ?_ ?_ ?_ ?_ ?_ ?_ ?_
    · exact fun k j q q2 => q2.elim (bd 0 1 (by decide) (by decide) (by decide) k j q) (d 2 1 (by decide) (by decide) (by decide) k j (b0 k j q))
    · exact fun k j q q2 => d 2 0 (by decide) (by decide) (by decide) k j (b0 k j q) q2
    · exact fun k j q q2 => d 2 3 (by decide) (by decide) (by decide) k j (b0 k j q) q2
    · exact fun k j q q2 => q.elim (fun q => bd 1 0 (by decide) (by decide) (by decide) k j q q2) (fun q => d 1 2 (by decide) (by decide) (by decide) k j q (b0r k j q2))
    · exact fun k j q q2 => q.elim (fun q => d 2 0 (by decide) (by decide) (by decide) k j (b1' k j q) q2) (fun q => d 1 0 (by decide) (by decide) (by decide) k j q q2)
    · exact fun k j q q2 => q.elim (fun q => d 2 3 (by decide) (by decide) (by decide) k j (b1' k j q) q2) (fun q => d 1 3 (by decide) (by decide) (by decide) k j q q2)
    · exact fun k j q q2 => d 0 2 (by decide) (by decide) (by decide) k j q (b0r k j q2)
    · exact fun k j q q2 => q2.elim (fun q2 => d 0 2 (by decide) (by decide) (by decide) k j q (b1r k j q2)) (d 0 1 (by decide) (by decide) (by decide) k j q)
    · exact d 0 3 (by decide) (by decide) (by decide)
    · exact fun k j q q2 => d 3 2 (by decide) (by decide) (by decide) k j q (b0r k j q2)
    · exact fun k j q q2 => q2.elim (fun q2 => d 3 2 (by decide) (by decide) (by decide) k j q (b1r k j q2)) (d 3 1 (by decide) (by decide) (by decide) k j q)
    · exact d 3 0 (by decide) (by decide) (by decide)
  · exact all4 (P := fun i => ∀ k j, pk4 (Rb 0) (fun k j => Rb 1 k j ∨ Rs 1 k j) (Rs 0) (Rs 3) i k j → R k j) (fun k j q => r3 2 (by decide) k j (br 0 (by decide) k j q)) (fun k j q => q.elim (fun q => r3 2 (by decide) k j (br 1 (by decide) k j q)) (r3 1 (by decide) k j)) (r3 0 (by decide)) (r3 3 (by decide))
  · exact all4 (P := fun i => ∀ k j, pk4 (Wb 0) (fun k j => Wb 1 k j ∨ Ws 1 k j) (Ws 0) (Ws 3) i k j → W k j) (fun k j q => w4 2 (by decide) k j (bw 0 (by decide) k j q)) (fun k j q => q.elim (fun q => w4 2 (by decide) k j (bw 1 (by decide) k j q)) (w4 1 (by decide) k j)) (w4 0 (by decide)) (w4 3 (by decide))
/-- The cells of a new bus. -/
theorem newB {w : World} {m c p u : Nat} {one : Bool} {v : Value} {cyc : Int} {t : TypeId} : (jn [eBc w.heap.size m v cyc, eDv w.heap.size 1 c p u one]).P (fun k _ => k = w.heap.size) (fun k _ => k = w.heap.size) (w.alloc (Obj.cells #[.pointer (some ⟨m, 0, none⟩), .pointer (some ⟨c, 0, none⟩), .pointer (some ⟨p, 0, none⟩), .pointer (some ⟨u, 0, none⟩), .bool one, v, .int .i64 cyc] t)) := by
  have hlt : w.heap.size < (w.alloc (Obj.cells #[.pointer (some ⟨m, 0, none⟩), .pointer (some ⟨c, 0, none⟩), .pointer (some ⟨p, 0, none⟩), .pointer (some ⟨u, 0, none⟩), .bool one, v, .int .i64 cyc] t)).heap.size := by rw [sz_alloc]; omega
  refine ⟨⟨fun i k j => k = w.heap.size ∧ (if i = 0 then j = 0 ∨ j = 5 ∨ j = 6 else 1 ≤ j ∧ j < 5), fun i k j => k = w.heap.size ∧ (if i = 0 then j = 0 ∨ j = 5 ∨ j = 6 else 1 ≤ j ∧ j < 5), fun i E h => ?_, fun i j hi hj hne k x q1 q2 => ?_, fun i hi k j q => q.1, fun i hi k j q => q.1⟩, fun k j q => q, fun k j q => by rw [q]; exact hlt⟩
  · match i, h with
    | 0, h =>
      obtain rfl : eBc w.heap.size m v cyc = E := by simpa using h
      refine ⟨⟨⟨rfl, .inl rfl⟩, ⟨rfl, .inr (.inl rfl)⟩, ⟨rfl, .inr (.inr rfl)⟩⟩, fun k j q => q, fun k j q => by rw [q.1]; exact hlt, hlt, ?_, ?_, ?_, ?_, ?_, ?_⟩ <;> first
        | (rw [World.cell?_alloc_at _ _ _ _ rfl]; rfl)
        | (rw [World.frozen?_alloc_at _ _ _ _ rfl])
    | 1, h =>
      obtain rfl : eDv w.heap.size 1 c p u one = E := by simpa using h
      refine ⟨fun j hj => ⟨rfl, by show 1 ≤ 1 + j ∧ 1 + j < 5; omega⟩, fun k j q => q, fun k j q => by rw [q.1]; exact hlt, hlt, ?_, ?_, ?_, ?_, ?_, ?_, ?_, ?_⟩ <;> first
        | (rw [World.cell?_alloc_at _ _ _ _ rfl]; rfl)
        | (rw [World.frozen?_alloc_at _ _ _ _ rfl])
    | n + 2, h => simp at h
  · have hi2 : i = 0 ∨ i = 1 := by have : i < 2 := hi; omega
    have hj2 : j = 0 ∨ j = 1 := by have : j < 2 := hj; omega
    have q1 := q1.2; have q2 := q2.2
    rcases hi2 with rfl | rfl <;> rcases hj2 with rfl | rfl
    · exact hne rfl
    · rw [if_pos rfl] at q1; rw [if_neg (by decide)] at q2; omega
    · rw [if_neg (by decide)] at q1; rw [if_pos rfl] at q2; omega
    · exact hne rfl
/-- Six new things, as a bus' four. -/
theorem fold6 {w0 w : World} {A C Q U E N : Th} (h : Grp (fun _ _ => False) (fun _ _ => False) w0 [A, C, Q, U, E, N] w) : ∃ R W : Fp, (jn [A, jn [C, Q, U], N, E]).P R W w ∧ (∀ k j, R k j → w0.heap.size ≤ k) ∧ Below w0.heap.size w0 w := by
  have h7 := h.out.nothing (fun _ _ q => q.elim)
  obtain ⟨R, W, g1, g2, g3, g4, g5⟩ := h
  have d := fun i j (hi : i < 6) (hj : j < 6) (hne : i ≠ j) => g2 i j hi hj hne
  have r := fun i (hi : i < 6) => g3 i hi
  have u := fun i (hi : i < 6) => g4 i hi
  have wr : ∀ i, i < 6 → ∀ k j, W i k j → R i k j := fun i hi => by
    obtain ⟨F, hF⟩ : ∃ F, [A, C, Q, U, E, N][i]? = some F := ⟨_, List.getElem?_eq_getElem hi⟩
    exact F.wr (g1 i F hF)
  have nw : ∀ i, i < 6 → ∀ k j, R i k j → w0.heap.size ≤ k ∧ k < w.heap.size := fun i hi k j q => (r i hi k j q).elim (fun q => q.elim) id
  let R1 : Fp := fun k j => R 1 k j ∨ R 2 k j ∨ R 3 k j
  let W1 : Fp := fun k j => W 1 k j ∨ W 2 k j ∨ W 3 k j
  refine ⟨fun k j => w0.heap.size ≤ k ∧ k < w.heap.size, fun k j => w0.heap.size ≤ k ∧ k < w.heap.size, ⟨⟨pk4 (R 0) R1 (R 5) (R 4), pk4 (W 0) W1 (W 5) (W 4), ?_, ?_, ?_, ?_⟩, fun k j q => q, fun k j q => q.2⟩, fun k j q => q.1, h7⟩
  · refine each4 (P := fun i E => E.P (pk4 (R 0) R1 (R 5) (R 4) i) (pk4 (W 0) W1 (W 5) (W 4) i) w) (g1 0 _ rfl) ?_ (g1 5 _ rfl) (g1 4 _ rfl)
    refine ⟨⟨fun i => R (i + 1), fun i => W (i + 1), fun i F hF => g1 (i + 1) F ?_, fun i j hi hj hne => d (i + 1) (j + 1) (by have : i < 3 := hi; omega) (by have : j < 3 := hj; omega) (by omega), fun i hi k j q => ?_, fun i hi k j q => ?_⟩, fun k j q => ?_, fun k j q => ?_⟩
    · match i, hF with
      | 0, hF => exact hF
      | 1, hF => exact hF
      | 2, hF => exact hF
      | n + 3, hF => simp at hF
    · have i3 : i = 0 ∨ i = 1 ∨ i = 2 := by have : i < 3 := hi; omega
      rcases i3 with rfl | rfl | rfl
      · exact .inl q
      · exact .inr (.inl q)
      · exact .inr (.inr q)
    · have i3 : i = 0 ∨ i = 1 ∨ i = 2 := by have : i < 3 := hi; omega
      rcases i3 with rfl | rfl | rfl
      · exact .inl q
      · exact .inr (.inl q)
      · exact .inr (.inr q)
    · exact q.imp (wr 1 (by decide) k j) (fun q => q.imp (wr 2 (by decide) k j) (wr 3 (by decide) k j))
    · exact q.elim (fun q => (nw 1 (by decide) k j q).2) (fun q => q.elim (fun q => (nw 2 (by decide) k j q).2) (fun q => (nw 3 (by decide) k j q).2))
  · have to1 : ∀ i, i < 6 → i ≠ 1 → i ≠ 2 → i ≠ 3 → Dj (W i) R1 := fun i hi n1 n2 n3 k j q q2 => q2.elim (d i 1 hi (by decide) n1 k j q) (fun q2 => q2.elim (d i 2 hi (by decide) n2 k j q) (d i 3 hi (by decide) n3 k j q))
    have of1 : ∀ i, i < 6 → i ≠ 1 → i ≠ 2 → i ≠ 3 → Dj W1 (R i) := fun i hi n1 n2 n3 k j q q2 => q.elim (fun q => d 1 i (by decide) hi (Ne.symm n1) k j q q2) (fun q => q.elim (fun q => d 2 i (by decide) hi (Ne.symm n2) k j q q2) (fun q => d 3 i (by decide) hi (Ne.symm n3) k j q q2))
    exact dj4 (R := pk4 (R 0) R1 (R 5) (R 4)) (W := pk4 (W 0) W1 (W 5) (W 4)) (to1 0 (by decide) (by decide) (by decide) (by decide)) (d 0 5 (by decide) (by decide) (by decide)) (d 0 4 (by decide) (by decide) (by decide)) (of1 0 (by decide) (by decide) (by decide) (by decide)) (of1 5 (by decide) (by decide) (by decide) (by decide)) (of1 4 (by decide) (by decide) (by decide) (by decide)) (d 5 0 (by decide) (by decide) (by decide)) (to1 5 (by decide) (by decide) (by decide) (by decide)) (d 5 4 (by decide) (by decide) (by decide)) (d 4 0 (by decide) (by decide) (by decide)) (to1 4 (by decide) (by decide) (by decide) (by decide)) (d 4 5 (by decide) (by decide) (by decide))
  · exact all4 (P := fun i => ∀ k j, pk4 (R 0) R1 (R 5) (R 4) i k j → w0.heap.size ≤ k ∧ k < w.heap.size) (nw 0 (by decide)) (fun k j q => q.elim (nw 1 (by decide) k j) (fun q => q.elim (nw 2 (by decide) k j) (nw 3 (by decide) k j))) (nw 5 (by decide)) (nw 4 (by decide))
  · exact all4 (P := fun i => ∀ k j, pk4 (W 0) W1 (W 5) (W 4) i k j → w0.heap.size ≤ k ∧ k < w.heap.size) (fun k j q => nw 0 (by decide) k j (wr 0 (by decide) k j q)) (fun k j q => q.elim (fun q => nw 1 (by decide) k j (wr 1 (by decide) k j q)) (fun q => q.elim (fun q => nw 2 (by decide) k j (wr 2 (by decide) k j q)) (fun q => nw 3 (by decide) k j (wr 3 (by decide) k j q)))) (fun k j q => nw 5 (by decide) k j (wr 5 (by decide) k j q)) (fun k j q => nw 4 (by decide) k j (wr 4 (by decide) k j q))
end Go.Proofs.YthhlcchofilimaaGreatDoor.U
