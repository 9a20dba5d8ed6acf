/- Taken from other texts: what is needed of them. -/
import Derived.Test.YthhlcchofilimaaGreatDoorUA
import Derived.Test.YthhlcchofilimaaGreatDoorUB
import Derived.Test.YthhlcchofilimaaGreatDoorUC
import Derived.Test.YthhlcchofilimaaGreatDoorUD
import Derived.Test.YthhlcchofilimaaGreatDoorUE
import Derived.Test.YthhlcchofilimaaGreatDoorUG
import Derived.Test.YthhlcchofilimaaGreatDoorUH
import Derived.Test.YthhlcchofilimaaGreatDoorUI
import Derived.Test.YthhlcchofilimaaGreatDoorUJ
import Derived.Test.YthhlcchofilimaaGreatDoorUK
namespace Go.Proofs.YthhlcchofilimaaGreatDoor.U
set_option linter.unusedVariables false
set_option linter.unusedSimpArgs false
set_option maxRecDepth 20000
open Go.ChangeShapes Go.WideShapes Go.ChangeAt Go.RowKit
open M (Fp Dj Cw Up Th Grp GrpAt GrpC jn exT)
set_option maxRecDepth 20000
section
variable {R0 W0 : Fp} {w0 w : World} {l : List Th}
theorem eC_new {w' : World} {c s a t : Nat} (h : K.IsC w' c s a t) (h2 : s < 2 ∧ a < W64 ∧ t < W64) : (eC c s a t).P (fun k _ => k = c) (fun k _ => k = c) w' := ⟨ownb_new h.1, h, h2⟩
theorem eP_new {w' : World} {p : Nat} {S : P.St} (h : P.IsP w' p S) (h2 : P.OkS S) : (eP p S).P (fun k _ => k = p) (fun k _ => k = p) w' := ⟨ownb_new h.1, h, h2⟩
theorem newC_g (h : Grp R0 W0 w0 l w) : Calls Tryz.prog 53 #[] w (fun e w' => ∃ c', e = .returned (.pointer (some ⟨c', 0, none⟩)) ∧ Grp R0 W0 w0 (l ++ [eC c' 0 18446744073709551615 0]) w' ∧ Below w.heap.size w w') := by
  refine (K.new_c w).mono ?_
  rintro e w' ⟨c', rfl, h1, h2, hb⟩
  exact ⟨c', rfl, h.push hb (eC_new h2 ⟨by decide, by decide, by decide⟩) (fun k j hk => by rw [hk]; exact h1), hb⟩
theorem newP_g (h : Grp R0 W0 w0 l w) : Calls Tryz.prog 54 #[] w (fun e w' => ∃ p', e = .returned (.pointer (some ⟨p', 0, none⟩)) ∧ Grp R0 W0 w0 (l ++ [eP p' P.S0]) w' ∧ Below w.heap.size w w') := by
  refine (P.new_c w).mono ?_
  rintro e w' ⟨p', rfl, h1, h2, hb⟩
  exact ⟨p', rfl, h.push hb (eP_new h2 P.okS0) (fun k j hk => by rw [hk]; exact h1), hb⟩
theorem newU_g (h : Grp R0 W0 w0 l w) : Calls Tryz.prog 55 #[] w (fun e w' => ∃ u', e = .returned (.pointer (some ⟨u', 0, none⟩)) ∧ Grp R0 W0 w0 (l ++ [eU u' T.U0]) w' ∧ Below w.heap.size w w') := by
  refine (T.new_c w).mono ?_
  rintro e w' ⟨u', R, Q, rfl, h1, h2, hb⟩
  exact ⟨u', rfl, h.push hb (R1 := R) (W1 := Q) h1 h2, hb⟩
end
/-- A thing that is only read. -/
def ro (E : Th) : Th where
  P R W w := (∀ k j, ¬ W k j) ∧ ∃ V, E.P R V w
  kept := fun ⟨h1, V, h2⟩ hc hd => ⟨h1, V, E.kept h2 hc hd⟩
  wr h := fun k j q => (h.1 k j q).elim
  rlt := fun ⟨_, V, h2⟩ => E.rlt h2
/-- A group that is only read. -/
theorem grp_ro {R0 W0 : Fp} {w0 w : World} {l : List Th} (h : Grp R0 W0 w0 l w) (hw : w0 = w) : Grp R0 (fun _ _ => False) w (l.map ro) w := by
  subst hw
  obtain ⟨R, W, h1, h2, h3, h4, h5⟩ := h
  refine ⟨R, fun _ _ _ => False, ⟨fun i E hi => ?_, fun _ _ _ _ _ _ _ q => q.elim, fun i hi => h3 i (by rwa [List.length_map] at hi), fun _ _ _ _ q => q.elim, Cw.refl _ _⟩⟩
  rw [List.getElem?_map] at hi
  cases e : l[i]? with
  | none => rw [e] at hi; cases hi
  | some F =>
    rw [e] at hi
    obtain rfl : ro F = E := by simpa using hi
    exact ⟨fun _ _ q => q, W i, h1 i F e⟩
section
variable {R0 W0 : Fp} {w0 w : World} {l : List Th}
theorem copyC_r (h : Grp R0 W0 w0 l w) (i : Nat) {c s a t : Nat} (hi : l[i]? = some (ro (eC c s a t))) : Calls Tryz.prog 88 #[.pointer (some ⟨c, 0, none⟩)] w (fun e w' => ∃ c', e = .returned (.pointer (some ⟨c', 0, none⟩)) ∧ Grp R0 W0 w0 (l ++ [eC c' s a t]) w' ∧ Below w.heap.size w w') := by
  obtain ⟨R, W, -, V, q⟩ := h.get i hi
  refine (K.copy_c w c s a t q.2.1).mono ?_
  rintro e w' ⟨c', rfl, h1, h2, hb⟩
  exact ⟨c', rfl, h.push hb (eC_new h2 q.2.2) (fun k j hk => by rw [hk]; exact h1), hb⟩
theorem copyP_r (h : Grp R0 W0 w0 l w) (i : Nat) {p : Nat} {S : P.St} (hi : l[i]? = some (ro (eP p S))) : Calls Tryz.prog 89 #[.pointer (some ⟨p, 0, none⟩)] w (fun e w' => ∃ p', e = .returned (.pointer (some ⟨p', 0, none⟩)) ∧ Grp R0 W0 w0 (l ++ [eP p' S]) w' ∧ Below w.heap.size w w') := by
  obtain ⟨R, W, -, V, q⟩ := h.get i hi
  refine (P.copy_c p S w (Lib.hid q.2.1)).mono ?_
  rintro e w' ⟨p', rfl, h1, h2, hb⟩
  exact ⟨p', rfl, h.push hb (eP_new h2 q.2.2) (fun k j hk => by rw [hk]; exact h1), hb⟩
theorem copyU_r (h : Grp R0 W0 w0 l w) (i : Nat) {u : Nat} {U : T.Ur} (hi : l[i]? = some (ro (eU u U))) : Calls Tryz.prog 90 #[.pointer (some ⟨u, 0, none⟩)] w (fun e w' => ∃ u', e = .returned (.pointer (some ⟨u', 0, none⟩)) ∧ Grp R0 W0 w0 (l ++ [eU u' U]) w' ∧ Below w.heap.size w w') := by
  obtain ⟨R, W, h⟩ := h
  obtain ⟨hw, V, q⟩ := h.each i _ hi
  refine (T.copy_c (R i) V u U w (Lib.hid q)).mono ?_
  rintro e w' ⟨u', R', W', V', rfl, i1, i2, i3, i4, i5, i6, hb⟩
  refine ⟨u', rfl, h.more hb i3 i4 (fun k j q => (i5 k j q).imp id (fun q => h.rs i (M.len_of2 hi) k j q)) (fun k hk x y hx hy => ?_), hb⟩
  by_cases e : k = i
  · subst e; exact hw x y hx
  · rcases i5 x y hy with q | q
    · have := h.lt k hk x y (by
        obtain ⟨F, hF⟩ : ∃ F, l[k]? = some F := ⟨_, List.getElem?_eq_getElem hk⟩
        exact F.wr (h.each k F hF) x y hx)
      omega
    · exact h.dj k i hk (M.len_of2 hi) e x y hx q
end
theorem cells4 {w w' : World} {b o : Nat} {v0 v1 v2 v3 : Value} (hb : b < w.heap.size) (c0 : w.cell? ⟨b, o, none⟩ = some v0) (c1 : w.cell? ⟨b, o + 1, none⟩ = some v1) (c2 : w.cell? ⟨b, o + 2, none⟩ = some v2) (c3 : w.cell? ⟨b, o + 3, none⟩ = some v3) (h : Below w.heap.size w w') :
    w'.cell? ⟨b, o, none⟩ = some v0 ∧ w'.cell? ⟨b, o + 1, none⟩ = some v1 ∧ w'.cell? ⟨b, o + 2, none⟩ = some v2 ∧ w'.cell? ⟨b, o + 3, none⟩ = some v3 :=
  ⟨(h.cell (p := ⟨b, o, none⟩) hb).trans c0, (h.cell (p := ⟨b, o + 1, none⟩) hb).trans c1, (h.cell (p := ⟨b, o + 2, none⟩) hb).trans c2, (h.cell (p := ⟨b, o + 3, none⟩) hb).trans c3⟩
/-- The devices' copies beside them. -/
def RetCD (l : List Th) (R W : Fp) (w0 : World) (D : Dv) (w : World) (e : Ending) (w' : World) : Prop := ∃ c' p' u', e = .returned (.agg #[.pointer (some ⟨c', 0, none⟩), .pointer (some ⟨p', 0, none⟩), .pointer (some ⟨u', 0, none⟩), .bool D.one]) ∧ Grp R W w0 (l ++ [eC c' D.s D.a D.t] ++ [eP p' D.S] ++ [eU u' D.U]) w' ∧ Below w.heap.size w w'
/-- A block of one's own, of n cells. -/
def eBlk (d n : Nat) : Th where
  P R W w := Ownb d R W w ∧ d < w.heap.size ∧ ∀ j, j < n → (∃ v, w.cell? ⟨d, j, none⟩ = some v) ∧ w.frozen? ⟨d, j, none⟩ = false
  kept := fun ⟨h1, h2, h3⟩ hc hd => ⟨h1.kept hc.size, Nat.lt_of_lt_of_le h2 hc.size, fun j hj => by
    have q := cw_block hc h2 (h1.no hd) j
    exact ⟨(h3 j hj).1.imp fun v e => q.1.trans e, q.2.trans (h3 j hj).2⟩⟩
  wr h := h.1.2.1
  rlt h := h.1.2.2
theorem cw_set {W : Fp} {w : World} {d j : Nat} {v : Value} (h : W d j) : Cw W w (w.setCell ⟨d, j, none⟩ v) := by
  have bl : ∀ k, k ≠ d → (w.setCell ⟨d, j, none⟩ v).heap[k]? = w.heap[k]? := fun k hk => Below.heap_setCell w ⟨d, j, none⟩ v k hk
  refine ⟨rfl, rfl, rfl, by rw [sz_set]; exact Nat.le_refl _, fun k hk hn => bl k (fun e => hn j (by rw [e]; exact h)), fun k o hk hn => ?_, fun k o hk hn => World.frozen?_setCell _ _ _ _⟩
  exact World.cell?_setCell_other _ _ _ _ (fun e => by injection e with e1 e2; subst e1 e2; exact hn h)
theorem set_self {l : List Th} {E : Th} {i : Nat} (hi : l[i]? = some E) : l.set i E = l := by
  refine List.ext_getElem? (fun k => ?_)
  by_cases e : i = k
  · subst e; rw [List.getElem?_set_self (M.len_of2 hi), hi]
  · rw [List.getElem?_set_ne e]
theorem grp_setBlk {R0 W0 : Fp} {w0 w : World} {l : List Th} (h : Grp R0 W0 w0 l w) (i : Nat) {d n : Nat} (hi : l[i]? = some (eBlk d n)) (j : Nat) (hj : j < n) (v : Value) : Grp R0 W0 w0 l (w.setCell ⟨d, j, none⟩ v) := by
  have := h.set (w' := w.setCell ⟨d, j, none⟩ v) (E' := eBlk d n) i hi (fun R W ⟨h1, h2, h3⟩ => ⟨⟨h1.up (by rw [sz_set]; exact Nat.le_refl _), by rw [sz_set]; exact h2, fun k hk => ⟨?_, by rw [World.frozen?_setCell]; exact (h3 k hk).2⟩⟩, cw_set (h1.1 j)⟩)
  · rwa [set_self hi] at this
  · obtain ⟨v0, e0⟩ := (h3 k hk).1
    by_cases e : j = k
    · subst e; exact ⟨v, World.cell?_setCell_same _ _ _ e0⟩
    · exact ⟨v0, by rw [World.cell?_setCell_other _ _ _ _ (fun q => by injection q with q1 q2; exact e q2)]; exact e0⟩
theorem grp_blk {R0 W0 : Fp} {w0 w : World} {l : List Th} (h : Grp R0 W0 w0 l w) (cs : Array Value) (t : TypeId) : Grp R0 W0 w0 (l ++ [eBlk w.heap.size cs.size]) (w.alloc (Obj.cells cs t)) := by
  refine h.push (below_one w _) (R1 := fun k _ => k = w.heap.size) (W1 := fun k _ => k = w.heap.size) ⟨ownb_new (by rw [sz_alloc]; omega), by rw [sz_alloc]; omega, fun j hj => ⟨?_, ?_⟩⟩ (fun k j hk => Nat.le_of_eq hk.symm)
  · rw [World.cell?_alloc_at _ _ _ _ rfl]
    exact ⟨cs[j], Array.getElem?_eq_getElem hj⟩
  · rw [World.frozen?_alloc_at _ _ _ _ rfl]
theorem cell_all {w : World} {d : Nat} {a b c e v0 v1 v2 v3 : Value} (k0 : w.cell? ⟨d, 0, none⟩ = some v0) (k1 : w.cell? ⟨d, 1, none⟩ = some v1) (k2 : w.cell? ⟨d, 2, none⟩ = some v2) (k3 : w.cell? ⟨d, 3, none⟩ = some v3) :
    ((((w.setCell ⟨d, 0, none⟩ a).setCell ⟨d, 1, none⟩ b).setCell ⟨d, 2, none⟩ c).setCell ⟨d, 3, none⟩ e).cell? ⟨d, 0, none⟩ = some a ∧ ((((w.setCell ⟨d, 0, none⟩ a).setCell ⟨d, 1, none⟩ b).setCell ⟨d, 2, none⟩ c).setCell ⟨d, 3, none⟩ e).cell? ⟨d, 1, none⟩ = some b ∧
    ((((w.setCell ⟨d, 0, none⟩ a).setCell ⟨d, 1, none⟩ b).setCell ⟨d, 2, none⟩ c).setCell ⟨d, 3, none⟩ e).cell? ⟨d, 2, none⟩ = some c ∧ ((((w.setCell ⟨d, 0, none⟩ a).setCell ⟨d, 1, none⟩ b).setCell ⟨d, 2, none⟩ c).setCell ⟨d, 3, none⟩ e).cell? ⟨d, 3, none⟩ = some e := by
  have ne : ∀ (w : World) (i j : Nat) (v : Value), i ≠ j → (w.setCell ⟨d, i, none⟩ v).cell? ⟨d, j, none⟩ = w.cell? ⟨d, j, none⟩ := fun w i j v h => World.cell?_setCell_other _ _ _ _ (fun q => by injection q with q1 q2; exact h q2)
  refine ⟨?_, ?_, ?_, ?_⟩
  · rw [ne _ 3 0 _ (by decide), ne _ 2 0 _ (by decide), ne _ 1 0 _ (by decide), World.cell?_setCell_same _ _ _ k0]
  · rw [ne _ 3 1 _ (by decide), ne _ 2 1 _ (by decide), World.cell?_setCell_same _ _ _ ((ne _ 0 1 _ (by decide)).trans k1)]
  · rw [ne _ 3 2 _ (by decide), World.cell?_setCell_same _ _ _ ((ne _ 1 2 _ (by decide)).trans ((ne _ 0 2 _ (by decide)).trans k2))]
  · rw [World.cell?_setCell_same _ _ _ ((ne _ 2 3 _ (by decide)).trans ((ne _ 1 3 _ (by decide)).trans ((ne _ 0 3 _ (by decide)).trans k3)))]
def ixB (i : Nat) : Nat := if i < 4 then i else i + 1
theorem ixB_ne {i j : Nat} (h : i ≠ j) : ixB i ≠ ixB j := by
  unfold ixB
  by_cases h1 : i < 4
  · rw [if_pos h1]
    by_cases h2 : j < 4
    · rw [if_pos h2]; exact h
    · rw [if_neg h2]; omega
  · rw [if_neg h1]
    by_cases h2 : j < 4
    · rw [if_pos h2]; omega
    · rw [if_neg h2]; omega
theorem pick_blk {a b c d x e f g : Th} (i : Nat) (E : Th) (h : ([a, b, c, d] ++ [e] ++ [f] ++ [g])[i]? = some E) : ([a, b, c, d] ++ [x] ++ [e] ++ [f] ++ [g])[ixB i]? = some E := by
  match i, h with
  | 0, h => exact h
  | 1, h => exact h
  | 2, h => exact h
  | 3, h => exact h
  | 4, h => exact h
  | 5, h => exact h
  | 6, h => exact h
  | n + 7, h => simp at h
section
variable {n0 : Nat} {R0 W0 : Fp} {w0 w : World} {l : List Th}
end
abbrev dr (b o c p u : Nat) (D : Dv) : List Th := [ro (eDv b o c p u D.one), ro (eC c D.s D.a D.t), ro (eP p D.S), ro (eU u D.U)]
theorem dr_cells {R0 W0 : Fp} {w0 w : World} {b o c p u : Nat} {D : Dv} {l : List Th} (h : Grp R0 W0 w0 (ro (eDv b o c p u D.one) :: l) w) : ∃ R V : Fp, (eDv b o c p u D.one).P R V w := by
  obtain ⟨R, W, -, V, q⟩ := h.get 0 rfl
  exact ⟨R, V, q⟩
theorem copied_r (b o c p u : Nat) (D : Dv) (R W : Fp) (w0 w : World) (hG : Hid (Grp R W w0 (dr b o c p u D) w)) : Calls Tryz.prog 83 #[.pointer (some ⟨b, o, none⟩)] w (RetCD (dr b o c p u D) R W w0 D w) := by
  obtain ⟨R1, V1, -, -, -, h4, c0, c1, c2, c3, f0, f1, f2, f3⟩ := dr_cells hG.out
  have hnb : ¬ w.heap.size = b := by omega
  go_enter Tryz.func83, Tryz.ntmps83
  go_wp2_with fail
  have hGA := Lib.hid (grp_blk hG.out #[Value.pointer none, Value.pointer none, Value.pointer none, Value.bool false] 63)
  have hbA : Below w.heap.size w (w.alloc (Obj.cells #[Value.pointer none, Value.pointer none, Value.pointer none, Value.bool false] 63)) := below_one w _
  generalize (w.alloc (Obj.cells #[Value.pointer none, Value.pointer none, Value.pointer none, Value.bool false] 63)) = wA at *
  change Hid (Grp R W w0 (dr b o c p u D ++ [eBlk w.heap.size 4]) wA) at hGA
  go_region_held3 (fun w' => w'.cell? ⟨b, o, none⟩ = some (.pointer (some ⟨c, 0, none⟩)) ∧ w'.cell? ⟨b, o + 1, none⟩ = some (.pointer (some ⟨p, 0, none⟩)) ∧ w'.cell? ⟨b, o + 2, none⟩ = some (.pointer (some ⟨u, 0, none⟩)) ∧ w'.cell? ⟨b, o + 3, none⟩ = some (.bool D.one)) (exact cells4 h4 c0 c1 c2 c3 (by repeat (first | (with_reducible first | exact Below.refl _ _ | assumption | exact Nat.le_refl _ | refine Below.drew ?_ | refine Below.alloc ?_ ?_ _ | refine Below.setCell ?_ ?_ _ | refine le_alloc ?_ | refine le_set ?_ | refine le_drew ?_ | refine below_step (by assumption) ?_ ?_ | refine le_below (by assumption) ?_) | (dsimp only; omega)))) (first
    | (go_at_call 88; refine (copyC_r (hGA.out.below (by repeat (first | (with_reducible first | exact Below.refl _ _ | assumption | exact Nat.le_refl _ | refine Below.drew ?_ | refine Below.alloc ?_ ?_ _ | refine Below.setCell ?_ ?_ _ | refine le_alloc ?_ | refine le_set ?_ | refine le_drew ?_ | refine below_step (by assumption) ?_ ?_ | refine le_below (by assumption) ?_) | (dsimp only; omega)))) 1 rfl).mono ?_; rintro e w1 ⟨c', rfl, g1, hb1⟩; have G1 := Lib.hid g1; clear g1)
    | (go_at_call 89; refine (copyP_r (G1.out.below (by repeat (first | (with_reducible first | exact Below.refl _ _ | assumption | exact Nat.le_refl _ | refine Below.drew ?_ | refine Below.alloc ?_ ?_ _ | refine Below.setCell ?_ ?_ _ | refine le_alloc ?_ | refine le_set ?_ | refine le_drew ?_ | refine below_step (by assumption) ?_ ?_ | refine le_below (by assumption) ?_) | (dsimp only; omega)))) 2 rfl).mono ?_; rintro e w2 ⟨p', rfl, g2, hb2⟩; have G2 := Lib.hid g2; clear g2)
    | (go_at_call 90; refine (copyU_r (G2.out.below (by repeat (first | (with_reducible first | exact Below.refl _ _ | assumption | exact Nat.le_refl _ | refine Below.drew ?_ | refine Below.alloc ?_ ?_ _ | refine Below.setCell ?_ ?_ _ | refine le_alloc ?_ | refine le_set ?_ | refine le_drew ?_ | refine below_step (by assumption) ?_ ?_ | refine le_below (by assumption) ?_) | (dsimp only; omega)))) 3 rfl).mono ?_; rintro e w3 ⟨u', rfl, g3, hb3⟩; have G3 := Lib.hid g3; clear g3; obtain ⟨_, _, -, -, q⟩ := G3.out.get 4 rfl; obtain ⟨⟨v0, k0⟩, j0⟩ := q 0 (by decide); obtain ⟨⟨v1, k1⟩, j1⟩ := q 1 (by decide); obtain ⟨⟨v2, k2⟩, j2⟩ := q 2 (by decide); obtain ⟨⟨v3, k3⟩, j3⟩ := q 3 (by decide); clear q))
  all_goals
    go_wp2_with fail
    have G4 := grp_setBlk (grp_setBlk (grp_setBlk (grp_setBlk G3.out 4 rfl 0 (by decide) (.pointer (some ⟨c', 0, none⟩))) 4 rfl 1 (by decide) (.pointer (some ⟨p', 0, none⟩))) 4 rfl 2 (by decide) (.pointer (some ⟨u', 0, none⟩))) 4 rfl 3 (by decide) (.bool D.one)
    have x0 := cell_all (a := Value.pointer (some ⟨c', 0, none⟩)) (b := Value.pointer (some ⟨p', 0, none⟩)) (c := Value.pointer (some ⟨u', 0, none⟩)) (e := Value.bool D.one) k0 k1 k2 k3
    have hb9 : Below w.heap.size w ((((w3.setCell ⟨w.heap.size, 0, none⟩ (.pointer (some ⟨c', 0, none⟩))).setCell ⟨w.heap.size, 1, none⟩ (.pointer (some ⟨p', 0, none⟩))).setCell ⟨w.heap.size, 2, none⟩ (.pointer (some ⟨u', 0, none⟩))).setCell ⟨w.heap.size, 3, none⟩ (.bool D.one)) := (by repeat (first | (with_reducible first | exact Below.refl _ _ | assumption | exact Nat.le_refl _ | refine Below.drew ?_ | refine Below.alloc ?_ ?_ _ | refine Below.setCell ?_ ?_ _ | refine le_alloc ?_ | refine le_set ?_ | refine le_drew ?_ | refine below_step (by assumption) ?_ ?_ | refine le_below (by assumption) ?_) | (dsimp only; omega)))
    clear k0 k1 k2 k3
    generalize (((w3.setCell ⟨w.heap.size, 0, none⟩ (.pointer (some ⟨c', 0, none⟩))).setCell ⟨w.heap.size, 1, none⟩ (.pointer (some ⟨p', 0, none⟩))).setCell ⟨w.heap.size, 2, none⟩ (.pointer (some ⟨u', 0, none⟩))).setCell ⟨w.heap.size, 3, none⟩ (.bool D.one) = wF at *
    obtain ⟨k0, k1, k2, k3⟩ := x0
    refine bodyPost_ret (v := .agg #[.pointer (some ⟨c', 0, none⟩), .pointer (some ⟨p', 0, none⟩), .pointer (some ⟨u', 0, none⟩), .bool D.one]) (by simp [results, Tryz.results83, go_sem, k0, k1, k2, k3] <;> (first | rfl | (repeat' (first | rfl | apply And.intro)))) rfl ?_
    refine ⟨c', p', u', rfl, G4.pick _ ixB (fun i E h => pick_blk i E h) (fun i j hi hj hne => ixB_ne hne), hb9⟩
theorem pick4 {a b c d : Th} {l : List Th} (i : Nat) (E : Th) (h : ([a, b, c, d])[i]? = some E) : (a :: b :: c :: d :: l)[id i]? = some E := by
  match i, h with
  | 0, h => exact h
  | 1, h => exact h
  | 2, h => exact h
  | 3, h => exact h
  | n + 4, h => simp at h
theorem eDv_new {w : World} {c p u : Nat} {one : Bool} {t : TypeId} : (eDv w.heap.size 0 c p u one).P (fun k _ => k = w.heap.size) (fun k _ => k = w.heap.size) (w.alloc (Obj.cells #[.pointer (some ⟨c, 0, none⟩), .pointer (some ⟨p, 0, none⟩), .pointer (some ⟨u, 0, none⟩), .bool one] t)) := by
  refine ⟨fun j _ => rfl, fun _ _ q => q, fun k j q => by rw [q, sz_alloc]; omega, by rw [sz_alloc]; omega, ?_, ?_, ?_, ?_, ?_, ?_, ?_, ?_⟩ <;> first
    | (rw [World.cell?_alloc_at _ _ _ _ rfl]; rfl)
    | (rw [World.frozen?_alloc_at _ _ _ _ rfl])
theorem have_r (b o c p u : Nat) (D : Dv) (R W : Fp) (w0 w : World) (hG : Hid (Grp R W w0 (dr b o c p u D) w)) (x : Nat) (z : Int) (hx : Hid (x < W64)) (hz : Hid ((Lit.int .i64 z).wf = true)) : Calls Tryz.prog 70 #[.pointer (some ⟨b, o, none⟩), .int .u64 x, .int .i64 z] w (fun e w' => e = .returned (.bool (okD x z)) ∧ Grp R W w0 (dr b o c p u D) w') := by
  go_enter Tryz.func70, Tryz.ntmps70
  go_wp2_with fail
  refine (copied_r b o c p u D R W w0 _ (Lib.hid (hG.out.below (by repeat (first | (with_reducible first | exact Below.refl _ _ | assumption | exact Nat.le_refl _ | refine Below.drew ?_ | refine Below.alloc ?_ ?_ _ | refine Below.setCell ?_ ?_ _ | refine le_alloc ?_ | refine le_set ?_ | refine le_drew ?_ | refine below_step (by assumption) ?_ ?_ | refine le_below (by assumption) ?_) | (dsimp only; omega)))))).mono ?_; rintro e w1 ⟨c', p', u', rfl, g1, hb1⟩
  have G2 := Lib.hid (g1.push (E := eDv w1.heap.size 0 c' p' u' D.one) (below_one w1 _) (eDv_new (t := 63)) (fun k j hk => Nat.le_of_eq hk.symm))
  clear g1 hb1 hG
  go_wp2_with fail
  generalize w1.alloc (Obj.cells #[Value.pointer (some ⟨c', 0, none⟩), Value.pointer (some ⟨p', 0, none⟩), Value.pointer (some ⟨u', 0, none⟩), Value.bool D.one] 63) = wA at *
  obtain ⟨R1, W1, hD⟩ := G2.out.get 7 rfl
  rcases dvK_cases x with ⟨e, h⟩ | ⟨e, h⟩ | ⟨e, h⟩ | ⟨e, h⟩
  · have e2 : okD x z = (decide (K.kd (farN x 33554432) z ≠ 0)) := by unfold okD; rw [e]; rw [if_pos rfl]
    have HE := Lib.hid e2
    have HF := Lib.hid (find_1 w1.heap.size 0 c' p' u' D.one _ _ x hx h _ (Lib.hid hD))
    clear e2 h e hx hD
    have hfl := far_lt x 33554432
    generalize farN x 33554432 = far at *
    have HR : Hid (Calls Tryz.prog 127 #[.pointer (some ⟨c', 0, none⟩), .int .u64 (far : Nat), .int .i64 z] wA (fun e w' => e = .returned (.tuple #[.int .u64 (K.rdK (K.kd far z) D.s D.a D.t : Nat), .bool (decide (K.kd far z ≠ 0))]) ∧ Grp R W w0 _ w')) := G2.out.step 4 rfl _ (fun R W q => readC q far z hfl hz.out)
    clear hz hfl G2
    generalize K.rdK (K.kd far z) D.s D.a D.t = vv at *
    generalize (decide (K.kd far z ≠ 0)) = bb at *
    refine HF.out.mono ?_; rintro e w2 ⟨rfl, e1⟩; subst e1
    go_wp2_with fail
    refine HR.out.mono ?_; rintro e w3 ⟨rfl, g3⟩
    have G3 := Lib.hid g3; clear g3
    go_wp2_with fail
    go_ret
    exact ⟨congrArg (fun q => Ending.returned (Value.bool q)) HE.out.symm, G3.out.pick (dr b o c p u D) id (fun i E h => pick4 i E h) (fun i j _ _ hne => hne)⟩
  · have e2 : okD x z = (decide (P.pk (farN x 201326592) z ≠ 0)) := by unfold okD; rw [e]; rw [if_neg (by decide), if_pos rfl]
    have HE := Lib.hid e2
    have HF := Lib.hid (find_2 w1.heap.size 0 c' p' u' D.one _ _ x hx h _ (Lib.hid hD))
    clear e2 h e hx hD
    have hfl := far_lt x 201326592
    generalize farN x 201326592 = far at *
    have HR : Hid (Calls Tryz.prog 131 #[.pointer (some ⟨p', 0, none⟩), .int .u64 (far : Nat), .int .i64 z] wA (fun e w' => e = .returned (.tuple #[.int .u64 (P.valP (P.pk far z) D.S : Nat), .bool (decide (P.pk far z ≠ 0))]) ∧ Grp R W w0 _ w')) := G2.out.step 5 rfl _ (fun R W q => readP q far z)
    clear hz hfl G2
    generalize P.valP (P.pk far z) D.S = vv at *
    generalize (decide (P.pk far z ≠ 0)) = bb at *
    refine HF.out.mono ?_; rintro e w2 ⟨rfl, e1⟩; subst e1
    go_wp2_with fail
    refine HR.out.mono ?_; rintro e w3 ⟨rfl, g3⟩
    have G3 := Lib.hid g3; clear g3
    go_wp2_with fail
    go_ret
    exact ⟨congrArg (fun q => Ending.returned (Value.bool q)) HE.out.symm, G3.out.pick (dr b o c p u D) id (fun i E h => pick4 i E h) (fun i j _ _ hne => hne)⟩
  · have e2 : okD x z = (T.okK (T.kd (farN x 268435456) z)) := by unfold okD; rw [e]; rw [if_neg (by decide), if_neg (by decide), if_pos rfl]
    have HE := Lib.hid e2
    have HF := Lib.hid (find_3 w1.heap.size 0 c' p' u' D.one _ _ x hx h _ (Lib.hid hD))
    clear e2 h e hx hD
    have hfl := far_lt x 268435456
    generalize farN x 268435456 = far at *
    have HR : Hid (Calls Tryz.prog 138 #[.pointer (some ⟨u', 0, none⟩), .int .u64 (far : Nat), .int .i64 z] wA (fun e w' => e = .returned (.tuple #[.int .u64 (T.valK (T.kd far z) D.U : Nat), .bool (T.okK (T.kd far z))]) ∧ Grp R W w0 _ w')) := G2.out.step 6 rfl _ (fun R W q => readU q far z)
    clear hz hfl G2
    generalize T.valK (T.kd far z) D.U = vv at *
    generalize (T.okK (T.kd far z)) = bb at *
    refine HF.out.mono ?_; rintro e w2 ⟨rfl, e1⟩; subst e1
    go_wp2_with fail
    refine HR.out.mono ?_; rintro e w3 ⟨rfl, g3⟩
    have G3 := Lib.hid g3; clear g3
    go_wp2_with fail
    go_ret
    exact ⟨congrArg (fun q => Ending.returned (Value.bool q)) HE.out.symm, G3.out.pick (dr b o c p u D) id (fun i E h => pick4 i E h) (fun i j _ _ hne => hne)⟩
  · have e2 : okD x z = false := by unfold okD; rw [e]; rw [if_neg (by decide), if_neg (by decide), if_neg (by decide)]
    have HE := Lib.hid e2
    have HF := Lib.hid (find_0 w1.heap.size 0 c' p' u' D.one _ _ x hx h _ (Lib.hid hD))
    clear e2 h e hx hD
    refine HF.out.mono ?_; rintro e w2 ⟨rfl, e1⟩; subst e1
    go_wp2_with fail
    refine (nread x z _).mono ?_; rintro e w3 ⟨rfl, hb⟩
    have HB3 := Lib.hid hb; clear hb
    go_wp2_with fail
    go_ret
    exact ⟨congrArg (fun q => Ending.returned (Value.bool q)) HE.out.symm, (G2.out.below HB3.out).pick (dr b o c p u D) id (fun i E h => pick4 i E h) (fun i j _ _ hne => hne)⟩
/-- An input. -/
structure Ev where
  cyc : Int
  kind : Int
  n : Int
  v : Nat
def evV (e : Ev) : Value := .agg #[.int .i64 e.cyc, .int .i64 e.kind, .int .i64 e.n, .int .u64 (e.v : Nat)]
/-- One that may come, whenever. -/
def OkE (e : Ev) : Prop := (e.kind = 1 ∧ e.n = 0 ∧ e.v ≤ 255) ∨ (e.kind = 2 ∧ 1 ≤ e.n ∧ e.n ≤ 8 ∧ e.v ≤ 1)
def RetAF (l : List Th) (R W : Fp) (w0 : World) (w : World) (e : Ending) (w' : World) : Prop := ∃ c' p' u', e = .returned (.agg #[.pointer (some ⟨c', 0, none⟩), .pointer (some ⟨p', 0, none⟩), .pointer (some ⟨u', 0, none⟩), .bool false]) ∧ Grp R W w0 (l ++ [eC c' 0 18446744073709551615 0] ++ [eP p' P.S0] ++ [eU u' T.U0]) w' ∧ Below w.heap.size w w'
theorem pick_l {l : List Th} {x e f g : Th} : ∀ (i : Nat) (E : Th), (l ++ [e] ++ [f] ++ [g])[i]? = some E → (l ++ [x] ++ [e] ++ [f] ++ [g])[if i < l.length then i else i + 1]? = some E := by
  intro i E h
  simp only [List.append_assoc, List.cons_append, List.nil_append] at h ⊢
  by_cases hi : i < l.length
  · rw [if_pos hi]
    rw [List.getElem?_append_left hi] at h ⊢
    exact h
  · rw [if_neg hi]
    rw [List.getElem?_append_right (by omega)] at h ⊢
    rw [show i + 1 - l.length = (i - l.length) + 1 by omega]
    exact h
theorem ixl_ne {n i j : Nat} (h : i ≠ j) : (if i < n then i else i + 1) ≠ (if j < n then j else j + 1) := by
  by_cases h1 : i < n
  · rw [if_pos h1]
    by_cases h2 : j < n
    · rw [if_pos h2]; exact h
    · rw [if_neg h2]; omega
  · rw [if_neg h1]
    by_cases h2 : j < n
    · rw [if_pos h2]; omega
    · rw [if_neg h2]; omega
theorem get_at (l m : List Th) (E : Th) (j : Nat) (h : m[j]? = some E) : (l ++ m)[l.length + j]? = some E := by
  rw [List.getElem?_append_right (Nat.le_add_right _ _), Nat.add_sub_cancel_left]; exact h
theorem get_blk (l : List Th) (x e f g : Th) : (l ++ [x] ++ [e] ++ [f] ++ [g])[l.length + 0]? = some x := by
  simp only [List.append_assoc, List.cons_append, List.nil_append]
  exact get_at l _ x 0 rfl
theorem first_g (l : List Th) (R W : Fp) (w0 w : World) (hG : Hid (Grp R W w0 l w)) : Calls Tryz.prog 17 #[] w (RetAF l R W w0 w) := by
  go_enter Tryz.func17, Tryz.ntmps17
  go_wp2_with fail
  have hGA := Lib.hid (grp_blk hG.out #[Value.pointer none, Value.pointer none, Value.pointer none, Value.bool false] 63)
  have hbA : Below w.heap.size w (w.alloc (Obj.cells #[Value.pointer none, Value.pointer none, Value.pointer none, Value.bool false] 63)) := below_one w _
  generalize (w.alloc (Obj.cells #[Value.pointer none, Value.pointer none, Value.pointer none, Value.bool false] 63)) = wA at *
  change Hid (Grp R W w0 (l ++ [eBlk w.heap.size 4]) wA) at hGA
  refine (newC_g hGA.out).mono ?_; rintro e w1 ⟨c', rfl, g1, hb1⟩
  have G1 := Lib.hid g1; clear g1
  go_wp2_with fail
  refine (newP_g G1.out).mono ?_; rintro e w2 ⟨p', rfl, g2, hb2⟩
  have G2 := Lib.hid g2; clear g2
  go_wp2_with fail
  refine (newU_g G2.out).mono ?_; rintro e w3 ⟨u', rfl, g3, hb3⟩
  have G3 := Lib.hid g3; clear g3
  have hix := get_blk l (eBlk w.heap.size 4) (eC c' 0 18446744073709551615 0) (eP p' P.S0) (eU u' T.U0)
  obtain ⟨_, _, -, -, q⟩ := G3.out.get _ hix
  obtain ⟨⟨v0, k0⟩, j0⟩ := q 0 (by decide); obtain ⟨⟨v1, k1⟩, j1⟩ := q 1 (by decide); obtain ⟨⟨v2, k2⟩, j2⟩ := q 2 (by decide); obtain ⟨⟨v3, k3⟩, j3⟩ := q 3 (by decide); clear q
  have HIX := Lib.hid hix
  clear hix
  go_wp2_with fail
  have hix := HIX.out
  have G4 := grp_setBlk (grp_setBlk (grp_setBlk (grp_setBlk G3.out _ hix 0 (by decide) (.pointer (some ⟨c', 0, none⟩))) _ hix 1 (by decide) (.pointer (some ⟨p', 0, none⟩))) _ hix 2 (by decide) (.pointer (some ⟨u', 0, none⟩))) _ hix 3 (by decide) (.bool false)
  have x0 := cell_all (a := Value.pointer (some ⟨c', 0, none⟩)) (b := Value.pointer (some ⟨p', 0, none⟩)) (c := Value.pointer (some ⟨u', 0, none⟩)) (e := Value.bool false) k0 k1 k2 k3
  have hb9 : Below w.heap.size w ((((w3.setCell ⟨w.heap.size, 0, none⟩ (.pointer (some ⟨c', 0, none⟩))).setCell ⟨w.heap.size, 1, none⟩ (.pointer (some ⟨p', 0, none⟩))).setCell ⟨w.heap.size, 2, none⟩ (.pointer (some ⟨u', 0, none⟩))).setCell ⟨w.heap.size, 3, none⟩ (.bool false)) := (by repeat (first | (with_reducible first | exact Below.refl _ _ | assumption | exact Nat.le_refl _ | refine Below.drew ?_ | refine Below.alloc ?_ ?_ _ | refine Below.setCell ?_ ?_ _ | refine le_alloc ?_ | refine le_set ?_ | refine le_drew ?_ | refine below_step (by assumption) ?_ ?_ | refine le_below (by assumption) ?_) | (dsimp only; omega)))
  clear k0 k1 k2 k3
  generalize (((w3.setCell ⟨w.heap.size, 0, none⟩ (.pointer (some ⟨c', 0, none⟩))).setCell ⟨w.heap.size, 1, none⟩ (.pointer (some ⟨p', 0, none⟩))).setCell ⟨w.heap.size, 2, none⟩ (.pointer (some ⟨u', 0, none⟩))).setCell ⟨w.heap.size, 3, none⟩ (.bool false) = wF at *
  obtain ⟨k0, k1, k2, k3⟩ := x0
  refine bodyPost_ret (v := .agg #[.pointer (some ⟨c', 0, none⟩), .pointer (some ⟨p', 0, none⟩), .pointer (some ⟨u', 0, none⟩), .bool false]) (by simp [results, Tryz.results17, go_sem, k0, k1, k2, k3] <;> (first | rfl | (repeat' (first | rfl | apply And.intro)))) rfl ?_
  exact ⟨c', p', u', rfl, G4.pick _ (fun i => if i < l.length then i else i + 1) (fun i E h => pick_l i E h) (fun i j hi hj hne => ixl_ne hne), hb9⟩
end Go.Proofs.YthhlcchofilimaaGreatDoor.U
