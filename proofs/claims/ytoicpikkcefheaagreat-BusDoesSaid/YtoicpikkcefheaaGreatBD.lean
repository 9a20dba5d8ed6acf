/- The devices' copied, have, come, atFirst. -/
import Derived.Test.YtoicpikkcefheaaGreatBC
namespace Go.Proofs.YtoicpikkcefheaaGreat
open Go.ChangeShapes Go.WideShapes Go.ChangeAt Go.RowKit
open M (Fp Dj Cw Up Th Grp GrpAt GrpC jn exT)
set_option linter.unusedVariables false
set_option linter.unusedSimpArgs false
set_option maxRecDepth 20000
section
variable {R0 W0 : Fp} {w0 w : World} {l : List Th}
theorem eC_new {w' : World} {c s a t : Nat} (h : K.IsC w' c s a t) (h2 : s < 2 ∧ a < W64 ∧ t < W64) : (eC c s a t).P (fun k _ => k = c) (fun k _ => k = c) w' := ⟨ownb_new h.1, h, h2⟩
theorem eP_new {w' : World} {p : Nat} {S : P.St} (h : P.IsP w' p S) (h2 : P.OkS S) : (eP p S).P (fun k _ => k = p) (fun k _ => k = p) w' := ⟨ownb_new h.1, h, h2⟩
theorem newC_g (h : Grp R0 W0 w0 l w) : Calls Tryz.prog 71 #[] w (fun e w' => ∃ c', e = .returned (.pointer (some ⟨c', 0, none⟩)) ∧ Grp R0 W0 w0 (l ++ [eC c' 0 18446744073709551615 0]) w' ∧ Below w.heap.size w w') := by
  refine (K.new_c w).mono ?_
  rintro e w' ⟨c', rfl, h1, h2, hb⟩
  exact ⟨c', rfl, h.push hb (eC_new h2 ⟨by decide, by decide, by decide⟩) (fun k j hk => by rw [hk]; exact h1), hb⟩
theorem newP_g (h : Grp R0 W0 w0 l w) : Calls Tryz.prog 72 #[] w (fun e w' => ∃ p', e = .returned (.pointer (some ⟨p', 0, none⟩)) ∧ Grp R0 W0 w0 (l ++ [eP p' P.S0]) w' ∧ Below w.heap.size w w') := by
  refine (P.new_c w).mono ?_
  rintro e w' ⟨p', rfl, h1, h2, hb⟩
  exact ⟨p', rfl, h.push hb (eP_new h2 P.okS0) (fun k j hk => by rw [hk]; exact h1), hb⟩
theorem newU_g (h : Grp R0 W0 w0 l w) : Calls Tryz.prog 73 #[] w (fun e w' => ∃ u', e = .returned (.pointer (some ⟨u', 0, none⟩)) ∧ Grp R0 W0 w0 (l ++ [eU u' T.U0]) w' ∧ Below w.heap.size w w') := by
  refine (T.new_c w).mono ?_
  rintro e w' ⟨u', R, Q, rfl, h1, h2, hb⟩
  exact ⟨u', rfl, h.push hb (R1 := R) (W1 := Q) h1 h2, hb⟩
end
/-- A thing that is only read. -/
def ro (E : Th) : Th where
  P R W w := (∀ k j, ¬ W k j) ∧ ∃ V, E.P R V w
  kept := fun ⟨h1, V, h2⟩ hc hd => ⟨h1, V, E.kept h2 hc hd⟩
  wr h := fun k j q => (h.1 k j q).elim
  rlt := fun ⟨_, V, h2⟩ => E.rlt h2
theorem ro_P {E : Th} {R W : Fp} {w : World} (h : (ro E).P R W w) : ∃ V, E.P R V w := h.2
/-- A group that is only read. -/
theorem grp_ro {R0 W0 : Fp} {w0 w : World} {l : List Th} (h : Grp R0 W0 w0 l w) (hw : w0 = w) : Grp R0 (fun _ _ => False) w (l.map ro) w := by
  subst hw
  obtain ⟨R, W, h1, h2, h3, h4, h5⟩ := h
  refine ⟨R, fun _ _ _ => False, ⟨fun i E hi => ?_, fun _ _ _ _ _ _ _ q => q.elim, fun i hi => h3 i (by rwa [List.length_map] at hi), fun _ _ _ _ q => q.elim, Cw.refl _ _⟩⟩
  rw [List.getElem?_map] at hi
  cases e : l[i]? with
  | none => rw [e] at hi; cases hi
  | some F =>
    rw [e] at hi
    obtain rfl : ro F = E := by simpa using hi
    exact ⟨fun _ _ q => q, W i, h1 i F e⟩
section
variable {R0 W0 : Fp} {w0 w : World} {l : List Th}
theorem copyC_r (h : Grp R0 W0 w0 l w) (i : Nat) {c s a t : Nat} (hi : l[i]? = some (ro (eC c s a t))) : Calls Tryz.prog 87 #[.pointer (some ⟨c, 0, none⟩)] w (fun e w' => ∃ c', e = .returned (.pointer (some ⟨c', 0, none⟩)) ∧ Grp R0 W0 w0 (l ++ [eC c' s a t]) w' ∧ Below w.heap.size w w') := by
  obtain ⟨R, W, -, V, q⟩ := h.get i hi
  refine (K.copy_c w c s a t q.2.1).mono ?_
  rintro e w' ⟨c', rfl, h1, h2, hb⟩
  exact ⟨c', rfl, h.push hb (eC_new h2 q.2.2) (fun k j hk => by rw [hk]; exact h1), hb⟩
theorem copyP_r (h : Grp R0 W0 w0 l w) (i : Nat) {p : Nat} {S : P.St} (hi : l[i]? = some (ro (eP p S))) : Calls Tryz.prog 88 #[.pointer (some ⟨p, 0, none⟩)] w (fun e w' => ∃ p', e = .returned (.pointer (some ⟨p', 0, none⟩)) ∧ Grp R0 W0 w0 (l ++ [eP p' S]) w' ∧ Below w.heap.size w w') := by
  obtain ⟨R, W, -, V, q⟩ := h.get i hi
  refine (P.copy_c p S w (Lib.hid q.2.1)).mono ?_
  rintro e w' ⟨p', rfl, h1, h2, hb⟩
  exact ⟨p', rfl, h.push hb (eP_new h2 q.2.2) (fun k j hk => by rw [hk]; exact h1), hb⟩
theorem copyU_r (h : Grp R0 W0 w0 l w) (i : Nat) {u : Nat} {U : T.Ur} (hi : l[i]? = some (ro (eU u U))) : Calls Tryz.prog 89 #[.pointer (some ⟨u, 0, none⟩)] w (fun e w' => ∃ u', e = .returned (.pointer (some ⟨u', 0, none⟩)) ∧ Grp R0 W0 w0 (l ++ [eU u' U]) w' ∧ Below w.heap.size w w') := by
  obtain ⟨R, W, h⟩ := h
  obtain ⟨hw, V, q⟩ := h.each i _ hi
  refine (T.copy_c (R i) V u U w (Lib.hid q)).mono ?_
  rintro e w' ⟨u', R', W', V', rfl, i1, i2, i3, i4, i5, i6, hb⟩
  refine ⟨u', rfl, h.more hb i3 i4 (fun k j q => (i5 k j q).imp id (fun q => h.rs i (M.len_of2 hi) k j q)) (fun k hk x y hx hy => ?_), hb⟩
  by_cases e : k = i
  · subst e; exact hw x y hx
  · rcases i5 x y hy with q | q
    · have := h.lt k hk x y (by
        obtain ⟨F, hF⟩ : ∃ F, l[k]? = some F := ⟨_, List.getElem?_eq_getElem hk⟩
        exact F.wr (h.each k F hF) x y hx)
      omega
    · exact h.dj k i hk (M.len_of2 hi) e x y hx q
end
theorem cells4 {w w' : World} {b o : Nat} {v0 v1 v2 v3 : Value} (hb : b < w.heap.size) (c0 : w.cell? ⟨b, o, none⟩ = some v0) (c1 : w.cell? ⟨b, o + 1, none⟩ = some v1) (c2 : w.cell? ⟨b, o + 2, none⟩ = some v2) (c3 : w.cell? ⟨b, o + 3, none⟩ = some v3) (h : Below w.heap.size w w') :
    w'.cell? ⟨b, o, none⟩ = some v0 ∧ w'.cell? ⟨b, o + 1, none⟩ = some v1 ∧ w'.cell? ⟨b, o + 2, none⟩ = some v2 ∧ w'.cell? ⟨b, o + 3, none⟩ = some v3 :=
  ⟨(h.cell (p := ⟨b, o, none⟩) hb).trans c0, (h.cell (p := ⟨b, o + 1, none⟩) hb).trans c1, (h.cell (p := ⟨b, o + 2, none⟩) hb).trans c2, (h.cell (p := ⟨b, o + 3, none⟩) hb).trans c3⟩
/-- The devices' copies beside them. -/
def RetCD (l : List Th) (R W : Fp) (w0 : World) (D : Dv) (w : World) (e : Ending) (w' : World) : Prop := ∃ c' p' u', e = .returned (.agg #[.pointer (some ⟨c', 0, none⟩), .pointer (some ⟨p', 0, none⟩), .pointer (some ⟨u', 0, none⟩), .bool D.one]) ∧ Grp R W w0 (l ++ [eC c' D.s D.a D.t] ++ [eP p' D.S] ++ [eU u' D.U]) w' ∧ Below w.heap.size w w'
/-- A block of one's own, of n cells. -/
def eBlk (d n : Nat) : Th where
  P R W w := Ownb d R W w ∧ d < w.heap.size ∧ ∀ j, j < n → (∃ v, w.cell? ⟨d, j, none⟩ = some v) ∧ w.frozen? ⟨d, j, none⟩ = false
  kept := fun ⟨h1, h2, h3⟩ hc hd => ⟨h1.kept hc.size, Nat.lt_of_lt_of_le h2 hc.size, fun j hj => by
    have q := cw_block hc h2 (h1.no hd) j
    exact ⟨(h3 j hj).1.imp fun v e => q.1.trans e, q.2.trans (h3 j hj).2⟩⟩
  wr h := h.1.2.1
  rlt h := h.1.2.2
theorem cw_set {W : Fp} {w : World} {d j : Nat} {v : Value} (h : W d j) : Cw W w (w.setCell ⟨d, j, none⟩ v) := by
  have bl : ∀ k, k ≠ d → (w.setCell ⟨d, j, none⟩ v).heap[k]? = w.heap[k]? := fun k hk => Below.heap_setCell w ⟨d, j, none⟩ v k hk
  refine ⟨rfl, rfl, rfl, by rw [sz_set]; exact Nat.le_refl _, fun k hk hn => bl k (fun e => hn j (by rw [e]; exact h)), fun k o hk hn => ?_, fun k o hk hn => World.frozen?_setCell _ _ _ _⟩
  exact World.cell?_setCell_other _ _ _ _ (fun e => by injection e with e1 e2; subst e1 e2; exact hn h)
theorem set_self {l : List Th} {E : Th} {i : Nat} (hi : l[i]? = some E) : l.set i E = l := by
  refine List.ext_getElem? (fun k => ?_)
  by_cases e : i = k
  · subst e; rw [List.getElem?_set_self (M.len_of2 hi), hi]
  · rw [List.getElem?_set_ne e]
theorem grp_setBlk {R0 W0 : Fp} {w0 w : World} {l : List Th} (h : Grp R0 W0 w0 l w) (i : Nat) {d n : Nat} (hi : l[i]? = some (eBlk d n)) (j : Nat) (hj : j < n) (v : Value) : Grp R0 W0 w0 l (w.setCell ⟨d, j, none⟩ v) := by
  have := h.set (w' := w.setCell ⟨d, j, none⟩ v) (E' := eBlk d n) i hi (fun R W ⟨h1, h2, h3⟩ => ⟨⟨h1.up (by rw [sz_set]; exact Nat.le_refl _), by rw [sz_set]; exact h2, fun k hk => ⟨?_, by rw [World.frozen?_setCell]; exact (h3 k hk).2⟩⟩, cw_set (h1.1 j)⟩)
  · rwa [set_self hi] at this
  · obtain ⟨v0, e0⟩ := (h3 k hk).1
    by_cases e : j = k
    · subst e; exact ⟨v, World.cell?_setCell_same _ _ _ e0⟩
    · exact ⟨v0, by rw [World.cell?_setCell_other _ _ _ _ (fun q => by injection q with q1 q2; exact e q2)]; exact e0⟩
theorem grp_blk {R0 W0 : Fp} {w0 w : World} {l : List Th} (h : Grp R0 W0 w0 l w) (cs : Array Value) (t : TypeId) : Grp R0 W0 w0 (l ++ [eBlk w.heap.size cs.size]) (w.alloc (Obj.cells cs t)) := by
  refine h.push (below_one w _) (R1 := fun k _ => k = w.heap.size) (W1 := fun k _ => k = w.heap.size) ⟨ownb_new (by rw [sz_alloc]; omega), by rw [sz_alloc]; omega, fun j hj => ⟨?_, ?_⟩⟩ (fun k j hk => Nat.le_of_eq hk.symm)
  · rw [World.cell?_alloc_at _ _ _ _ rfl]
    exact ⟨cs[j], Array.getElem?_eq_getElem hj⟩
  · rw [World.frozen?_alloc_at _ _ _ _ rfl]
theorem cell_all {w : World} {d : Nat} {a b c e v0 v1 v2 v3 : Value} (k0 : w.cell? ⟨d, 0, none⟩ = some v0) (k1 : w.cell? ⟨d, 1, none⟩ = some v1) (k2 : w.cell? ⟨d, 2, none⟩ = some v2) (k3 : w.cell? ⟨d, 3, none⟩ = some v3) :
    ((((w.setCell ⟨d, 0, none⟩ a).setCell ⟨d, 1, none⟩ b).setCell ⟨d, 2, none⟩ c).setCell ⟨d, 3, none⟩ e).cell? ⟨d, 0, none⟩ = some a ∧ ((((w.setCell ⟨d, 0, none⟩ a).setCell ⟨d, 1, none⟩ b).setCell ⟨d, 2, none⟩ c).setCell ⟨d, 3, none⟩ e).cell? ⟨d, 1, none⟩ = some b ∧
    ((((w.setCell ⟨d, 0, none⟩ a).setCell ⟨d, 1, none⟩ b).setCell ⟨d, 2, none⟩ c).setCell ⟨d, 3, none⟩ e).cell? ⟨d, 2, none⟩ = some c ∧ ((((w.setCell ⟨d, 0, none⟩ a).setCell ⟨d, 1, none⟩ b).setCell ⟨d, 2, none⟩ c).setCell ⟨d, 3, none⟩ e).cell? ⟨d, 3, none⟩ = some e := by
  have ne : ∀ (w : World) (i j : Nat) (v : Value), i ≠ j → (w.setCell ⟨d, i, none⟩ v).cell? ⟨d, j, none⟩ = w.cell? ⟨d, j, none⟩ := fun w i j v h => World.cell?_setCell_other _ _ _ _ (fun q => by injection q with q1 q2; exact h q2)
  refine ⟨?_, ?_, ?_, ?_⟩
  · rw [ne _ 3 0 _ (by decide), ne _ 2 0 _ (by decide), ne _ 1 0 _ (by decide), World.cell?_setCell_same _ _ _ k0]
  · rw [ne _ 3 1 _ (by decide), ne _ 2 1 _ (by decide), World.cell?_setCell_same _ _ _ ((ne _ 0 1 _ (by decide)).trans k1)]
  · rw [ne _ 3 2 _ (by decide), World.cell?_setCell_same _ _ _ ((ne _ 1 2 _ (by decide)).trans ((ne _ 0 2 _ (by decide)).trans k2))]
  · rw [World.cell?_setCell_same _ _ _ ((ne _ 2 3 _ (by decide)).trans ((ne _ 1 3 _ (by decide)).trans ((ne _ 0 3 _ (by decide)).trans k3)))]
def ixB (i : Nat) : Nat := if i < 4 then i else i + 1
theorem ixB_ne {i j : Nat} (h : i ≠ j) : ixB i ≠ ixB j := by
  unfold ixB
  by_cases h1 : i < 4
  · rw [if_pos h1]
    by_cases h2 : j < 4
    · rw [if_pos h2]; exact h
    · rw [if_neg h2]; omega
  · rw [if_neg h1]
    by_cases h2 : j < 4
    · rw [if_pos h2]; omega
    · rw [if_neg h2]; omega
theorem pick_blk {a b c d x e f g : Th} (i : Nat) (E : Th) (h : ([a, b, c, d] ++ [e] ++ [f] ++ [g])[i]? = some E) : ([a, b, c, d] ++ [x] ++ [e] ++ [f] ++ [g])[ixB i]? = some E := by
  match i, h with
  | 0, h => exact h
  | 1, h => exact h
  | 2, h => exact h
  | 3, h => exact h
  | 4, h => exact h
  | 5, h => exact h
  | 6, h => exact h
  | n + 7, h => simp at h
theorem four_kept {w w' : World} {d : Nat} (hd : d < w.heap.size) (h : Below w.heap.size w w') (h0 : ∃ v, w.cell? ⟨d, 0, none⟩ = some v) (h1 : ∃ v, w.cell? ⟨d, 1, none⟩ = some v) (h2 : ∃ v, w.cell? ⟨d, 2, none⟩ = some v) (h3 : ∃ v, w.cell? ⟨d, 3, none⟩ = some v) (f : ∀ j, j < 4 → w.frozen? ⟨d, j, none⟩ = false) :
    ((∃ v, w'.cell? ⟨d, 0, none⟩ = some v) ∧ (∃ v, w'.cell? ⟨d, 1, none⟩ = some v) ∧ (∃ v, w'.cell? ⟨d, 2, none⟩ = some v) ∧ ∃ v, w'.cell? ⟨d, 3, none⟩ = some v) ∧ ∀ j, j < 4 → w'.frozen? ⟨d, j, none⟩ = false :=
  ⟨⟨h0.imp fun v q => (h.cell (p := ⟨d, 0, none⟩) hd).trans q, h1.imp fun v q => (h.cell (p := ⟨d, 1, none⟩) hd).trans q, h2.imp fun v q => (h.cell (p := ⟨d, 2, none⟩) hd).trans q, h3.imp fun v q => (h.cell (p := ⟨d, 3, none⟩) hd).trans q⟩, fun j hj => (h.frozen (p := ⟨d, j, none⟩) hd).trans (f j hj)⟩
def RetCK (l : List Th) (R W : Fp) (w0 : World) (D : Dv) (w : World) (e : Ending) (w' : World) : Prop := ∃ c' p' u', e = .returned (.agg #[.pointer (some ⟨c', 0, none⟩), .pointer (some ⟨p', 0, none⟩), .pointer (some ⟨u', 0, none⟩), .bool D.one]) ∧ GrpC 4 R W w0 (l ++ [eC c' D.s D.a D.t] ++ [eP p' D.S] ++ [eU u' D.U]) w' ∧ Below w.heap.size w w'
theorem grpC_setBlk {n0 : Nat} {R0 W0 : Fp} {w0 w : World} {l : List Th} (h : GrpC n0 R0 W0 w0 l w) (i : Nat) {d n : Nat} (hi : l[i]? = some (eBlk d n)) (hin : n0 ≤ i) (j : Nat) (hj : j < n) (v : Value) : GrpC n0 R0 W0 w0 l (w.setCell ⟨d, j, none⟩ v) := by
  have := h.set (w' := w.setCell ⟨d, j, none⟩ v) (E' := eBlk d n) i hi hin (fun R W ⟨h1, h2, h3⟩ => ⟨⟨h1.up (by rw [sz_set]; exact Nat.le_refl _), by rw [sz_set]; exact h2, fun k hk => ⟨?_, by rw [World.frozen?_setCell]; exact (h3 k hk).2⟩⟩, cw_set (h1.1 j)⟩)
  · rwa [set_self hi] at this
  · obtain ⟨v0, e0⟩ := (h3 k hk).1
    by_cases e : j = k
    · subst e; exact ⟨v, World.cell?_setCell_same _ _ _ e0⟩
    · exact ⟨v0, by rw [World.cell?_setCell_other _ _ _ _ (fun q => by injection q with q1 q2; exact e q2)]; exact e0⟩
theorem grpC_blk {n0 : Nat} {R0 W0 : Fp} {w0 w : World} {l : List Th} (h : GrpC n0 R0 W0 w0 l w) (cs : Array Value) (t : TypeId) : GrpC n0 R0 W0 w0 (l ++ [eBlk w.heap.size cs.size]) (w.alloc (Obj.cells cs t)) := by
  refine h.push (below_one w _) (R1 := fun k _ => k = w.heap.size) (W1 := fun k _ => k = w.heap.size) ⟨ownb_new (by rw [sz_alloc]; omega), by rw [sz_alloc]; omega, fun j hj => ⟨?_, ?_⟩⟩ (fun k j hk => Nat.le_of_eq hk.symm)
  · rw [World.cell?_alloc_at _ _ _ _ rfl]
    exact ⟨cs[j], Array.getElem?_eq_getElem hj⟩
  · rw [World.frozen?_alloc_at _ _ _ _ rfl]
/-- A copy that shares nothing. -/
theorem cpd_new {E E' : Th} {R W R1 W1 : Fp} {w w' : World} (q : E.P R W w) (hb : Below w.heap.size w w') (hE : E'.P R1 W1 w') (hn : ∀ k j, R1 k j → w.heap.size ≤ k) : M.Cpd E E' R W w w' :=
  ⟨R1, W1, W, E.kept q (Cw.of_below (fun _ _ => False) hb) (fun _ _ h => h.elim), fun _ _ h => h, hE, fun k j h => hn k j (E'.wr hE k j h), fun k j h => .inl (hn k j h), fun k j h1 h2 => by
    have := hn k j h2
    have := E.rlt q k j (E.wr q k j h1)
    omega, hb⟩
section
variable {n0 : Nat} {R0 W0 : Fp} {w0 w : World} {l : List Th}
theorem copyC_d {R W : Fp} {c s a t : Nat} (q : (eC c s a t).P R W w) : Calls Tryz.prog 87 #[.pointer (some ⟨c, 0, none⟩)] w (fun e w' => ∃ c', e = .returned (.pointer (some ⟨c', 0, none⟩)) ∧ M.Cpd (eC c s a t) (eC c' s a t) R W w w') := by
  refine (K.copy_c w c s a t q.2.1).mono ?_
  rintro e w' ⟨c', rfl, h1, h2, hb⟩
  exact ⟨c', rfl, cpd_new q hb (eC_new h2 q.2.2) (fun k j hk => by rw [hk]; exact h1)⟩
theorem copyP_d {R W : Fp} {p : Nat} {S : P.St} (q : (eP p S).P R W w) : Calls Tryz.prog 88 #[.pointer (some ⟨p, 0, none⟩)] w (fun e w' => ∃ p', e = .returned (.pointer (some ⟨p', 0, none⟩)) ∧ M.Cpd (eP p S) (eP p' S) R W w w') := by
  refine (P.copy_c p S w (Lib.hid q.2.1)).mono ?_
  rintro e w' ⟨p', rfl, h1, h2, hb⟩
  exact ⟨p', rfl, cpd_new q hb (eP_new h2 q.2.2) (fun k j hk => by rw [hk]; exact h1)⟩
theorem copyU_d {R W : Fp} {u : Nat} {U : T.Ur} (q : (eU u U).P R W w) : Calls Tryz.prog 89 #[.pointer (some ⟨u, 0, none⟩)] w (fun e w' => ∃ u', e = .returned (.pointer (some ⟨u', 0, none⟩)) ∧ M.Cpd (eU u U) (eU u' U) R W w w') := by
  refine (T.copy_c R W u U w (Lib.hid q)).mono ?_
  rintro e w' ⟨u', R', W', V, rfl, i1, i2, i3, i4, i5, i6, hb⟩
  exact ⟨u', rfl, R', W', V, i1, i2, i3, i4, i5, i6, hb⟩
theorem copyC_k (h : GrpC n0 R0 W0 w0 l w) (i : Nat) {c s a t : Nat} (hi : l[i]? = some (eC c s a t)) (hin : i < n0) : Calls Tryz.prog 87 #[.pointer (some ⟨c, 0, none⟩)] w (fun e w' => ∃ c', e = .returned (.pointer (some ⟨c', 0, none⟩)) ∧ GrpC n0 R0 W0 w0 (l ++ [eC c' s a t]) w' ∧ Below w.heap.size w w') :=
  h.copyCall i hi hin (fun c' => .pointer (some ⟨c', 0, none⟩)) (fun c' => eC c' s a t) (fun R W q => copyC_d q)
theorem copyP_k (h : GrpC n0 R0 W0 w0 l w) (i : Nat) {p : Nat} {S : P.St} (hi : l[i]? = some (eP p S)) (hin : i < n0) : Calls Tryz.prog 88 #[.pointer (some ⟨p, 0, none⟩)] w (fun e w' => ∃ p', e = .returned (.pointer (some ⟨p', 0, none⟩)) ∧ GrpC n0 R0 W0 w0 (l ++ [eP p' S]) w' ∧ Below w.heap.size w w') :=
  h.copyCall i hi hin (fun c' => .pointer (some ⟨c', 0, none⟩)) (fun p' => eP p' S) (fun R W q => copyP_d q)
theorem copyU_k (h : GrpC n0 R0 W0 w0 l w) (i : Nat) {u : Nat} {U : T.Ur} (hi : l[i]? = some (eU u U)) (hin : i < n0) : Calls Tryz.prog 89 #[.pointer (some ⟨u, 0, none⟩)] w (fun e w' => ∃ u', e = .returned (.pointer (some ⟨u', 0, none⟩)) ∧ GrpC n0 R0 W0 w0 (l ++ [eU u' U]) w' ∧ Below w.heap.size w w') :=
  h.copyCall i hi hin (fun c' => .pointer (some ⟨c', 0, none⟩)) (fun u' => eU u' U) (fun R W q => copyU_d q)
end
theorem copied_k (b o c p u : Nat) (D : Dv) (R W : Fp) (w0 w : World) (hG : Hid (GrpC 4 R W w0 (dl b o c p u D) w)) : Calls Tryz.prog 48 #[.pointer (some ⟨b, o, none⟩)] w (RetCK (dl b o c p u D) R W w0 D w) := by
  obtain ⟨R1, W1, -, -, -, h4, c0, c1, c2, c3, f0, f1, f2, f3⟩ := dl_cells hG.out.grp
  have hnb : ¬ w.heap.size = b := by omega
  go_enter Tryz.func48, Tryz.ntmps48
  go_wp2_with fail
  have hGA := Lib.hid (grpC_blk hG.out #[Value.pointer none, Value.pointer none, Value.pointer none, Value.bool false] 61)
  have hbA : Below w.heap.size w (w.alloc (Obj.cells #[Value.pointer none, Value.pointer none, Value.pointer none, Value.bool false] 61)) := below_one w _
  generalize (w.alloc (Obj.cells #[Value.pointer none, Value.pointer none, Value.pointer none, Value.bool false] 61)) = wA at *
  change Hid (GrpC 4 R W w0 (dl b o c p u D ++ [eBlk w.heap.size 4]) wA) at hGA
  go_region_held3 (fun w' => w'.cell? ⟨b, o, none⟩ = some (.pointer (some ⟨c, 0, none⟩)) ∧ w'.cell? ⟨b, o + 1, none⟩ = some (.pointer (some ⟨p, 0, none⟩)) ∧ w'.cell? ⟨b, o + 2, none⟩ = some (.pointer (some ⟨u, 0, none⟩)) ∧ w'.cell? ⟨b, o + 3, none⟩ = some (.bool D.one)) (exact cells4 h4 c0 c1 c2 c3 (by repeat (first | (with_reducible first | exact Below.refl _ _ | assumption | exact Nat.le_refl _ | refine Below.drew ?_ | refine Below.alloc ?_ ?_ _ | refine Below.setCell ?_ ?_ _ | refine le_alloc ?_ | refine le_set ?_ | refine le_drew ?_ | refine below_step (by assumption) ?_ ?_ | refine le_below (by assumption) ?_) | (dsimp only; omega)))) (first
    | (go_at_call 87; refine (copyC_k (hGA.out.below (by repeat (first | (with_reducible first | exact Below.refl _ _ | assumption | exact Nat.le_refl _ | refine Below.drew ?_ | refine Below.alloc ?_ ?_ _ | refine Below.setCell ?_ ?_ _ | refine le_alloc ?_ | refine le_set ?_ | refine le_drew ?_ | refine below_step (by assumption) ?_ ?_ | refine le_below (by assumption) ?_) | (dsimp only; omega)))) 1 rfl (by decide)).mono ?_; rintro e w1 ⟨c', rfl, g1, hb1⟩; have G1 := Lib.hid g1; clear g1)
    | (go_at_call 88; refine (copyP_k (G1.out.below (by repeat (first | (with_reducible first | exact Below.refl _ _ | assumption | exact Nat.le_refl _ | refine Below.drew ?_ | refine Below.alloc ?_ ?_ _ | refine Below.setCell ?_ ?_ _ | refine le_alloc ?_ | refine le_set ?_ | refine le_drew ?_ | refine below_step (by assumption) ?_ ?_ | refine le_below (by assumption) ?_) | (dsimp only; omega)))) 2 rfl (by decide)).mono ?_; rintro e w2 ⟨p', rfl, g2, hb2⟩; have G2 := Lib.hid g2; clear g2)
    | (go_at_call 89; refine (copyU_k (G2.out.below (by repeat (first | (with_reducible first | exact Below.refl _ _ | assumption | exact Nat.le_refl _ | refine Below.drew ?_ | refine Below.alloc ?_ ?_ _ | refine Below.setCell ?_ ?_ _ | refine le_alloc ?_ | refine le_set ?_ | refine le_drew ?_ | refine below_step (by assumption) ?_ ?_ | refine le_below (by assumption) ?_) | (dsimp only; omega)))) 3 rfl (by decide)).mono ?_; rintro e w3 ⟨u', rfl, g3, hb3⟩; have G3 := Lib.hid g3; clear g3; obtain ⟨_, _, -, -, q⟩ := G3.out.grp.get 4 rfl; obtain ⟨⟨v0, k0⟩, j0⟩ := q 0 (by decide); obtain ⟨⟨v1, k1⟩, j1⟩ := q 1 (by decide); obtain ⟨⟨v2, k2⟩, j2⟩ := q 2 (by decide); obtain ⟨⟨v3, k3⟩, j3⟩ := q 3 (by decide); clear q))
  all_goals
    go_wp2_with fail
    have G4 := grpC_setBlk (grpC_setBlk (grpC_setBlk (grpC_setBlk G3.out 4 rfl (by decide) 0 (by decide) (.pointer (some ⟨c', 0, none⟩))) 4 rfl (by decide) 1 (by decide) (.pointer (some ⟨p', 0, none⟩))) 4 rfl (by decide) 2 (by decide) (.pointer (some ⟨u', 0, none⟩))) 4 rfl (by decide) 3 (by decide) (.bool D.one)
    have x0 := cell_all (a := Value.pointer (some ⟨c', 0, none⟩)) (b := Value.pointer (some ⟨p', 0, none⟩)) (c := Value.pointer (some ⟨u', 0, none⟩)) (e := Value.bool D.one) k0 k1 k2 k3
    have hb9 : Below w.heap.size w ((((w3.setCell ⟨w.heap.size, 0, none⟩ (.pointer (some ⟨c', 0, none⟩))).setCell ⟨w.heap.size, 1, none⟩ (.pointer (some ⟨p', 0, none⟩))).setCell ⟨w.heap.size, 2, none⟩ (.pointer (some ⟨u', 0, none⟩))).setCell ⟨w.heap.size, 3, none⟩ (.bool D.one)) := (by repeat (first | (with_reducible first | exact Below.refl _ _ | assumption | exact Nat.le_refl _ | refine Below.drew ?_ | refine Below.alloc ?_ ?_ _ | refine Below.setCell ?_ ?_ _ | refine le_alloc ?_ | refine le_set ?_ | refine le_drew ?_ | refine below_step (by assumption) ?_ ?_ | refine le_below (by assumption) ?_) | (dsimp only; omega)))
    clear k0 k1 k2 k3
    generalize (((w3.setCell ⟨w.heap.size, 0, none⟩ (.pointer (some ⟨c', 0, none⟩))).setCell ⟨w.heap.size, 1, none⟩ (.pointer (some ⟨p', 0, none⟩))).setCell ⟨w.heap.size, 2, none⟩ (.pointer (some ⟨u', 0, none⟩))).setCell ⟨w.heap.size, 3, none⟩ (.bool D.one) = wF at *
    obtain ⟨k0, k1, k2, k3⟩ := x0
    refine bodyPost_ret (v := .agg #[.pointer (some ⟨c', 0, none⟩), .pointer (some ⟨p', 0, none⟩), .pointer (some ⟨u', 0, none⟩), .bool D.one]) (by simp [results, Tryz.results48, go_sem, k0, k1, k2, k3] <;> (first | rfl | (repeat' (first | rfl | apply And.intro)))) rfl ?_
    refine ⟨c', p', u', rfl, G4.pick _ ixB (fun i E h => pick_blk i E h) (fun i j hi hj hne => ixB_ne hne) (by show 4 ≤ 7; decide) (fun i hi => by unfold ixB; rw [if_pos hi]; exact hi) (fun i hi => by unfold ixB; split <;> omega), hb9⟩
abbrev dr (b o c p u : Nat) (D : Dv) : List Th := [ro (eDv b o c p u D.one), ro (eC c D.s D.a D.t), ro (eP p D.S), ro (eU u D.U)]
theorem dr_cells {R0 W0 : Fp} {w0 w : World} {b o c p u : Nat} {D : Dv} {l : List Th} (h : Grp R0 W0 w0 (ro (eDv b o c p u D.one) :: l) w) : ∃ R V : Fp, (eDv b o c p u D.one).P R V w := by
  obtain ⟨R, W, -, V, q⟩ := h.get 0 rfl
  exact ⟨R, V, q⟩
theorem copied_r (b o c p u : Nat) (D : Dv) (R W : Fp) (w0 w : World) (hG : Hid (Grp R W w0 (dr b o c p u D) w)) : Calls Tryz.prog 48 #[.pointer (some ⟨b, o, none⟩)] w (RetCD (dr b o c p u D) R W w0 D w) := by
  obtain ⟨R1, V1, -, -, -, h4, c0, c1, c2, c3, f0, f1, f2, f3⟩ := dr_cells hG.out
  have hnb : ¬ w.heap.size = b := by omega
  go_enter Tryz.func48, Tryz.ntmps48
  go_wp2_with fail
  have hGA := Lib.hid (grp_blk hG.out #[Value.pointer none, Value.pointer none, Value.pointer none, Value.bool false] 61)
  have hbA : Below w.heap.size w (w.alloc (Obj.cells #[Value.pointer none, Value.pointer none, Value.pointer none, Value.bool false] 61)) := below_one w _
  generalize (w.alloc (Obj.cells #[Value.pointer none, Value.pointer none, Value.pointer none, Value.bool false] 61)) = wA at *
  change Hid (Grp R W w0 (dr b o c p u D ++ [eBlk w.heap.size 4]) wA) at hGA
  go_region_held3 (fun w' => w'.cell? ⟨b, o, none⟩ = some (.pointer (some ⟨c, 0, none⟩)) ∧ w'.cell? ⟨b, o + 1, none⟩ = some (.pointer (some ⟨p, 0, none⟩)) ∧ w'.cell? ⟨b, o + 2, none⟩ = some (.pointer (some ⟨u, 0, none⟩)) ∧ w'.cell? ⟨b, o + 3, none⟩ = some (.bool D.one)) (exact cells4 h4 c0 c1 c2 c3 (by repeat (first | (with_reducible first | exact Below.refl _ _ | assumption | exact Nat.le_refl _ | refine Below.drew ?_ | refine Below.alloc ?_ ?_ _ | refine Below.setCell ?_ ?_ _ | refine le_alloc ?_ | refine le_set ?_ | refine le_drew ?_ | refine below_step (by assumption) ?_ ?_ | refine le_below (by assumption) ?_) | (dsimp only; omega)))) (first
    | (go_at_call 87; refine (copyC_r (hGA.out.below (by repeat (first | (with_reducible first | exact Below.refl _ _ | assumption | exact Nat.le_refl _ | refine Below.drew ?_ | refine Below.alloc ?_ ?_ _ | refine Below.setCell ?_ ?_ _ | refine le_alloc ?_ | refine le_set ?_ | refine le_drew ?_ | refine below_step (by assumption) ?_ ?_ | refine le_below (by assumption) ?_) | (dsimp only; omega)))) 1 rfl).mono ?_; rintro e w1 ⟨c', rfl, g1, hb1⟩; have G1 := Lib.hid g1; clear g1)
    | (go_at_call 88; refine (copyP_r (G1.out.below (by repeat (first | (with_reducible first | exact Below.refl _ _ | assumption | exact Nat.le_refl _ | refine Below.drew ?_ | refine Below.alloc ?_ ?_ _ | refine Below.setCell ?_ ?_ _ | refine le_alloc ?_ | refine le_set ?_ | refine le_drew ?_ | refine below_step (by assumption) ?_ ?_ | refine le_below (by assumption) ?_) | (dsimp only; omega)))) 2 rfl).mono ?_; rintro e w2 ⟨p', rfl, g2, hb2⟩; have G2 := Lib.hid g2; clear g2)
    | (go_at_call 89; refine (copyU_r (G2.out.below (by repeat (first | (with_reducible first | exact Below.refl _ _ | assumption | exact Nat.le_refl _ | refine Below.drew ?_ | refine Below.alloc ?_ ?_ _ | refine Below.setCell ?_ ?_ _ | refine le_alloc ?_ | refine le_set ?_ | refine le_drew ?_ | refine below_step (by assumption) ?_ ?_ | refine le_below (by assumption) ?_) | (dsimp only; omega)))) 3 rfl).mono ?_; rintro e w3 ⟨u', rfl, g3, hb3⟩; have G3 := Lib.hid g3; clear g3; obtain ⟨_, _, -, -, q⟩ := G3.out.get 4 rfl; obtain ⟨⟨v0, k0⟩, j0⟩ := q 0 (by decide); obtain ⟨⟨v1, k1⟩, j1⟩ := q 1 (by decide); obtain ⟨⟨v2, k2⟩, j2⟩ := q 2 (by decide); obtain ⟨⟨v3, k3⟩, j3⟩ := q 3 (by decide); clear q))
  all_goals
    go_wp2_with fail
    have G4 := grp_setBlk (grp_setBlk (grp_setBlk (grp_setBlk G3.out 4 rfl 0 (by decide) (.pointer (some ⟨c', 0, none⟩))) 4 rfl 1 (by decide) (.pointer (some ⟨p', 0, none⟩))) 4 rfl 2 (by decide) (.pointer (some ⟨u', 0, none⟩))) 4 rfl 3 (by decide) (.bool D.one)
    have x0 := cell_all (a := Value.pointer (some ⟨c', 0, none⟩)) (b := Value.pointer (some ⟨p', 0, none⟩)) (c := Value.pointer (some ⟨u', 0, none⟩)) (e := Value.bool D.one) k0 k1 k2 k3
    have hb9 : Below w.heap.size w ((((w3.setCell ⟨w.heap.size, 0, none⟩ (.pointer (some ⟨c', 0, none⟩))).setCell ⟨w.heap.size, 1, none⟩ (.pointer (some ⟨p', 0, none⟩))).setCell ⟨w.heap.size, 2, none⟩ (.pointer (some ⟨u', 0, none⟩))).setCell ⟨w.heap.size, 3, none⟩ (.bool D.one)) := (by repeat (first | (with_reducible first | exact Below.refl _ _ | assumption | exact Nat.le_refl _ | refine Below.drew ?_ | refine Below.alloc ?_ ?_ _ | refine Below.setCell ?_ ?_ _ | refine le_alloc ?_ | refine le_set ?_ | refine le_drew ?_ | refine below_step (by assumption) ?_ ?_ | refine le_below (by assumption) ?_) | (dsimp only; omega)))
    clear k0 k1 k2 k3
    generalize (((w3.setCell ⟨w.heap.size, 0, none⟩ (.pointer (some ⟨c', 0, none⟩))).setCell ⟨w.heap.size, 1, none⟩ (.pointer (some ⟨p', 0, none⟩))).setCell ⟨w.heap.size, 2, none⟩ (.pointer (some ⟨u', 0, none⟩))).setCell ⟨w.heap.size, 3, none⟩ (.bool D.one) = wF at *
    obtain ⟨k0, k1, k2, k3⟩ := x0
    refine bodyPost_ret (v := .agg #[.pointer (some ⟨c', 0, none⟩), .pointer (some ⟨p', 0, none⟩), .pointer (some ⟨u', 0, none⟩), .bool D.one]) (by simp [results, Tryz.results48, go_sem, k0, k1, k2, k3] <;> (first | rfl | (repeat' (first | rfl | apply And.intro)))) rfl ?_
    refine ⟨c', p', u', rfl, G4.pick _ ixB (fun i E h => pick_blk i E h) (fun i j hi hj hne => ixB_ne hne), hb9⟩
theorem grp_tail {R0 W0 : Fp} {w0 w : World} {l m : List Th} (h : Grp R0 W0 w0 (l ++ m) w) : Grp R0 W0 w0 m w :=
  h.pick m (fun i => l.length + i) (fun i E hi => by rw [List.getElem?_append_right (Nat.le_add_right _ _), Nat.add_sub_cancel_left]; exact hi) (fun i j _ _ hne => by omega)
theorem pick4 {a b c d : Th} {l : List Th} (i : Nat) (E : Th) (h : ([a, b, c, d])[i]? = some E) : (a :: b :: c :: d :: l)[id i]? = some E := by
  match i, h with
  | 0, h => exact h
  | 1, h => exact h
  | 2, h => exact h
  | 3, h => exact h
  | n + 4, h => simp at h
theorem eDv_new {w : World} {c p u : Nat} {one : Bool} {t : TypeId} : (eDv w.heap.size 0 c p u one).P (fun k _ => k = w.heap.size) (fun k _ => k = w.heap.size) (w.alloc (Obj.cells #[.pointer (some ⟨c, 0, none⟩), .pointer (some ⟨p, 0, none⟩), .pointer (some ⟨u, 0, none⟩), .bool one] t)) := by
  refine ⟨fun j _ => rfl, fun _ _ q => q, fun k j q => by rw [q, sz_alloc]; omega, by rw [sz_alloc]; omega, ?_, ?_, ?_, ?_, ?_, ?_, ?_, ?_⟩ <;> first
    | (rw [World.cell?_alloc_at _ _ _ _ rfl]; rfl)
    | (rw [World.frozen?_alloc_at _ _ _ _ rfl])
theorem have_r (b o c p u : Nat) (D : Dv) (R W : Fp) (w0 w : World) (hG : Hid (Grp R W w0 (dr b o c p u D) w)) (x : Nat) (z : Int) (hx : Hid (x < W64)) (hz : Hid ((Lit.int .i64 z).wf = true)) : Calls Tryz.prog 58 #[.pointer (some ⟨b, o, none⟩), .int .u64 x, .int .i64 z] w (fun e w' => e = .returned (.bool (okD x z)) ∧ Grp R W w0 (dr b o c p u D) w') := by
  go_enter Tryz.func58, Tryz.ntmps58
  go_wp2_with fail
  refine (copied_r b o c p u D R W w0 _ (Lib.hid (hG.out.below (by repeat (first | (with_reducible first | exact Below.refl _ _ | assumption | exact Nat.le_refl _ | refine Below.drew ?_ | refine Below.alloc ?_ ?_ _ | refine Below.setCell ?_ ?_ _ | refine le_alloc ?_ | refine le_set ?_ | refine le_drew ?_ | refine below_step (by assumption) ?_ ?_ | refine le_below (by assumption) ?_) | (dsimp only; omega)))))).mono ?_; rintro e w1 ⟨c', p', u', rfl, g1, hb1⟩
  have G2 := Lib.hid (g1.push (E := eDv w1.heap.size 0 c' p' u' D.one) (below_one w1 _) (eDv_new (t := 61)) (fun k j hk => Nat.le_of_eq hk.symm))
  clear g1 hb1 hG
  go_wp2_with fail
  generalize w1.alloc (Obj.cells #[Value.pointer (some ⟨c', 0, none⟩), Value.pointer (some ⟨p', 0, none⟩), Value.pointer (some ⟨u', 0, none⟩), Value.bool D.one] 61) = wA at *
  obtain ⟨R1, W1, hD⟩ := G2.out.get 7 rfl
  rcases dvK_cases x with ⟨e, h⟩ | ⟨e, h⟩ | ⟨e, h⟩ | ⟨e, h⟩
  · have e2 : okD x z = (decide (K.kd (farN x 33554432) z ≠ 0)) := by unfold okD; rw [e]; rw [if_pos rfl]
    have HE := Lib.hid e2
    have HF := Lib.hid (find_1 w1.heap.size 0 c' p' u' D.one _ _ x hx h _ (Lib.hid hD))
    clear e2 h e hx hD
    have hfl := far_lt x 33554432
    generalize farN x 33554432 = far at *
    have HR : Hid (Calls Tryz.prog 119 #[.pointer (some ⟨c', 0, none⟩), .int .u64 (far : Nat), .int .i64 z] wA (fun e w' => e = .returned (.tuple #[.int .u64 (K.rdK (K.kd far z) D.s D.a D.t : Nat), .bool (decide (K.kd far z ≠ 0))]) ∧ Grp R W w0 _ w')) := G2.out.step 4 rfl _ (fun R W q => readC q far z hfl hz.out)
    clear hz hfl G2
    generalize K.rdK (K.kd far z) D.s D.a D.t = vv at *
    generalize (decide (K.kd far z ≠ 0)) = bb at *
    refine HF.out.mono ?_; rintro e w2 ⟨rfl, e1⟩; subst e1
    go_wp2_with fail
    refine HR.out.mono ?_; rintro e w3 ⟨rfl, g3⟩
    have G3 := Lib.hid g3; clear g3
    go_wp2_with fail
    go_ret
    exact ⟨congrArg (fun q => Ending.returned (Value.bool q)) HE.out.symm, G3.out.pick (dr b o c p u D) id (fun i E h => pick4 i E h) (fun i j _ _ hne => hne)⟩
  · have e2 : okD x z = (decide (P.pk (farN x 201326592) z ≠ 0)) := by unfold okD; rw [e]; rw [if_neg (by decide), if_pos rfl]
    have HE := Lib.hid e2
    have HF := Lib.hid (find_2 w1.heap.size 0 c' p' u' D.one _ _ x hx h _ (Lib.hid hD))
    clear e2 h e hx hD
    have hfl := far_lt x 201326592
    generalize farN x 201326592 = far at *
    have HR : Hid (Calls Tryz.prog 122 #[.pointer (some ⟨p', 0, none⟩), .int .u64 (far : Nat), .int .i64 z] wA (fun e w' => e = .returned (.tuple #[.int .u64 (P.valP (P.pk far z) D.S : Nat), .bool (decide (P.pk far z ≠ 0))]) ∧ Grp R W w0 _ w')) := G2.out.step 5 rfl _ (fun R W q => readP q far z)
    clear hz hfl G2
    generalize P.valP (P.pk far z) D.S = vv at *
    generalize (decide (P.pk far z ≠ 0)) = bb at *
    refine HF.out.mono ?_; rintro e w2 ⟨rfl, e1⟩; subst e1
    go_wp2_with fail
    refine HR.out.mono ?_; rintro e w3 ⟨rfl, g3⟩
    have G3 := Lib.hid g3; clear g3
    go_wp2_with fail
    go_ret
    exact ⟨congrArg (fun q => Ending.returned (Value.bool q)) HE.out.symm, G3.out.pick (dr b o c p u D) id (fun i E h => pick4 i E h) (fun i j _ _ hne => hne)⟩
  · have e2 : okD x z = (T.okK (T.kd (farN x 268435456) z)) := by unfold okD; rw [e]; rw [if_neg (by decide), if_neg (by decide), if_pos rfl]
    have HE := Lib.hid e2
    have HF := Lib.hid (find_3 w1.heap.size 0 c' p' u' D.one _ _ x hx h _ (Lib.hid hD))
    clear e2 h e hx hD
    have hfl := far_lt x 268435456
    generalize farN x 268435456 = far at *
    have HR : Hid (Calls Tryz.prog 128 #[.pointer (some ⟨u', 0, none⟩), .int .u64 (far : Nat), .int .i64 z] wA (fun e w' => e = .returned (.tuple #[.int .u64 (T.valK (T.kd far z) D.U : Nat), .bool (T.okK (T.kd far z))]) ∧ Grp R W w0 _ w')) := G2.out.step 6 rfl _ (fun R W q => readU q far z)
    clear hz hfl G2
    generalize T.valK (T.kd far z) D.U = vv at *
    generalize (T.okK (T.kd far z)) = bb at *
    refine HF.out.mono ?_; rintro e w2 ⟨rfl, e1⟩; subst e1
    go_wp2_with fail
    refine HR.out.mono ?_; rintro e w3 ⟨rfl, g3⟩
    have G3 := Lib.hid g3; clear g3
    go_wp2_with fail
    go_ret
    exact ⟨congrArg (fun q => Ending.returned (Value.bool q)) HE.out.symm, G3.out.pick (dr b o c p u D) id (fun i E h => pick4 i E h) (fun i j _ _ hne => hne)⟩
  · have e2 : okD x z = false := by unfold okD; rw [e]; rw [if_neg (by decide), if_neg (by decide), if_neg (by decide)]
    have HE := Lib.hid e2
    have HF := Lib.hid (find_0 w1.heap.size 0 c' p' u' D.one _ _ x hx h _ (Lib.hid hD))
    clear e2 h e hx hD
    refine HF.out.mono ?_; rintro e w2 ⟨rfl, e1⟩; subst e1
    go_wp2_with fail
    refine (nread x z _).mono ?_; rintro e w3 ⟨rfl, hb⟩
    have HB3 := Lib.hid hb; clear hb
    go_wp2_with fail
    go_ret
    exact ⟨congrArg (fun q => Ending.returned (Value.bool q)) HE.out.symm, (G2.out.below HB3.out).pick (dr b o c p u D) id (fun i E h => pick4 i E h) (fun i j _ _ hne => hne)⟩
/-- An input. -/
structure Ev where
  cyc : Int
  kind : Int
  n : Int
  v : Nat
def evV (e : Ev) : Value := .agg #[.int .i64 e.cyc, .int .i64 e.kind, .int .i64 e.n, .int .u64 (e.v : Nat)]
/-- One that may come, whenever. -/
def OkE (e : Ev) : Prop := (e.kind = 1 ∧ e.n = 0 ∧ e.v ≤ 255) ∨ (e.kind = 2 ∧ 1 ≤ e.n ∧ e.n ≤ 8 ∧ e.v ≤ 1)
def Dv.give (D : Dv) (v : Nat) : Dv := { D with U := T.giveF D.U v }
def Dv.raise (D : Dv) (v : Nat) : Dv := { D with one := v == 1 }
def Dv.line (D : Dv) (n v : Nat) : Dv := { D with S := P.comeF (D.S.setUp n (v == 1)) n }
def Dv.come (D : Dv) (e : Ev) : Dv := if e.kind = 1 then (D.give e.v).fol else if e.n = 1 then (D.raise e.v).fol else D.line e.n.toNat e.v
theorem eDv_set {R W : Fp} {w : World} {b o c p u : Nat} {one : Bool} (q : (eDv b o c p u one).P R W w) (one' : Bool) : (eDv b o c p u one').P (Up R w (w.setCell ⟨b, o + 3, none⟩ (.bool one'))) (Up W w (w.setCell ⟨b, o + 3, none⟩ (.bool one'))) (w.setCell ⟨b, o + 3, none⟩ (.bool one')) ∧ Cw W w (w.setCell ⟨b, o + 3, none⟩ (.bool one')) := by
  obtain ⟨h1, h2, h3, h4, c0, c1, c2, c3, f0, f1, f2, f3⟩ := q
  have ne : ∀ j, j < 3 → (w.setCell ⟨b, o + 3, none⟩ (.bool one')).cell? ⟨b, o + j, none⟩ = w.cell? ⟨b, o + j, none⟩ := fun j hj => World.cell?_setCell_other _ _ _ _ (fun e => by injection e with e1 e2; omega)
  refine ⟨⟨fun j hj => .inl (h1 j hj), fun k j h => h.imp (h2 k j) id, fun k j h => by rw [sz_set]; exact h.elim (h3 k j) (fun q => by rw [sz_set] at q; omega), by rw [sz_set]; exact h4, (ne 0 (by decide)).trans c0, (ne 1 (by decide)).trans c1, (ne 2 (by decide)).trans c2, World.cell?_setCell_same _ _ _ c3, ?_, ?_, ?_, ?_⟩, cw_set (h1 3 (by decide))⟩ <;> (rw [World.frozen?_setCell]; assumption)
theorem come_byte (b o c p u : Nat) (D : Dv) (R W : Fp) (w0 w : World) (hG : Hid (Grp R W w0 (dl b o c p u D) w)) (y : Int) (v : Nat) (hv : Hid (v ≤ 255)) : Calls Tryz.prog 53 #[.pointer (some ⟨b, o, none⟩), .agg #[.int .i64 y, .int .i64 1, .int .i64 0, .int .u64 (v : Nat)]] w (fun e w' => e = .returned (.tuple #[]) ∧ Grp R W w0 (dl b o c p u (D.give v).fol) w') := by
  obtain ⟨R1, W1, -, -, -, h4, c0, c1, c2, c3, f0, f1, f2, f3⟩ := dl_cells hG.out
  have hw : IntKind.u8.wrap (v : Int) = (v : Int) := by rw [IntKind.wrap_u8]; have := hv.out; omega
  have HR : Hid (∀ w1, Below w.heap.size w w1 → Calls Tryz.prog 90 #[.pointer (some ⟨u, 0, none⟩), .int .u8 (v : Nat)] w1 (fun e w' => e = .returned (.tuple #[]) ∧ Grp R W w0 (dl b o c p u (D.give v)) w')) := fun w1 hb => (hG.out.below hb).step 3 rfl _ (fun R W q => giveU q v (Nat.lt_succ_of_le hv.out))
  have k2 : ((w.alloc (Obj.cells #[.int .i64 y, .int .i64 1, .int .i64 0, .int .u64 (v : Nat)] 38)).drew).cell? ⟨b, o + 2, none⟩ = some (.pointer (some ⟨u, 0, none⟩)) := ((below_one w (Obj.cells #[.int .i64 y, .int .i64 1, .int .i64 0, .int .u64 (v : Nat)] 38)).drew.cell (p := ⟨b, o + 2, none⟩) h4).trans c2
  have k3 : ((w.alloc (Obj.cells #[.int .i64 y, .int .i64 1, .int .i64 0, .int .u64 (v : Nat)] 38)).drew).cell? ⟨w.heap.size, 3, none⟩ = some (.int .u64 (v : Nat)) := World.cell?_alloc_at _ _ _ _ rfl
  have hbq : Below w.heap.size w ((w.alloc (Obj.cells #[.int .i64 y, .int .i64 1, .int .i64 0, .int .u64 (v : Nat)] 38)).drew) := (below_one w _).drew
  clear hv
  go_enter Tryz.func53, Tryz.ntmps53
  go_wp2_with fail
  refine wp_region_still_tail 7 (by kernel_rfl) (by kernel_rfl) ?_
  simp only [List.take_succ_cons, List.take_zero, List.drop_succ_cons, List.drop_zero]
  change wpStill _ _ (w.alloc (Obj.cells #[.int .i64 y, .int .i64 1, .int .i64 0, .int .u64 (v : Nat)] 38)).drew (fun a' => wpList _ _ _ _ a' (w.alloc (Obj.cells #[.int .i64 y, .int .i64 1, .int .i64 0, .int .u64 (v : Nat)] 38)).drew) _ _
  generalize (w.alloc (Obj.cells #[.int .i64 y, .int .i64 1, .int .i64 0, .int .u64 (v : Nat)] 38)).drew = wq at *
  repeat still_step
  refine wpStill_nil ?_
  go_wp2_with fail
  refine (HR.out _ hbq).mono ?_; rintro e w1 ⟨rfl, g1⟩
  have G1 := Lib.hid g1; clear g1
  go_wp2_with fail
  refine (follow_g b o c p u (D.give v) R W w0 w1 G1).mono ?_; rintro e w2 ⟨rfl, g2⟩
  have G2 := Lib.hid g2; clear g2
  go_wp2_with fail
  go_end0
  exact ⟨rfl, G2.out⟩
theorem come_one (b o c p u : Nat) (D : Dv) (R W : Fp) (w0 w : World) (hG : Hid (Grp R W w0 (dl b o c p u D) w)) (y : Int) (v : Nat) (hv : Hid (v ≤ 1)) : Calls Tryz.prog 53 #[.pointer (some ⟨b, o, none⟩), .agg #[.int .i64 y, .int .i64 2, .int .i64 1, .int .u64 (v : Nat)]] w (fun e w' => e = .returned (.tuple #[]) ∧ Grp R W w0 (dl b o c p u (D.raise v).fol) w') := by
  obtain ⟨R1, W1, -, -, -, h4, c0, c1, c2, c3, f0, f1, f2, f3⟩ := dl_cells hG.out
  have HB : Hid (((v : Int) == 1) = (v == 1)) := by show _ = _; have := hv.out; have : v = 0 ∨ v = 1 := by omega
                                                    rcases this with rfl | rfl <;> rfl
  have HR : Hid (∀ w1, Below w.heap.size w w1 → Grp R W w0 (dl b o c p u (D.raise v)) (w1.setCell ⟨b, o + 3, none⟩ (.bool (v == 1)))) := fun w1 hb => (hG.out.below hb).set 0 rfl (fun R W q => eDv_set q (v == 1))
  clear hv
  go_enter Tryz.func53, Tryz.ntmps53
  go_wp2_with fail
  have g1 := (HR.out w (Below.refl _ _)).below (below_one _ (Obj.cells #[.int .i64 y, .int .i64 2, .int .i64 1, .int .u64 (v : Nat)] 38))
  rw [← HB.out] at g1
  refine (follow_g b o c p u (D.raise v) R W w0 _ (Lib.hid g1)).mono ?_; rintro e w2 ⟨rfl, g2⟩
  have G2 := Lib.hid g2; clear g2 g1
  go_wp2_with fail
  go_end0
  exact ⟨rfl, G2.out⟩
theorem come_line (b o c p u : Nat) (D : Dv) (R W : Fp) (w0 w : World) (hG : Hid (Grp R W w0 (dl b o c p u D) w)) (y : Int) (n v : Nat) (hv : Hid (v ≤ 1)) (hn : Hid (2 ≤ n ∧ n ≤ 8)) : Calls Tryz.prog 53 #[.pointer (some ⟨b, o, none⟩), .agg #[.int .i64 y, .int .i64 2, .int .i64 (n : Nat), .int .u64 (v : Nat)]] w (fun e w' => e = .returned (.tuple #[]) ∧ Grp R W w0 (dl b o c p u (D.line n v)) w') := by
  obtain ⟨R1, W1, -, -, -, h4, c0, c1, c2, c3, f0, f1, f2, f3⟩ := dl_cells hG.out
  have hB : ((v : Int) == 1) = (v == 1) := by
    have := hv.out
    have : v = 0 ∨ v = 1 := by omega
    rcases this with rfl | rfl <;> rfl
  have d1 : ((n : Int) == 1) = false := by rw [beq_eq_false_iff_ne]; have := hn.out; omega
  have HR : Hid (∀ w1, Below w.heap.size w w1 → Calls Tryz.prog 91 #[.pointer (some ⟨p, 0, none⟩), .int .i64 (n : Nat), .bool (v == 1)] w1 (fun e w' => e = .returned (.bool true) ∧ Grp R W w0 (dl b o c p u (D.line n v)) w')) := fun w1 hb => (hG.out.below hb).step 2 rfl _ (fun R W q => lineP q n ⟨by have := hn.out; omega, by have := hn.out; omega⟩ (v == 1))
  have hbq : Below w.heap.size w ((w.alloc (Obj.cells #[.int .i64 y, .int .i64 2, .int .i64 (n : Nat), .int .u64 (v : Nat)] 38)).drew) := (below_one w _).drew
  have k2 : ((w.alloc (Obj.cells #[.int .i64 y, .int .i64 2, .int .i64 (n : Nat), .int .u64 (v : Nat)] 38)).drew).cell? ⟨b, o + 1, none⟩ = some (.pointer (some ⟨p, 0, none⟩)) := ((below_one w (Obj.cells #[.int .i64 y, .int .i64 2, .int .i64 (n : Nat), .int .u64 (v : Nat)] 38)).drew.cell (p := ⟨b, o + 1, none⟩) h4).trans c1
  have k3 : ((w.alloc (Obj.cells #[.int .i64 y, .int .i64 2, .int .i64 (n : Nat), .int .u64 (v : Nat)] 38)).drew).cell? ⟨w.heap.size, 2, none⟩ = some (.int .i64 (n : Nat)) := World.cell?_alloc_at _ _ _ _ rfl
  clear hv hn
  go_enter Tryz.func53, Tryz.ntmps53
  go_wp2_with fail
  refine wp_region_still_tail 7 (by kernel_rfl) (by kernel_rfl) ?_
  simp only [List.take_succ_cons, List.take_zero, List.drop_succ_cons, List.drop_zero]
  change wpStill _ _ (w.alloc (Obj.cells #[.int .i64 y, .int .i64 2, .int .i64 (n : Nat), .int .u64 (v : Nat)] 38)).drew (fun a' => wpList _ _ _ _ a' (w.alloc (Obj.cells #[.int .i64 y, .int .i64 2, .int .i64 (n : Nat), .int .u64 (v : Nat)] 38)).drew) _ _
  generalize (w.alloc (Obj.cells #[.int .i64 y, .int .i64 2, .int .i64 (n : Nat), .int .u64 (v : Nat)] 38)).drew = wq at *
  repeat still_step
  refine wpStill_nil ?_
  go_wp2_with fail
  refine (HR.out _ hbq).mono ?_; rintro e w1 ⟨rfl, g1⟩
  have G1 := Lib.hid g1; clear g1
  go_wp2_with fail
  go_end0
  exact ⟨rfl, G1.out⟩
/-- An input comes. -/
theorem come_g (b o c p u : Nat) (D : Dv) (R W : Fp) (w0 w : World) (hG : Hid (Grp R W w0 (dl b o c p u D) w)) (ev : Ev) (he : Hid (OkE ev)) : Calls Tryz.prog 53 #[.pointer (some ⟨b, o, none⟩), evV ev] w (fun e w' => e = .returned (.tuple #[]) ∧ Grp R W w0 (dl b o c p u (D.come ev)) w') := by
  obtain ⟨y, k, n, v⟩ := ev
  rcases he.out with ⟨h1, h2, h3⟩ | ⟨h1, h2, h3, h4⟩
  · dsimp only at h1 h2 h3
    subst h1 h2
    have e : D.come ⟨y, 1, 0, v⟩ = (D.give v).fol := by unfold Dv.come; rw [if_pos rfl]
    rw [e]
    exact come_byte b o c p u D R W w0 w hG y v (Lib.hid h3)
  · dsimp only at h1 h2 h3 h4
    subst h1
    obtain ⟨m, rfl⟩ := Int.eq_ofNat_of_zero_le (by omega : 0 ≤ n)
    by_cases h5 : m = 1
    · subst h5
      have e : D.come ⟨y, 2, ((1 : Nat) : Int), v⟩ = (D.raise v).fol := by unfold Dv.come; rw [if_neg (show ¬ (2 : Int) = 1 by decide), if_pos (show ((1 : Nat) : Int) = 1 from rfl)]
      rw [e]
      exact come_one b o c p u D R W w0 w hG y v (Lib.hid h4)
    · have e : D.come ⟨y, 2, (m : Int), v⟩ = D.line m v := by
        unfold Dv.come
        rw [if_neg (by show ¬ (2 : Int) = 1; decide), if_neg (by show ¬ (m : Int) = 1; omega)]
        rfl
      rw [e]
      exact come_line b o c p u D R W w0 w hG y m v (Lib.hid h4) (Lib.hid ⟨by omega, by omega⟩)
def RetAF (l : List Th) (R W : Fp) (w0 : World) (w : World) (e : Ending) (w' : World) : Prop := ∃ c' p' u', e = .returned (.agg #[.pointer (some ⟨c', 0, none⟩), .pointer (some ⟨p', 0, none⟩), .pointer (some ⟨u', 0, none⟩), .bool false]) ∧ Grp R W w0 (l ++ [eC c' 0 18446744073709551615 0] ++ [eP p' P.S0] ++ [eU u' T.U0]) w' ∧ Below w.heap.size w w'
theorem pick_l {l : List Th} {x e f g : Th} : ∀ (i : Nat) (E : Th), (l ++ [e] ++ [f] ++ [g])[i]? = some E → (l ++ [x] ++ [e] ++ [f] ++ [g])[if i < l.length then i else i + 1]? = some E := by
  intro i E h
  simp only [List.append_assoc, List.cons_append, List.nil_append] at h ⊢
  by_cases hi : i < l.length
  · rw [if_pos hi]
    rw [List.getElem?_append_left hi] at h ⊢
    exact h
  · rw [if_neg hi]
    rw [List.getElem?_append_right (by omega)] at h ⊢
    rw [show i + 1 - l.length = (i - l.length) + 1 by omega]
    exact h
theorem ixl_ne {n i j : Nat} (h : i ≠ j) : (if i < n then i else i + 1) ≠ (if j < n then j else j + 1) := by
  by_cases h1 : i < n
  · rw [if_pos h1]
    by_cases h2 : j < n
    · rw [if_pos h2]; exact h
    · rw [if_neg h2]; omega
  · rw [if_neg h1]
    by_cases h2 : j < n
    · rw [if_pos h2]; omega
    · rw [if_neg h2]; omega
theorem get_at (l m : List Th) (E : Th) (j : Nat) (h : m[j]? = some E) : (l ++ m)[l.length + j]? = some E := by
  rw [List.getElem?_append_right (Nat.le_add_right _ _), Nat.add_sub_cancel_left]; exact h
theorem get_blk (l : List Th) (x e f g : Th) : (l ++ [x] ++ [e] ++ [f] ++ [g])[l.length + 0]? = some x := by
  simp only [List.append_assoc, List.cons_append, List.nil_append]
  exact get_at l _ x 0 rfl
theorem first_g (l : List Th) (R W : Fp) (w0 w : World) (hG : Hid (Grp R W w0 l w)) : Calls Tryz.prog 27 #[] w (RetAF l R W w0 w) := by
  go_enter Tryz.func27, Tryz.ntmps27
  go_wp2_with fail
  have hGA := Lib.hid (grp_blk hG.out #[Value.pointer none, Value.pointer none, Value.pointer none, Value.bool false] 61)
  have hbA : Below w.heap.size w (w.alloc (Obj.cells #[Value.pointer none, Value.pointer none, Value.pointer none, Value.bool false] 61)) := below_one w _
  generalize (w.alloc (Obj.cells #[Value.pointer none, Value.pointer none, Value.pointer none, Value.bool false] 61)) = wA at *
  change Hid (Grp R W w0 (l ++ [eBlk w.heap.size 4]) wA) at hGA
  refine (newC_g hGA.out).mono ?_; rintro e w1 ⟨c', rfl, g1, hb1⟩
  have G1 := Lib.hid g1; clear g1
  go_wp2_with fail
  refine (newP_g G1.out).mono ?_; rintro e w2 ⟨p', rfl, g2, hb2⟩
  have G2 := Lib.hid g2; clear g2
  go_wp2_with fail
  refine (newU_g G2.out).mono ?_; rintro e w3 ⟨u', rfl, g3, hb3⟩
  have G3 := Lib.hid g3; clear g3
  have hix := get_blk l (eBlk w.heap.size 4) (eC c' 0 18446744073709551615 0) (eP p' P.S0) (eU u' T.U0)
  obtain ⟨_, _, -, -, q⟩ := G3.out.get _ hix
  obtain ⟨⟨v0, k0⟩, j0⟩ := q 0 (by decide); obtain ⟨⟨v1, k1⟩, j1⟩ := q 1 (by decide); obtain ⟨⟨v2, k2⟩, j2⟩ := q 2 (by decide); obtain ⟨⟨v3, k3⟩, j3⟩ := q 3 (by decide); clear q
  have HIX := Lib.hid hix
  clear hix
  go_wp2_with fail
  have hix := HIX.out
  have G4 := grp_setBlk (grp_setBlk (grp_setBlk (grp_setBlk G3.out _ hix 0 (by decide) (.pointer (some ⟨c', 0, none⟩))) _ hix 1 (by decide) (.pointer (some ⟨p', 0, none⟩))) _ hix 2 (by decide) (.pointer (some ⟨u', 0, none⟩))) _ hix 3 (by decide) (.bool false)
  have x0 := cell_all (a := Value.pointer (some ⟨c', 0, none⟩)) (b := Value.pointer (some ⟨p', 0, none⟩)) (c := Value.pointer (some ⟨u', 0, none⟩)) (e := Value.bool false) k0 k1 k2 k3
  have hb9 : Below w.heap.size w ((((w3.setCell ⟨w.heap.size, 0, none⟩ (.pointer (some ⟨c', 0, none⟩))).setCell ⟨w.heap.size, 1, none⟩ (.pointer (some ⟨p', 0, none⟩))).setCell ⟨w.heap.size, 2, none⟩ (.pointer (some ⟨u', 0, none⟩))).setCell ⟨w.heap.size, 3, none⟩ (.bool false)) := (by repeat (first | (with_reducible first | exact Below.refl _ _ | assumption | exact Nat.le_refl _ | refine Below.drew ?_ | refine Below.alloc ?_ ?_ _ | refine Below.setCell ?_ ?_ _ | refine le_alloc ?_ | refine le_set ?_ | refine le_drew ?_ | refine below_step (by assumption) ?_ ?_ | refine le_below (by assumption) ?_) | (dsimp only; omega)))
  clear k0 k1 k2 k3
  generalize (((w3.setCell ⟨w.heap.size, 0, none⟩ (.pointer (some ⟨c', 0, none⟩))).setCell ⟨w.heap.size, 1, none⟩ (.pointer (some ⟨p', 0, none⟩))).setCell ⟨w.heap.size, 2, none⟩ (.pointer (some ⟨u', 0, none⟩))).setCell ⟨w.heap.size, 3, none⟩ (.bool false) = wF at *
  obtain ⟨k0, k1, k2, k3⟩ := x0
  refine bodyPost_ret (v := .agg #[.pointer (some ⟨c', 0, none⟩), .pointer (some ⟨p', 0, none⟩), .pointer (some ⟨u', 0, none⟩), .bool false]) (by simp [results, Tryz.results27, go_sem, k0, k1, k2, k3] <;> (first | rfl | (repeat' (first | rfl | apply And.intro)))) rfl ?_
  exact ⟨c', p', u', rfl, G4.pick _ (fun i => if i < l.length then i else i + 1) (fun i E h => pick_l i E h) (fun i j hi hj hne => ixl_ne hne), hb9⟩
end Go.Proofs.YtoicpikkcefheaaGreat
