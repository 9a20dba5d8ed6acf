/- Taken from other texts: what is needed of them. -/
import Derived.Test.YthhlcchofilimaaGreatDoorUA
import Derived.Test.YthhlcchofilimaaGreatDoorUB
import Derived.Test.YthhlcchofilimaaGreatDoorUC
import Derived.Test.YthhlcchofilimaaGreatDoorUD
import Derived.Test.YthhlcchofilimaaGreatDoorUE
import Derived.Test.YthhlcchofilimaaGreatDoorUG
namespace Go.Proofs.YthhlcchofilimaaGreatDoor.U.M
set_option linter.unusedVariables false
set_option linter.unusedSimpArgs false
set_option maxRecDepth 20000
open Go.Maps Go.WideMaps Go.ChangeShapes Go.WideShapes Go.ChangeAt Go.RowKit
set_option maxRecDepth 20000
theorem Cw.trans {T T2 : Fp} {a b c : World} (h : Cw T a b) (k : Cw T2 b c) (hT : ∀ i j, T2 i j → T i j ∨ a.heap.size ≤ i) : Cw T a c := by
  have no : ∀ i j, i < a.heap.size → ¬ T i j → ¬ T2 i j := fun i j hi hn h2 => by
    rcases hT i j h2 with h3 | h3
    · exact hn h3
    · omega
  have lt : ∀ i, i < a.heap.size → i < b.heap.size := fun i hi => Nat.lt_of_lt_of_le hi h.size
  exact ⟨k.os.trans h.os, k.tape.trans h.tape, k.output.trans h.output, Nat.le_trans h.size k.size,
    fun i hi hn => (k.block i (lt i hi) (fun o => no i o hi (hn o))).trans (h.block i hi hn),
    fun i o hi hn => (k.cell i o (lt i hi) (no i o hi hn)).trans (h.cell i o hi hn),
    fun i o hi hn => (k.frozen i o (lt i hi) (no i o hi hn)).trans (h.frozen i o hi hn)⟩
theorem Cw.mono {T T2 : Fp} {w w' : World} (h : Cw T w w') (hT : ∀ i j, T i j → T2 i j) : Cw T2 w w' :=
  (Cw.refl T2 w).trans h (fun i j q => .inl (hT i j q))
theorem Cw.of_grown {w w' : World} {b : Nat} {T : Fp} (h : w.grownBy w' (some b)) (hT : ∀ j, T b j) : Cw T w w' :=
  have bl : ∀ k, k < w.heap.size → k ≠ b → w'.heap[k]? = w.heap[k]? := fun k hk hn => h.block k hk (fun e => hn (by injection e))
  have nb : ∀ k o, ¬ T k o → k ≠ b := fun k o hn e => hn (by rw [e]; exact hT o)
  ⟨h.os, h.tape, h.output, h.size, fun k hk hn => bl k hk (nb k 0 (hn 0)),
    fun k o hk hn => World.cell?_of_block (w := w) (a := ⟨k, o, none⟩) (bl k hk (nb k o hn)), fun k o hk hn => World.frozen?_of_block (w := w) (a := ⟨k, o, none⟩) (bl k hk (nb k o hn))⟩
theorem Cw.nothing {w w' : World} {T : Fp} (h : Cw T w w') (hT : ∀ i j, T i j → w.heap.size ≤ i) : Below w.heap.size w w' :=
  h.below (B := w.heap.size) (w0 := w) hT (Below.refl _ _) (Nat.le_refl _)
theorem up_mono {R R2 : Fp} {w0 w w' : World} (h0 : ∀ k j, R k j → R2 k j) (h : w.heap.size ≤ w'.heap.size) : ∀ k j, Up R w0 w k j → Up R2 w0 w' k j := fun k j q => q.imp (h0 k j) (fun q => ⟨q.1, Nat.lt_of_lt_of_le q.2 h⟩)
theorem up_up {R : Fp} {w0 w w' : World} (h0 : w0.heap.size ≤ w.heap.size) (h : w.heap.size ≤ w'.heap.size) {Q : Fp} (hQ : ∀ k j, Q k j → Up R w0 w k j) : ∀ k j, Up Q w w' k j → Up R w0 w' k j := fun k j q => by
  rcases q with q | q
  · exact up_mono (fun _ _ h => h) h k j (hQ k j q)
  · exact .inr ⟨Nat.le_trans h0 q.1, q.2⟩
/-- Things side by side; all that they read and write lies in R0 and W0, or is newer than w0, and of what was there in w0 only W0 was written. -/
structure GrpAt (R0 W0 : Fp) (w0 : World) (l : List Th) (R W : Nat → Fp) (w : World) : Prop where
  each : ∀ (i : Nat) (E : Th), l[i]? = some E → E.P (R i) (W i) w
  dj : ∀ i j, i < l.length → j < l.length → i ≠ j → Dj (W i) (R j)
  rs : ∀ i, i < l.length → ∀ k j, R i k j → Up R0 w0 w k j
  ws : ∀ i, i < l.length → ∀ k j, W i k j → Up W0 w0 w k j
  out : Cw W0 w0 w
def Grp (R0 W0 : Fp) (w0 : World) (l : List Th) (w : World) : Prop := ∃ R W : Nat → Fp, GrpAt R0 W0 w0 l R W w
section
variable {R0 W0 : Fp} {w0 w w' : World} {l : List Th} {E E' : Th}
theorem Grp.out (h : Grp R0 W0 w0 l w) : Cw W0 w0 w := h.choose_spec.choose_spec.out
theorem Grp.get (h : Grp R0 W0 w0 l w) (i : Nat) (hi : l[i]? = some E) : ∃ R W, E.P R W w := by
  obtain ⟨R, W, h⟩ := h
  exact ⟨_, _, h.each i E hi⟩
theorem GrpAt.below {R W : Nat → Fp} (h : GrpAt R0 W0 w0 l R W w) (hb : Below w.heap.size w w') : GrpAt R0 W0 w0 l R W w' := by
  obtain ⟨h1, h2, h3, h4, h5⟩ := h
  exact ⟨fun i E hi => E.kept (h1 i E hi) (Cw.of_below (fun _ _ => False) hb) (fun _ _ h => h.elim), h2, fun i hi k j q => up_mono (fun _ _ h => h) hb.size k j (h3 i hi k j q), fun i hi k j q => up_mono (fun _ _ h => h) hb.size k j (h4 i hi k j q),
    h5.trans (Cw.of_below (fun _ _ => False) hb) (fun _ _ h => h.elim)⟩
theorem Grp.below (h : Grp R0 W0 w0 l w) (hb : Below w.heap.size w w') : Grp R0 W0 w0 l w' := by
  obtain ⟨R, W, h⟩ := h
  exact ⟨R, W, h.below hb⟩
theorem GrpAt.setX {R W : Nat → Fp} (h : GrpAt R0 W0 w0 l R W w) (i : Nat) (hi : l[i]? = some E) (c1 : E'.P (Up (R i) w w') (Up (W i) w w') w') (c2 : Cw (W i) w w') : GrpAt R0 W0 w0 (l.set i E') (fun k => if k = i then Up (R i) w w' else R k) (fun k => if k = i then Up (W i) w w' else W k) w' := by
  obtain ⟨h1, h2, h3, h4, h5⟩ := h
  have il := len_of2 hi
  refine ⟨fun k F hk => ?_, fun a b ha hb hne => ?_, fun k hk => ?_, fun k hk => ?_, h5.trans c2 (fun k j q => (h4 i il k j q).imp id (·.1))⟩
  · by_cases e : k = i
    · subst e
      rw [List.getElem?_set_self il] at hk
      obtain rfl : E' = F := by simpa using hk
      show E'.P (if k = k then _ else _) (if k = k then _ else _) w'
      rw [if_pos rfl, if_pos rfl]; exact c1
    · rw [List.getElem?_set_ne (fun q => e q.symm)] at hk
      show F.P (if k = i then _ else _) (if k = i then _ else _) w'
      rw [if_neg e, if_neg e]
      exact F.kept (h1 k F hk) c2 (h2 i k il (len_of2 hk) (fun q => e q.symm))
  · rw [List.length_set] at ha hb
    show Dj (if a = i then _ else _) (if b = i then _ else _)
    have lt : ∀ k, k < l.length → ∀ x y, R k x y → x < w.heap.size := fun k hk => by
      obtain ⟨F, hF⟩ : ∃ F, l[k]? = some F := ⟨_, List.getElem?_eq_getElem hk⟩
      exact F.rlt (h1 k F hF)
    have wl : ∀ k, k < l.length → ∀ x y, W k x y → x < w.heap.size := fun k hk => by
      obtain ⟨F, hF⟩ : ∃ F, l[k]? = some F := ⟨_, List.getElem?_eq_getElem hk⟩
      exact fun x y q => F.rlt (h1 k F hF) x y (F.wr (h1 k F hF) x y q)
    by_cases ea : a = i
    · subst ea
      have eb : ¬ b = a := fun q => hne q.symm
      rw [if_pos rfl, if_neg eb]
      intro x y hx hy
      rcases hx with hx | hx
      · exact h2 a b ha hb hne x y hx hy
      · have := lt b hb x y hy; omega
    · rw [if_neg ea]
      by_cases eb : b = i
      · subst eb
        rw [if_pos rfl]
        intro x y hx hy
        rcases hy with hy | hy
        · exact h2 a b ha hb hne x y hx hy
        · have := wl a ha x y hx; omega
      · rw [if_neg eb]; exact h2 a b ha hb hne
  · rw [List.length_set] at hk
    show ∀ x y, (if k = i then _ else _ : Fp) x y → _
    by_cases e : k = i
    · subst e
      rw [if_pos rfl]
      exact up_up h5.size c2.size (h3 k hk)
    · rw [if_neg e]; exact fun x y q => up_mono (fun _ _ h => h) c2.size x y (h3 k hk x y q)
  · rw [List.length_set] at hk
    show ∀ x y, (if k = i then _ else _ : Fp) x y → _
    by_cases e : k = i
    · subst e
      rw [if_pos rfl]
      exact up_up h5.size c2.size (h4 k hk)
    · rw [if_neg e]; exact fun x y q => up_mono (fun _ _ h => h) c2.size x y (h4 k hk x y q)
theorem GrpAt.set {R W : Nat → Fp} (h : GrpAt R0 W0 w0 l R W w) (i : Nat) (hi : l[i]? = some E) (c1 : E'.P (Up (R i) w w') (Up (W i) w w') w') (c2 : Cw (W i) w w') : Grp R0 W0 w0 (l.set i E') w' := ⟨_, _, h.setX i hi c1 c2⟩
theorem Grp.set (h : Grp R0 W0 w0 l w) (i : Nat) (hi : l[i]? = some E) (hc : ∀ R W, E.P R W w → E'.P (Up R w w') (Up W w w') w' ∧ Cw W w w') : Grp R0 W0 w0 (l.set i E') w' := by
  obtain ⟨R, W, h⟩ := h
  obtain ⟨c1, c2⟩ := hc _ _ (h.each i E hi)
  exact h.set i hi c1 c2
/-- A call that is made upon one of them. -/
theorem Grp.step (h : Grp R0 W0 w0 l w) (i : Nat) (hi : l[i]? = some E) (E' : Th) {f : FuncId} {args : Array Value} {v : Value} (hc : ∀ R W, E.P R W w → Calls Tryz.prog f args w (fun e w' => e = .returned v ∧ E'.P (Up R w w') (Up W w w') w' ∧ Cw W w w')) :
    Calls Tryz.prog f args w (fun e w' => e = .returned v ∧ Grp R0 W0 w0 (l.set i E') w') := by
  obtain ⟨R, W, h⟩ := h
  refine (hc _ _ (h.each i E hi)).mono ?_
  rintro e w' ⟨rfl, c1, c2⟩
  exact ⟨rfl, h.set i hi c1 c2⟩
/-- One more, that shares with one of them at most what neither writes. -/
theorem GrpAt.moreX {R W : Nat → Fp} (n : Nat) (h : GrpAt R0 W0 w0 l R W w) (hb : Below w.heap.size w w') (lt : ∀ k, k < l.length → ∀ x y, R k x y → x < n) (h0 : w0.heap.size ≤ n) {R1 W1 : Fp} (hE : E.P R1 W1 w') (hw : ∀ k j, W1 k j → n ≤ k) (hr : ∀ k j, R1 k j → n ≤ k ∨ Up R0 w0 w k j) (hd : ∀ i, i < l.length → Dj (W i) R1) : GrpAt R0 W0 w0 (l ++ [E]) (fun k => if k = l.length then R1 else R k) (fun k => if k = l.length then W1 else W k) w' := by
  obtain ⟨h1, h2, h3, h4, h5⟩ := h
  refine ⟨fun k F hk => ?_, fun a b ha hb' hne => ?_, fun k hk => ?_, fun k hk => ?_, h5.trans (Cw.of_below (fun _ _ => False) hb) (fun _ _ h => h.elim)⟩
  · by_cases e : k = l.length
    · subst e
      rw [List.getElem?_append_right (Nat.le_refl _), Nat.sub_self] at hk
      obtain rfl : E = F := by simpa using hk
      show E.P (if _ then _ else _) (if _ then _ else _) w'
      rw [if_pos rfl, if_pos rfl]; exact hE
    · have hk2 : k < l.length := by
        have := len_of2 hk
        rw [List.length_append] at this
        have : k < l.length + 1 := this
        omega
      rw [List.getElem?_append_left hk2] at hk
      show F.P (if _ then _ else _) (if _ then _ else _) w'
      rw [if_neg e, if_neg e]
      exact F.kept (h1 k F hk) (Cw.of_below (fun _ _ => False) hb) (fun _ _ h => h.elim)
  · rw [List.length_append] at ha hb'
    have ha2 : a < l.length + 1 := ha
    have hb2 : b < l.length + 1 := hb'
    show Dj (if a = l.length then _ else _) (if b = l.length then _ else _)
    by_cases ea : a = l.length
    · have eb : ¬ b = l.length := fun q => hne (ea.trans q.symm)
      rw [if_pos ea, if_neg eb]
      intro x y hx hy
      have := hw x y hx
      have := lt b (by omega) x y hy
      omega
    · rw [if_neg ea]
      by_cases eb : b = l.length
      · rw [if_pos eb]; exact hd a (by omega)
      · rw [if_neg eb]; exact h2 a b (by omega) (by omega) hne
  · rw [List.length_append] at hk
    have hk2 : k < l.length + 1 := hk
    show ∀ x y, (if k = l.length then _ else _ : Fp) x y → _
    by_cases e : k = l.length
    · rw [if_pos e]
      intro x y hx
      rcases hr x y hx with q | q
      · exact .inr ⟨Nat.le_trans h0 q, E.rlt hE x y hx⟩
      · exact up_mono (fun _ _ h => h) hb.size x y q
    · rw [if_neg e]; exact fun x y q => up_mono (fun _ _ h => h) hb.size x y (h3 k (by omega) x y q)
  · rw [List.length_append] at hk
    have hk2 : k < l.length + 1 := hk
    show ∀ x y, (if k = l.length then _ else _ : Fp) x y → _
    by_cases e : k = l.length
    · rw [if_pos e]
      intro x y hx
      exact .inr ⟨Nat.le_trans h0 (hw x y hx), E.rlt hE x y (E.wr hE x y hx)⟩
    · rw [if_neg e]; exact fun x y q => up_mono (fun _ _ h => h) hb.size x y (h4 k (by omega) x y q)
theorem GrpAt.moreN {R W : Nat → Fp} (n : Nat) (h : GrpAt R0 W0 w0 l R W w) (hb : Below w.heap.size w w') (lt : ∀ k, k < l.length → ∀ x y, R k x y → x < n) (h0 : w0.heap.size ≤ n) {R1 W1 : Fp} (hE : E.P R1 W1 w') (hw : ∀ k j, W1 k j → n ≤ k) (hr : ∀ k j, R1 k j → n ≤ k ∨ Up R0 w0 w k j) (hd : ∀ i, i < l.length → Dj (W i) R1) : Grp R0 W0 w0 (l ++ [E]) w' := ⟨_, _, h.moreX n hb lt h0 hE hw hr hd⟩
theorem GrpAt.lt {R W : Nat → Fp} (h : GrpAt R0 W0 w0 l R W w) : ∀ k, k < l.length → ∀ x y, R k x y → x < w.heap.size := fun k hk => by
  obtain ⟨F, hF⟩ : ∃ F, l[k]? = some F := ⟨_, List.getElem?_eq_getElem hk⟩
  exact F.rlt (h.each k F hF)
theorem GrpAt.more {R W : Nat → Fp} (h : GrpAt R0 W0 w0 l R W w) (hb : Below w.heap.size w w') {R1 W1 : Fp} (hE : E.P R1 W1 w') (hw : ∀ k j, W1 k j → w.heap.size ≤ k) (hr : ∀ k j, R1 k j → w.heap.size ≤ k ∨ Up R0 w0 w k j) (hd : ∀ i, i < l.length → Dj (W i) R1) : Grp R0 W0 w0 (l ++ [E]) w' :=
  h.moreN w.heap.size hb h.lt h.out.size hE hw hr hd
/-- A new one. -/
theorem Grp.push (h : Grp R0 W0 w0 l w) (hb : Below w.heap.size w w') {R1 W1 : Fp} (hE : E.P R1 W1 w') (hn : ∀ k j, R1 k j → w.heap.size ≤ k) : Grp R0 W0 w0 (l ++ [E]) w' := by
  obtain ⟨R, W, h⟩ := h
  refine h.more hb hE (fun k j q => hn k j (E.wr hE k j q)) (fun k j q => .inl (hn k j q)) (fun i hi x y hx hy => ?_)
  have := hn x y hy
  obtain ⟨F, hF⟩ : ∃ F, l[i]? = some F := ⟨_, List.getElem?_eq_getElem hi⟩
  have := F.rlt (h.each i F hF) x y (F.wr (h.each i F hF) x y hx)
  omega
/-- Some of them alone. -/
theorem Grp.pick (h : Grp R0 W0 w0 l w) (l' : List Th) (ix : Nat → Nat) (hi : ∀ i E, l'[i]? = some E → l[ix i]? = some E) (hx : ∀ i j, i < l'.length → j < l'.length → i ≠ j → ix i ≠ ix j) : Grp R0 W0 w0 l' w := by
  obtain ⟨R, W, h1, h2, h3, h4, h5⟩ := h
  have il : ∀ i, i < l'.length → ix i < l.length := fun i h => len_of2 (hi i _ (List.getElem?_eq_getElem h))
  exact ⟨fun i => R (ix i), fun i => W (ix i), ⟨fun i E h => h1 _ E (hi i E h), fun i j a b c => h2 _ _ (il i a) (il j b) (hx i j a b c), fun i a => h3 _ (il i a), fun i a => h4 _ (il i a), h5⟩⟩
end
/-- A thing put together of things. -/
def jn (l : List Th) : Th where
  P R W w := (∃ Rs Ws : Nat → Fp, (∀ (i : Nat) (E : Th), l[i]? = some E → E.P (Rs i) (Ws i) w) ∧ (∀ i j, i < l.length → j < l.length → i ≠ j → Dj (Ws i) (Rs j)) ∧ (∀ i, i < l.length → ∀ k j, Rs i k j → R k j) ∧ ∀ i, i < l.length → ∀ k j, Ws i k j → W k j) ∧ (∀ k j, W k j → R k j) ∧ ∀ k j, R k j → k < w.heap.size
  kept := fun ⟨⟨Rs, Ws, h1, h2, h3, h4⟩, h5, h6⟩ hc hd =>
    ⟨⟨Rs, Ws, fun i E hi => E.kept (h1 i E hi) hc (fun k j q q2 => hd k j q (h3 i (len_of2 hi) k j q2)), h2, h3, h4⟩, h5, fun k j q => Nat.lt_of_lt_of_le (h6 k j q) hc.size⟩
  wr h := h.2.1
  rlt h := h.2.2
/-- One that is there. -/
def exT {α : Type} (f : α → Th) : Th where
  P R W w := ∃ a, (f a).P R W w
  kept := fun ⟨a, h⟩ hc hd => ⟨a, (f a).kept h hc hd⟩
  wr := fun ⟨a, h⟩ => (f a).wr h
  rlt := fun ⟨a, h⟩ => (f a).rlt h
theorem jn_open {R W : Fp} {w : World} {l : List Th} (h : (jn l).P R W w) : Grp R W w l w := by
  obtain ⟨⟨Rs, Ws, h1, h2, h3, h4⟩, h5, h6⟩ := h
  exact ⟨Rs, Ws, ⟨h1, h2, fun i hi k j q => .inl (h3 i hi k j q), fun i hi k j q => .inl (h4 i hi k j q), Cw.refl _ _⟩⟩
theorem jn_close {R0 W0 : Fp} {w0 w : World} {l : List Th} (h : Grp R0 W0 w0 l w) (h5 : ∀ k j, W0 k j → R0 k j) (h6 : ∀ k j, R0 k j → k < w0.heap.size) : (jn l).P (Up R0 w0 w) (Up W0 w0 w) w ∧ Cw W0 w0 w := by
  obtain ⟨R, W, h1, h2, h3, h4, h7⟩ := h
  exact ⟨⟨⟨R, W, h1, h2, h3, h4⟩, fun k j q => q.imp (h5 k j) id, fun k j q => q.elim (fun q => Nat.lt_of_lt_of_le (h6 k j q) h7.size) (·.2)⟩, h7⟩
/-- All of a group, as one new thing. -/
theorem jn_new {w0 w : World} {l : List Th} (h : Grp (fun _ _ => False) (fun _ _ => False) w0 l w) : ∃ R W : Fp, (jn l).P R W w ∧ (∀ k j, R k j → w0.heap.size ≤ k) ∧ Below w0.heap.size w0 w := by
  have h7 := h.out
  obtain ⟨c1, c2⟩ := jn_close h (fun _ _ q => q) (fun _ _ q => q.elim)
  exact ⟨_, _, c1, fun k j q => q.elim (fun q => q.elim) (·.1), c2.nothing (fun _ _ q => q.elim)⟩
/-- A group of which the first n things stand, and the others are copies of them: newer things may be written, of the first ones nothing new. -/
def GrpC (n : Nat) (R0 W0 : Fp) (w0 : World) (l : List Th) (w : World) : Prop := (∃ R W : Nat → Fp, GrpAt R0 W0 w0 l R W w ∧ (∀ i, i < n → (∀ k j, W i k j → W0 k j) ∧ ∀ k j, R i k j → R0 k j) ∧ ∀ i, n ≤ i → i < l.length → ∀ k j, W i k j → w0.heap.size ≤ k) ∧ Below w0.heap.size w0 w ∧ n ≤ l.length
section
variable {n : Nat} {R0 W0 : Fp} {w0 w w' : World} {l : List Th} {E E' : Th}
theorem GrpC.below (h : GrpC n R0 W0 w0 l w) (hb : Below w.heap.size w w') : GrpC n R0 W0 w0 l w' := by
  obtain ⟨⟨R, W, h1, h2, h3⟩, h4, h5⟩ := h
  exact ⟨⟨R, W, h1.below hb, h2, h3⟩, h4.trans (hb.mono h4.size), h5⟩
theorem GrpC.push (h : GrpC n R0 W0 w0 l w) (hb : Below w.heap.size w w') {R1 W1 : Fp} (hE : E.P R1 W1 w') (hn : ∀ k j, R1 k j → w.heap.size ≤ k) : GrpC n R0 W0 w0 (l ++ [E]) w' := by
  obtain ⟨⟨R, W, h1, h2, h3⟩, h4, h5⟩ := h
  refine ⟨⟨_, _, h1.moreX w.heap.size hb h1.lt h4.size hE (fun k j q => hn k j (E.wr hE k j q)) (fun k j q => .inl (hn k j q)) (fun i hi x y hx hy => ?_), fun i hi => ⟨fun k j q => ?_, fun k j q => ?_⟩, fun i hi hl k j q => ?_⟩, h4.trans (hb.mono h4.size), by rw [List.length_append]; omega⟩
  · have := hn x y hy
    obtain ⟨F, hF⟩ : ∃ F, l[i]? = some F := ⟨_, List.getElem?_eq_getElem hi⟩
    have := F.rlt (h1.each i F hF) x y (F.wr (h1.each i F hF) x y hx)
    omega
  · rw [if_neg (by omega)] at q; exact (h2 i hi).1 k j q
  · rw [if_neg (by omega)] at q; exact (h2 i hi).2 k j q
  · by_cases e : i = l.length
    · rw [if_pos e] at q; exact Nat.le_trans h4.size (hn k j (E.wr hE k j q))
    · rw [if_neg e] at q
      rw [List.length_append] at hl
      exact h3 i hi (by have : i < l.length + 1 := hl; omega) k j q
/-- What a copying call leaves of a thing. -/
def Cpd (E E' : Th) (R W : Fp) (w w' : World) : Prop := ∃ R' W' V : Fp, E.P R V w' ∧ (∀ k j, V k j → W k j) ∧ E'.P R' W' w' ∧ (∀ k j, W' k j → w.heap.size ≤ k) ∧ (∀ k j, R' k j → w.heap.size ≤ k ∨ R k j) ∧ Dj V R' ∧ Below w.heap.size w w'
/-- A new thing of its own does something. -/
theorem GrpC.set (h : GrpC n R0 W0 w0 l w) (i : Nat) (hi : l[i]? = some E) (hin : n ≤ i) (hc : ∀ R W, E.P R W w → E'.P (Up R w w') (Up W w w') w' ∧ Cw W w w') : GrpC n R0 W0 w0 (l.set i E') w' := by
  obtain ⟨⟨R, W, h1, h2, h3⟩, h4, h5⟩ := h
  obtain ⟨c1, c2⟩ := hc _ _ (h1.each i E hi)
  have il := len_of2 hi
  have hb := c2.below (fun k j q => h3 i hin il k j q) h4 h4.size
  refine ⟨⟨_, _, h1.setX i hi c1 c2, fun a ha => ⟨fun k j q => ?_, fun k j q => ?_⟩, fun a ha hl k j q => ?_⟩, hb, by rw [List.length_set]; exact h5⟩
  · rw [if_neg (by omega)] at q; exact (h2 a ha).1 k j q
  · rw [if_neg (by omega)] at q; exact (h2 a ha).2 k j q
  · rw [List.length_set] at hl
    by_cases e : a = i
    · rw [if_pos e] at q
      rcases q with q | q
      · exact h3 i hin il k j q
      · exact Nat.le_trans h4.size q.1
    · rw [if_neg e] at q; exact h3 a ha hl k j q
theorem GrpC.pick (h : GrpC n R0 W0 w0 l w) (l' : List Th) (ix : Nat → Nat) (hi : ∀ i E, l'[i]? = some E → l[ix i]? = some E) (hx : ∀ i j, i < l'.length → j < l'.length → i ≠ j → ix i ≠ ix j) (hn : n ≤ l'.length) (h1 : ∀ i, i < n → ix i < n) (h2 : ∀ i, n ≤ i → n ≤ ix i) : GrpC n R0 W0 w0 l' w := by
  obtain ⟨⟨R, W, ⟨g1, g2, g3, g4, g5⟩, k2, k3⟩, h4, h5⟩ := h
  have il : ∀ i, i < l'.length → ix i < l.length := fun i h => len_of2 (hi i _ (List.getElem?_eq_getElem h))
  exact ⟨⟨fun i => R (ix i), fun i => W (ix i), ⟨fun i E h => g1 _ E (hi i E h), fun i j a b c => g2 _ _ (il i a) (il j b) (hx i j a b c), fun i a => g3 _ (il i a), fun i a => g4 _ (il i a), g5⟩, fun i hi => k2 _ (h1 i hi), fun i hi hl => k3 _ (h2 i hi) (il i hl)⟩, h4, hn⟩
/-- What stands, and the copies, as one thing each. -/
theorem GrpC.split {l l' : List Th} (h : GrpC l.length R0 W0 w0 (l ++ l') w) (h5 : ∀ k j, W0 k j → R0 k j) (h6 : ∀ k j, R0 k j → k < w0.heap.size) : Cpd (jn l) (jn l') R0 W0 w0 w := by
  obtain ⟨⟨R, W, g, k2, k3⟩, h4, hn⟩ := h
  have lt := g.lt
  have e1 : ∀ i E, l[i]? = some E → (l ++ l')[i]? = some E := fun i E hi => by rw [List.getElem?_append_left (len_of2 hi)]; exact hi
  have e2 : ∀ i E, l'[i]? = some E → (l ++ l')[l.length + i]? = some E := fun i E hi => by rw [List.getElem?_append_right (Nat.le_add_right _ _), Nat.add_sub_cancel_left]; exact hi
  have l1 : ∀ i, i < l.length → i < (l ++ l').length := fun i hi => by rw [List.length_append]; omega
  have l2 : ∀ i, i < l'.length → l.length + i < (l ++ l').length := fun i hi => by rw [List.length_append]; omega
  refine ⟨fun k j => ∃ i, i < l'.length ∧ R (l.length + i) k j, fun k j => ∃ i, i < l'.length ∧ W (l.length + i) k j, fun k j => ∃ i, i < l.length ∧ W i k j, ?_, ?_, ?_, ?_, ?_, ?_, h4⟩
  · refine ⟨⟨R, W, fun i E hi => g.each i E (e1 i E hi), fun i j a b c => g.dj i j (l1 i a) (l1 j b) c, fun i hi k j q => (k2 i hi).2 k j q, fun i hi k j q => ⟨i, hi, q⟩⟩, fun k j q => ?_, fun k j q => Nat.lt_of_lt_of_le (h6 k j q) h4.size⟩
    obtain ⟨i, hi, q⟩ := q
    exact h5 k j ((k2 i hi).1 k j q)
  · rintro k j ⟨i, hi, q⟩
    exact (k2 i hi).1 k j q
  · refine ⟨⟨fun i => R (l.length + i), fun i => W (l.length + i), fun i E hi => g.each _ E (e2 i E hi), fun i j a b c => g.dj _ _ (l2 i a) (l2 j b) (by omega), fun i hi k j q => ⟨i, hi, q⟩, fun i hi k j q => ⟨i, hi, q⟩⟩, fun k j q => ?_, fun k j q => ?_⟩
    · obtain ⟨i, hi, q⟩ := q
      obtain ⟨F, hF⟩ : ∃ F, l'[i]? = some F := ⟨_, List.getElem?_eq_getElem hi⟩
      exact ⟨i, hi, F.wr (g.each _ F (e2 i F hF)) k j q⟩
    · obtain ⟨i, hi, q⟩ := q
      exact lt _ (l2 i hi) k j q
  · rintro k j ⟨i, hi, q⟩
    exact k3 _ (Nat.le_add_right _ _) (l2 i hi) k j q
  · rintro k j ⟨i, hi, q⟩
    exact (g.rs _ (l2 i hi) k j q).elim .inr (fun q => .inl q.1)
  · rintro k j ⟨i, hi, q⟩ ⟨i2, hi2, q2⟩
    exact g.dj i (l.length + i2) (l1 i hi) (l2 i2 hi2) (by omega) k j q q2
end
end Go.Proofs.YthhlcchofilimaaGreatDoor.U.M
