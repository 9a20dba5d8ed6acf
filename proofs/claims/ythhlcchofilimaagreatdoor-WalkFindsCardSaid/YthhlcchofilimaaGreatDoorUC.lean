/- Taken from other texts: what is needed of them. -/
import Derived.Test.YthhlcchofilimaaGreatDoorUA
import Derived.Test.YthhlcchofilimaaGreatDoorUB
namespace Go.Proofs.YthhlcchofilimaaGreatDoor.U.M
set_option linter.unusedVariables false
set_option linter.unusedSimpArgs false
set_option maxRecDepth 20000
set_option maxRecDepth 20000
open Go.ChangeShapes Go.WideShapes Go.ChangeAt Go.RowKit
end Go.Proofs.YthhlcchofilimaaGreatDoor.U.M
namespace Go.Proofs.YthhlcchofilimaaGreatDoor.U.M
set_option linter.unusedVariables false
set_option linter.unusedSimpArgs false
set_option maxRecDepth 20000
set_option maxRecDepth 20000
open Go.ChangeShapes Go.WideShapes Go.ChangeAt Go.RowKit
section
variable {R : Fp} {w w' : World} {r : Nat} {F : Nat → Nat} {pb : Nat} {A : Nat → Option Addr} {n c g : Nat → Nat}
theorem Rm.congr (x : Rm R w r F pb A n c g) {G : Nat → Nat} (h : ∀ k i, k < 256 → i < 4096 → F (atP k i) = G (atP k i)) (hG : ∀ x, G x < 256) : Rm R w r G pb A n c g :=
  { x with
    pg := fun k hk => by
      rcases x.pg k hk with ⟨h0, h1⟩ | ⟨h0, h1, h2, h3⟩
      · exact .inl ⟨h0, fun i hi => by rw [← h k i hk hi]; exact h1 i hi⟩
      · refine .inr ⟨h0, h1, h2, h3.1, fun i hi => ?_⟩
        show _ = some (Value.int .u8 ((G (atP k i) : Nat) : Int)) ∧ _
        rw [← h k i hk hi]; exact h3.2 i hi
    f8 := hG }
end
end Go.Proofs.YthhlcchofilimaaGreatDoor.U.M
namespace Go.Proofs.YthhlcchofilimaaGreatDoor.U.M
set_option linter.unusedVariables false
set_option linter.unusedSimpArgs false
set_option maxRecDepth 20000
set_option maxRecDepth 20000
open Go.ChangeShapes Go.WideShapes Go.ChangeAt Go.RowKit
end Go.Proofs.YthhlcchofilimaaGreatDoor.U.M
namespace Go.Proofs.YthhlcchofilimaaGreatDoor.U.M
set_option linter.unusedVariables false
set_option linter.unusedSimpArgs false
set_option maxRecDepth 20000
set_option maxRecDepth 20000
open Go.ChangeShapes Go.WideShapes Go.ChangeAt Go.RowKit
end Go.Proofs.YthhlcchofilimaaGreatDoor.U.M
namespace Go.Proofs.YthhlcchofilimaaGreatDoor.U.M
set_option linter.unusedVariables false
set_option linter.unusedSimpArgs false
set_option maxRecDepth 20000
set_option maxRecDepth 20000
open Go.Maps Go.WideMaps Go.ChangeShapes Go.WideShapes Go.ChangeAt Go.RowKit
/-- Of what was there nothing but T has changed; of T nothing is said. -/
structure Cw (T : Fp) (w w' : World) : Prop where
  os : w'.os = w.os
  tape : w'.tape = w.tape
  output : w'.output = w.output
  size : w.heap.size ≤ w'.heap.size
  block : ∀ k, k < w.heap.size → (∀ o, ¬ T k o) → w'.heap[k]? = w.heap[k]?
  cell : ∀ k o, k < w.heap.size → ¬ T k o → w'.cell? ⟨k, o, none⟩ = w.cell? ⟨k, o, none⟩
  frozen : ∀ k o, k < w.heap.size → ¬ T k o → w'.frozen? ⟨k, o, none⟩ = w.frozen? ⟨k, o, none⟩
section
variable {T T2 R : Fp} {w w' : World}
theorem Ch.weak (h : Ch T w w') : Cw T w w' := ⟨h.os, h.tape, h.output, h.size, h.block, h.cell, fun k o hk _ => h.frozen k o hk⟩
theorem Cw.refl (T : Fp) (w : World) : Cw T w w := (Ch.refl T w).weak
theorem Cw.of_below (T : Fp) (h : Below w.heap.size w w') : Cw T w w' := (Ch.of_below T h).weak
theorem Cw.below {B : Nat} {w0 : World} (h : Cw T w w') (hT : ∀ i j, T i j → B ≤ i) (h0 : Below B w0 w) (hB : B ≤ w.heap.size) : Below B w0 w' :=
  h0.trans ⟨h.os, h.tape, h.output, h.size, fun k hk => h.block k (Nat.lt_of_lt_of_le hk hB) (fun o ht => by have := hT k o ht; omega)⟩
theorem Cw.of_own {S : Nat → Prop} (h : Own S w w') (hT : ∀ k j, T k j ↔ S k) : Cw T w w' :=
  have b : ∀ k, k < w.heap.size → (∀ o, ¬ T k o) → w'.heap[k]? = w.heap[k]? := fun k hk hn => h.block k hk (fun q => hn 0 ((hT k 0).2 q))
  have n : ∀ k o, ¬ T k o → ∀ o', ¬ T k o' := fun k o h1 o' h2 => h1 ((hT k o).2 ((hT k o').1 h2))
  ⟨h.os, h.tape, h.output, h.size, b, fun k o hk hn => World.cell?_of_block (w := w) (a := ⟨k, o, none⟩) (b k hk (n k o hn)), fun k o hk hn => World.frozen?_of_block (w := w) (a := ⟨k, o, none⟩) (b k hk (n k o hn))⟩
end
section
variable {R T : Fp} {w w' : World} {r : Nat} {F : Nat → Nat} {pb : Nat} {A : Nat → Option Addr} {n c g : Nat → Nat}
theorem page_cw {p : Nat} {f : Nat → Nat} (h : PageIs w p f) (hc : Cw T w w') (hn : ∀ j, ¬ T p j) : PageIs w' p f :=
  ⟨Nat.lt_of_lt_of_le h.1 hc.size, fun i hi => ⟨(hc.cell p i h.1 (hn i)).trans (h.2 i hi).1, (hc.frozen p i h.1 (hn i)).trans (h.2 i hi).2⟩⟩
theorem Rm.keptW (x : Rm R w r F pb A n c g) (hc : Cw T w w') (hd : Dj T R) : Rm R w' r F pb A n c g :=
  { x with
    lt := Nat.lt_of_lt_of_le x.lt hc.size
    c0 := (hc.cell r 0 x.lt (fun ht => hd _ _ ht (x.rr 0))).trans x.c0
    f0 := (hc.frozen r 0 x.lt (fun ht => hd _ _ ht (x.rr 0))).trans x.f0
    pl := Nat.lt_of_lt_of_le x.pl hc.size
    pc := fun k hk => ⟨(hc.cell pb k x.pl (fun ht => hd _ _ ht (x.rp k))).trans (x.pc k hk).1, (hc.frozen pb k x.pl (fun ht => hd _ _ ht (x.rp k))).trans (x.pc k hk).2⟩
    pg := fun k hk => (x.pg k hk).imp id (fun ⟨h1, h2, h3, h4⟩ => ⟨h1, h2, h3, page_cw h4 hc (fun j ht => hd _ _ ht (x.rg k j hk h1))⟩)
    rlt := fun k j hk => Nat.lt_of_lt_of_le (x.rlt k j hk) hc.size }
end
theorem MemS.more {S T : Nat → Prop} {w : World} {m : Nat} {F : Nat → Nat} (h : MemS S w m F) (hT : ∀ i, S i → T i) : MemS T w m F := by
  obtain ⟨b, D, h0, hm, h1, hb, hne, h2, h3, h6⟩ := h
  exact ⟨b, D, h0, hT _ hm, h1, hT _ hb, hne, h2, h3, fun s p q1 q2 q3 => ⟨hT _ (h6 s p q1 q2 q3).1, (h6 s p q1 q2 q3).2⟩⟩
theorem MemS.keptB {S : Nat → Prop} {w w' : World} {m : Nat} {F : Nat → Nat} (h : MemS S w m F) (hos : w'.os = w.os) (ht : w'.tape = w.tape) (ho : w'.output = w.output) (hs : w.heap.size ≤ w'.heap.size) (hb : ∀ k, k < w.heap.size → S k → w'.heap[k]? = w.heap[k]?) : MemS S w' m F :=
  h.kept (T := fun k => ¬ S k) ⟨hos, ht, ho, hs, fun i hi hn => hb i hi (Classical.byContradiction hn)⟩ (fun i hi hn => hn hi)
/-- A thing in memory: what it reads lies in R, what it may write in W. -/
structure Th where
  P : Fp → Fp → World → Prop
  kept : ∀ {T R W : Fp} {w w' : World}, P R W w → Cw T w w' → Dj T R → P R W w'
  wr : ∀ {R W : Fp} {w : World}, P R W w → ∀ k j, W k j → R k j
  rlt : ∀ {R W : Fp} {w : World}, P R W w → ∀ k j, R k j → k < w.heap.size
/-- Several things, none of which writes what another one reads; all of them are newer than w0. -/
structure BesAt (w0 : World) (l : List Th) (R W : Nat → Fp) (w : World) : Prop where
  each : ∀ (i : Nat) (E : Th), l[i]? = some E → E.P (R i) (W i) w
  dj : ∀ i j, i < l.length → j < l.length → i ≠ j → Dj (W i) (R j)
  new : ∀ i, i < l.length → ∀ k j, R i k j → w0.heap.size ≤ k
  out : Below w0.heap.size w0 w
def Bes (w0 : World) (l : List Th) (w : World) : Prop := ∃ R W : Nat → Fp, BesAt w0 l R W w
section
variable {w0 w w' : World} {l : List Th} {E E' : Th}
theorem Bes.out (h : Bes w0 l w) : Below w0.heap.size w0 w := h.choose_spec.choose_spec.out
theorem Bes.get (h : Bes w0 l w) (i : Nat) (hi : l[i]? = some E) : ∃ R W, E.P R W w := by
  obtain ⟨R, W, h⟩ := h
  exact ⟨_, _, h.each i E hi⟩
theorem len_of2 {i : Nat} (hi : l[i]? = some E) : i < l.length := (List.getElem?_eq_some_iff.1 hi).1
theorem Bes.below (h : Bes w0 l w) (hb : Below w.heap.size w w') : Bes w0 l w' := by
  obtain ⟨R, W, h1, h2, h3, h4⟩ := h
  exact ⟨R, W, ⟨fun i E hi => E.kept (h1 i E hi) (Cw.of_below (fun _ _ => False) hb) (fun _ _ h => h.elim), h2, h3, h4.trans (hb.mono h4.size)⟩⟩
theorem BesAt.set {R W : Nat → Fp} (h : BesAt w0 l R W w) (i : Nat) (hi : l[i]? = some E) (c1 : E'.P (Up (R i) w w') (Up (W i) w w') w') (c2 : Cw (W i) w w') : Bes w0 (l.set i E') w' := by
  obtain ⟨h1, h2, h3, h4⟩ := h
  have il := len_of2 hi
  refine ⟨fun k => if k = i then Up (R i) w w' else R k, fun k => if k = i then Up (W i) w w' else W k, ⟨fun k F hk => ?_, fun a b ha hb hne => ?_, fun k hk => ?_, c2.below (fun k j hk => h3 i il k j (E.wr (h1 i E hi) k j hk)) h4 h4.size⟩⟩
  · by_cases e : k = i
    · subst e
      rw [List.getElem?_set_self il] at hk
      obtain rfl : E' = F := by simpa using hk
      show E'.P (if k = k then _ else _) (if k = k then _ else _) w'
      rw [if_pos rfl, if_pos rfl]; exact c1
    · rw [List.getElem?_set_ne (fun q => e q.symm)] at hk
      show F.P (if k = i then _ else _) (if k = i then _ else _) w'
      rw [if_neg e, if_neg e]
      exact F.kept (h1 k F hk) c2 (h2 i k il (len_of2 hk) (fun q => e q.symm))
  · rw [List.length_set] at ha hb
    show Dj (if a = i then _ else _) (if b = i then _ else _)
    have lt : ∀ k, k < l.length → ∀ x y, R k x y → x < w.heap.size := fun k hk => by
      obtain ⟨F, hF⟩ : ∃ F, l[k]? = some F := ⟨_, List.getElem?_eq_getElem hk⟩
      exact F.rlt (h1 k F hF)
    have wl : ∀ k, k < l.length → ∀ x y, W k x y → x < w.heap.size := fun k hk => by
      obtain ⟨F, hF⟩ : ∃ F, l[k]? = some F := ⟨_, List.getElem?_eq_getElem hk⟩
      exact fun x y q => F.rlt (h1 k F hF) x y (F.wr (h1 k F hF) x y q)
    by_cases ea : a = i
    · subst ea
      have eb : ¬ b = a := fun q => hne q.symm
      rw [if_pos rfl, if_neg eb]
      intro x y hx hy
      rcases hx with hx | hx
      · exact h2 a b ha hb hne x y hx hy
      · have := lt b hb x y hy; omega
    · rw [if_neg ea]
      by_cases eb : b = i
      · subst eb
        rw [if_pos rfl]
        intro x y hx hy
        rcases hy with hy | hy
        · exact h2 a b ha hb hne x y hx hy
        · have := wl a ha x y hx; omega
      · rw [if_neg eb]; exact h2 a b ha hb hne
  · rw [List.length_set] at hk
    show ∀ x y, (if k = i then _ else _ : Fp) x y → _
    by_cases e : k = i
    · subst e
      rw [if_pos rfl]
      intro x y hx
      rcases hx with hx | hx
      · exact h3 k hk x y hx
      · exact Nat.le_trans h4.size hx.1
    · rw [if_neg e]; exact h3 k hk
/-- One of them has done something. -/
theorem Bes.set (h : Bes w0 l w) (i : Nat) (hi : l[i]? = some E) (hc : ∀ R W, E.P R W w → E'.P (Up R w w') (Up W w w') w' ∧ Cw W w w') : Bes w0 (l.set i E') w' := by
  obtain ⟨R, W, h⟩ := h
  obtain ⟨c1, c2⟩ := hc _ _ (h.each i E hi)
  exact h.set i hi c1 c2
/-- A call that is made upon one of them. -/
theorem Bes.step (h : Bes w0 l w) (i : Nat) (hi : l[i]? = some E) (E' : Th) {f : FuncId} {args : Array Value} {v : Value} (hc : ∀ R W, E.P R W w → Calls Tryz.prog f args w (fun e w' => e = .returned v ∧ E'.P (Up R w w') (Up W w w') w' ∧ Cw W w w')) :
    Calls Tryz.prog f args w (fun e w' => e = .returned v ∧ Bes w0 (l.set i E') w') := by
  obtain ⟨R, W, h⟩ := h
  refine (hc _ _ (h.each i E hi)).mono ?_
  rintro e w' ⟨rfl, c1, c2⟩
  exact ⟨rfl, h.set i hi c1 c2⟩
/-- A new one. -/
theorem Bes.push (h : Bes w0 l w) (hb : Below w.heap.size w w') {R1 W1 : Fp} (hE : E.P R1 W1 w') (hn : ∀ k j, R1 k j → w.heap.size ≤ k) : Bes w0 (l ++ [E]) w' := by
  obtain ⟨R, W, h1, h2, h3, h4⟩ := h
  have lt : ∀ k, k < l.length → ∀ x y, R k x y → x < w.heap.size := fun k hk => by
    obtain ⟨F, hF⟩ : ∃ F, l[k]? = some F := ⟨_, List.getElem?_eq_getElem hk⟩
    exact F.rlt (h1 k F hF)
  have wl : ∀ k, k < l.length → ∀ x y, W k x y → x < w.heap.size := fun k hk => by
    obtain ⟨F, hF⟩ : ∃ F, l[k]? = some F := ⟨_, List.getElem?_eq_getElem hk⟩
    exact fun x y q => F.rlt (h1 k F hF) x y (F.wr (h1 k F hF) x y q)
  refine ⟨fun k => if k = l.length then R1 else R k, fun k => if k = l.length then W1 else W k, ⟨fun k F hk => ?_, fun a b ha hb' hne => ?_, fun k hk => ?_, h4.trans (hb.mono h4.size)⟩⟩
  · by_cases e : k = l.length
    · subst e
      rw [List.getElem?_append_right (Nat.le_refl _), Nat.sub_self] at hk
      obtain rfl : E = F := by simpa using hk
      show E.P (if _ then _ else _) (if _ then _ else _) w'
      rw [if_pos rfl, if_pos rfl]; exact hE
    · have hk2 : k < l.length := by
        have := len_of2 hk
        rw [List.length_append] at this
        have : k < l.length + 1 := this
        omega
      rw [List.getElem?_append_left hk2] at hk
      show F.P (if _ then _ else _) (if _ then _ else _) w'
      rw [if_neg e, if_neg e]
      exact F.kept (h1 k F hk) (Cw.of_below (fun _ _ => False) hb) (fun _ _ h => h.elim)
  · rw [List.length_append] at ha hb'
    have ha2 : a < l.length + 1 := ha
    have hb2 : b < l.length + 1 := hb'
    show Dj (if a = l.length then _ else _) (if b = l.length then _ else _)
    by_cases ea : a = l.length
    · have eb : ¬ b = l.length := fun q => hne (ea.trans q.symm)
      rw [if_pos ea, if_neg eb]
      intro x y hx hy
      have := hn x y (E.wr hE x y hx)
      have := lt b (by omega) x y hy
      omega
    · rw [if_neg ea]
      by_cases eb : b = l.length
      · rw [if_pos eb]
        intro x y hx hy
        have := hn x y hy
        have := wl a (by omega) x y hx
        omega
      · rw [if_neg eb]; exact h2 a b (by omega) (by omega) hne
  · rw [List.length_append] at hk
    have hk2 : k < l.length + 1 := hk
    show ∀ x y, (if k = l.length then _ else _ : Fp) x y → _
    by_cases e : k = l.length
    · rw [if_pos e]
      intro x y hx
      exact Nat.le_trans h4.size (hn x y hx)
    · rw [if_neg e]; exact h3 k (by omega)
end
/-- The program's memory. -/
def eM (m : Nat) (F : Nat → Nat) : Th where
  P R W w := R = W ∧ ∃ S : Nat → Prop, MemS S w m F ∧ (∀ k j, W k j ↔ S k) ∧ ∀ k, S k → k < w.heap.size
  kept := fun h hc hd => by
    obtain ⟨e, S, h1, h2, h3⟩ := h
    subst e
    exact ⟨rfl, S, h1.keptB hc.os hc.tape hc.output hc.size (fun k hk hS => hc.block k hk (fun o ht => hd k o ht ((h2 k o).2 hS))), h2, fun k hk => Nat.lt_of_lt_of_le (h3 k hk) hc.size⟩
  wr h := by rw [h.1]; exact fun _ _ h => h
  rlt h := by
    obtain ⟨e, S, h1, h2, h3⟩ := h
    subst e
    exact fun k j hk => h3 k ((h2 k j).1 hk)
/-- The document's. -/
def eR (r : Nat) (F : Nat → Nat) : Th where
  P R W w := R = W ∧ IsRm W w r F
  kept := fun h hc hd => by
    obtain ⟨e, pb, A, n, c, g, x⟩ := h
    subst e
    exact ⟨rfl, pb, A, n, c, g, x.keptW hc hd⟩
  wr h := by rw [h.1]; exact fun _ _ h => h
  rlt h := by
    obtain ⟨e, pb, A, n, c, g, x⟩ := h
    subst e
    exact x.rlt
section
variable {w0 w w' : World} {l : List Th} {m r a v : Nat} {F G : Nat → Nat} {z : Int}
end
end Go.Proofs.YthhlcchofilimaaGreatDoor.U.M
namespace Go.Proofs.YthhlcchofilimaaGreatDoor.U.M
set_option linter.unusedVariables false
set_option linter.unusedSimpArgs false
set_option maxRecDepth 20000
set_option maxRecDepth 20000
open Go.Maps Go.WideMaps Go.ChangeShapes Go.WideShapes Go.ChangeAt Go.RowKit
/-- What laying an image leaves. -/
def layI (F : Nat → Nat) (n : Nat) (X : Nat → Nat) : Nat → Nat := if n ≤ 1048576 then layF F 2147483648 n X else F
theorem lay_any (S : Nat → Prop) (m g o n c : Nat) (sa : Option Addr) (F X : Nat → Nat) (w : World) (hM : Hid (MemS S w m F)) (hSb : Hid (∀ i, S i → i < w.heap.size)) (hg : Hid (0 < n → sa = some ⟨g, o, none⟩ ∧ g < w.heap.size ∧ ¬ S g)) (hnc : Hid (n ≤ c)) (hr : Hid (∀ i, i < n → w.cell? ⟨g, o + i, none⟩ = some (.int .u8 (X i : Nat)))) :
    Calls Tryz.prog 15 #[.pointer (some ⟨m, 0, none⟩), .slice sa n c] w (fun e w' => e = .returned (.bool (decide (n ≤ 1048576))) ∧ ∃ S', MemS S' w' m (layI F n X) ∧ Own S w w' ∧ ∀ i, S' i → i < w'.heap.size ∧ (S i ∨ w.heap.size ≤ i)) := by
  unfold layI
  by_cases hn : n ≤ 1048576
  · rw [if_pos hn, decide_eq_true hn]
    by_cases h0 : n = 0
    · subst h0
      refine (lay_zero m c sa w).mono ?_; rintro e w1 ⟨rfl, h1⟩
      subst h1
      exact ⟨rfl, S, by rw [layF_zero]; exact hM.out, Own.below (Below.refl _ _), fun i hi => ⟨hSb.out i hi, Or.inl hi⟩⟩
    · obtain ⟨h1, h2, h3⟩ := hg.out (by omega)
      subst h1
      exact lay_c S m g o n c F X w hM hSb (Lib.hid ⟨h2, h3⟩) hn hnc hr
  · rw [if_neg hn, decide_eq_false hn]
    refine (lay_big m n c sa w (by omega)).mono ?_; rintro e w1 ⟨rfl, hb⟩
    exact ⟨rfl, S, hM.out.kept (T := fun _ => False) (Own.below hb) (fun _ _ h => h), Own.below hb, fun i hi => ⟨Nat.lt_of_lt_of_le (hSb.out i hi) hb.size, Or.inl hi⟩⟩
theorem layr_any (R : Fp) (r g o n c : Nat) (sa : Option Addr) (F X : Nat → Nat) (w : World) (hM : Hid (IsRm R w r F)) (hg : Hid (0 < n → sa = some ⟨g, o, none⟩ ∧ g < w.heap.size ∧ ∀ j, ¬ R g j)) (hX : Hid (∀ i, X i < 256)) (hr : Hid (∀ i, i < n → w.cell? ⟨g, o + i, none⟩ = some (.int .u8 (X i : Nat)))) :
    Calls Tryz.prog 24 #[.pointer (some ⟨r, 0, none⟩), .slice sa n c] w (RetL (decide (n ≤ 1048576)) r (layI F n X) R w) := by
  unfold layI
  by_cases hn : n ≤ 1048576
  · rw [if_pos hn, decide_eq_true hn]
    exact layr_c R r g o n c sa F X w hM hg hn hX hr
  · rw [if_neg hn, decide_eq_false hn]
    refine (layr_big r n c sa w (by omega)).mono ?_; rintro e w1 ⟨rfl, h1⟩
    subst h1
    exact ⟨rfl, hM.out.start, Ch.refl _ _⟩
/-- Bytes that lie in w. -/
def Byt (w : World) (sa : Option Addr) (g o n c : Nat) (X : Nat → Nat) : Prop := (0 < n → sa = some ⟨g, o, none⟩ ∧ g < w.heap.size) ∧ n ≤ c ∧ (∀ i, i < n → w.cell? ⟨g, o + i, none⟩ = some (.int .u8 (X i : Nat))) ∧ ∀ i, X i < 256
theorem Byt.below {w w' : World} {sa : Option Addr} {g o n c : Nat} {X : Nat → Nat} (h : Byt w sa g o n c X) (hb : Below w.heap.size w w') : Byt w' sa g o n c X :=
  ⟨fun h0 => ⟨(h.1 h0).1, Nat.lt_of_lt_of_le (h.1 h0).2 hb.size⟩, h.2.1, fun i hi => (hb.cell (p := ⟨g, o + i, none⟩) (h.1 (by omega)).2).trans (h.2.2.1 i hi), h.2.2.2⟩
theorem SlA.keptW {T : Fp} {w w' : World} {a : Option Addr} {n c g o : Nat} {L : List Nat} (h : SlA w a n c g o L) (hc : Cw T w w') (hn : ∀ i, i < c → ¬ T g (o + i)) : SlA w' a n c g o L :=
  ⟨h.len, h.le, fun h0 => ⟨(h.addr h0).1, Nat.lt_of_lt_of_le (h.addr h0).2 hc.size⟩,
    fun i hi => by rw [hc.cell g (o + i) (h.addr (by have := h.le; omega)).2 (hn i (by have := h.le; omega))]; exact h.cell i hi,
    fun i hi => ⟨by rw [hc.cell g (o + i) (h.addr (by omega)).2 (hn i hi)]; exact (h.there i hi).1, by rw [hc.frozen g (o + i) (h.addr (by omega)).2 (hn i hi)]; exact (h.there i hi).2⟩⟩
section
variable {w0 w w' : World} {l : List Th} {m r : Nat} {F G : Nat → Nat}
end
end Go.Proofs.YthhlcchofilimaaGreatDoor.U.M
