/- A memory with its footprint: which blocks are its own; how many pages it has. -/
import Derived.Test.YtibgdlianedcbaaB4
namespace Go.Proofs.Ytibgdlianedcbaa
open Go.Maps Go.WideMaps Go.ChangeShapes Go.WideShapes Go.ChangeAt Go.RowKit
set_option linter.unusedVariables false
set_option linter.unusedSimpArgs false
/-- How many of the RAM's 256 pages a map names. -/
def cntD (D : DataW Unit) : Nat := (List.range 256).countP (fun i => Maps.has D (keyL (2147483648 + 4096 * i)))
theorem cnt_le (D : DataW Unit) : cntD D ≤ 256 := by
  have := List.countP_le_length (p := fun i => Maps.has D (keyL (2147483648 + 4096 * i))) (l := List.range 256)
  rw [List.length_range] at this
  exact this
theorem count_one (p q : Nat → Bool) (i0 : Nat) (hp : p i0 = false) (hq : q i0 = true) (ho : ∀ i, i < 256 → i ≠ i0 → q i = p i) : ∀ l : List Nat, (∀ i, i ∈ l → i < 256) → l.Nodup → l.countP q = l.countP p + (if i0 ∈ l then 1 else 0)
  | [], _, _ => by simp
  | x :: l, h, hn => by
    have ih := count_one p q i0 hp hq ho l (fun i hi => h i (List.mem_cons_of_mem _ hi)) (List.nodup_cons.1 hn).2
    have hx := (List.nodup_cons.1 hn).1
    rw [List.countP_cons, List.countP_cons, ih]
    by_cases e : x = i0
    · subst e
      rw [if_neg hx, if_pos (List.mem_cons_self), hp, hq]
      simp
    · rw [ho x (h x (List.mem_cons_self)) e]
      have : (i0 ∈ x :: l) = (i0 ∈ l) := by
        rw [List.mem_cons]
        simp [Ne.symm e]
      simp only [this]
      omega
theorem cnt_put {D : DataW Unit} (hD : Maps.IsMap D) (i0 : Nat) (hi : i0 < 256) (hh : Maps.has D (keyL (2147483648 + 4096 * i0)) = false) (d : DataW Unit) : cntD (D.put (keyL (2147483648 + 4096 * i0)) d) = cntD D + 1 := by
  unfold cntD
  have h := count_one (fun i => Maps.has D (keyL (2147483648 + 4096 * i))) (fun i => Maps.has (D.put (keyL (2147483648 + 4096 * i0)) d) (keyL (2147483648 + 4096 * i))) i0 hh (Maps.has_put_same hD (by trivial) d)
    (fun i hi2 hne => Maps.has_put_other (keyL_ne (wfU (by omega)) (wfU (by omega)) (by omega)) d) (List.range 256) (fun i hi => List.mem_range.1 hi) List.nodup_range
  rw [h, if_pos (List.mem_range.2 hi)]
/-- A memory whose blocks lie in S: at block m, with the map b of contents D. -/
def MemD (S : Nat → Prop) (w : World) (m b : Nat) (D : DataW Unit) (F : Nat → Nat) : Prop :=
  m < w.heap.size ∧ S m ∧ w.cell? ⟨m, 0, none⟩ = some (.map (some b)) ∧ S b ∧ b ≠ m ∧ w.ownsMap Try.prog 58 pageR b (cntD D) D ∧ Laid w D F ∧
    (∀ s p, s < 18446744073709551616 → Maps.has D (keyL s) = true → D.atKey (keyL s) noneD = pageD p → S p ∧ p ≠ m ∧ p ≠ b ∧ s % 4096 = 0 ∧ 2147483648 ≤ s ∧ s < 2148532224)
def MemS (S : Nat → Prop) (w : World) (m : Nat) (F : Nat → Nat) : Prop := ∃ b D, MemD S w m b D F
theorem MemS.mem {S : Nat → Prop} {w : World} {m : Nat} {F : Nat → Nat} (h : MemS S w m F) : Mem w m F := by
  obtain ⟨b, D, h0, -, h1, -, -, h2, h3, -⟩ := h
  exact ⟨h0, b, _, D, h1, h2, h3⟩
/-- Nothing outside of S is written. -/
structure Own (S : Nat → Prop) (w w' : World) : Prop where
  os : w'.os = w.os
  tape : w'.tape = w.tape
  output : w'.output = w.output
  size : w.heap.size ≤ w'.heap.size
  block : ∀ i, i < w.heap.size → ¬ S i → w'.heap[i]? = w.heap[i]?
theorem Own.refl (S : Nat → Prop) (w : World) : Own S w w := ⟨rfl, rfl, rfl, Nat.le_refl _, fun _ _ _ => rfl⟩
theorem Own.trans {S : Nat → Prop} {a b c : World} (h : Own S a b) (k : Own S b c) : Own S a c :=
  ⟨k.os.trans h.os, k.tape.trans h.tape, k.output.trans h.output, Nat.le_trans h.size k.size, fun i hi hn => (k.block i (Nat.lt_of_lt_of_le hi h.size) hn).trans (h.block i hi hn)⟩
theorem Own.grown {S : Nat → Prop} {a b : World} {k : Nat} (h : a.grownBy b (some k)) (hk : S k) : Own S a b :=
  ⟨h.os, h.tape, h.output, h.size, fun i hi hn => h.block i hi (by intro e; injection e with e; subst e; exact hn hk)⟩
theorem Own.below {S : Nat → Prop} {a b : World} (h : Below a.heap.size a b) : Own S a b := ⟨h.os, h.tape, h.output, h.size, fun i hi _ => h.block i hi⟩
/-- What writes only elsewhere leaves a memory as it is. -/
theorem MemD.kept {S T : Nat → Prop} {w w' : World} {m b : Nat} {D : DataW Unit} {F : Nat → Nat} (h : MemD S w m b D F) (ho : Own T w w') (hd : ∀ i, S i → ¬ T i) : MemD S w' m b D F := by
  obtain ⟨h0, hm, h1, hb, hne, h2, ⟨h3, h4, h5⟩, h6⟩ := h
  have hbl : b < w.heap.size := by
    obtain ⟨es, clock, q, -⟩ := h2
    exact (Array.getElem?_eq_some_iff.1 q).1
  refine ⟨Nat.lt_of_lt_of_le h0 ho.size, hm, ?_, hb, hne, ?_, ⟨fun s hs hh => ?_, h4, h5⟩, h6⟩
  · rw [World.cell?_of_block (w := w) (a := ⟨m, 0, none⟩) (ho.block m h0 (hd m hm))]; exact h1
  · obtain ⟨es, clock, q, r⟩ := h2
    exact ⟨es, clock, by rw [ho.block b hbl (hd b hb)]; exact q, r⟩
  · obtain ⟨p, q1, q2, q3⟩ := h3 s hs hh
    have hp := (h6 s p hs hh q1).1
    have hb2 := ho.block p q2 (hd p hp)
    refine ⟨p, q1, Nat.lt_of_lt_of_le q2 ho.size, fun i hi => ⟨?_, ?_⟩⟩
    · rw [World.cell?_of_block (w := w) (a := ⟨p, i, none⟩) hb2]; exact (q3 i hi).1
    · rw [World.frozen?_of_block (w := w) (a := ⟨p, i, none⟩) hb2]; exact (q3 i hi).2
theorem MemS.kept {S T : Nat → Prop} {w w' : World} {m : Nat} {F : Nat → Nat} (h : MemS S w m F) (ho : Own T w w') (hd : ∀ i, S i → ¬ T i) : MemS S w' m F := by
  obtain ⟨b, D, h⟩ := h
  exact ⟨b, D, h.kept ho hd⟩
theorem heap_cells (g : Nat) : ∀ (vs : List Value) (o : Nat) (w : World) (i : Nat), i ≠ g → (w.setCells g o vs).heap[i]? = w.heap[i]?
  | [], _, _, _, _ => rfl
  | v :: vs, o, w, i, h => (heap_cells g vs (o + 1) _ i h).trans (Below.heap_setCell w ⟨g, o, none⟩ v i (fun e => h e))
/-- Bytes laid into a page that is named. -/
theorem MemD.lay {S : Nat → Prop} {w : World} {m b : Nat} {D : DataW Unit} {F : Nat → Nat} (h : MemD S w m b D F) (s p f t : Nat) (hs : s < 18446744073709551616) (hh : Maps.has D (keyL s) = true) (hp : D.atKey (keyL s) noneD = pageD p) (hft : f + t ≤ 4096) (R : Nat → Nat) (cs : List Value) (hcs : cs = (List.range t).map (fun i => (.int .u8 (R i : Nat) : Value))) :
    MemD S (w.setCells p f cs) m b D (fun x => if s + f ≤ x ∧ x < s + f + t then R (x - (s + f)) else F x) := by
  obtain ⟨h0, hm, h1, hb, hne, h2, ⟨h3, h4, h5⟩, h6⟩ := h
  have hl : cs.length = t := by rw [hcs]; simp
  obtain ⟨hpS, hpm, hpb, hs4, -, -⟩ := h6 s p hs hh hp
  refine ⟨by rw [size_cells]; exact h0, hm, ?_, hb, hne, ?_, ⟨fun s2 hs2 hh2 => ?_, fun s2 hs2 h40 hh2 i hi => ?_, h5⟩, h6⟩
  · rw [World.cell?_of_block (w := w) (a := ⟨m, 0, none⟩) (heap_cells p cs f w m (Ne.symm hpm))]; exact h1
  · obtain ⟨es, clock, q, r⟩ := h2
    exact ⟨es, clock, by rw [heap_cells p cs f w b (Ne.symm hpb)]; exact q, r⟩
  · obtain ⟨p2, q1, q2, q3⟩ := h3 s2 hs2 hh2
    refine ⟨p2, q1, by rw [size_cells]; exact q2, fun i hi => ⟨?_, by rw [World.frozen?_setCells]; exact (q3 i hi).2⟩⟩
    by_cases e : s2 = s
    · subst e
      obtain rfl : p2 = p := by
        have := q1.symm.trans hp
        unfold pageD at this
        simp at this
        omega
      by_cases hin : f ≤ i ∧ i < f + t
      · have := World.cell?_setCells_in p2 cs f w (fun j hj => by rw [(q3 (f + j) (by omega)).1]; rfl) (i - f) (by omega)
        rw [show f + (i - f) = i by omega] at this
        rw [this]
        show _ = some (Value.int .u8 ((if s2 + f ≤ s2 + i ∧ s2 + i < s2 + f + t then R (s2 + i - (s2 + f)) else F (s2 + i) : Nat) : Int))
        rw [if_pos (by omega), show s2 + i - (s2 + f) = i - f by omega]
        subst hcs
        simp
      · rw [World.cell?_setCells_out p2 cs f w ⟨p2, i, none⟩ (fun _ _ => by show i < f ∨ f + cs.length ≤ i; omega), (q3 i hi).1]
        show some (Value.int .u8 ((F (s2 + i) : Nat) : Int)) = some (Value.int .u8 ((if s2 + f ≤ s2 + i ∧ s2 + i < s2 + f + t then R (s2 + i - (s2 + f)) else F (s2 + i) : Nat) : Int))
        rw [if_neg (by omega)]
    · have hne2 : p2 ≠ p := by
        rintro rfl
        exact e (h5 s2 s p2 hs2 hs hh2 hh q1 hp)
      have h42 := (h6 s2 p2 hs2 hh2 q1).2.2.2.1
      rw [World.cell?_of_block (w := w) (a := ⟨p2, i, none⟩) (heap_cells p cs f w p2 hne2), (q3 i hi).1]
      show some (Value.int .u8 ((F (s2 + i) : Nat) : Int)) = some (Value.int .u8 ((if s + f ≤ s2 + i ∧ s2 + i < s + f + t then R (s2 + i - (s + f)) else F (s2 + i) : Nat) : Int))
      rw [if_neg (by omega)]
  · have hne2 : s2 ≠ s := by rintro rfl; rw [hh] at hh2; cases hh2
    show (if s + f ≤ s2 + i ∧ s2 + i < s + f + t then R (s2 + i - (s + f)) else F (s2 + i)) = 0
    rw [if_neg (by omega)]
    exact h4 s2 hs2 h40 hh2 i hi
/-- A new page of zeros is named. -/
theorem MemD.put {S : Nat → Prop} {w w' : World} {m b : Nat} {D : DataW Unit} {F : Nat → Nat} (h : MemD S w m b D F) (s i0 p : Nat) (hi : i0 < 256) (hs : s = 2147483648 + 4096 * i0) (hh : Maps.has D (keyL s) = false) (hp : PageIs w p (fun _ => 0)) (hpS : ¬ S p)
    (hst : w'.ownsMap Try.prog 58 pageR b (cntD D + 1) (D.put (keyL s) (pageD p))) (hmt : w.mapTurned w' b) : MemD (fun i => S i ∨ i = p) w' m b (D.put (keyL s) (pageD p)) F := by
  obtain ⟨h0, hm, h1, hb, hne, h2, ⟨h3, h4, h5⟩, h6⟩ := h
  have hg := hmt.grown
  have hD := h2.isMap
  have hpm : p ≠ m := by rintro rfl; exact hpS hm
  have hpb : p ≠ b := by rintro rfl; exact hpS hb
  have other : ∀ s2, s2 < 18446744073709551616 → s2 ≠ s → Maps.has (D.put (keyL s) (pageD p)) (keyL s2) = Maps.has D (keyL s2) ∧ (D.put (keyL s) (pageD p)).atKey (keyL s2) noneD = D.atKey (keyL s2) noneD := fun s2 hs2 e =>
    ⟨Maps.has_put_other (keyL_ne (wfU hs2) (wfU (by omega)) e) _, Maps.atKey_put_other (keyL_ne (wfU hs2) (wfU (by omega)) e) _ _⟩
  have same : (D.put (keyL s) (pageD p)).atKey (keyL s) noneD = pageD p := Maps.atKey_put_same hD (by trivial) _ _
  have inj : ∀ x y, pageD x = pageD y → x = y := fun x y e => by unfold pageD at e; simp at e; omega
  refine ⟨Nat.lt_of_lt_of_le h0 hg.size, Or.inl hm, ?_, Or.inl hb, hne, ?_, ⟨fun s2 hs2 hh2 => ?_, fun s2 hs2 h40 hh2 i hi2 => ?_, fun s2 s3 q hs2 hs3 hh2 hh3 e2 e3 => ?_⟩, fun s2 q hs2 hh2 e2 => ?_⟩
  · rw [World.cell?_of_block (w := w) (a := ⟨m, 0, none⟩) (hg.block m h0 (by intro e; injection e with e; exact hne e.symm))]; exact h1
  · rw [hs] at hh hst ⊢
    rw [cnt_put hD i0 hi hh]
    exact hst
  · by_cases e : s2 = s
    · subst e
      refine ⟨p, same, ?_⟩
      obtain ⟨q2, q3⟩ := hp.kept hg (by intro e; injection e with e; exact hpb e)
      refine ⟨q2, fun i hi3 => ⟨?_, (q3 i hi3).2⟩⟩
      have hF0 := h4 s2 hs2 (by omega) hh i hi3
      rw [(q3 i hi3).1]
      show some (Value.int .u8 ((0 : Nat) : Int)) = some (Value.int .u8 ((F (s2 + i) : Nat) : Int))
      rw [hF0]
    · obtain ⟨o1, o2⟩ := other s2 hs2 e
      rw [o1] at hh2
      rw [o2]
      obtain ⟨p2, q1, q2⟩ := h3 s2 hs2 hh2
      exact ⟨p2, q1, q2.kept hg (by intro e; injection e with e; exact (h6 s2 p2 hs2 hh2 q1).2.2.1 e)⟩
  · by_cases e : s2 = s
    · subst e
      rw [Maps.has_put_same hD (by trivial)] at hh2
      cases hh2
    · rw [(other s2 hs2 e).1] at hh2
      exact h4 s2 hs2 h40 hh2 i hi2
  · by_cases a : s2 = s
    · subst a
      rw [same] at e2
      have eq := inj _ _ e2
      subst eq
      by_cases c : s3 = s2
      · exact c.symm
      · exfalso
        obtain ⟨o1, o2⟩ := other s3 hs3 c
        rw [o1] at hh3
        rw [o2] at e3
        exact hpS (h6 s3 p hs3 hh3 e3).1
    · obtain ⟨o1, o2⟩ := other s2 hs2 a
      rw [o1] at hh2
      rw [o2] at e2
      by_cases c : s3 = s
      · subst c
        rw [same] at e3
        have eq := inj _ _ e3
        subst eq
        exact absurd (h6 s2 p hs2 hh2 e2).1 hpS
      · obtain ⟨o3, o4⟩ := other s3 hs3 c
        rw [o3] at hh3
        rw [o4] at e3
        exact h5 s2 s3 q hs2 hs3 hh2 hh3 e2 e3
  · by_cases a : s2 = s
    · subst a
      rw [same] at e2
      have eq := inj _ _ e2
      subst eq
      exact ⟨Or.inr rfl, hpm, hpb, by omega, by omega, by omega⟩
    · obtain ⟨o1, o2⟩ := other s2 hs2 a
      rw [o1] at hh2
      rw [o2] at e2
      obtain ⟨k1, k2, k3, k4⟩ := h6 s2 q hs2 hh2 e2
      exact ⟨Or.inl k1, k2, k3, k4⟩
end Go.Proofs.Ytibgdlianedcbaa
