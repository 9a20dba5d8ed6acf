/- The document's plic: sets of sources as bits; what it is in memory. -/
import Derived.Test.YtoicpikkcefheaaGreatBA
import Derived.Laws.Bits64
import Derived.Laws.Bits64b
namespace Go.Proofs.YtoicpikkcefheaaGreat.P
open Go.ChangeShapes Go.WideShapes Go.ChangeAt Go.RowKit
open M (Fp Dj Cw Up Th)
set_option linter.unusedVariables false
set_option linter.unusedSimpArgs false
set_option maxRecDepth 20000
/-- A set of sources as bits. -/
def Bits (x : Nat) (f : Nat → Bool) : Prop := ∀ i, x.testBit i = (decide (i < 9) && f i)
theorem set_same2 {α : Type} (f : Nat → α) (n : Nat) (x : α) : set f n x n = x := by unfold set; rw [if_pos rfl]
theorem set_ne2 {α : Type} (f : Nat → α) (n k : Nat) (x : α) (h : k ≠ n) : set f n x k = f k := by unfold set; rw [if_neg h]
section
variable {x y n : Nat} {f g : Nat → Bool}
theorem Bits.lt (h : Bits x f) : x < 512 := Nat.lt_pow_two_of_testBit (n := 9) x (fun i hi => by rw [h i, decide_eq_false (by omega)]; rfl)
theorem bits_zero : Bits 0 (fun _ => false) := fun i => by rw [Nat.zero_testBit, Bool.and_false]
theorem Bits.ext (h : Bits x f) (k : Bits y f) : x = y := Nat.eq_of_testBit_eq (fun i => by rw [h i, k i])
theorem Bits.congr (h : Bits x f) (k : ∀ i, i < 9 → f i = g i) : Bits x g := fun i => by
  rw [h i]
  by_cases hi : i < 9
  · rw [k i hi]
  · rw [decide_eq_false hi]; rfl
theorem Bits.at (h : Bits x f) (hn : n < 9) : x.testBit n = f n := by rw [h n, decide_eq_true hn, Bool.true_and]
theorem Bits.on (h : Bits x f) (hn : n < 9) : Bits (x ||| 2 ^ n) (set f n true) := fun i => by
  rw [Nat.testBit_or, h i, Nat.testBit_two_pow]
  unfold set
  by_cases e : i = n
  · subst e; simp [hn]
  · have : ¬ n = i := fun q => e q.symm
    simp [e, this]
theorem not_bit (hy : y < 18446744073709551616) (i : Nat) : (18446744073709551615 - y).testBit i = (decide (i < 64) && !y.testBit i) := by
  rw [show 18446744073709551615 - y = 2 ^ 64 - (y + 1) by omega, Nat.testBit_two_pow_sub_succ hy]
theorem Bits.diff (h : Bits x f) (k : Bits y g) : Bits (x &&& (18446744073709551615 - y)) (fun i => f i && !g i) := fun i => by
  rw [Nat.testBit_and, h i, not_bit (Nat.lt_trans k.lt (by decide)), k i]
  by_cases hi : i < 9
  · have : i < 64 := by omega
    simp [hi, this]
  · simp [hi]
theorem Bits.off (h : Bits x f) (hn : n < 9) : Bits (x &&& (18446744073709551615 - 2 ^ n)) (set f n false) := fun i => by
  have hp : 2 ^ n < 2 ^ 64 := Nat.pow_lt_pow_right (by decide) (by omega)
  rw [Nat.testBit_and, h i, not_bit hp, Nat.testBit_two_pow]
  unfold set
  by_cases e : i = n
  · subst e; simp
  · have : ¬ n = i := fun q => e q.symm
    by_cases hi : i < 9
    · have : i < 64 := by omega
      simp [*]
    · simp [hi, e]
theorem Bits.or (h : Bits x f) (k : Bits y g) : Bits (x ||| y) (fun i => f i || g i) := fun i => by
  rw [Nat.testBit_or, h i, k i]
  cases decide (i < 9) <;> simp
end
theorem waitF_lt2 (S : St) : ∀ k, waitF S k < 2 ^ k
  | 0 => by show (0 : Nat) < 1; decide
  | k + 1 => by
    show waitF S k + (bif S.st k == 1 then 2 ^ k else 0) < 2 ^ (k + 1)
    have := waitF_lt2 S k
    rw [Nat.pow_succ]
    cases S.st k == 1
    · show waitF S k + 0 < _; omega
    · show waitF S k + 2 ^ k < _; omega
theorem waitF_bit (S : St) (i : Nat) : ∀ k, (waitF S k).testBit i = (decide (i < k) && (S.st i == 1))
  | 0 => by show (0 : Nat).testBit i = _; simp
  | k + 1 => by
    show (waitF S k + (bif S.st k == 1 then 2 ^ k else 0)).testBit i = _
    have h := waitF_bit S i k
    have hl := waitF_lt2 S k
    cases hk : S.st k == 1 with
    | false =>
      show (waitF S k + 0).testBit i = _
      rw [Nat.add_zero, h]
      by_cases e : i = k
      · subst e; simp [hk]
      · have : (i < k + 1) = (i < k) := by rw [eq_iff_iff]; omega
        simp [this]
    | true =>
      show (waitF S k + 2 ^ k).testBit i = _
      have e1 : waitF S k + 2 ^ k = 2 ^ k ||| waitF S k := by
        have := Nat.two_pow_add_eq_or_of_lt hl 1
        rw [Nat.mul_one] at this
        rw [Nat.add_comm]; exact this
      rw [e1, Nat.testBit_or, Nat.testBit_two_pow, h]
      by_cases e : i = k
      · subst e; simp [hk]
      · have e2 : ¬ k = i := fun q => e q.symm
        have : (i < k + 1) = (i < k) := by rw [eq_iff_iff]; omega
        simp [this, e2]
theorem waitF_bits (S : St) : Bits (waitF S 9) (fun k => S.st k == 1) := fun i => waitF_bit S i 9
/-- What holds of a plic on its ways. -/
def InvS (S : St) : Prop := (∀ k, S.up k = true → S.st k ≠ 0) ∧ S.pr 0 = 0 ∧ S.st 0 = 0 ∧ S.up 0 = false
/-- The document's plic in its four blocks. -/
structure Raw (w : World) (b e p t ce cp ct : Nat) (u v s : Nat) (S : St) : Prop where
  lb : b < w.heap.size
  le : e < w.heap.size
  lp : p < w.heap.size
  lt : t < w.heap.size
  be : b ≠ e
  bp : b ≠ p
  bt : b ≠ t
  ep : e ≠ p
  et : e ≠ t
  pt : p ≠ t
  c0 : w.cell? ⟨b, 0, none⟩ = some (.int .u64 (u : Nat))
  c1 : w.cell? ⟨b, 1, none⟩ = some (.int .u64 (v : Nat))
  c2 : w.cell? ⟨b, 2, none⟩ = some (.int .u64 (s : Nat))
  c3 : w.cell? ⟨b, 3, none⟩ = some (.slice (some ⟨e, 0, none⟩) 2 ce)
  c4 : w.cell? ⟨b, 4, none⟩ = some (.slice (some ⟨p, 0, none⟩) 9 cp)
  c5 : w.cell? ⟨b, 5, none⟩ = some (.slice (some ⟨t, 0, none⟩) 2 ct)
  fb : ∀ j, w.frozen? ⟨b, j, none⟩ = false
  en : ∀ i, i < 2 → w.cell? ⟨e, i, none⟩ = some (.int .u64 (S.en i : Nat)) ∧ w.frozen? ⟨e, i, none⟩ = false
  pr : ∀ i, i < 9 → w.cell? ⟨p, i, none⟩ = some (.int .u64 (S.pr i : Nat)) ∧ w.frozen? ⟨p, i, none⟩ = false
  th : ∀ i, i < 2 → w.cell? ⟨t, i, none⟩ = some (.int .u64 (S.th i : Nat)) ∧ w.frozen? ⟨t, i, none⟩ = false
  hce : 2 ≤ ce
  hcp : 9 ≤ cp
  hct : 2 ≤ ct
structure IsRP (w : World) (b e p t ce cp ct u v s : Nat) (S : St) : Prop where
  raw : Raw w b e p t ce cp ct u v s S
  bu : Bits u S.up
  bv : Bits v (fun k => S.st k == 1)
  bs : Bits s (fun k => S.st k == 2)
  ok : OkS S
  inv : InvS S
section
variable {w w' : World} {b e p t ce cp ct u v s : Nat} {S : St}
/-- Blocks that are as they were. -/
theorem Raw.same (h : Raw w b e p t ce cp ct u v s S) (hs : w.heap.size ≤ w'.heap.size) (hc : ∀ k, (k = b ∨ k = e ∨ k = p ∨ k = t) → ∀ o, w'.cell? ⟨k, o, none⟩ = w.cell? ⟨k, o, none⟩ ∧ w'.frozen? ⟨k, o, none⟩ = w.frozen? ⟨k, o, none⟩) : Raw w' b e p t ce cp ct u v s S := by
  have hb := hc b (.inl rfl); have he := hc e (.inr (.inl rfl)); have hp := hc p (.inr (.inr (.inl rfl))); have ht := hc t (.inr (.inr (.inr rfl)))
  exact { h with
    lb := Nat.lt_of_lt_of_le h.lb hs, le := Nat.lt_of_lt_of_le h.le hs, lp := Nat.lt_of_lt_of_le h.lp hs, lt := Nat.lt_of_lt_of_le h.lt hs
    c0 := (hb 0).1.trans h.c0, c1 := (hb 1).1.trans h.c1, c2 := (hb 2).1.trans h.c2, c3 := (hb 3).1.trans h.c3, c4 := (hb 4).1.trans h.c4, c5 := (hb 5).1.trans h.c5
    fb := fun j => (hb j).2.trans (h.fb j)
    en := fun i hi => ⟨(he i).1.trans (h.en i hi).1, (he i).2.trans (h.en i hi).2⟩
    pr := fun i hi => ⟨(hp i).1.trans (h.pr i hi).1, (hp i).2.trans (h.pr i hi).2⟩
    th := fun i hi => ⟨(ht i).1.trans (h.th i hi).1, (ht i).2.trans (h.th i hi).2⟩ }
theorem Raw.below (h : Raw w b e p t ce cp ct u v s S) (hb : Below w.heap.size w w') : Raw w' b e p t ce cp ct u v s S :=
  h.same hb.size (fun k hk o => by
    have : k < w.heap.size := by rcases hk with e | e | e | e <;> rw [e] <;> first | exact h.lb | exact h.le | exact h.lp | exact h.lt
    exact ⟨hb.cell (p := ⟨k, o, none⟩) this, hb.frozen (p := ⟨k, o, none⟩) this⟩)
theorem IsRP.below (h : IsRP w b e p t ce cp ct u v s S) (hb : Below w.heap.size w w') : IsRP w' b e p t ce cp ct u v s S := { h with raw := h.raw.below hb }
theorem cell_far {k k' o o' : Nat} {x : Value} (h : k' ≠ k ∨ o' ≠ o) : (w.setCell ⟨k', o', none⟩ x).cell? ⟨k, o, none⟩ = w.cell? ⟨k, o, none⟩ := World.cell?_setCell_other _ _ _ _ (by rintro q; injection q with q1 q2; rcases h with h | h; exact h q1; exact h q2)
/-- A number of its own block is written. -/
theorem Raw.num (h : Raw w b e p t ce cp ct u v s S) (j x : Nat) (hj : j < 3) : Raw (w.setCell ⟨b, j, none⟩ (.int .u64 (x : Nat))) b e p t ce cp ct (if j = 0 then x else u) (if j = 1 then x else v) (if j = 2 then x else s) S := by
  have hf : ∀ k o, (w.setCell ⟨b, j, none⟩ (.int .u64 (x : Nat))).frozen? ⟨k, o, none⟩ = w.frozen? ⟨k, o, none⟩ := fun k o => World.frozen?_setCell _ _ _ _
  have q : ∀ i y, w.cell? ⟨b, i, none⟩ = some y → j ≠ i → (w.setCell ⟨b, j, none⟩ (.int .u64 (x : Nat))).cell? ⟨b, i, none⟩ = some y := fun i y hy hn => by rw [cell_far (.inr hn)]; exact hy
  have q1 : ∀ i y, w.cell? ⟨b, i, none⟩ = some (.int .u64 (y : Nat)) → (w.setCell ⟨b, j, none⟩ (.int .u64 (x : Nat))).cell? ⟨b, i, none⟩ = some (.int .u64 ((if j = i then x else y : Nat) : Int)) := fun i y hy => by
    by_cases e : j = i
    · subst e; rw [if_pos rfl, World.cell?_setCell_same _ _ _ hy]
    · rw [if_neg e]; exact q i _ hy e
  exact { h with
    lb := by rw [sz_set]; exact h.lb, le := by rw [sz_set]; exact h.le, lp := by rw [sz_set]; exact h.lp, lt := by rw [sz_set]; exact h.lt
    c0 := q1 0 u h.c0, c1 := q1 1 v h.c1, c2 := q1 2 s h.c2, c3 := q 3 _ h.c3 (by omega), c4 := q 4 _ h.c4 (by omega), c5 := q 5 _ h.c5 (by omega)
    fb := fun j => (hf b j).trans (h.fb j)
    en := fun i hi => ⟨by rw [cell_far (.inl h.be)]; exact (h.en i hi).1, (hf e i).trans (h.en i hi).2⟩
    pr := fun i hi => ⟨by rw [cell_far (.inl h.bp)]; exact (h.pr i hi).1, (hf p i).trans (h.pr i hi).2⟩
    th := fun i hi => ⟨by rw [cell_far (.inl h.bt)]; exact (h.th i hi).1, (hf t i).trans (h.th i hi).2⟩ }
theorem Raw.setEn (h : Raw w b e p t ce cp ct u v s S) (n x : Nat) (hn : n < 2) : Raw (w.setCell ⟨e, n, none⟩ (.int .u64 (x : Nat))) b e p t ce cp ct u v s (S.setEn n x) := by
  have hf : ∀ k o, (w.setCell ⟨e, n, none⟩ (.int .u64 (x : Nat))).frozen? ⟨k, o, none⟩ = w.frozen? ⟨k, o, none⟩ := fun k o => World.frozen?_setCell _ _ _ _
  have q : ∀ i y, w.cell? ⟨b, i, none⟩ = some y → (w.setCell ⟨e, n, none⟩ (.int .u64 (x : Nat))).cell? ⟨b, i, none⟩ = some y := fun i y hy => by rw [cell_far (.inl (fun q => h.be q.symm))]; exact hy
  exact {
    lb := by rw [sz_set]; exact h.lb, le := by rw [sz_set]; exact h.le, lp := by rw [sz_set]; exact h.lp, lt := by rw [sz_set]; exact h.lt, be := h.be, bp := h.bp, bt := h.bt, ep := h.ep, et := h.et, pt := h.pt,
    c0 := q 0 _ h.c0, c1 := q 1 _ h.c1, c2 := q 2 _ h.c2, c3 := q 3 _ h.c3, c4 := q 4 _ h.c4, c5 := q 5 _ h.c5, fb := fun j => (hf b j).trans (h.fb j), hce := h.hce, hcp := h.hcp, hct := h.hct,
    en := fun i hi => ⟨by
      by_cases q : i = n
      · subst q; rw [World.cell?_setCell_same _ _ _ (h.en i hi).1]; exact congrArg (fun z : Nat => some (Value.int IntKind.u64 (z : Int))) (set_same2 S.en i x).symm
      · rw [cell_far (.inr (fun q2 => q q2.symm))]; exact (h.en i hi).1.trans (congrArg (fun z : Nat => some (Value.int IntKind.u64 (z : Int))) (set_ne2 S.en n i x q).symm), (hf e i).trans (h.en i hi).2⟩,
    pr := fun i hi => ⟨by rw [cell_far (.inl h.ep)]; exact (h.pr i hi).1, (hf p i).trans (h.pr i hi).2⟩,
    th := fun i hi => ⟨by rw [cell_far (.inl h.et)]; exact (h.th i hi).1, (hf t i).trans (h.th i hi).2⟩ }
theorem Raw.setPr (h : Raw w b e p t ce cp ct u v s S) (n x : Nat) (hn : n < 9) : Raw (w.setCell ⟨p, n, none⟩ (.int .u64 (x : Nat))) b e p t ce cp ct u v s (S.setPr n x) := by
  have hf : ∀ k o, (w.setCell ⟨p, n, none⟩ (.int .u64 (x : Nat))).frozen? ⟨k, o, none⟩ = w.frozen? ⟨k, o, none⟩ := fun k o => World.frozen?_setCell _ _ _ _
  have q : ∀ i y, w.cell? ⟨b, i, none⟩ = some y → (w.setCell ⟨p, n, none⟩ (.int .u64 (x : Nat))).cell? ⟨b, i, none⟩ = some y := fun i y hy => by rw [cell_far (.inl (fun q => h.bp q.symm))]; exact hy
  exact {
    lb := by rw [sz_set]; exact h.lb, le := by rw [sz_set]; exact h.le, lp := by rw [sz_set]; exact h.lp, lt := by rw [sz_set]; exact h.lt, be := h.be, bp := h.bp, bt := h.bt, ep := h.ep, et := h.et, pt := h.pt,
    c0 := q 0 _ h.c0, c1 := q 1 _ h.c1, c2 := q 2 _ h.c2, c3 := q 3 _ h.c3, c4 := q 4 _ h.c4, c5 := q 5 _ h.c5, fb := fun j => (hf b j).trans (h.fb j), hce := h.hce, hcp := h.hcp, hct := h.hct,
    en := fun i hi => ⟨by rw [cell_far (.inl (fun q => h.ep q.symm))]; exact (h.en i hi).1, (hf e i).trans (h.en i hi).2⟩,
    pr := fun i hi => ⟨by
      by_cases q : i = n
      · subst q; rw [World.cell?_setCell_same _ _ _ (h.pr i hi).1]; exact congrArg (fun z : Nat => some (Value.int IntKind.u64 (z : Int))) (set_same2 S.pr i x).symm
      · rw [cell_far (.inr (fun q2 => q q2.symm))]; exact (h.pr i hi).1.trans (congrArg (fun z : Nat => some (Value.int IntKind.u64 (z : Int))) (set_ne2 S.pr n i x q).symm), (hf p i).trans (h.pr i hi).2⟩,
    th := fun i hi => ⟨by rw [cell_far (.inl h.pt)]; exact (h.th i hi).1, (hf t i).trans (h.th i hi).2⟩ }
theorem Raw.setTh (h : Raw w b e p t ce cp ct u v s S) (n x : Nat) (hn : n < 2) : Raw (w.setCell ⟨t, n, none⟩ (.int .u64 (x : Nat))) b e p t ce cp ct u v s (S.setTh n x) := by
  have hf : ∀ k o, (w.setCell ⟨t, n, none⟩ (.int .u64 (x : Nat))).frozen? ⟨k, o, none⟩ = w.frozen? ⟨k, o, none⟩ := fun k o => World.frozen?_setCell _ _ _ _
  have q : ∀ i y, w.cell? ⟨b, i, none⟩ = some y → (w.setCell ⟨t, n, none⟩ (.int .u64 (x : Nat))).cell? ⟨b, i, none⟩ = some y := fun i y hy => by rw [cell_far (.inl (fun q => h.bt q.symm))]; exact hy
  exact {
    lb := by rw [sz_set]; exact h.lb, le := by rw [sz_set]; exact h.le, lp := by rw [sz_set]; exact h.lp, lt := by rw [sz_set]; exact h.lt, be := h.be, bp := h.bp, bt := h.bt, ep := h.ep, et := h.et, pt := h.pt,
    c0 := q 0 _ h.c0, c1 := q 1 _ h.c1, c2 := q 2 _ h.c2, c3 := q 3 _ h.c3, c4 := q 4 _ h.c4, c5 := q 5 _ h.c5, fb := fun j => (hf b j).trans (h.fb j), hce := h.hce, hcp := h.hcp, hct := h.hct,
    en := fun i hi => ⟨by rw [cell_far (.inl (fun q => h.et q.symm))]; exact (h.en i hi).1, (hf e i).trans (h.en i hi).2⟩,
    pr := fun i hi => ⟨by rw [cell_far (.inl (fun q => h.pt q.symm))]; exact (h.pr i hi).1, (hf p i).trans (h.pr i hi).2⟩,
    th := fun i hi => ⟨by
      by_cases q : i = n
      · subst q; rw [World.cell?_setCell_same _ _ _ (h.th i hi).1]; exact congrArg (fun z : Nat => some (Value.int IntKind.u64 (z : Int))) (set_same2 S.th i x).symm
      · rw [cell_far (.inr (fun q2 => q q2.symm))]; exact (h.th i hi).1.trans (congrArg (fun z : Nat => some (Value.int IntKind.u64 (z : Int))) (set_ne2 S.th n i x q).symm), (hf t i).trans (h.th i hi).2⟩ }
/-- Its four blocks, all cells. -/
def own4 (b e p t : Nat) : Fp := fun k _ => k = b ∨ k = e ∨ k = p ∨ k = t
def RetZ (val : Value) (b e p t ce cp ct : Nat) (S : St) (W : World) (e0 : Ending) (w' : World) : Prop := e0 = .returned val ∧ (∃ u v s, IsRP w' b e p t ce cp ct u v s S) ∧ Cw (own4 b e p t) W w'
theorem cw_set (b e p t : Nat) (w : World) (k o : Nat) (x : Value) (hk : own4 b e p t k o) (hs : (w.cell? ⟨k, o, none⟩).isSome = true) : Cw (own4 b e p t) w (w.setCell ⟨k, o, none⟩ x) := ch_cw (T.Ch.set _ w k o x hk hs)
theorem cw_below {T : Fp} {w w' : World} (h : Below w.heap.size w w') : Cw T w w' := Cw.of_below T h
theorem cw_trans {T : Fp} {a b c : World} (h : Cw T a b) (k : Cw T b c) : Cw T a c := h.trans k (fun _ _ q => .inl q)
/-- What comes in. -/
theorem come_bits {u v s : Nat} {S : St} {n : Nat} {x : Bool} (hu : Bits u (set S.up n x)) (hv : Bits v (fun k => S.st k == 1)) (hs : Bits s (fun k => S.st k == 2)) (hi : InvS S) (hok : OkS S) (hn : 1 ≤ n ∧ n < 9) :
    Bits (v ||| (u &&& (18446744073709551615 - s))) (fun k => (comeF (S.setUp n x) n).st k == 1) ∧ Bits s (fun k => (comeF (S.setUp n x) n).st k == 2) ∧ Bits u (comeF (S.setUp n x) n).up ∧ InvS (comeF (S.setUp n x) n) := by
  have hd := hv.or (hu.diff hs)
  have e1 : (S.setUp n x).up n = x := set_same2 S.up n x
  have st3 := hok.2.2.2
  unfold comeF
  rw [e1]
  cases hc : (x && S.st n == 0) with
  | false =>
    have hc' : (x && (S.setUp n x).st n == 0) = false := hc
    rw [hc']
    refine ⟨hd.congr fun k _ => ?_, hs, hu, fun k hk => ?_, hi.2.1, hi.2.2.1, ?_⟩
    · show (S.st k == 1 || (set S.up n x k && !(S.st k == 2))) = (S.st k == 1)
      cases h1 : S.st k == 1 with
      | true => rfl
      | false =>
        cases h2 : S.st k == 2 with
        | true => simp
        | false =>
          have h0 : S.st k = 0 := by have := st3 k; simp at h1 h2; omega
          by_cases e : k = n
          · subst e
            rw [set_same2]
            rw [h0] at hc
            simpa using hc
          · rw [set_ne2 _ _ _ _ e]
            cases hk : S.up k with
            | false => rfl
            | true => exact absurd h0 (hi.1 k hk)
    · have hk' : set S.up n x k = true := hk
      show S.st k ≠ 0
      by_cases e : k = n
      · subst e
        rw [set_same2] at hk'
        subst hk'
        simpa using hc
      · rw [set_ne2 _ _ _ _ e] at hk'
        exact hi.1 k hk'
    · show set S.up n x 0 = false
      rw [set_ne2 _ _ _ _ (by omega)]; exact hi.2.2.2
  | true =>
    have hc' : (x && (S.setUp n x).st n == 0) = true := hc
    rw [hc']
    simp at hc
    obtain ⟨hx, h0⟩ := hc
    refine ⟨hd.congr fun k _ => ?_, hs.congr fun k _ => ?_, hu, fun k hk => ?_, hi.2.1, ?_, ?_⟩
    · show (S.st k == 1 || (set S.up n x k && !(S.st k == 2))) = (set S.st n 1 k == 1)
      by_cases e : k = n
      · subst e
        rw [set_same2, set_same2, h0, hx]; rfl
      · rw [set_ne2 _ _ _ _ e, set_ne2 _ _ _ _ e]
        cases h1 : S.st k == 1 with
        | true => rfl
        | false =>
          cases h2 : S.st k == 2 with
          | true => simp
          | false =>
            have h0 : S.st k = 0 := by have := st3 k; simp at h1 h2; omega
            cases hk : S.up k with
            | false => rfl
            | true => exact absurd h0 (hi.1 k hk)
    · show (S.st k == 2) = (set S.st n 1 k == 2)
      by_cases e : k = n
      · subst e; rw [set_same2, h0]; rfl
      · rw [set_ne2 _ _ _ _ e]
    · have hk' : set S.up n x k = true := hk
      show set S.st n 1 k ≠ 0
      by_cases e : k = n
      · subst e; rw [set_same2]; decide
      · rw [set_ne2 _ _ _ _ e] at hk' ⊢
        exact hi.1 k hk'
    · show set S.st n 1 0 = 0
      rw [set_ne2 _ _ _ _ (by omega)]; exact hi.2.2.1
    · show set S.up n x 0 = false
      rw [set_ne2 _ _ _ _ (by omega)]; exact hi.2.2.2
end
end Go.Proofs.YtoicpikkcefheaaGreat.P
