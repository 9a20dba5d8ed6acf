/- Sums of what is shifted alike are shifted: the mathematics of SoftScales, whole. -/
import Derived.Test.YtnmkahdgfakpiaaG12
namespace Go.Proofs.Ytnmkahdgfakpiaa
set_option linter.unusedVariables false
set_option linter.unusedSimpArgs false
theorem round_flags (d : Bool) (rm : Int) (N : Num) : (roundF d rm N).2 = 0 ∨ (roundF d rm N).2 = 1 ∨ (roundF d rm N).2 = 3 ∨ (roundF d rm N).2 = 5 := by
  rw [roundF_eq]
  unfold roundX roundY
  simp only
  split
  · exact .inr (.inr (.inr rfl))
  · split
    · split
      · exact .inl rfl
      · split
        · exact .inr (.inr (.inl rfl))
        · exact .inr (.inl rfl)
    · split
      · exact .inr (.inl rfl)
      · exact .inl rfl
theorem low_flag {f : Int} (h : f = 0 ∨ f = 1 ∨ f = 3 ∨ f = 5) (h0 : bits .andNot .i64 f 1 = 0) : f = 0 ∨ f = 1 := by
  rcases h with h | h | h | h
  · exact .inl h
  · exact .inr h
  · rw [h] at h0; exact absurd h0 (by decide)
  · rw [h] at h0; exact absurd h0 (by decide)
theorem read_fin_of (d : Bool) (a : Nat) (h : (readN d a).cls ≤ 1) : Fin2 (readN d a) ∧ ((readN d a).cls = 0 → readN d a = ⟨0, (readN d a).minus, 0, 0⟩) := by
  by_cases h0 : (readN d a).cls = 0
  · have e := readN_zero_eq d a h0
    refine ⟨.inr ⟨h0, ?_⟩, fun _ => e⟩
    have := congrArg Num.mag e; exact this
  · have h1 : (readN d a).cls = 1 := by omega
    obtain ⟨f1, f2, f3, f4⟩ := readN_fin d a h1
    have : 2 * fracT d ≤ 2 ^ 53 := by cases d <;> decide
    exact ⟨.inl ⟨h1, f1, by omega, f3, f4⟩, fun h => absurd h h0⟩
/-- What was no finite number stays none, times a power of two. -/
theorem scale_cls (d : Bool) (rm : Int) (a : Nat) (T : Num) (hT : T.cls = 1) (h1 : nanB d (mulF d rm (readN d a) T).1 = false) (h2 : isInf d (mulF d rm (readN d a) T).1 = false) : (readN d a).cls ≤ 1 := by
  apply Decidable.byContradiction; intro hne
  have h4 := readN_cls d a
  have hp : (productN (readN d a) T).cls = (readN d a).cls := by
    unfold productN
    rw [if_pos (.inl (by omega))]
    show max (readN d a).cls T.cls = _
    rw [hT]; omega
  unfold mulF at h1 h2
  rw [if_neg (by omega)] at h1 h2
  by_cases h3 : (readN d a).cls = 2
  · rw [if_neg (by rw [someV_dec, hp, h3]; decide)] at h1 h2
    have e : (writeF d rm (productN (readN d a) T)).1 = infV d (productN (readN d a) T).minus := by
      unfold writeF; rw [if_neg (by omega), if_pos (by omega)]
    rw [e] at h2
    revert h2
    cases d <;> cases (productN (readN _ a) T).minus <;> decide
  · rw [if_pos (by rw [someV_dec, hp]; omega)] at h1
    have e : nanB d (quietB d) = true := by cases d <;> decide
    exact absurd (e.symm.trans (show nanB d (quietB d) = false from h1)) (by decide)
theorem sc2_fin {e : Int} {A X : Num} (h : Sc2 e A X) : Fin2 A ∧ Fin2 X := by
  rcases h with ⟨h1, h2, -⟩ | ⟨h1, h2, h3, h4, -⟩
  · exact ⟨.inl h1, .inl h2⟩
  · exact ⟨.inr ⟨h1, h2⟩, .inr ⟨h3, h4⟩⟩
theorem total_ok (A B : Num) (hA : Fin2 A) (hB : Fin2 B) (h : (totalN A B).cls ≠ 0) : (totalN A B).cls = 1 ∧ (totalN A B).mag ≠ 0 ∧ (totalN A B).mag < 2 ^ 128 ∧ -10000 ≤ (totalN A B).exp := by
  rcases hA with fA | zA
  · rcases hB with fB | zB
    · rcases total_cases A B fA fB with t | t | t
      · exact absurd t.1 h
      · exact ⟨t.1, t.2.1, t.2.2.1, t.2.2.2.1⟩
      · exact ⟨t.1.1, by have := t.1.2.2.2.1; omega, t.1.2.1, t.1.2.2.1⟩
    · have e1 : totalN A B = A := by unfold totalN; rw [if_neg (by rw [fA.1]; decide), if_pos zB.1]
      rw [e1]; exact ⟨fA.1, finF_ok fA⟩
  · have e1 : totalN A B = B := by unfold totalN; rw [if_pos zA.1]
    rw [e1] at h ⊢
    rcases hB with fB | zB
    · exact ⟨fB.1, finF_ok fB⟩
    · exact absurd zB.1 h
theorem func0_nought (d m : Bool) : func0B d (noughtV d m) = true := by cases d <;> cases m <;> rfl
/-- A sum that is no nought is rounded. -/
theorem sum_round (d : Bool) (rm : Int) (A B : Num) (hA : Fin2 A) (hB : Fin2 B) (h : func0B d (sumF d rm A B).1 = false) : (totalN A B).cls ≠ 0 ∧ sumF d rm A B = roundF d rm (totalN A B) := by
  rw [sumF_fin d rm A B hA hB] at h ⊢
  by_cases hz : A.cls = 0 ∧ B.cls = 0 ∧ A.minus = B.minus
  · rw [if_pos hz] at h; rw [func0_nought] at h; exact absurd h (by decide)
  · rw [if_neg hz] at h ⊢
    by_cases ht : (totalN A B).cls = 0
    · rw [if_pos ht] at h; rw [func0_nought] at h; exact absurd h (by decide)
    · rw [if_neg ht]
      exact ⟨ht, writeF_one d rm _ (total_ok A B hA hB ht).1⟩
theorem scales (d : Bool) (rm : Int) (a b t : Nat) (h1 : 1 ≤ t) (h2 : (t : Int) ≤ 2 * bias d) (he : -100 ≤ (t : Int) - bias d) (x y v ww : Nat)
    (hx : x = (mulF d rm (readN d a) (readN d (t * fracT d))).1) (hy : y = (mulF d rm (readN d b) (readN d (t * fracT d))).1)
    (hv : v = (sumF d rm (readN d a) (readN d b)).1) (hw : ww = (sumF d rm (readN d x) (readN d y)).1)
    (n1 : nanB d x = false) (n2 : nanB d y = false) (n3 : isInf d x = false) (n4 : isInf d y = false)
    (g0 : (mulF d rm (readN d a) (readN d (t * fracT d))).2 = 0) (g1 : (mulF d rm (readN d b) (readN d (t * fracT d))).2 = 0)
    (i0 : bits .andNot .i64 (sumF d rm (readN d a) (readN d b)).2 1 = 0) (j0 : bits .andNot .i64 (sumF d rm (readN d x) (readN d y)).2 1 = 0)
    (f1 : func0B d v = false) (f2 : func0B d ww = false) :
    (mulF d rm (readN d v) (readN d (t * fracT d))).1 = ww ∧ (sumF d rm (readN d a) (readN d b)).2 = (sumF d rm (readN d x) (readN d y)).2 := by
  have cT : (readN d (t * fracT d)).cls = 1 := by rw [read_two d t h1 h2]
  have ca := scale_cls d rm a _ cT (by rw [← hx]; exact n1) (by rw [← hx]; exact n3)
  have cb := scale_cls d rm b _ cT (by rw [← hy]; exact n2) (by rw [← hy]; exact n4)
  obtain ⟨fa, za⟩ := read_fin_of d a ca
  obtain ⟨fb', zb⟩ := read_fin_of d b cb
  have sA := scale_num d rm (readN d a) t h1 h2 fa za he g0
  have sB := scale_num d rm (readN d b) t h1 h2 fb' zb he g1
  rw [← hx] at sA
  rw [← hy] at sB
  have fX := (sc2_fin sA).2
  have fY := (sc2_fin sB).2
  rw [hv] at f1
  rw [hw] at f2
  obtain ⟨t1, r1⟩ := sum_round d rm _ _ fa fb' f1
  obtain ⟨t2, r2⟩ := sum_round d rm _ _ fX fY f2
  have o1 := total_ok _ _ fa fb' t1
  have o2 := total_ok _ _ fX fY t2
  rcases total_shift _ _ _ _ _ sA sB with h | h
  · exact absurd h.1 t1
  · rw [r1] at i0 f1 hv ⊢
    rw [r2] at j0 f2 hw ⊢
    have k := round_scale d rm _ _ t h1 h2 he o1.2 o2.2 h (low_flag (round_flags d rm _) i0) (low_flag (round_flags d rm _) j0) f1 f2
    rw [hv, hw, k.1]
    exact ⟨rfl, k.2⟩
end Go.Proofs.Ytnmkahdgfakpiaa
