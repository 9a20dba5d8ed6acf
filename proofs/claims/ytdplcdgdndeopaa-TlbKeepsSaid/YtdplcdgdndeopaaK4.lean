/- The code's Find. -/
import Derived.Test.YtdplcdgdndeopaaK3
namespace Go.Proofs.Ytdplcdgdndeopaa
open Go.ChangeShapes Go.WideShapes Go.ChangeAt Go.RowKit Go.Sort
set_option linter.unusedVariables false
set_option linter.unusedSimpArgs false
/-- The k-th name. -/
def nmX (a s k : Nat) : En := ⟨a / szN ((k / 2 : Nat) : Int) * szN ((k / 2 : Nat) : Int), ((k / 2 : Nat) : Int), s, k % 2 == 1, 0⟩
theorem cases6 {n : Nat} (h : n < 6) : n = 0 ∨ n = 1 ∨ n = 2 ∨ n = 3 ∨ n = 4 ∨ n = 5 := by omega
theorem nm_ix (a s k : Nat) (hk : k < 6) : ∃ (A : Nat) (L : Int) (G : Bool) (S : Nat), (∀ w, (Instr.index 69 (.agg (nm6 (a / 4096 * 4096) (a / 2097152 * 2097152) (a / 1073741824 * 1073741824) s)) (.int .i64 k)).run Try.prog w = .ok (.agg #[.int .u64 (A : Nat), .int .i64 L, .bool G, .int .u64 (S : Nat)]) w) ∧
    A = (nmX a s k).ad ∧ L = (nmX a s k).lv ∧ G = (nmX a s k).gl ∧ S = spN (nmX a s k) := by
  rcases cases6 hk with rfl | rfl | rfl | rfl | rfl | rfl
  · exact ⟨a / 4096 * 4096, 0, false, s, fun w => rfl, rfl, rfl, rfl, rfl⟩
  · exact ⟨a / 4096 * 4096, 0, true, 0, fun w => rfl, rfl, rfl, rfl, rfl⟩
  · exact ⟨a / 2097152 * 2097152, 1, false, s, fun w => rfl, rfl, rfl, rfl, rfl⟩
  · exact ⟨a / 2097152 * 2097152, 1, true, 0, fun w => rfl, rfl, rfl, rfl, rfl⟩
  · exact ⟨a / 1073741824 * 1073741824, 2, false, s, fun w => rfl, rfl, rfl, rfl, rfl⟩
  · exact ⟨a / 1073741824 * 1073741824, 2, true, 0, fun w => rfl, rfl, rfl, rfl, rfl⟩
theorem nmX_wf (a s k : Nat) (ha : a < 18446744073709551616) (hs : s < 18446744073709551616) (hk : k < 6) : (nmX a s k).Wf := by
  refine ⟨Nat.lt_of_le_of_lt (Nat.div_mul_le_self _ _) ha, ?_, hs, show (0 : Nat) < _ by decide⟩
  show (Lit.int .i64 ((k / 2 : Nat) : Int)).wf = true
  rcases cases6 hk with rfl | rfl | rfl | rfl | rfl | rfl <;> decide
def atF (X : St) (s a k : Nat) : Option Nat := fst (fun n => X.is n && sameB (X.e n) (nmX a s k)) 0 8
def lsN (f : Nat → Option Nat) : Nat → Nat
  | 0 => 8
  | k + 1 => min (lsN f k) ((f k).getD 8)
theorem lsN_le (f : Nat → Option Nat) : ∀ k, lsN f k ≤ 8
  | 0 => Nat.le_refl _
  | k + 1 => Nat.le_trans (Nat.min_le_left _ _) (lsN_le f k)
theorem lsN_none {f : Nat → Option Nat} {k : Nat} (h : f k = none) : lsN f (k + 1) = lsN f k := by
  show min _ _ = _
  rw [h]; exact Nat.min_eq_left (lsN_le f k)
theorem lsN_some {f : Nat → Option Nat} {k n : Nat} (h : f k = some n) : lsN f (k + 1) = min (lsN f k) n := by
  show min _ _ = _
  rw [h]; rfl
theorem lsN_lower {f : Nat → Option Nat} {k n : Nat} : ∀ {m}, k < m → f k = some n → lsN f m ≤ n
  | 0, h, _ => absurd h (Nat.not_lt_zero _)
  | m + 1, h, hf => by
    show min _ _ ≤ n
    by_cases e : k = m
    · rw [← e, hf]; exact Nat.min_le_right _ _
    · exact Nat.le_trans (Nat.min_le_left _ _) (lsN_lower (by omega) hf)
theorem lsN_upper {f : Nat → Option Nat} {q : Nat} (h8 : q ≤ 8) : ∀ {m}, (∀ k n, k < m → f k = some n → q ≤ n) → q ≤ lsN f m
  | 0, _ => h8
  | m + 1, h => by
    show q ≤ min _ _
    refine Nat.le_min.2 ⟨lsN_upper h8 (fun k n hk hf => h k n (by omega) hf), ?_⟩
    cases hf : f m with
    | none => exact h8
    | some n => exact h m n (by omega) hf
/-- The names are those of all entries that are meant. -/
theorem names_in {x : En} (hl : x.lv = 0 ∨ x.lv = 1 ∨ x.lv = 2) (ha : x.ad % szN x.lv = 0) {a s : Nat} (hB : hasB x a = true) (hm : meantB x s = true) : ∃ k, k < 6 ∧ sameB x (nmX a s k) = true := by
  have hz := szN_pos x.lv
  have h1 : hasP x a = true := by rw [hasP_eq x a ha hz]; exact hB
  unfold hasP at h1
  simp only [beq_iff_eq] at h1
  obtain ⟨ad, lv, sp, gl, lf⟩ := x
  unfold meantB at hm
  simp only at h1 hl hm
  rcases hl with rfl | rfl | rfl <;> cases gl
  · exact ⟨0, by decide, by unfold sameB nmX; simp at hm h1 ⊢; exact ⟨h1.symm, hm⟩⟩
  · exact ⟨1, by decide, by unfold sameB nmX; simp at hm h1 ⊢; exact h1.symm⟩
  · exact ⟨2, by decide, by unfold sameB nmX; simp at hm h1 ⊢; exact ⟨h1.symm, hm⟩⟩
  · exact ⟨3, by decide, by unfold sameB nmX; simp at hm h1 ⊢; exact h1.symm⟩
  · exact ⟨4, by decide, by unfold sameB nmX; simp at hm h1 ⊢; exact ⟨h1.symm, hm⟩⟩
  · exact ⟨5, by decide, by unfold sameB nmX; simp at hm h1 ⊢; exact h1.symm⟩
theorem names_out {x : En} (ha : x.ad % szN x.lv = 0) {a s k : Nat} (hk : k < 6) (h : sameB x (nmX a s k) = true) : hasB x a = true ∧ meantB x s = true := by
  rw [← hasP_eq x a ha (szN_pos x.lv)]
  obtain ⟨ad, lv, sp, gl, lf⟩ := x
  unfold hasP meantB
  unfold sameB nmX at h
  simp only [Bool.and_eq_true, Bool.or_eq_true, beq_iff_eq] at h ⊢
  obtain ⟨⟨⟨h1, h2⟩, h3⟩, h4⟩ := h
  rw [h1, h2]
  refine ⟨rfl, ?_⟩
  rw [h3]
  rcases cases6 hk with rfl | rfl | rfl | rfl | rfl | rfl <;> simp_all
theorem least_eq {X : St} (hX : X.Ok) (hA : Al X) (s a : Nat) : lsN (atF X s a) 6 = (findN X s a).getD 8 := by
  have up : ∀ k n, k < 6 → atF X s a k = some n → n < 8 ∧ findP X s a n = true := fun k n hk hf => by
    obtain ⟨_, h2, h3, _⟩ := fst_some hf
    simp only [Bool.and_eq_true] at h3
    obtain ⟨h4, h5⟩ := names_out (hA n) hk h3.2
    exact ⟨by omega, by unfold findP; rw [h3.1, h4, h5]; rfl⟩
  cases hf : findN X s a with
  | none =>
    have : 8 ≤ lsN (atF X s a) 6 := lsN_upper (Nat.le_refl _) (fun k n hk hkn => by
      obtain ⟨h1, h2⟩ := up k n hk hkn
      have := fst_none hf n (Nat.zero_le _) (by omega)
      rw [h2] at this; cases this)
    have := lsN_le (atF X s a) 6
    show _ = 8
    omega
  | some p =>
    obtain ⟨_, h2, h3, h4⟩ := fst_some hf
    have lo : p ≤ lsN (atF X s a) 6 := lsN_upper (by omega) (fun k n hk hkn => by
      obtain ⟨h1, h5⟩ := up k n hk hkn
      apply Nat.le_of_not_lt
      intro hlt
      rw [h4 n (Nat.zero_le _) hlt] at h5; cases h5)
    unfold findP at h3
    simp only [Bool.and_eq_true] at h3
    obtain ⟨k, hk, hs⟩ := names_in (hX.e p).lv (hA p) h3.1.2 h3.2
    have : ∃ n, atF X s a k = some n ∧ n ≤ p := by
      cases hn : atF X s a k with
      | none =>
        have := fst_none hn p (Nat.zero_le _) (by omega)
        simp only [h3.1.1, hs, Bool.and_self] at this
        cases this
      | some n =>
        refine ⟨n, rfl, ?_⟩
        apply Nat.le_of_not_lt
        intro hlt
        have := (fst_some hn).2.2.2 p (Nat.zero_le _) hlt
        simp only [h3.1.1, hs, Bool.and_self] at this
        cases this
    obtain ⟨n, hn, hle⟩ := this
    have := lsN_lower hk hn
    show _ = p
    omega
theorem Tb.c48 {b m : Nat} {X Y : St} {w : World} (h : Tb b m X Y w) : w.cell? ⟨b, 48, none⟩ = some (.map (some m)) := (h.row.cell 48).trans rfl
theorem Tb.c49 {b m : Nat} {X Y : St} {w : World} (h : Tb b m X Y w) : w.cell? ⟨b, 49, none⟩ = some (.int .u64 (X.sd : Nat)) := (h.row.cell 49).trans rfl
/-- An entry's cells. -/
theorem Tb.ent {b m : Nat} {X Y : St} {w : World} (h : Tb b m X Y w) {n : Nat} (hn : n < 8) : ∀ j, j < (X.e n).v.size → w.cell? ⟨b, n * 6 + 1 + j, none⟩ = (X.e n).v[j]? := fun j hj => by
  have hj : j < 5 := hj
  rw [h.row.cell, Nat.add_assoc, tC_at X m n (1 + j) hn (by omega)]
  have h5 : j = 0 ∨ j = 1 ∨ j = 2 ∨ j = 3 ∨ j = 4 := by omega
  rcases h5 with rfl | rfl | rfl | rfl | rfl <;> rfl
theorem Tb.full {b m : Nat} {X Y : St} {w : World} (h : Tb b m X Y w) {n : Nat} (hn : n < 8) : w.cell? ⟨b, n * 6, none⟩ = some (.bool (X.is n)) :=
  (h.row.cell _).trans (tC_at X m n 0 hn (by decide))
/-- What holds between Find's rounds. -/
structure Fd (b m : Nat) (X : St) (w u : World) : Prop where
  out : Below w.heap.size w u
  rr : Row u w.heap.size 33 E0.v
  lt : w.heap.size < u.heap.size
  t : Tb b m X X u
theorem Fd.below {b m : Nat} {X : St} {w u u' : World} (h : Fd b m X w u) (hb : Below u.heap.size u u') : Fd b m X w u' :=
  ⟨below_step hb h.out h.out.size, h.rr.below hb h.lt, Nat.lt_of_lt_of_le h.lt hb.size, h.t.below hb⟩
end Go.Proofs.Ytdplcdgdndeopaa
