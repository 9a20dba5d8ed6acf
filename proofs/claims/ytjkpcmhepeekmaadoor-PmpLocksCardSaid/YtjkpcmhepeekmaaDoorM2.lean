/- Which entry decides; what others don't turn; what a lock keeps. -/
import Derived.Test.YtjkpcmhepeekmaaDoorB4
namespace Go.Proofs.YtjkpcmhepeekmaaDoor
set_option linter.unusedVariables false
set_option linter.unusedSimpArgs false
theorem lo_congr {c d a b : Nat → Nat} {j : Nat} (h1 : c j = d j) (h2 : a j = b j) (h3 : wayN (c j) = 1 → a (j - 1) = b (j - 1)) : loF c a j = loF d b j ∧ hiF c a j = hiF d b j := by
  unfold loF hiF
  rw [← h1, ← h2]
  rcases way_cases (c j) with h | h | h | h
  · rw [h]; exact ⟨rfl, rfl⟩
  · rw [h, h3 h]; exact ⟨rfl, rfl⟩
  · rw [h]; exact ⟨rfl, rfl⟩
  · rw [h]; exact ⟨rfl, rfl⟩
theorem r_congr {c d a b : Nat → Nat} {j : Nat} (h1 : c j = d j) (h2 : a j = b j) (h3 : wayN (c j) = 1 → a (j - 1) = b (j - 1)) : rOk c a j = rOk d b j ∧ rA c a j = rA d b j ∧ rB c a j = rB d b j := by
  obtain ⟨e1, e2⟩ := lo_congr h1 h2 h3
  have e3 : rOk c a j = rOk d b j := by unfold rOk; rw [e1, e2]
  exact ⟨e3, by unfold rA; rw [e3, e1], by unfold rB; rw [e3, e2]⟩
theorem miss_congr {c d a b : Nat → Nat} {x y j : Nat} (h1 : c j = d j) (h2 : a j = b j) (h3 : wayN (c j) = 1 → a (j - 1) = b (j - 1)) : missB c a x y j = missB d b x y j ∧ partB c a x y j = partB d b x y j := by
  obtain ⟨e1, e2, e3⟩ := r_congr h1 h2 h3
  unfold missB partB
  rw [e1, e2, e3]; exact ⟨rfl, rfl⟩
theorem go_skip {c a : Nat → Nat} {m : Bool} {k x y : Nat} : ∀ n, n ≤ 8 → (∀ j, j < n → missB c a x y j = true) → goF c a m k x y 8 = goF c a m k x y (8 - n)
  | 0, _, _ => rfl
  | n + 1, hn, h => by
    rw [go_skip n (by omega) (fun j hj => h j (by omega)), show 8 - n = (8 - (n + 1)) + 1 by omega]
    exact go_miss (n := n) (by omega) (h n (by omega))
theorem go_decide {c a : Nat → Nat} {m : Bool} {k x y n : Nat} (hn : n < 8) (h : ∀ j, j < n → missB c a x y j = true) (h1 : missB c a x y n = false) :
    goF c a m k x y 8 = (!partB c a x y n && ((m && !lockB (c n)) || allowB (c n) k)) := by
  rw [go_skip n (by omega) h, show 8 - n = (7 - n) + 1 by omega]
  cases h2 : partB c a x y n with
  | true => rw [go_part (n := n) (by omega) h1 h2]; rfl
  | false => rw [go_all (n := n) (by omega) h1 h2]; rfl
/-- Entries behind the one that decides don't count. -/
theorem chk_behind {c d a b : Nat → Nat} {mode kind : Int} {x : Nat} {size : Int} {n y : Nat} (hy : (y : Int) = x + size - 1) (hn : n < 8) (hc : ∀ j, j ≤ n → c j = d j) (ha : ∀ j, j ≤ n → a j = b j)
    (h : ∀ j, j < n → missB c a x y j = true) (h1 : missB c a x y n = false) : chkB c a mode kind x size = chkB d b mode kind x size := by
  cases hk : accB kind x size with
  | false => rw [chk_n hk, chk_n hk]
  | true =>
    obtain ⟨k, s, hA⟩ := acc_y hk
    rw [chk_y hA, chk_y hA]
    obtain ⟨rfl, e1, rfl, e2, e3⟩ := hA
    obtain rfl : y = x + s - 1 := by omega
    have q : ∀ j, j ≤ n → missB c a x (x + s - 1) j = missB d b x (x + s - 1) j ∧ partB c a x (x + s - 1) j = partB d b x (x + s - 1) j := fun j hj => miss_congr (hc j hj) (ha j hj) (fun _ => ha (j - 1) (by omega))
    rw [go_decide hn h h1, go_decide hn (fun j hj => (q j (by omega)).1 ▸ h j hj) ((q n (by omega)).1 ▸ h1), (q n (by omega)).2, hc n (by omega)]
/-- Where nothing is hit in part and nothing is locked M may do all. -/
theorem chk_free {c a : Nat → Nat} {kind : Int} {x : Nat} {size : Int} {n y : Nat} (hy : (y : Int) = x + size - 1) (hk : accB kind x size = true) (hn : n < 8)
    (h : ∀ j, j < n → missB c a x y j = true) (h1 : missB c a x y n = false) (h2 : partB c a x y n = false) (h3 : lockB (c n) = false) : chkB c a 3 kind x size = true := by
  obtain ⟨k, s, hA⟩ := acc_y hk
  rw [chk_y hA]
  obtain ⟨rfl, e1, rfl, e2, e3⟩ := hA
  obtain rfl : y = x + s - 1 := by omega
  rw [go_decide hn h h1, h2, h3]; rfl
/-- Others from n + 1 on, up to k. -/
def mixF (n k : Nat) (c d : Nat → Nat) (j : Nat) : Nat := bif Nat.blt n j && Nat.blt j k then d j else c j
theorem blt_y {i j : Nat} (h : i < j) : Nat.blt i j = true := by rw [Nat.blt_eq]; exact h
theorem blt_n {i j : Nat} (h : ¬ i < j) : Nat.blt i j = false := by rw [Bool.eq_false_iff, ne_eq, Nat.blt_eq]; exact h
theorem mix_le {n k : Nat} {c d : Nat → Nat} {j : Nat} (h : j ≤ n) : mixF n k c d j = c j := by unfold mixF; rw [blt_n (by omega)]; rfl
theorem mix_start (n : Nat) (c d : Nat → Nat) : mixF n (n + 1) c d = c := by
  funext j; unfold mixF
  by_cases h : n < j
  · rw [blt_n (show ¬ j < n + 1 by omega), Bool.and_false]; rfl
  · rw [blt_n h]; rfl
theorem mix_s {n k : Nat} (h : n < k) (c d : Nat → Nat) : (fun j => bif j == k then d k else mixF n k c d j) = mixF n (k + 1) c d := by
  funext j; unfold mixF
  by_cases e : j = k
  · subst e
    rw [show (j == j) = true by simp, blt_y h, blt_y (show j < j + 1 by omega)]; rfl
  · rw [show (j == k) = false by simp [e]]
    by_cases h2 : j < k
    · rw [blt_y h2, blt_y (show j < k + 1 by omega)]; rfl
    · rw [blt_n h2, blt_n (show ¬ j < k + 1 by omega)]; rfl
/-- What a lock keeps: its setting, its address, and where its range begins. -/
def KeptN (c0 a0 c a : Nat → Nat) (n : Nat) : Prop := c n = c0 n ∧ a n = a0 n ∧ (wayN (c0 n) = 1 → a (n - 1) = a0 (n - 1))
theorem kept_refl (c a : Nat → Nat) (n : Nat) : KeptN c a c a n := ⟨rfl, rfl, fun _ => rfl⟩
theorem kept_cfg {c0 a0 c a : Nat → Nat} {n v : Nat} (hl : lockB (c0 n) = true) (h : KeptN c0 a0 c a n) : KeptN c0 a0 (cfgF c v) a n := by
  refine ⟨?_, h.2⟩
  unfold cfgF
  rw [h.1, hl]; rfl
theorem kept_adr {c0 a0 c a : Nat → Nat} {n i v : Nat} (hn : n < 8) (hl : lockB (c0 n) = true) (h : KeptN c0 a0 c a n) : KeptN c0 a0 c (adrF c a i v) n := by
  obtain ⟨h1, h2, h3⟩ := h
  have held : heldB c n = true := by unfold heldB; rw [h1, hl]; rfl
  refine ⟨h1, ?_, fun hw => ?_⟩
  · unfold adrF
    by_cases e : n = i
    · subst e; rw [held, Bool.not_true, Bool.and_false]; exact h2
    · rw [show (n == i) = false by simp [e]]; exact h2
  · rw [← h3 hw]
    unfold adrF
    by_cases e : n - 1 = i
    · subst e
      by_cases hz : n = 0
      · subst hz
        rw [show heldB c (0 - 1) = true from held, Bool.not_true, Bool.and_false]; rfl
      · have : heldB c (n - 1) = true := by
          unfold heldB
          rw [show n - 1 + 1 = n by omega, h1, hl, hw, show decide (n - 1 < 7) = true by rw [decide_eq_true_eq]; omega]
          simp
        rw [this, Bool.not_true, Bool.and_false]; rfl
    · rw [show (n - 1 == i) = false by simp [e]]; rfl
theorem kept_r {c0 a0 c a : Nat → Nat} {n : Nat} (h : KeptN c0 a0 c a n) : rOk c a n = rOk c0 a0 n ∧ rA c a n = rA c0 a0 n ∧ rB c a n = rB c0 a0 n := by
  obtain ⟨e1, e2, e3⟩ := r_congr h.1.symm h.2.1.symm (fun hw => (h.2.2 hw).symm)
  exact ⟨e1.symm, e2.symm, e3.symm⟩
/-- An access that the first entry decides is decided as it was. -/
theorem kept_chk {c0 a0 c a : Nat → Nat} {mode kind : Int} {x : Nat} {size : Int} (h : KeptN c0 a0 c a 0) (hok : rOk c0 a0 0 = true) (h1 : rA c0 a0 0 ≤ x) (h2 : x ≤ rB c0 a0 0) :
    chkB c a mode kind x size = chkB c0 a0 mode kind x size := by
  cases hk : accB kind x size with
  | false => rw [chk_n hk, chk_n hk]
  | true =>
    obtain ⟨k, s, hA⟩ := acc_y hk
    rw [chk_y hA, chk_y hA]
    obtain ⟨rfl, e1, rfl, e2, e3⟩ := hA
    obtain ⟨q1, q2⟩ := miss_congr (x := x) (y := x + s - 1) h.1.symm h.2.1.symm (fun hw => (h.2.2 hw).symm)
    have m0 : missB c0 a0 x (x + s - 1) 0 = false := by
      unfold missB
      rw [hok]
      simp
      omega
    rw [go_decide (n := 0) (by decide) (fun j hj => absurd hj (by omega)) (q1 ▸ m0), go_decide (n := 0) (by decide) (fun j hj => absurd hj (by omega)) m0, q2, h.1]
end Go.Proofs.YtjkpcmhepeekmaaDoor
