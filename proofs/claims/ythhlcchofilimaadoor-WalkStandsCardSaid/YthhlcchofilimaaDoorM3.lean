/- Memory behind a write of eight bytes. -/
import Derived.Test.YthhlcchofilimaaDoorM2
namespace Go.Proofs.YthhlcchofilimaaDoor
open Go.ChangeShapes Go.WideShapes Go.ChangeAt Go.RowKit Y
set_option linter.unusedVariables false
set_option linter.unusedSimpArgs false
theorem wr_in (F : Nat → Nat) (a v i : Nat) (h : U.M.hasV a 8 = true) (hi : i < 8) : U.M.wrF F a 8 v (a + i) = v / 256 ^ i % 256 := by
  unfold U.M.wrF
  rw [if_pos h]
  show U.M.layF F a 8 (U.M.byteV v) (a + i) = _
  unfold U.M.layF U.M.byteV
  simp [hi]
theorem wr_out (F : Nat → Nat) (a v y : Nat) (h : y < a ∨ a + 8 ≤ y) : U.M.wrF F a 8 v y = F y := by
  unfold U.M.wrF
  split
  · show U.M.layF F a 8 (U.M.byteV v) y = _
    unfold U.M.layF
    rw [if_neg (by omega)]
  · rfl
theorem num_mod (v : Nat) (R : Nat → Nat) : ∀ n, (∀ i, i < n → R i = v / 256 ^ i % 256) → U.M.numR R n = v % 256 ^ n
  | 0, _ => by show 0 = v % 1; omega
  | n + 1, h => by
    show U.M.numR R n + R n * 256 ^ n = _
    rw [num_mod v R n (fun i hi => h i (by omega)), h n (by omega), Nat.pow_succ, Nat.mod_mul]
    rw [Nat.mul_comm (v / 256 ^ n % 256)]
theorem num_congr (R Q : Nat → Nat) : ∀ n, (∀ i, i < n → R i = Q i) → U.M.numR R n = U.M.numR Q n
  | 0, _ => rfl
  | n + 1, h => by
    show U.M.numR R n + R n * 256 ^ n = U.M.numR Q n + Q n * 256 ^ n
    rw [num_congr R Q n (fun i hi => h i (by omega)), h n (by omega)]
theorem read_in (F : Nat → Nat) (a v : Nat) (h : U.M.hasV a 8 = true) (hv : v < 18446744073709551616) : U.M.readV (U.M.wrF F a 8 v) a 8 = v := by
  unfold U.M.readV
  rw [if_pos h]
  rw [num_mod v _ 8 (fun i hi => by
    show (if i < 8 then U.M.wrF F a 8 v (a + i) else 0) = _
    rw [if_pos hi, wr_in F a v i h hi])]
  exact Nat.mod_eq_of_lt hv
theorem read_out (F : Nat → Nat) (a v y : Nat) (h : y + 8 ≤ a ∨ a + 8 ≤ y) : U.M.readV (U.M.wrF F a 8 v) y 8 = U.M.readV F y 8 := by
  unfold U.M.readV
  split
  · refine num_congr _ _ 8 (fun i hi => ?_)
    show (if i < 8 then U.M.wrF F a 8 v (y + i) else 0) = (if i < 8 then F (y + i) else 0)
    rw [if_pos hi, if_pos hi, wr_out F a v (y + i) (by omega)]
  · rfl
theorem alike_wr (F : Nat → Nat) (x v : Nat) (hx : x % 8 = 0) : Alike F (U.M.wrF F x 8 v) x := fun y hy hne => read_out F x v y (by omega)
theorem alike_trans {F F' F'' : Nat → Nat} {x : Nat} (h : Alike F F' x) (k : Alike F' F'' x) : Alike F F'' x := fun y hy hne => (k y hy hne).trans (h y hy hne)
/-- With another entry at the leaf's place: broken, a leaf that doesn't allow, one that does. -/
theorem stand_broken {F F' S : Nat → Nat} {m k : Int} {A L tb x e e' : Nat} (hf : Found F S m k A L tb x e) (hn : ∀ F' B, Alike F F' x → B / 2 ^ (12 + 9 * L) = A / 2 ^ (12 + 9 * L) → fromN L tb B = x ∧ ∃ nx, walkF F' S m k B = stepW F' S m k B L tb nx)
    (ha : Alike F F' x) (hr : U.M.readV F' x 8 = e') (hb : brokenB e' = true) : walkF F' S m k A = noW (pageN k) := by
  obtain ⟨h1, nx, h2⟩ := hn F' A ha rfl
  rw [h2]
  unfold stepW
  rw [h1, if_pos hf.2.1, hr, if_pos hb]
theorem stand_perm {F F' S : Nat → Nat} {m k : Int} {A L tb x e e' : Nat} (hf : Found F S m k A L tb x e) (hn : ∀ F' B, Alike F F' x → B / 2 ^ (12 + 9 * L) = A / 2 ^ (12 + 9 * L) → fromN L tb B = x ∧ ∃ nx, walkF F' S m k B = stepW F' S m k B L tb nx)
    (ha : Alike F F' x) (hr : U.M.readV F' x 8 = e') (hb : brokenB e' = false) (hl : leafB e' = true) (hp : permB S m k e' = false) : walkF F' S m k A = noW (pageN k) := by
  obtain ⟨h1, nx, h2⟩ := hn F' A ha rfl
  rw [h2]
  exact step_perm h1 hf.2.1 hr hb hl hp
theorem stand_leaf {F F' S : Nat → Nat} {m k : Int} {A L tb x e e' : Nat} (hf : Found F S m k A L tb x e) (hn : ∀ F' B, Alike F F' x → B / 2 ^ (12 + 9 * L) = A / 2 ^ (12 + 9 * L) → fromN L tb B = x ∧ ∃ nx, walkF F' S m k B = stepW F' S m k B L tb nx)
    (ha : Alike F F' x) (hr : U.M.readV F' x 8 = e') (hb : brokenB e' = false) (hl : leafB e' = true) (hp : permB S m k e' = true) (hg : 4096 * nextN e' % 2 ^ (12 + 9 * L) = 0) :
    walkF F' S m k A = ⟨4096 * nextN e' + A % 2 ^ (12 + 9 * L), L, e', x, 0⟩ := by
  obtain ⟨h1, nx, h2⟩ := hn F' A ha rfl
  rw [h2]
  exact step_leaf h1 hf.2.1 hr hb hl ⟨hp, hg⟩
end Go.Proofs.YthhlcchofilimaaDoor
