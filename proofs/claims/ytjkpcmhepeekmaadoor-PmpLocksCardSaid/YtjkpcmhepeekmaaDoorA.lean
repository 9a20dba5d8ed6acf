/- Words for what a call returns; rows of eight numbers; the table of math/bits in memory. -/
import Derived.Test.YtjkpcmhepeekmaaDoorProg
import Derived.Test.YtjkpcmhepeekmaaDoorM0
import Derived.WalkKit
import Derived.Deep.QuietTactic
import Derived.BigQuiet
import Derived.ProofKit
import Derived.OpenShut
import Derived.WalkLawsBesides
import Derived.WalkSpells
import Derived.RegionTactic
import Derived.ChangeAlike
import Derived.Outline
import Derived.Laws.Externs
import Derived.Lib.Hide
namespace Go.Proofs.YtjkpcmhepeekmaaDoor
open Go.ChangeShapes Go.WideShapes Go.ChangeAt Go.RowKit
set_option linter.unusedVariables false
set_option linter.unusedSimpArgs false
theorem le_below {n B : Nat} {w w' : World} (hb : Below B w w') (h : n ≤ w.heap.size) : n ≤ w'.heap.size := Nat.le_trans h hb.size
theorem below_step {B B' : Nat} {w w1 w2 : World} (hb : Below B' w1 w2) (h : Below B w w1) (hB : B ≤ B') : Below B w w2 := h.trans (hb.mono hB)
theorem below_drewN {B : Nat} {w w' : World} (h : Below B w w') (n : Nat) : Below B w (w'.drewN n) := ⟨h.os, h.tape, h.output, h.size, h.block⟩
theorem le_drew {n : Nat} {w : World} (h : n ≤ w.heap.size) : n ≤ w.drew.heap.size := h
theorem le_drewN {n k : Nat} {w : World} (h : n ≤ w.heap.size) : n ≤ (w.drewN k).heap.size := h
theorem sz_drewN (w : World) (k : Nat) : (w.drewN k).heap.size = w.heap.size := rfl
theorem sz_drew (w : World) : w.drew.heap.size = w.heap.size := rfl

def RetB (b : Bool) (W : World) (e : Ending) (w' : World) : Prop := e = .returned (.bool b) ∧ Below W.heap.size W w'
theorem retB_mk {a b : Bool} {W w' : World} (h : a = b) (hb : Below W.heap.size W w') : RetB b W (.returned (.bool a)) w' := ⟨by rw [h], hb⟩
/-- Nothing that was there is written. -/
theorem grown_below {w w' : World} (h : Below w.heap.size w w') : w.grownBy w' none := ⟨h.os, h.tape, h.output, h.size, fun k hk _ => h.block k hk⟩
theorem grown_refl (w : World) (r : Option Nat) : w.grownBy w r := ⟨rfl, rfl, rfl, Nat.le_refl _, fun _ _ _ => rfl⟩
theorem grown_trans {a b c : World} {r : Option Nat} (h : a.grownBy b r) (k : b.grownBy c r) : a.grownBy c r :=
  ⟨k.os.trans h.os, k.tape.trans h.tape, k.output.trans h.output, Nat.le_trans h.size k.size, fun i hi hr => (k.block i (Nat.lt_of_lt_of_le hi h.size) hr).trans (h.block i hi hr)⟩
theorem grown_any {a b : World} {r : Option Nat} (h : a.grownBy b none) : a.grownBy b r := ⟨h.os, h.tape, h.output, h.size, fun i hi _ => h.block i hi (by simp)⟩
theorem grown_alloc {a b : World} {r : Option Nat} (h : a.grownBy b r) (o : Obj) : a.grownBy (b.alloc o) r := grown_trans h (World.grownBy_alloc b o r)
theorem grown_drew {a b : World} {r : Option Nat} (h : a.grownBy b r) : a.grownBy b.drew r := ⟨h.os, h.tape, h.output, h.size, h.block⟩
theorem grown_set {a b : World} {k : Nat} (h : a.grownBy b (some k)) (o : Nat) (f : Option Nat) (u : Value) (n : Option Nat) : a.grownBy (b.setCell ⟨k, o, none⟩ u) (some k) :=
  grown_trans h ⟨rfl, rfl, rfl, by simp [World.setCell], fun i _ hi => Below.heap_setCell b ⟨k, o, none⟩ u i (fun e => hi (by rw [e]))⟩
theorem sz_alloc (w : World) (o : Obj) : (w.alloc o).heap.size = w.heap.size + 1 := by simp
theorem sz_set (w : World) (p : Addr) (u : Value) : (w.setCell p u).heap.size = w.heap.size := by simp [World.setCell]
theorem bcell {W w1 : World} (hb : Below W.heap.size W w1) : (∀ b o, b < W.heap.size → w1.cell? ⟨b, o, none⟩ = W.cell? ⟨b, o, none⟩) ∧ (∀ b o, b < W.heap.size → w1.frozen? ⟨b, o, none⟩ = W.frozen? ⟨b, o, none⟩) :=
  ⟨fun b o h => hb.cell (p := ⟨b, o, none⟩) h, fun b o h => hb.frozen (p := ⟨b, o, none⟩) h⟩
theorem le_alloc {n : Nat} {w : World} {o : Obj} (h : n ≤ w.heap.size) : n ≤ (w.alloc o).heap.size := by rw [sz_alloc]; omega
theorem le_set {n : Nat} {w : World} {a : Addr} {v : Value} (h : n ≤ w.heap.size) : n ≤ (w.setCell a v).heap.size := by rw [sz_set]; exact h
/-- A call that leaves the world as it was. -/
def RetBX (b : Bool) (W : World) (e : Ending) (w' : World) : Prop := e = .returned (.bool b) ∧ W = w'
def RetUX (n : Nat) (W : World) (e : Ending) (w' : World) : Prop := e = .returned (.int .u64 n) ∧ W = w'
def RetIX (n : Int) (W : World) (e : Ending) (w' : World) : Prop := e = .returned (.int .i64 n) ∧ W = w'
theorem retBX_mk {a b : Bool} {W : World} (h : a = b) : RetBX b W (.returned (.bool a)) W := ⟨by rw [h], rfl⟩
theorem retUX_mk {a : Int} {b : Nat} {W : World} (h : a = b) : RetUX b W (.returned (.int .u64 a)) W := ⟨by rw [h], rfl⟩
theorem retIX_mk {a b : Int} {W : World} (h : a = b) : RetIX b W (.returned (.int .i64 a)) W := ⟨by rw [h], rfl⟩
/-- An entry's range as a call tells it. -/
def RetRX (a b : Nat) (k : Bool) (W : World) (e : Ending) (w' : World) : Prop := e = .returned (.tuple #[.int .u64 a, .int .u64 b, .bool k]) ∧ W = w'
def RetR (a b : Nat) (k : Bool) (W : World) (e : Ending) (w' : World) : Prop := e = .returned (.tuple #[.int .u64 a, .int .u64 b, .bool k]) ∧ Below W.heap.size W w'
theorem retRX_mk {x y : Int} {a b : Nat} {k l : Bool} {W : World} (h : x = a) (h2 : y = b) (h3 : l = k) : RetRX a b k W (.returned (.tuple #[.int .u64 x, .int .u64 y, .bool l])) W := ⟨by rw [h, h2, h3], rfl⟩
theorem retR_mk {x y : Int} {a b : Nat} {k l : Bool} {W w' : World} (h : x = a) (h2 : y = b) (h3 : l = k) (hb : Below W.heap.size W w') : RetR a b k W (.returned (.tuple #[.int .u64 x, .int .u64 y, .bool l])) w' := ⟨by rw [h, h2, h3], hb⟩
/-- Eight settings, eight addresses as values. -/
def u8s (c : Nat → Nat) : Array Value := #[.int .u8 (c 0 : Nat), .int .u8 (c 1 : Nat), .int .u8 (c 2 : Nat), .int .u8 (c 3 : Nat), .int .u8 (c 4 : Nat), .int .u8 (c 5 : Nat), .int .u8 (c 6 : Nat), .int .u8 (c 7 : Nat)]
def u64s (c : Nat → Nat) : Array Value := #[.int .u64 (c 0 : Nat), .int .u64 (c 1 : Nat), .int .u64 (c 2 : Nat), .int .u64 (c 3 : Nat), .int .u64 (c 4 : Nat), .int .u64 (c 5 : Nat), .int .u64 (c 6 : Nat), .int .u64 (c 7 : Nat)]
theorem u8s_size (c : Nat → Nat) : (u8s c).size = 8 := rfl
theorem u64s_size (c : Nat → Nat) : (u64s c).size = 8 := rfl
theorem u8s_at (c : Nat → Nat) (n : Nat) (hn : n < 8) : (u8s c)[n]? = some (.int .u8 (c n : Nat)) := by
  have : n = 0 ∨ n = 1 ∨ n = 2 ∨ n = 3 ∨ n = 4 ∨ n = 5 ∨ n = 6 ∨ n = 7 := by omega
  rcases this with rfl | rfl | rfl | rfl | rfl | rfl | rfl | rfl <;> rfl
theorem u64s_at (c : Nat → Nat) (n : Nat) (hn : n < 8) : (u64s c)[n]? = some (.int .u64 (c n : Nat)) := by
  have : n = 0 ∨ n = 1 ∨ n = 2 ∨ n = 3 ∨ n = 4 ∨ n = 5 ∨ n = 6 ∨ n = 7 := by omega
  rcases this with rfl | rfl | rfl | rfl | rfl | rfl | rfl | rfl <;> rfl
/-- The table of math/bits. -/
def debC : Array Value := #[.int .u8 0, .int .u8 1, .int .u8 56, .int .u8 2, .int .u8 57, .int .u8 49, .int .u8 28, .int .u8 3, .int .u8 61, .int .u8 58, .int .u8 42, .int .u8 50, .int .u8 38, .int .u8 29, .int .u8 17, .int .u8 4, .int .u8 62, .int .u8 47, .int .u8 59, .int .u8 36, .int .u8 45, .int .u8 43, .int .u8 51, .int .u8 22, .int .u8 53, .int .u8 39, .int .u8 33, .int .u8 30, .int .u8 24, .int .u8 18, .int .u8 12, .int .u8 5, .int .u8 63, .int .u8 55, .int .u8 48, .int .u8 27, .int .u8 60, .int .u8 41, .int .u8 37, .int .u8 16, .int .u8 46, .int .u8 35, .int .u8 44, .int .u8 21, .int .u8 52, .int .u8 32, .int .u8 23, .int .u8 11, .int .u8 54, .int .u8 26, .int .u8 40, .int .u8 15, .int .u8 34, .int .u8 20, .int .u8 31, .int .u8 10, .int .u8 25, .int .u8 14, .int .u8 19, .int .u8 9, .int .u8 13, .int .u8 8, .int .u8 7, .int .u8 6]
def G (w : World) : Prop := 1 ≤ w.heap.size ∧ ∀ o, o < 64 → w.cell? ⟨0, o, none⟩ = debC[o]?
theorem g_below {B : Nat} {w w' : World} (h : G w) (hb : Below B w w') (hB : 1 ≤ B) : G w' :=
  ⟨Nat.le_trans h.1 hb.size, fun o ho => by rw [hb.cell (p := ⟨0, o, none⟩) (by show 0 < B; omega)]; exact h.2 o ho⟩
theorem g_alloc {w : World} (h : G w) (o : Obj) : G (w.alloc o) := g_below h ((Below.refl w.heap.size w).alloc (Nat.le_refl _) o) h.1
theorem g_drewN {w : World} (h : G w) (n : Nat) : G (w.drewN n) := h
def debIs (t : Nat) : Option Value → Bool
  | some (Value.int IntKind.u8 x) => decide (x = (t : Int))
  | _ => false
theorem debIs_eq {t : Nat} : ∀ {v : Option Value}, debIs t v = true → v = some (.int .u8 (t : Nat))
  | some (Value.int IntKind.u8 x), h => by rw [of_decide_eq_true (show decide (x = (t : Int)) = true from h)]
theorem deb_at : ∀ t, t < 64 → debC[2 ^ t * 285870213051353865 % 18446744073709551616 / 288230376151711744]? = some (.int .u8 (t : Nat)) := by
  intro t ht
  have h : ∀ t : Fin 64, debIs t.val debC[2 ^ t.val * 285870213051353865 % 18446744073709551616 / 288230376151711744]? = true := by decide +kernel
  exact debIs_eq (h ⟨t, ht⟩)
theorem deb_in (t : Nat) (ht : t < 64) : 2 ^ t * 285870213051353865 % 18446744073709551616 / 288230376151711744 < 64 := by omega
/-- A number and what it takes to be nothing: the least bit alone. -/
theorem least_bit (t m : Nat) (ht : t < 64) (h : 2 ^ t * (2 * m + 1) < 18446744073709551616) : (2 ^ t * (2 * m + 1)) &&& (18446744073709551616 - 2 ^ t * (2 * m + 1)) = 2 ^ t := by
  have hp : 0 < 2 ^ t := Nat.two_pow_pos t
  have e1 : 2 ^ t * (2 * m + 1) = 2 ^ t * (2 * m) + 2 ^ t := by rw [Nat.mul_add, Nat.mul_one]
  apply Nat.eq_of_testBit_eq
  intro i
  have e2 : 18446744073709551616 - 2 ^ t * (2 * m + 1) = 2 ^ 64 - ((2 ^ t * (2 * m) + (2 ^ t - 1)) + 1) := by rw [e1]; omega
  rw [Nat.testBit_and, e2, Nat.testBit_two_pow_sub_succ (by rw [e1] at h; show _ < 18446744073709551616; omega), Nat.testBit_two_pow]
  have b1 := Nat.testBit_two_pow_mul_add (2 * m + 1) hp i
  have b2 := Nat.testBit_two_pow_mul_add (2 * m) (show 2 ^ t - 1 < 2 ^ t by omega) i
  rw [Nat.add_zero] at b1
  rw [b1, b2]
  by_cases h1 : i < t
  · rw [if_pos h1, if_pos h1, Nat.zero_testBit]
    have : t ≠ i := by omega
    simp [this]
  · rw [if_neg h1, if_neg h1]
    by_cases h2 : t = i
    · subst h2
      rw [Nat.sub_self]; simp [ht]
    · obtain ⟨j, hj⟩ : ∃ j, i - t = j + 1 := ⟨i - t - 1, by omega⟩
      rw [hj, Nat.testBit_succ, Nat.testBit_succ, show (2 * m + 1) / 2 = m by omega, show 2 * m / 2 = m by omega]
      simp [h2]
      exact fun a _ => a
end Go.Proofs.YtjkpcmhepeekmaaDoor
