/- Taken from other texts: what is needed of them. -/
import Derived.Test.YthhlcchofilimaaGreatDoorProg
import Derived.WalkKit
import Derived.Deep.QuietTactic
import Derived.BigQuiet
import Derived.ProofKit
import Derived.OpenShut
import Derived.WalkLawsBesides
import Derived.WalkSpells
import Derived.RegionTactic
import Derived.ChangeAlike
import Derived.Outline
import Derived.Laws.Externs
import Derived.Lib.Hide
import Derived.Laws.Bits64
import Derived.Laws.Bits64b
import Derived.LoopTactic
import Derived.Deep.LoopGhost
import Derived.Laws.Rows
namespace Go.Proofs.YthhlcchofilimaaGreatDoor.Y
set_option linter.unusedVariables false
set_option linter.unusedSimpArgs false
set_option maxRecDepth 20000
def adr (a : Nat) : Nat := a % 18014398509481984
def wayN (c : Nat) : Nat := c / 8 % 4
def lockB (c : Nat) : Bool := decide (128 ≤ c)
/-- By how many ones a number ends, at most k. -/
def ones : Nat → Nat → Nat
  | 0, _ => 0
  | k + 1, a => bif a % 2 == 1 then ones k (a / 2) + 1 else 0
theorem ones_le : ∀ (k a : Nat), ones k a ≤ k
  | 0, _ => Nat.le_refl _
  | k + 1, a => by
    show (bif a % 2 == 1 then ones k (a / 2) + 1 else 0) ≤ k + 1
    have := ones_le k (a / 2)
    cases a % 2 == 1
    · exact Nat.zero_le _
    · exact Nat.succ_le_succ this
/-- What ones there are: a ends with them, and a nought stands ahead of them if there is room. -/
theorem ones_spec : ∀ (k a : Nat), a < 2 ^ k → a % 2 ^ ones k a = 2 ^ ones k a - 1 ∧ a / 2 ^ ones k a % 2 = 0
  | 0, a, h => by
    have : a = 0 := by omega
    subst this; exact ⟨rfl, rfl⟩
  | k + 1, a, h => by
    have e : ones (k + 1) a = bif a % 2 == 1 then ones k (a / 2) + 1 else 0 := rfl
    rw [e]
    by_cases h2 : a % 2 = 1
    · rw [show (a % 2 == 1) = true by simp [h2]]
      show a % 2 ^ (ones k (a / 2) + 1) = 2 ^ (ones k (a / 2) + 1) - 1 ∧ _
      obtain ⟨i1, i2⟩ := ones_spec k (a / 2) (by rw [Nat.pow_succ] at h; omega)
      generalize ones k (a / 2) = t at i1 i2 ⊢
      have hp : 0 < 2 ^ t := Nat.two_pow_pos t
      have h3 : a / 2 ^ (t + 1) = a / 2 / 2 ^ t := by rw [Nat.pow_succ, Nat.mul_comm, Nat.div_div_eq_div_mul]
      refine ⟨?_, by rw [show (bif true then t + 1 else 0) = t + 1 from rfl, h3]; exact i2⟩
      have h4 := Nat.div_add_mod (a / 2) (2 ^ t)
      have h5 := Nat.div_add_mod a (2 ^ (t + 1))
      rw [h3] at h5
      rw [i1] at h4
      rw [Nat.pow_succ] at h5 ⊢
      have h6 : 2 ^ t * 2 * (a / 2 / 2 ^ t) = 2 * (2 ^ t * (a / 2 / 2 ^ t)) := by rw [Nat.mul_comm (2 ^ t) 2, Nat.mul_assoc]
      omega
    · rw [show (a % 2 == 1) = false by simp [h2]]
      show a % 2 ^ 0 = _ ∧ a / 2 ^ 0 % 2 = 0
      rw [Nat.pow_zero, Nat.mod_one, Nat.div_one]
      exact ⟨rfl, by omega⟩
/-- An entry's first byte, and the first one behind it. -/
def loF (c a : Nat → Nat) (n : Nat) : Nat :=
  bif wayN (c n) == 1 then (bif n == 0 then 0 else 4 * adr (a (n - 1)))
  else bif wayN (c n) == 2 then 4 * adr (a n)
  else bif wayN (c n) == 3 then 4 * adr (a n) / 2 ^ (ones 54 (adr (a n)) + 3) * 2 ^ (ones 54 (adr (a n)) + 3)
  else 0
def hiF (c a : Nat → Nat) (n : Nat) : Nat :=
  bif wayN (c n) == 1 then 4 * adr (a n)
  else bif wayN (c n) == 2 then 4 * adr (a n) + 4
  else bif wayN (c n) == 3 then 4 * adr (a n) / 2 ^ (ones 54 (adr (a n)) + 3) * 2 ^ (ones 54 (adr (a n)) + 3) + 2 ^ (ones 54 (adr (a n)) + 3)
  else 0
def rOk (c a : Nat → Nat) (n : Nat) : Bool := decide (loF c a n < hiF c a n)
def rA (c a : Nat → Nat) (n : Nat) : Nat := bif rOk c a n then loF c a n else 0
def rB (c a : Nat → Nat) (n : Nat) : Nat := bif rOk c a n then hiF c a n - 1 else 0
theorem adr_lt (a : Nat) : adr a < 18014398509481984 := Nat.mod_lt _ (by decide)
theorem way_lt (c : Nat) : wayN c < 4 := Nat.mod_lt _ (by decide)
theorem way_cases (c : Nat) : wayN c = 0 ∨ wayN c = 1 ∨ wayN c = 2 ∨ wayN c = 3 := by have := way_lt c; omega
/-- A power of two up to 2 ^ 57, and a multiple of it below 2 ^ 57. -/
theorem pow_up (t : Nat) (ht : t ≤ 54) : 8 ≤ 2 ^ (t + 3) ∧ 2 ^ (t + 3) ≤ 144115188075855872 := by
  constructor
  · have : 2 ^ 3 ≤ 2 ^ (t + 3) := Nat.pow_le_pow_right (by decide) (by omega)
    exact this
  · have : 2 ^ (t + 3) ≤ 2 ^ 57 := Nat.pow_le_pow_right (by decide) (by omega)
    exact this
theorem r_le {c a : Nat → Nat} {n : Nat} (h : rOk c a n = true) : rA c a n ≤ rB c a n := by
  have h' := h
  unfold rOk at h'
  have h2 := of_decide_eq_true h'
  unfold rA rB; rw [h]; simp; omega
/-- What a setting allows; whether an access is one; what the entries from n on say of it. -/
def allowB (c k : Nat) : Bool :=
  bif k == 0 then c / 4 % 2 == 1 else bif k == 1 then c % 2 == 1 else bif k == 2 then c / 2 % 2 == 1 else c % 2 == 1 && c / 2 % 2 == 1
def accB (kind : Int) (x : Nat) (size : Int) : Bool :=
  (decide (size = 1) || decide (size = 2) || decide (size = 4) || decide (size = 8)) && decide (0 ≤ kind) && decide (kind ≤ 3) && decide ((x : Int) + size - 1 < 18446744073709551616)
def missB (c a : Nat → Nat) (x y n : Nat) : Bool := !rOk c a n || decide (rB c a n < x) || decide (y < rA c a n)
def partB (c a : Nat → Nat) (x y n : Nat) : Bool := decide (x < rA c a n) || decide (rB c a n < y)
def goF (c a : Nat → Nat) (m : Bool) (k x y : Nat) : Nat → Bool
  | 0 => m
  | j + 1 => bif missB c a x y (7 - j) then goF c a m k x y j else bif partB c a x y (7 - j) then false else (m && !lockB (c (7 - j))) || allowB (c (7 - j)) k
def chkB (c a : Nat → Nat) (mode kind : Int) (x : Nat) (size : Int) : Bool :=
  bif accB kind x size then goF c a (decide (mode = 3)) kind.toNat x (x + size.toNat - 1) 8 else false
end Go.Proofs.YthhlcchofilimaaGreatDoor.Y
namespace Go.Proofs.YthhlcchofilimaaGreatDoor.Y
set_option linter.unusedVariables false
set_option linter.unusedSimpArgs false
set_option maxRecDepth 20000
open Go.ChangeShapes Go.WideShapes Go.ChangeAt Go.RowKit
theorem le_below {n B : Nat} {w w' : World} (hb : Below B w w') (h : n ≤ w.heap.size) : n ≤ w'.heap.size := Nat.le_trans h hb.size
theorem below_step {B B' : Nat} {w w1 w2 : World} (hb : Below B' w1 w2) (h : Below B w w1) (hB : B ≤ B') : Below B w w2 := h.trans (hb.mono hB)
theorem below_drewN {B : Nat} {w w' : World} (h : Below B w w') (n : Nat) : Below B w (w'.drewN n) := ⟨h.os, h.tape, h.output, h.size, h.block⟩
theorem le_drew {n : Nat} {w : World} (h : n ≤ w.heap.size) : n ≤ w.drew.heap.size := h
theorem le_drewN {n k : Nat} {w : World} (h : n ≤ w.heap.size) : n ≤ (w.drewN k).heap.size := h
theorem sz_drewN (w : World) (k : Nat) : (w.drewN k).heap.size = w.heap.size := rfl
theorem sz_drew (w : World) : w.drew.heap.size = w.heap.size := rfl
def RetB (b : Bool) (W : World) (e : Ending) (w' : World) : Prop := e = .returned (.bool b) ∧ Below W.heap.size W w'
theorem retB_mk {a b : Bool} {W w' : World} (h : a = b) (hb : Below W.heap.size W w') : RetB b W (.returned (.bool a)) w' := ⟨by rw [h], hb⟩
/-- Nothing that was there is written. -/
theorem grown_below {w w' : World} (h : Below w.heap.size w w') : w.grownBy w' none := ⟨h.os, h.tape, h.output, h.size, fun k hk _ => h.block k hk⟩
theorem sz_alloc (w : World) (o : Obj) : (w.alloc o).heap.size = w.heap.size + 1 := by simp
theorem sz_set (w : World) (p : Addr) (u : Value) : (w.setCell p u).heap.size = w.heap.size := by simp [World.setCell]
theorem bcell {W w1 : World} (hb : Below W.heap.size W w1) : (∀ b o, b < W.heap.size → w1.cell? ⟨b, o, none⟩ = W.cell? ⟨b, o, none⟩) ∧ (∀ b o, b < W.heap.size → w1.frozen? ⟨b, o, none⟩ = W.frozen? ⟨b, o, none⟩) :=
  ⟨fun b o h => hb.cell (p := ⟨b, o, none⟩) h, fun b o h => hb.frozen (p := ⟨b, o, none⟩) h⟩
theorem le_alloc {n : Nat} {w : World} {o : Obj} (h : n ≤ w.heap.size) : n ≤ (w.alloc o).heap.size := by rw [sz_alloc]; omega
theorem le_set {n : Nat} {w : World} {a : Addr} {v : Value} (h : n ≤ w.heap.size) : n ≤ (w.setCell a v).heap.size := by rw [sz_set]; exact h
/-- A call that leaves the world as it was. -/
def RetBX (b : Bool) (W : World) (e : Ending) (w' : World) : Prop := e = .returned (.bool b) ∧ W = w'
def RetUX (n : Nat) (W : World) (e : Ending) (w' : World) : Prop := e = .returned (.int .u64 n) ∧ W = w'
def RetIX (n : Int) (W : World) (e : Ending) (w' : World) : Prop := e = .returned (.int .i64 n) ∧ W = w'
theorem retBX_mk {a b : Bool} {W : World} (h : a = b) : RetBX b W (.returned (.bool a)) W := ⟨by rw [h], rfl⟩
theorem retUX_mk {a : Int} {b : Nat} {W : World} (h : a = b) : RetUX b W (.returned (.int .u64 a)) W := ⟨by rw [h], rfl⟩
theorem retIX_mk {a b : Int} {W : World} (h : a = b) : RetIX b W (.returned (.int .i64 a)) W := ⟨by rw [h], rfl⟩
/-- An entry's range as a call tells it. -/
def RetRX (a b : Nat) (k : Bool) (W : World) (e : Ending) (w' : World) : Prop := e = .returned (.tuple #[.int .u64 a, .int .u64 b, .bool k]) ∧ W = w'
def RetR (a b : Nat) (k : Bool) (W : World) (e : Ending) (w' : World) : Prop := e = .returned (.tuple #[.int .u64 a, .int .u64 b, .bool k]) ∧ Below W.heap.size W w'
theorem retRX_mk {x y : Int} {a b : Nat} {k l : Bool} {W : World} (h : x = a) (h2 : y = b) (h3 : l = k) : RetRX a b k W (.returned (.tuple #[.int .u64 x, .int .u64 y, .bool l])) W := ⟨by rw [h, h2, h3], rfl⟩
theorem retR_mk {x y : Int} {a b : Nat} {k l : Bool} {W w' : World} (h : x = a) (h2 : y = b) (h3 : l = k) (hb : Below W.heap.size W w') : RetR a b k W (.returned (.tuple #[.int .u64 x, .int .u64 y, .bool l])) w' := ⟨by rw [h, h2, h3], hb⟩
/-- Eight settings, eight addresses as values. -/
def u8s (c : Nat → Nat) : Array Value := #[.int .u8 (c 0 : Nat), .int .u8 (c 1 : Nat), .int .u8 (c 2 : Nat), .int .u8 (c 3 : Nat), .int .u8 (c 4 : Nat), .int .u8 (c 5 : Nat), .int .u8 (c 6 : Nat), .int .u8 (c 7 : Nat)]
def u64s (c : Nat → Nat) : Array Value := #[.int .u64 (c 0 : Nat), .int .u64 (c 1 : Nat), .int .u64 (c 2 : Nat), .int .u64 (c 3 : Nat), .int .u64 (c 4 : Nat), .int .u64 (c 5 : Nat), .int .u64 (c 6 : Nat), .int .u64 (c 7 : Nat)]
theorem u8s_size (c : Nat → Nat) : (u8s c).size = 8 := rfl
theorem u64s_size (c : Nat → Nat) : (u64s c).size = 8 := rfl
theorem u8s_at (c : Nat → Nat) (n : Nat) (hn : n < 8) : (u8s c)[n]? = some (.int .u8 (c n : Nat)) := by
  have : n = 0 ∨ n = 1 ∨ n = 2 ∨ n = 3 ∨ n = 4 ∨ n = 5 ∨ n = 6 ∨ n = 7 := by omega
  rcases this with rfl | rfl | rfl | rfl | rfl | rfl | rfl | rfl <;> rfl
theorem u64s_at (c : Nat → Nat) (n : Nat) (hn : n < 8) : (u64s c)[n]? = some (.int .u64 (c n : Nat)) := by
  have : n = 0 ∨ n = 1 ∨ n = 2 ∨ n = 3 ∨ n = 4 ∨ n = 5 ∨ n = 6 ∨ n = 7 := by omega
  rcases this with rfl | rfl | rfl | rfl | rfl | rfl | rfl | rfl <;> rfl
/-- The table of math/bits. -/
def debC : Array Value := #[.int .u8 0, .int .u8 1, .int .u8 56, .int .u8 2, .int .u8 57, .int .u8 49, .int .u8 28, .int .u8 3, .int .u8 61, .int .u8 58, .int .u8 42, .int .u8 50, .int .u8 38, .int .u8 29, .int .u8 17, .int .u8 4, .int .u8 62, .int .u8 47, .int .u8 59, .int .u8 36, .int .u8 45, .int .u8 43, .int .u8 51, .int .u8 22, .int .u8 53, .int .u8 39, .int .u8 33, .int .u8 30, .int .u8 24, .int .u8 18, .int .u8 12, .int .u8 5, .int .u8 63, .int .u8 55, .int .u8 48, .int .u8 27, .int .u8 60, .int .u8 41, .int .u8 37, .int .u8 16, .int .u8 46, .int .u8 35, .int .u8 44, .int .u8 21, .int .u8 52, .int .u8 32, .int .u8 23, .int .u8 11, .int .u8 54, .int .u8 26, .int .u8 40, .int .u8 15, .int .u8 34, .int .u8 20, .int .u8 31, .int .u8 10, .int .u8 25, .int .u8 14, .int .u8 19, .int .u8 9, .int .u8 13, .int .u8 8, .int .u8 7, .int .u8 6]
def G (w : World) : Prop := 1 ≤ w.heap.size ∧ ∀ o, o < 64 → w.cell? ⟨0, o, none⟩ = debC[o]?
theorem g_below {B : Nat} {w w' : World} (h : G w) (hb : Below B w w') (hB : 1 ≤ B) : G w' :=
  ⟨Nat.le_trans h.1 hb.size, fun o ho => by rw [hb.cell (p := ⟨0, o, none⟩) (by show 0 < B; omega)]; exact h.2 o ho⟩
theorem g_alloc {w : World} (h : G w) (o : Obj) : G (w.alloc o) := g_below h ((Below.refl w.heap.size w).alloc (Nat.le_refl _) o) h.1
def debIs (t : Nat) : Option Value → Bool
  | some (Value.int IntKind.u8 x) => decide (x = (t : Int))
  | _ => false
theorem debIs_eq {t : Nat} : ∀ {v : Option Value}, debIs t v = true → v = some (.int .u8 (t : Nat))
  | some (Value.int IntKind.u8 x), h => by rw [of_decide_eq_true (show decide (x = (t : Int)) = true from h)]
theorem deb_at : ∀ t, t < 64 → debC[2 ^ t * 285870213051353865 % 18446744073709551616 / 288230376151711744]? = some (.int .u8 (t : Nat)) := by
  intro t ht
  have h : ∀ t : Fin 64, debIs t.val debC[2 ^ t.val * 285870213051353865 % 18446744073709551616 / 288230376151711744]? = true := by decide +kernel
  exact debIs_eq (h ⟨t, ht⟩)
theorem deb_in (t : Nat) (ht : t < 64) : 2 ^ t * 285870213051353865 % 18446744073709551616 / 288230376151711744 < 64 := by omega
/-- A number and what it takes to be nothing: the least bit alone. -/
theorem least_bit (t m : Nat) (ht : t < 64) (h : 2 ^ t * (2 * m + 1) < 18446744073709551616) : (2 ^ t * (2 * m + 1)) &&& (18446744073709551616 - 2 ^ t * (2 * m + 1)) = 2 ^ t := by
  have hp : 0 < 2 ^ t := Nat.two_pow_pos t
  have e1 : 2 ^ t * (2 * m + 1) = 2 ^ t * (2 * m) + 2 ^ t := by rw [Nat.mul_add, Nat.mul_one]
  apply Nat.eq_of_testBit_eq
  intro i
  have e2 : 18446744073709551616 - 2 ^ t * (2 * m + 1) = 2 ^ 64 - ((2 ^ t * (2 * m) + (2 ^ t - 1)) + 1) := by rw [e1]; omega
  rw [Nat.testBit_and, e2, Nat.testBit_two_pow_sub_succ (by rw [e1] at h; show _ < 18446744073709551616; omega), Nat.testBit_two_pow]
  have b1 := Nat.testBit_two_pow_mul_add (2 * m + 1) hp i
  have b2 := Nat.testBit_two_pow_mul_add (2 * m) (show 2 ^ t - 1 < 2 ^ t by omega) i
  rw [Nat.add_zero] at b1
  rw [b1, b2]
  by_cases h1 : i < t
  · rw [if_pos h1, if_pos h1, Nat.zero_testBit]
    have : t ≠ i := by omega
    simp [this]
  · rw [if_neg h1, if_neg h1]
    by_cases h2 : t = i
    · subst h2
      rw [Nat.sub_self]; simp [ht]
    · obtain ⟨j, hj⟩ : ∃ j, i - t = j + 1 := ⟨i - t - 1, by omega⟩
      rw [hj, Nat.testBit_succ, Nat.testBit_succ, show (2 * m + 1) / 2 = m by omega, show 2 * m / 2 = m by omega]
      simp [h2]
      exact fun a _ => a
end Go.Proofs.YthhlcchofilimaaGreatDoor.Y
namespace Go.Proofs.YthhlcchofilimaaGreatDoor.Y
set_option linter.unusedVariables false
set_option linter.unusedSimpArgs false
set_option maxRecDepth 20000
open Go.ChangeShapes Go.WideShapes Go.ChangeAt Go.RowKit
theorem u8_all {p : Nat → Prop} [DecidablePred p] (h : ∀ x : Fin 256, p x.val) (c : Nat) (hc : c < 256) : p c := h ⟨c, hc⟩
theorem and24 (c : Nat) (hc : c < 256) : bits .and .u8 (c : Int) 24 = ((c / 8 % 4 * 8 : Nat) : Int) := u8_all (p := fun c => bits .and .u8 (c : Int) 24 = ((c / 8 % 4 * 8 : Nat) : Int)) (by decide +kernel) c hc
theorem and128 (c : Nat) (hc : c < 256) : bits .and .u8 (c : Int) 128 = ((c / 128 * 128 : Nat) : Int) := u8_all (p := fun c => bits .and .u8 (c : Int) 128 = ((c / 128 * 128 : Nat) : Int)) (by decide +kernel) c hc
theorem mask54 (a : Nat) (ha : a < 18446744073709551616) : bits .and .u64 (a : Int) 18014398509481983 = ((adr a : Nat) : Int) := by
  have h := bits_and_u64_nat a 18014398509481983 ha (by decide)
  rw [show (18014398509481983 : Nat) = 2 ^ 54 - 1 from rfl, Nat.and_two_pow_sub_one_eq_mod] at h
  exact h
set_option maxRecDepth 100000 in
theorem tz_c (t m : Nat) (ht : t < 64) (h : Hid (2 ^ t * (2 * m + 1) < 18446744073709551616)) (w : World) (hG : Hid (G w)) :
    Calls Tryz.prog 87 #[.int .u64 (2 ^ t * (2 * m + 1) : Nat)] w (RetIX t w) := by
  obtain ⟨x, hx⟩ : ∃ x, x = 2 ^ t * (2 * m + 1) := ⟨_, rfl⟩
  have hp : 0 < 2 ^ t := Nat.two_pow_pos t
  have x0 : 0 < x := by rw [hx]; exact Nat.mul_pos hp (by omega)
  have x1 : x < 18446744073709551616 := by rw [hx]; exact h.out
  have b1 : bits .and .u64 (x : Int) ((18446744073709551616 - x : Nat) : Int) = ((2 ^ t : Nat) : Int) := by
    rw [bits_and_u64_nat x _ x1 (by omega), hx, least_bit t m ht h.out]
  have c0 := (hG.out.2 _ (deb_in t ht)).trans (deb_at t ht)
  have i0 := deb_in t ht
  obtain ⟨ix, hix⟩ : ∃ ix, ix = 2 ^ t * 285870213051353865 % 18446744073709551616 / 288230376151711744 := ⟨_, rfl⟩
  rw [← hix] at c0 i0
  have h4 : ((x : Int) == 0) = false := by rw [beq_eq_false_iff_ne]; omega
  have h5 : IntKind.u64.wrap (-(x : Int)) = ((18446744073709551616 - x : Nat) : Int) := by rw [IntKind.wrap_u64]; omega
  have h6 : bits .and .u64 (x : Int) (IntKind.u64.wrap (-(x : Int))) = ((2 ^ t : Nat) : Int) := by rw [h5, b1]
  have h7 : Hid (IntKind.u64.wrap (((2 ^ t : Nat) : Int) * 285870213051353865) / 288230376151711744 = (ix : Int)) := by
    show _ = _
    rw [hix, IntKind.wrap_u64]
    generalize 2 ^ t = p
    omega
  rw [← hx]
  obtain ⟨p, hpp⟩ : ∃ p, p = 2 ^ t := ⟨_, rfl⟩
  rw [← hpp] at h6 h7
  have t8 : (t : Int) < 256 := by omega
  clear hx hp x0 x1 b1 hix h5 hpp h
  replace h7 := h7.out
  have i1 : (ix : Int) < 64 := by omega
  have t9 : ((t : Nat) : Int).toNat = t := by omega
  go_enter Tryz.func87, Tryz.ntmps87
  go_wp2_with fail
  go_ret
  exact retIX_mk rfl
theorem isEntry_y (n : Int) (h1 : (0 ≤ n) = True) (h2 : (n < 8) = True) (w : World) : Calls Tryz.prog 77 #[.int .i64 n] w (RetBX true w) := by
  have h1 := of_eq_true h1
  have h2 := of_eq_true h2
  go_enter Tryz.func77, Tryz.ntmps77
  go_wp2_with fail
  go_ret
  exact retBX_mk rfl
theorem place_c (a : Nat) (ha : Hid (a < 18446744073709551616)) (w : World) : Calls Tryz.prog 78 #[.int .u64 a] w (RetUX (4 * adr a) w) := by
  have h1 := mask54 a ha.out
  have h2 := adr_lt a
  obtain ⟨x, hx⟩ : ∃ x, x = adr a := ⟨_, rfl⟩
  rw [← hx] at h1 h2 ⊢
  clear hx
  have h3 : IntKind.u64.wrap (4 * (x : Int)) = 4 * x := by rw [IntKind.wrap_u64]; omega
  clear h2
  go_enter Tryz.func78, Tryz.ntmps78
  go_wp2_with fail
  go_ret
  exact retUX_mk (by omega)
theorem wayOf_c (c : Nat) (hc : Hid (c < 256)) (w : World) : Calls Tryz.prog 79 #[.int .u8 c] w (RetIX (wayN c) w) := by
  have h1 := and24 c hc.out
  obtain ⟨x, hx⟩ : ∃ x, x = wayN c := ⟨_, rfl⟩
  have h2 : x < 4 := by rw [hx]; exact way_lt c
  rw [show c / 8 % 4 = x from hx.symm] at h1
  rw [← hx]
  clear hx
  go_enter Tryz.func79, Tryz.ntmps79
  go_wp2_with fail
  go_ret
  exact retIX_mk (by omega)
theorem isLocked_c (c : Nat) (hc : Hid (c < 256)) (w : World) : Calls Tryz.prog 68 #[.int .u8 c] w (RetBX (lockB c) w) := by
  have h1 := and128 c hc.out
  have h0 := hc.out
  have h2 : (!(((c / 128 * 128 : Nat) : Int) == 0)) = lockB c := by
    unfold lockB
    rw [Bool.eq_iff_iff]; simp; omega
  obtain ⟨x, hx⟩ : ∃ x, x = c / 128 * 128 := ⟨_, rfl⟩
  rw [← hx] at h1 h2
  have H2 := Lib.hid h2
  clear hx h2 h0
  go_enter Tryz.func68, Tryz.ntmps68
  go_wp2_with fail
  go_ret
  exact retBX_mk (by first | exact H2.out | (rw [← H2.out]; simp))
theorem between_y (x y : Nat) (h : (x : Int) < y) (hy : Hid (y < 18446744073709551616)) (w : World) : Calls Tryz.prog 80 #[.int .u64 x, .int .u64 y] w (RetRX x (y - 1) true w) := by
  have h1 : IntKind.u64.wrap ((y : Int) - 1) = ((y - 1 : Nat) : Int) := by have := hy.out; rw [IntKind.wrap_u64]; omega
  have h2 : ¬ (x : Int) ≥ y := by omega
  go_enter Tryz.func80, Tryz.ntmps80
  go_wp2_with fail
  go_ret3
  exact retRX_mk rfl rfl rfl
theorem between_n (x y : Nat) (h : (y : Int) ≤ x) (w : World) : Calls Tryz.prog 80 #[.int .u64 x, .int .u64 y] w (RetRX 0 0 false w) := by
  go_enter Tryz.func80, Tryz.ntmps80
  go_wp2_with fail
  go_ret3
  exact retRX_mk rfl rfl rfl
/-- What is left of x where the lowest t bits are taken. -/
theorem floor_bits (t x : Nat) (ht : t ≤ 57) (hx : x < 18446744073709551616) : bits .andNot .u64 (x : Int) ((2 ^ t - 1 : Nat) : Int) = ((x / 2 ^ t * 2 ^ t : Nat) : Int) := by
  have hp : 2 ^ t ≤ 2 ^ 57 := Nat.pow_le_pow_right (by decide) ht
  rw [u64_andNot_nat x _ hx (by omega)]
  congr 1
  have e1 : 18446744073709551615 - (2 ^ t - 1) = 2 ^ 64 - ((2 ^ t - 1) + 1) := by have := Nat.two_pow_pos t; omega
  rw [e1]
  apply Nat.eq_of_testBit_eq
  intro i
  have h0 := Nat.two_pow_pos t
  rw [Nat.testBit_and, Nat.testBit_two_pow_sub_succ (by show _ < 18446744073709551616; omega), Nat.testBit_two_pow_sub_one]
  have b := Nat.testBit_two_pow_mul_add (x / 2 ^ t) h0 i
  rw [Nat.add_zero, Nat.mul_comm] at b
  rw [b]
  by_cases h1 : i < t
  · rw [if_pos h1, Nat.zero_testBit]; simp [h1]
  · rw [if_neg h1]
    have h2 : (x / 2 ^ t).testBit (i - t) = x.testBit i := by
      rw [Nat.testBit_div_two_pow]; congr 1; omega
    rw [h2]
    by_cases h3 : i < 64
    · simp [h1, h3]
    · have : x.testBit i = false := Nat.testBit_lt_two_pow (Nat.lt_of_lt_of_le (show x < 2 ^ 64 from hx) (Nat.pow_le_pow_right (by decide) (by omega)))
      rw [this]; simp
theorem around_c (x t : Nat) (ht : t ≤ 57) (hx : Hid (x < 216172782113783808)) (w : World) :
    Calls Tryz.prog 81 #[.int .u64 x, .int .u64 (2 ^ t : Nat)] w (RetRX (x / 2 ^ t * 2 ^ t) (x / 2 ^ t * 2 ^ t + 2 ^ t - 1) true w) := by
  have h0 := floor_bits t x ht (by have := hx.out; omega)
  have hp : 2 ^ t ≤ 2 ^ 57 := Nat.pow_le_pow_right (by decide) ht
  have hq := Nat.two_pow_pos t
  have hf := Nat.div_mul_le_self x (2 ^ t)
  have hx' := hx.out
  obtain ⟨f, hf'⟩ : ∃ f, f = x / 2 ^ t * 2 ^ t := ⟨_, rfl⟩
  rw [← hf'] at h0 hf ⊢
  clear hf'
  generalize 2 ^ t = p at h0 hp hq ⊢
  have h1 : IntKind.u64.wrap ((p : Int) - 1) = ((p - 1 : Nat) : Int) := by rw [IntKind.wrap_u64]; omega
  have h2 : IntKind.u64.wrap ((f : Int) + p) = ((f + p : Nat) : Int) := by rw [IntKind.wrap_u64]; omega
  have h3 : IntKind.u64.wrap (((f + p : Nat) : Int) - 1) = ((f + p - 1 : Nat) : Int) := by rw [IntKind.wrap_u64]; omega
  have H0 : bits .andNot .u64 (x : Int) (IntKind.u64.wrap ((p : Int) - 1)) = (f : Int) := by rw [h1]; exact h0
  have H3 : IntKind.u64.wrap (IntKind.u64.wrap ((f : Int) + p) - 1) = ((f + p - 1 : Nat) : Int) := by rw [h2]; exact h3
  clear h0 h1 h2 h3 hp hq hf hx' hx ht
  go_enter Tryz.func81, Tryz.ntmps81
  go_wp2_with fail
  go_ret3
  exact retRX_mk rfl (by first | rfl | exact H3) rfl
end Go.Proofs.YthhlcchofilimaaGreatDoor.Y
namespace Go.Proofs.YthhlcchofilimaaGreatDoor.Y
set_option linter.unusedVariables false
set_option linter.unusedSimpArgs false
set_option maxRecDepth 20000
open Go.ChangeShapes Go.WideShapes Go.ChangeAt Go.RowKit
theorem reach_c (a : Nat) (ha : Hid (a < 18446744073709551616)) (w : World) (hG : Hid (G w)) : Calls Tryz.prog 82 #[.int .u64 a] w (RetUX (2 ^ (ones 54 (adr a) + 3)) w) := by
  have h1 := mask54 a ha.out
  have h2 := adr_lt a
  obtain ⟨x, hx⟩ : ∃ x, x = adr a := ⟨_, rfl⟩
  rw [← hx] at h1 h2 ⊢
  clear hx ha
  obtain ⟨s1, s2⟩ := ones_spec 54 x h2
  have s3 := ones_le 54 x
  generalize ones 54 x = t at s1 s2 s3 ⊢
  obtain ⟨y, hy⟩ : ∃ y, y = 18446744073709551615 - x := ⟨_, rfl⟩
  have hp := Nat.two_pow_pos t
  have hp2 : 2 ^ t ≤ 2 ^ 54 := Nat.pow_le_pow_right (by decide) s3
  -- y = 2 ^ t times an odd number
  have k1 := Nat.div_add_mod x (2 ^ t)
  have k2 : 2 ^ t * (2 ^ (64 - t)) = 18446744073709551616 := by rw [← Nat.pow_add, show t + (64 - t) = 64 by omega]
  have hq2 : 2 ^ (64 - t) = 2 * 2 ^ (63 - t) := by rw [← Nat.pow_succ', show (63 - t).succ = 64 - t by omega]
  obtain ⟨z, hz⟩ : ∃ z, x / 2 ^ t = 2 * z := ⟨x / 2 ^ t / 2, by omega⟩
  have hm : y = 2 ^ t * (2 * (2 ^ (63 - t) - 1 - z) + 1) := by
    have e1 : x + 1 = 2 ^ t * (2 * z + 1) := by
      rw [s1, hz] at k1
      rw [Nat.mul_add, Nat.mul_one]; omega
    have e2 : x + 1 + y = 2 ^ t * 2 ^ (64 - t) := by rw [k2]; omega
    have e3 : 2 * z + 1 < 2 ^ (64 - t) := by
      apply Nat.lt_of_not_le
      intro h
      have := Nat.mul_le_mul_left (2 ^ t) h
      omega
    have e4 : 2 * (2 ^ (63 - t) - 1 - z) + 1 = 2 ^ (64 - t) - (2 * z + 1) := by omega
    rw [e4, Nat.mul_sub, ← e1, ← e2]; omega
  have hy1 : y < 18446744073709551616 := by omega
  have HT := Lib.hid (tz_c t (2 ^ (63 - t) - 1 - z) (by omega) (by show _ < _; rw [← hm]; exact hy1))
  rw [← hm] at HT
  have h3 : bits .xor .u64 IntKind.u64.max (x : Int) = (y : Int) := by
    rw [hy]
    have h5 : ((18446744073709551615 : Nat) : Int) = IntKind.u64.max := rfl
    rw [← h5, u64_xor_nat 18446744073709551615 x (by decide) (by omega)]
    congr 1
    have h6 := Nat.xor_comm 18446744073709551615 x
    apply Nat.eq_of_testBit_eq
    intro i
    have e1 : 18446744073709551615 - x = 2 ^ 64 - (x + 1) := by omega
    rw [Nat.testBit_xor, e1, Nat.testBit_two_pow_sub_succ (by show _ < 18446744073709551616; omega), show (18446744073709551615 : Nat) = 2 ^ 64 - 1 from rfl, Nat.testBit_two_pow_sub_one]
    by_cases h3 : i < 64
    · simp [h3]
    · have : x.testBit i = false := Nat.testBit_lt_two_pow (Nat.lt_of_lt_of_le (show x < 2 ^ 64 by show _ < 18446744073709551616; omega) (Nat.pow_le_pow_right (by decide) (by omega)))
      rw [this]; simp [h3]
  have h4 : IntKind.u64.wrap (8 * 2 ^ t) = ((2 ^ (t + 3) : Nat) : Int) := by
    rw [IntKind.wrap_u64, Nat.pow_add]
    have : ((2 ^ t : Nat) : Int) = 2 ^ t := by simp
    rw [← this]
    generalize 2 ^ t = p at hp2 hp ⊢
    omega
  obtain ⟨r, hr⟩ : ∃ r, r = 2 ^ (t + 3) := ⟨_, rfl⟩
  rw [← hr] at h4 ⊢
  have t0 : (t : Int) < 64 := by omega
  clear hm k1 k2 hq2 hz hy1 hy hp hp2 s1 s2 s3 hr h2
  go_enter Tryz.func82, Tryz.ntmps82
  go_wp2_with fail
  refine (HT.out _ hG).mono ?_; rintro e w1 ⟨rfl, h⟩; replace h := h.symm; subst h
  go_wp2_with fail
  go_ret
  exact retUX_mk (by first | exact h4 | rfl)
theorem allow_0 (c : Nat) (hc : c < 256) : (bits .and .u8 (c : Int) 4 == 4) = allowB c 0 := u8_all (p := fun c => (bits .and .u8 (c : Int) 4 == 4) = allowB c 0) (by decide +kernel) c hc
theorem allows_0 (c : Nat) (hc : Hid (c < 256)) (w : World) : Calls Tryz.prog 69 #[.int .u8 c, .int .i64 0] w (RetBX (allowB c 0) w) := by
  have h1 := Lib.hid (allow_0 c hc.out)
  go_enter Tryz.func69, Tryz.ntmps69
  go_wp2_with fail
  go_ret
  exact retBX_mk h1.out
theorem allow_1 (c : Nat) (hc : c < 256) : (bits .and .u8 (c : Int) 1 == 1) = allowB c 1 := u8_all (p := fun c => (bits .and .u8 (c : Int) 1 == 1) = allowB c 1) (by decide +kernel) c hc
theorem allows_1 (c : Nat) (hc : Hid (c < 256)) (w : World) : Calls Tryz.prog 69 #[.int .u8 c, .int .i64 1] w (RetBX (allowB c 1) w) := by
  have h1 := Lib.hid (allow_1 c hc.out)
  go_enter Tryz.func69, Tryz.ntmps69
  go_wp2_with fail
  go_ret
  exact retBX_mk h1.out
theorem allow_2 (c : Nat) (hc : c < 256) : (bits .and .u8 (c : Int) 2 == 2) = allowB c 2 := u8_all (p := fun c => (bits .and .u8 (c : Int) 2 == 2) = allowB c 2) (by decide +kernel) c hc
theorem allows_2 (c : Nat) (hc : Hid (c < 256)) (w : World) : Calls Tryz.prog 69 #[.int .u8 c, .int .i64 2] w (RetBX (allowB c 2) w) := by
  have h1 := Lib.hid (allow_2 c hc.out)
  go_enter Tryz.func69, Tryz.ntmps69
  go_wp2_with fail
  go_ret
  exact retBX_mk h1.out
theorem allow_3 (c : Nat) (hc : c < 256) : (bits .and .u8 (c : Int) 3 == 3) = allowB c 3 := u8_all (p := fun c => (bits .and .u8 (c : Int) 3 == 3) = allowB c 3) (by decide +kernel) c hc
theorem allows_3 (c : Nat) (hc : Hid (c < 256)) (w : World) : Calls Tryz.prog 69 #[.int .u8 c, .int .i64 3] w (RetBX (allowB c 3) w) := by
  have h1 := Lib.hid (allow_3 c hc.out)
  go_enter Tryz.func69, Tryz.ntmps69
  go_wp2_with fail
  go_ret
  exact retBX_mk h1.out
theorem allows_c (c k : Nat) (hk : k < 4) (hc : Hid (c < 256)) (w : World) : Calls Tryz.prog 69 #[.int .u8 c, .int .i64 k] w (RetBX (allowB c k) w) := by
  have : k = 0 ∨ k = 1 ∨ k = 2 ∨ k = 3 := by omega
  rcases this with rfl | rfl | rfl | rfl
  · exact allows_0 c hc w
  · exact allows_1 c hc w
  · exact allows_2 c hc w
  · exact allows_3 c hc w
theorem bitf_0 (c : Nat) (hc : c < 256) : (bits .and .u8 (((c / 1 : Nat) : Int)) 1 == 1) = (c / 1 % 2 == 1) := u8_all (p := fun c => (bits .and .u8 (((c / 1 : Nat) : Int)) 1 == 1) = (c / 1 % 2 == 1)) (by decide +kernel) c hc
theorem bit_0 (c : Nat) (hc : Hid (c < 256)) (w : World) : Calls Tryz.prog 62 #[.int .u8 c, .int .i64 0] w (RetBX (c / 1 % 2 == 1) w) := by
  have h1 := Lib.hid (bitf_0 c hc.out)
  go_enter Tryz.func62, Tryz.ntmps62
  go_wp2_with fail
  go_ret
  refine retBX_mk ?_
  rw [← h1.out]
  try simp
theorem bitf_1 (c : Nat) (hc : c < 256) : (bits .and .u8 (((c / 2 : Nat) : Int)) 1 == 1) = (c / 2 % 2 == 1) := u8_all (p := fun c => (bits .and .u8 (((c / 2 : Nat) : Int)) 1 == 1) = (c / 2 % 2 == 1)) (by decide +kernel) c hc
theorem bit_1 (c : Nat) (hc : Hid (c < 256)) (w : World) : Calls Tryz.prog 62 #[.int .u8 c, .int .i64 1] w (RetBX (c / 2 % 2 == 1) w) := by
  have h1 := Lib.hid (bitf_1 c hc.out)
  go_enter Tryz.func62, Tryz.ntmps62
  go_wp2_with fail
  go_ret
  refine retBX_mk ?_
  rw [← h1.out]
  try simp
theorem bitf_2 (c : Nat) (hc : c < 256) : (bits .and .u8 (((c / 4 : Nat) : Int)) 1 == 1) = (c / 4 % 2 == 1) := u8_all (p := fun c => (bits .and .u8 (((c / 4 : Nat) : Int)) 1 == 1) = (c / 4 % 2 == 1)) (by decide +kernel) c hc
theorem bit_2 (c : Nat) (hc : Hid (c < 256)) (w : World) : Calls Tryz.prog 62 #[.int .u8 c, .int .i64 2] w (RetBX (c / 4 % 2 == 1) w) := by
  have h1 := Lib.hid (bitf_2 c hc.out)
  go_enter Tryz.func62, Tryz.ntmps62
  go_wp2_with fail
  go_ret
  refine retBX_mk ?_
  rw [← h1.out]
  try simp
theorem bitf_3 (c : Nat) (hc : c < 256) : (bits .and .u8 (((c / 8 : Nat) : Int)) 1 == 1) = (c / 8 % 2 == 1) := u8_all (p := fun c => (bits .and .u8 (((c / 8 : Nat) : Int)) 1 == 1) = (c / 8 % 2 == 1)) (by decide +kernel) c hc
theorem bit_3 (c : Nat) (hc : Hid (c < 256)) (w : World) : Calls Tryz.prog 62 #[.int .u8 c, .int .i64 3] w (RetBX (c / 8 % 2 == 1) w) := by
  have h1 := Lib.hid (bitf_3 c hc.out)
  go_enter Tryz.func62, Tryz.ntmps62
  go_wp2_with fail
  go_ret
  refine retBX_mk ?_
  rw [← h1.out]
  try simp
theorem bitf_4 (c : Nat) (hc : c < 256) : (bits .and .u8 (((c / 16 : Nat) : Int)) 1 == 1) = (c / 16 % 2 == 1) := u8_all (p := fun c => (bits .and .u8 (((c / 16 : Nat) : Int)) 1 == 1) = (c / 16 % 2 == 1)) (by decide +kernel) c hc
theorem bit_4 (c : Nat) (hc : Hid (c < 256)) (w : World) : Calls Tryz.prog 62 #[.int .u8 c, .int .i64 4] w (RetBX (c / 16 % 2 == 1) w) := by
  have h1 := Lib.hid (bitf_4 c hc.out)
  go_enter Tryz.func62, Tryz.ntmps62
  go_wp2_with fail
  go_ret
  refine retBX_mk ?_
  rw [← h1.out]
  try simp
theorem bitf_7 (c : Nat) (hc : c < 256) : (bits .and .u8 (((c / 128 : Nat) : Int)) 1 == 1) = (c / 128 % 2 == 1) := u8_all (p := fun c => (bits .and .u8 (((c / 128 : Nat) : Int)) 1 == 1) = (c / 128 % 2 == 1)) (by decide +kernel) c hc
theorem bit_7 (c : Nat) (hc : Hid (c < 256)) (w : World) : Calls Tryz.prog 62 #[.int .u8 c, .int .i64 7] w (RetBX (c / 128 % 2 == 1) w) := by
  have h1 := Lib.hid (bitf_7 c hc.out)
  go_enter Tryz.func62, Tryz.ntmps62
  go_wp2_with fail
  go_ret
  refine retBX_mk ?_
  rw [← h1.out]
  try simp
theorem address_c (a : Nat) (ha : Hid (a < 18446744073709551616)) (w : World) : Calls Tryz.prog 75 #[.int .u64 a] w (RetUX (adr a) w) := by
  go_enter Tryz.func75, Tryz.ntmps75
  go_wp2_with fail
  go_ret
  exact retUX_mk (by first | rfl | (unfold adr; simp) | (unfold adr; omega))
theorem way_bits (c : Nat) : wayN c = (bif c / 8 % 2 == 1 then 1 else 0) + (bif c / 16 % 2 == 1 then 2 else 0) := by
  unfold wayN
  have h1 : c / 8 % 2 = 0 ∨ c / 8 % 2 = 1 := by omega
  have h2 : c / 16 % 2 = 0 ∨ c / 16 % 2 = 1 := by omega
  rcases h1 with h1 | h1 <;> rcases h2 with h2 | h2 <;> rw [h1, h2] <;> simp <;> omega
theorem way_c (c : Nat) (hc : Hid (c < 256)) (w : World) : Calls Tryz.prog 76 #[.int .u8 c] w (RetIX (wayN c) w) := by
  have H3 := Lib.hid (fun v => bit_3 c hc v)
  have H4 := Lib.hid (fun v => bit_4 c hc v)
  have hw := way_bits c
  obtain ⟨x, hx⟩ : ∃ x, (c / 8 % 2 == 1) = x := ⟨_, rfl⟩
  obtain ⟨y, hy⟩ : ∃ y, (c / 16 % 2 == 1) = y := ⟨_, rfl⟩
  rw [show (8 : Nat) = 2 ^ 3 from rfl] at hx
  rw [show (16 : Nat) = 2 ^ 4 from rfl] at hy
  simp only [show (2 ^ 3 : Nat) = 8 from rfl, show (2 ^ 4 : Nat) = 16 from rfl] at hx hy
  rw [hx, hy] at hw
  rw [hx] at H3
  rw [hy] at H4
  have HW := Lib.hid hw
  clear hw hx hy hc
  go_enter Tryz.func76, Tryz.ntmps76
  go_wp2_with fail
  refine (H3.out _).mono ?_; rintro e w1 ⟨rfl, h⟩; replace h := h.symm; subst h
  cases x
  all_goals
    go_wp2_with fail
    refine (H4.out _).mono ?_; rintro e w1 ⟨rfl, h⟩; replace h := h.symm; subst h
    cases y
    all_goals
      go_wp2_with fail
      go_ret
      exact retIX_mk (by rw [HW.out]; rfl)
theorem allowr_0 (c : Nat) (hc : Hid (c < 256)) (w : World) : Calls Tryz.prog 63 #[.int .u8 c, .int .i64 0] w (RetBX (allowB c 0) w) := by
  have H0 := Lib.hid (fun v => bit_0 c hc v)
  obtain ⟨x0, hx0⟩ : ∃ x, (c / 1 % 2 == 1) = x := ⟨_, rfl⟩
  rw [hx0] at H0
  have H1 := Lib.hid (fun v => bit_1 c hc v)
  obtain ⟨x1, hx1⟩ : ∃ x, (c / 2 % 2 == 1) = x := ⟨_, rfl⟩
  rw [hx1] at H1
  have H2 := Lib.hid (fun v => bit_2 c hc v)
  obtain ⟨x2, hx2⟩ : ∃ x, (c / 4 % 2 == 1) = x := ⟨_, rfl⟩
  rw [hx2] at H2
  have hA : allowB c 0 = x2 := by
    (try rw [← hx0]); (try rw [← hx1]); (try rw [← hx2]); (try rw [Nat.div_one]); rfl
  rw [hA]
  clear hA hx0 hx1 hx2 hc
  go_enter Tryz.func63, Tryz.ntmps63
  go_wp2_with fail
  refine (H0.out _).mono ?_; rintro e w1 ⟨rfl, h⟩; replace h := h.symm; subst h
  go_wp2_with fail
  refine (H1.out _).mono ?_; rintro e w1 ⟨rfl, h⟩; replace h := h.symm; subst h
  go_wp2_with fail
  refine (H2.out _).mono ?_; rintro e w1 ⟨rfl, h⟩; replace h := h.symm; subst h
  go_wp2_with fail
  
  all_goals go_ret
  all_goals exact retBX_mk (by first | rfl | simp)
theorem allowr_1 (c : Nat) (hc : Hid (c < 256)) (w : World) : Calls Tryz.prog 63 #[.int .u8 c, .int .i64 1] w (RetBX (allowB c 1) w) := by
  have H0 := Lib.hid (fun v => bit_0 c hc v)
  obtain ⟨x0, hx0⟩ : ∃ x, (c / 1 % 2 == 1) = x := ⟨_, rfl⟩
  rw [hx0] at H0
  have H1 := Lib.hid (fun v => bit_1 c hc v)
  obtain ⟨x1, hx1⟩ : ∃ x, (c / 2 % 2 == 1) = x := ⟨_, rfl⟩
  rw [hx1] at H1
  have H2 := Lib.hid (fun v => bit_2 c hc v)
  obtain ⟨x2, hx2⟩ : ∃ x, (c / 4 % 2 == 1) = x := ⟨_, rfl⟩
  rw [hx2] at H2
  have hA : allowB c 1 = x0 := by
    (try rw [← hx0]); (try rw [← hx1]); (try rw [← hx2]); (try rw [Nat.div_one]); rfl
  rw [hA]
  clear hA hx0 hx1 hx2 hc
  go_enter Tryz.func63, Tryz.ntmps63
  go_wp2_with fail
  refine (H0.out _).mono ?_; rintro e w1 ⟨rfl, h⟩; replace h := h.symm; subst h
  go_wp2_with fail
  refine (H1.out _).mono ?_; rintro e w1 ⟨rfl, h⟩; replace h := h.symm; subst h
  go_wp2_with fail
  refine (H2.out _).mono ?_; rintro e w1 ⟨rfl, h⟩; replace h := h.symm; subst h
  go_wp2_with fail
  
  all_goals go_ret
  all_goals exact retBX_mk (by first | rfl | simp)
theorem allowr_2 (c : Nat) (hc : Hid (c < 256)) (w : World) : Calls Tryz.prog 63 #[.int .u8 c, .int .i64 2] w (RetBX (allowB c 2) w) := by
  have H0 := Lib.hid (fun v => bit_0 c hc v)
  obtain ⟨x0, hx0⟩ : ∃ x, (c / 1 % 2 == 1) = x := ⟨_, rfl⟩
  rw [hx0] at H0
  have H1 := Lib.hid (fun v => bit_1 c hc v)
  obtain ⟨x1, hx1⟩ : ∃ x, (c / 2 % 2 == 1) = x := ⟨_, rfl⟩
  rw [hx1] at H1
  have H2 := Lib.hid (fun v => bit_2 c hc v)
  obtain ⟨x2, hx2⟩ : ∃ x, (c / 4 % 2 == 1) = x := ⟨_, rfl⟩
  rw [hx2] at H2
  have hA : allowB c 2 = x1 := by
    (try rw [← hx0]); (try rw [← hx1]); (try rw [← hx2]); (try rw [Nat.div_one]); rfl
  rw [hA]
  clear hA hx0 hx1 hx2 hc
  go_enter Tryz.func63, Tryz.ntmps63
  go_wp2_with fail
  refine (H0.out _).mono ?_; rintro e w1 ⟨rfl, h⟩; replace h := h.symm; subst h
  go_wp2_with fail
  refine (H1.out _).mono ?_; rintro e w1 ⟨rfl, h⟩; replace h := h.symm; subst h
  go_wp2_with fail
  refine (H2.out _).mono ?_; rintro e w1 ⟨rfl, h⟩; replace h := h.symm; subst h
  go_wp2_with fail
  
  all_goals go_ret
  all_goals exact retBX_mk (by first | rfl | simp)
theorem allowr_3 (c : Nat) (hc : Hid (c < 256)) (w : World) : Calls Tryz.prog 63 #[.int .u8 c, .int .i64 3] w (RetBX (allowB c 3) w) := by
  have H0 := Lib.hid (fun v => bit_0 c hc v)
  obtain ⟨x0, hx0⟩ : ∃ x, (c / 1 % 2 == 1) = x := ⟨_, rfl⟩
  rw [hx0] at H0
  have H1 := Lib.hid (fun v => bit_1 c hc v)
  obtain ⟨x1, hx1⟩ : ∃ x, (c / 2 % 2 == 1) = x := ⟨_, rfl⟩
  rw [hx1] at H1
  have H2 := Lib.hid (fun v => bit_2 c hc v)
  obtain ⟨x2, hx2⟩ : ∃ x, (c / 4 % 2 == 1) = x := ⟨_, rfl⟩
  rw [hx2] at H2
  have hA : allowB c 3 = (x0 && x1) := by
    (try rw [← hx0]); (try rw [← hx1]); (try rw [← hx2]); (try rw [Nat.div_one]); rfl
  rw [hA]
  clear hA hx0 hx1 hx2 hc
  go_enter Tryz.func63, Tryz.ntmps63
  go_wp2_with fail
  refine (H0.out _).mono ?_; rintro e w1 ⟨rfl, h⟩; replace h := h.symm; subst h
  go_wp2_with fail
  refine (H1.out _).mono ?_; rintro e w1 ⟨rfl, h⟩; replace h := h.symm; subst h
  go_wp2_with fail
  refine (H2.out _).mono ?_; rintro e w1 ⟨rfl, h⟩; replace h := h.symm; subst h
  cases x0 <;> cases x1 <;> go_wp2_with fail
  all_goals go_ret
  all_goals exact retBX_mk (by first | rfl | simp)
theorem allowr_c (c k : Nat) (hk : k < 4) (hc : Hid (c < 256)) (w : World) : Calls Tryz.prog 63 #[.int .u8 c, .int .i64 k] w (RetBX (allowB c k) w) := by
  have : k = 0 ∨ k = 1 ∨ k = 2 ∨ k = 3 := by omega
  rcases this with rfl | rfl | rfl | rfl
  · exact allowr_0 c hc w
  · exact allowr_1 c hc w
  · exact allowr_2 c hc w
  · exact allowr_3 c hc w
end Go.Proofs.YthhlcchofilimaaGreatDoor.Y
namespace Go.Proofs.YthhlcchofilimaaGreatDoor.Y
set_option linter.unusedVariables false
set_option linter.unusedSimpArgs false
set_option maxRecDepth 20000
open Go.ChangeShapes Go.WideShapes Go.ChangeAt Go.RowKit
/-- Settings and addresses that may be. -/
def OkC (c : Nat → Nat) : Prop := ∀ k, c k < 256
def OkA (a : Nat → Nat) : Prop := ∀ k, a k < 18446744073709551616
theorem rsel {c a : Nat → Nat} {n lo hi : Nat} (h1 : loF c a n = lo) (h2 : hiF c a n = hi) : rOk c a n = decide (lo < hi) ∧ rA c a n = (bif decide (lo < hi) then lo else 0) ∧ rB c a n = (bif decide (lo < hi) then hi - 1 else 0) := by
  have : rOk c a n = decide (lo < hi) := by unfold rOk; rw [h1, h2]
  exact ⟨this, by unfold rA; rw [this, h1], by unfold rB; rw [this, h2]⟩
theorem rsel_y {c a : Nat → Nat} {n lo hi : Nat} (h1 : loF c a n = lo) (h2 : hiF c a n = hi) (h : lo < hi) : rOk c a n = true ∧ rA c a n = lo ∧ rB c a n = hi - 1 := by
  obtain ⟨x, y, z⟩ := rsel h1 h2
  rw [show decide (lo < hi) = true from decide_eq_true h] at x y z
  exact ⟨x, y, z⟩
theorem rsel_n {c a : Nat → Nat} {n lo hi : Nat} (h1 : loF c a n = lo) (h2 : hiF c a n = hi) (h : ¬ lo < hi) : rOk c a n = false ∧ rA c a n = 0 ∧ rB c a n = 0 := by
  obtain ⟨x, y, z⟩ := rsel h1 h2
  rw [show decide (lo < hi) = false from decide_eq_false h] at x y z
  exact ⟨x, y, z⟩
theorem way0 {c a : Nat → Nat} {n : Nat} (h : wayN (c n) = 0) : loF c a n = 0 ∧ hiF c a n = 0 := by unfold loF hiF; rw [h]; exact ⟨rfl, rfl⟩
theorem way1 {c a : Nat → Nat} {n : Nat} (h : wayN (c n) = 1) : loF c a n = (bif n == 0 then 0 else 4 * adr (a (n - 1))) ∧ hiF c a n = 4 * adr (a n) := by unfold loF hiF; rw [h]; exact ⟨rfl, rfl⟩
theorem way2 {c a : Nat → Nat} {n : Nat} (h : wayN (c n) = 2) : loF c a n = 4 * adr (a n) ∧ hiF c a n = 4 * adr (a n) + 4 := by unfold loF hiF; rw [h]; exact ⟨rfl, rfl⟩
theorem way3 {c a : Nat → Nat} {n : Nat} (h : wayN (c n) = 3) : loF c a n = 4 * adr (a n) / 2 ^ (ones 54 (adr (a n)) + 3) * 2 ^ (ones 54 (adr (a n)) + 3) ∧ hiF c a n = 4 * adr (a n) / 2 ^ (ones 54 (adr (a n)) + 3) * 2 ^ (ones 54 (adr (a n)) + 3) + 2 ^ (ones 54 (adr (a n)) + 3) := by unfold loF hiF; rw [h]; exact ⟨rfl, rfl⟩
set_option maxRecDepth 100000 in
theorem Range_0 (c a : Nat → Nat) (n : Nat) (hn : n < 8) (hw : wayN (c n) = 0) (hc : Hid (OkC c)) (ha : Hid (OkA a)) (w : World) (hG : Hid (G w)) :
    Calls Tryz.prog 67 #[.agg (u8s c), .agg (u64s a), .int .i64 n] w (RetR (rA c a n) (rB c a n) (rOk c a n) w) := by
  obtain ⟨q1, q2⟩ := way0 (a := a) hw
  obtain ⟨r1, r2, r3⟩ := rsel_n q1 q2 (by omega)
  rw [r1, r2, r3]
  clear q1 q2 r1 r2 r3
  have n8 : (n : Int) < 8 := by omega
  have n0 : ((n : Nat) : Int).toNat = n := by omega
  have HE := Lib.hid (fun v => isEntry_y (n : Int) (eq_true (by omega)) (eq_true n8) v)
  have HP := Lib.hid (fun v => place_c (a n) (ha.out n) v)
  have HW := Lib.hid (fun v => wayOf_c (c n) (hc.out n) v)
  rw [hw] at HW
  have c0 : (u8s c)[n]? = some (.int .u8 (c n : Nat)) := u8s_at c n hn
  have a0 : (u64s a)[n]? = some (.int .u64 (a n : Nat)) := u64s_at a n hn
  go_enter Tryz.func67, Tryz.ntmps67
  go_wp2_with fail
  refine (HE.out _).mono ?_; rintro e w1 ⟨rfl, h⟩; replace h := h.symm; subst h
  go_wp2_with fail
  refine (HP.out _).mono ?_; rintro e w1 ⟨rfl, h⟩; replace h := h.symm; subst h
  go_wp2_with fail
  refine (HW.out _).mono ?_; rintro e w1 ⟨rfl, h⟩; replace h := h.symm; subst h
  go_wp2_with fail
  go_ret3
  exact retR_mk rfl rfl rfl (by repeat (first | (with_reducible first | exact Below.refl _ _ | assumption | exact Nat.le_refl _ | refine Below.drew ?_ | refine Below.alloc ?_ ?_ _ | refine Below.setCell ?_ ?_ _ | refine le_alloc ?_ | refine le_set ?_ | refine le_drew ?_ | refine below_step (by assumption) ?_ ?_ | refine le_below (by assumption) ?_) | (dsimp only; omega)))
set_option maxRecDepth 100000 in
theorem Range_1z (c a : Nat → Nat) (hw : wayN (c 0) = 1) (hc : Hid (OkC c)) (ha : Hid (OkA a)) (w : World) (hG : Hid (G w)) :
    Calls Tryz.prog 67 #[.agg (u8s c), .agg (u64s a), .int .i64 0] w (RetR (rA c a 0) (rB c a 0) (rOk c a 0) w) := by
  obtain ⟨q1, q2⟩ := way1 (a := a) hw
  have HE := Lib.hid (fun v => isEntry_y 0 (eq_true (by omega)) (eq_true (by omega)) v)
  have HP := Lib.hid (fun v => place_c (a 0) (ha.out 0) v)
  have HW := Lib.hid (fun v => wayOf_c (c 0) (hc.out 0) v)
  rw [hw] at HW
  have c0 : (u8s c)[0]? = some (.int .u8 (c 0 : Nat)) := u8s_at c 0 (by omega)
  have a0 : (u64s a)[0]? = some (.int .u64 (a 0 : Nat)) := u64s_at a 0 (by omega)
  have hl := adr_lt (a 0)
  rw [show (bif (0 : Nat) == 0 then 0 else 4 * adr (a (0 - 1))) = 0 from rfl] at q1
  obtain ⟨y, hy⟩ : ∃ y, y = 4 * adr (a 0) := ⟨_, rfl⟩
  rw [← hy] at HP q2
  have hb : Hid (∀ v, Calls Tryz.prog 80 #[.int .u64 0, .int .u64 y] v (RetRX (rA c a 0) (rB c a 0) (rOk c a 0) v)) := by
    intro v
    by_cases h : 0 < y
    · obtain ⟨r1, r2, r3⟩ := rsel_y q1 q2 h
      rw [r1, r2, r3]
      exact between_y 0 y (by omega) (by show _ < _; omega) v
    · obtain ⟨r1, r2, r3⟩ := rsel_n q1 q2 h
      rw [r1, r2, r3]
      exact between_n 0 y (by omega) v
  clear q1 q2 hy hl
  go_enter Tryz.func67, Tryz.ntmps67
  go_wp2_with fail
  refine (HE.out _).mono ?_; rintro e w1 ⟨rfl, h⟩; replace h := h.symm; subst h
  go_wp2_with fail
  refine (HP.out _).mono ?_; rintro e w1 ⟨rfl, h⟩; replace h := h.symm; subst h
  go_wp2_with fail
  refine (HW.out _).mono ?_; rintro e w1 ⟨rfl, h⟩; replace h := h.symm; subst h
  go_wp2_with fail
  refine (hb.out _).mono ?_; rintro e w1 ⟨rfl, h⟩; replace h := h.symm; subst h
  go_wp2_with fail
  go_ret3
  exact retR_mk rfl rfl rfl (by repeat (first | (with_reducible first | exact Below.refl _ _ | assumption | exact Nat.le_refl _ | refine Below.drew ?_ | refine Below.alloc ?_ ?_ _ | refine Below.setCell ?_ ?_ _ | refine le_alloc ?_ | refine le_set ?_ | refine le_drew ?_ | refine below_step (by assumption) ?_ ?_ | refine le_below (by assumption) ?_) | (dsimp only; omega)))
set_option maxRecDepth 100000 in
theorem Range_1s (c a : Nat → Nat) (n : Nat) (hn : n < 8) (hz : n ≠ 0) (hw : wayN (c n) = 1) (hc : Hid (OkC c)) (ha : Hid (OkA a)) (w : World) (hG : Hid (G w)) :
    Calls Tryz.prog 67 #[.agg (u8s c), .agg (u64s a), .int .i64 n] w (RetR (rA c a n) (rB c a n) (rOk c a n) w) := by
  obtain ⟨q1, q2⟩ := way1 (a := a) hw
  have n8 : (n : Int) < 8 := by omega
  have n0 : ((n : Nat) : Int).toNat = n := by omega
  have HE := Lib.hid (fun v => isEntry_y (n : Int) (eq_true (by omega)) (eq_true n8) v)
  have HP := Lib.hid (fun v => place_c (a n) (ha.out n) v)
  have HW := Lib.hid (fun v => wayOf_c (c n) (hc.out n) v)
  rw [hw] at HW
  have c0 : (u8s c)[n]? = some (.int .u8 (c n : Nat)) := u8s_at c n hn
  have a0 : (u64s a)[n]? = some (.int .u64 (a n : Nat)) := u64s_at a n hn
  obtain ⟨m, hm⟩ : ∃ m, m = n - 1 := ⟨_, rfl⟩
  have m8 : (m : Int) < 8 := by omega
  have m0 : ((m : Nat) : Int).toNat = m := by omega
  have z0 : (0 : Int) < n := by omega
  have z2 : wrap64 ((n : Int) - 1) = (m : Int) := by rw [IntWalk.wrap64_in _ ⟨by omega, by omega⟩]; omega
  have z1 : IntKind.i64.wrap ((n : Int) - 1) = (m : Int) := by rw [IntKind.wrap_i64]; omega
  have am : (u64s a)[m]? = some (.int .u64 (a m : Nat)) := u64s_at a m (by omega)
  have HM := Lib.hid (fun v => place_c (a m) (ha.out m) v)
  have hl := adr_lt (a n)
  have hl2 := adr_lt (a m)
  rw [show (bif n == 0 then 0 else 4 * adr (a (n - 1))) = 4 * adr (a m) by rw [hm, show (n == 0) = false by simp [hz]]; rfl] at q1
  obtain ⟨y, hy⟩ : ∃ y, y = 4 * adr (a n) := ⟨_, rfl⟩
  obtain ⟨x, hx⟩ : ∃ x, x = 4 * adr (a m) := ⟨_, rfl⟩
  rw [← hy] at HP q2
  rw [← hx] at HM q1
  have hb : Hid (∀ v, Calls Tryz.prog 80 #[.int .u64 x, .int .u64 y] v (RetRX (rA c a n) (rB c a n) (rOk c a n) v)) := by
    intro v
    by_cases h : x < y
    · obtain ⟨r1, r2, r3⟩ := rsel_y q1 q2 h
      rw [r1, r2, r3]
      exact between_y x y (by omega) (by show _ < _; omega) v
    · obtain ⟨r1, r2, r3⟩ := rsel_n q1 q2 h
      rw [r1, r2, r3]
      exact between_n x y (by omega) v
  clear q1 q2 hy hx hl hl2 hm hz
  go_enter Tryz.func67, Tryz.ntmps67
  go_wp2_with fail
  refine (HE.out _).mono ?_; rintro e w1 ⟨rfl, h⟩; replace h := h.symm; subst h
  go_wp2_with fail
  refine (HP.out _).mono ?_; rintro e w1 ⟨rfl, h⟩; replace h := h.symm; subst h
  go_wp2_with fail
  refine (HW.out _).mono ?_; rintro e w1 ⟨rfl, h⟩; replace h := h.symm; subst h
  go_wp2_with fail
  refine (HM.out _).mono ?_; rintro e w1 ⟨rfl, h⟩; replace h := h.symm; subst h
  go_wp2_with fail
  refine (hb.out _).mono ?_; rintro e w1 ⟨rfl, h⟩; replace h := h.symm; subst h
  go_wp2_with fail
  go_ret3
  exact retR_mk rfl rfl rfl (by repeat (first | (with_reducible first | exact Below.refl _ _ | assumption | exact Nat.le_refl _ | refine Below.drew ?_ | refine Below.alloc ?_ ?_ _ | refine Below.setCell ?_ ?_ _ | refine le_alloc ?_ | refine le_set ?_ | refine le_drew ?_ | refine below_step (by assumption) ?_ ?_ | refine le_below (by assumption) ?_) | (dsimp only; omega)))
set_option maxRecDepth 100000 in
theorem Range_2 (c a : Nat → Nat) (n : Nat) (hn : n < 8) (hw : wayN (c n) = 2) (hc : Hid (OkC c)) (ha : Hid (OkA a)) (w : World) (hG : Hid (G w)) :
    Calls Tryz.prog 67 #[.agg (u8s c), .agg (u64s a), .int .i64 n] w (RetR (rA c a n) (rB c a n) (rOk c a n) w) := by
  obtain ⟨q1, q2⟩ := way2 (a := a) hw
  obtain ⟨r1, r2, r3⟩ := rsel_y q1 q2 (by omega)
  have n8 : (n : Int) < 8 := by omega
  have n0 : ((n : Nat) : Int).toNat = n := by omega
  have HE := Lib.hid (fun v => isEntry_y (n : Int) (eq_true (by omega)) (eq_true n8) v)
  have HP := Lib.hid (fun v => place_c (a n) (ha.out n) v)
  have HW := Lib.hid (fun v => wayOf_c (c n) (hc.out n) v)
  rw [hw] at HW
  have c0 : (u8s c)[n]? = some (.int .u8 (c n : Nat)) := u8s_at c n hn
  have a0 : (u64s a)[n]? = some (.int .u64 (a n : Nat)) := u64s_at a n hn
  have hl := adr_lt (a n)
  obtain ⟨y, hy⟩ : ∃ y, y = 4 * adr (a n) := ⟨_, rfl⟩
  rw [← hy] at HP r2 r3
  have hb : Hid (∀ v, Calls Tryz.prog 81 #[.int .u64 y, .int .u64 4] v (RetRX (rA c a n) (rB c a n) (rOk c a n) v)) := by
    intro v
    have := around_c y 2 (by omega) (by show _ < _; omega) v
    rw [r1, r2, r3]
    rw [show y / 2 ^ 2 * 2 ^ 2 = y by omega] at this
    exact this
  clear q1 q2 r1 r2 r3 hy hl
  go_enter Tryz.func67, Tryz.ntmps67
  go_wp2_with fail
  refine (HE.out _).mono ?_; rintro e w1 ⟨rfl, h⟩; replace h := h.symm; subst h
  go_wp2_with fail
  refine (HP.out _).mono ?_; rintro e w1 ⟨rfl, h⟩; replace h := h.symm; subst h
  go_wp2_with fail
  refine (HW.out _).mono ?_; rintro e w1 ⟨rfl, h⟩; replace h := h.symm; subst h
  go_wp2_with fail
  refine (hb.out _).mono ?_; rintro e w1 ⟨rfl, h⟩; replace h := h.symm; subst h
  go_wp2_with fail
  go_ret3
  exact retR_mk rfl rfl rfl (by repeat (first | (with_reducible first | exact Below.refl _ _ | assumption | exact Nat.le_refl _ | refine Below.drew ?_ | refine Below.alloc ?_ ?_ _ | refine Below.setCell ?_ ?_ _ | refine le_alloc ?_ | refine le_set ?_ | refine le_drew ?_ | refine below_step (by assumption) ?_ ?_ | refine le_below (by assumption) ?_) | (dsimp only; omega)))
set_option maxRecDepth 100000 in
theorem Range_3 (c a : Nat → Nat) (n : Nat) (hn : n < 8) (hw : wayN (c n) = 3) (hc : Hid (OkC c)) (ha : Hid (OkA a)) (w : World) (hG : Hid (G w)) :
    Calls Tryz.prog 67 #[.agg (u8s c), .agg (u64s a), .int .i64 n] w (RetR (rA c a n) (rB c a n) (rOk c a n) w) := by
  obtain ⟨q1, q2⟩ := way3 (a := a) hw
  have n8 : (n : Int) < 8 := by omega
  have n0 : ((n : Nat) : Int).toNat = n := by omega
  have HE := Lib.hid (fun v => isEntry_y (n : Int) (eq_true (by omega)) (eq_true n8) v)
  have HP := Lib.hid (fun v => place_c (a n) (ha.out n) v)
  have HW := Lib.hid (fun v => wayOf_c (c n) (hc.out n) v)
  rw [hw] at HW
  have c0 : (u8s c)[n]? = some (.int .u8 (c n : Nat)) := u8s_at c n hn
  have a0 : (u64s a)[n]? = some (.int .u64 (a n : Nat)) := u64s_at a n hn
  have HR := Lib.hid (fun v hv => reach_c (a n) (ha.out n) v hv)
  have hl := adr_lt (a n)
  have ho := ones_le 54 (adr (a n))
  obtain ⟨y, hy⟩ : ∃ y, y = 4 * adr (a n) := ⟨_, rfl⟩
  obtain ⟨t, ht⟩ : ∃ t, t = ones 54 (adr (a n)) := ⟨_, rfl⟩
  rw [← hy, ← ht] at q1 q2
  rw [← hy] at HP
  rw [← ht] at HR ho
  obtain ⟨r1, r2, r3⟩ := rsel_y q1 q2 (by have := Nat.two_pow_pos (t + 3); omega)
  have hb : Hid (∀ v, Calls Tryz.prog 81 #[.int .u64 y, .int .u64 (2 ^ (t + 3) : Nat)] v (RetRX (rA c a n) (rB c a n) (rOk c a n) v)) := by
    intro v
    rw [r1, r2, r3]
    exact around_c y (t + 3) (by omega) (by show _ < _; omega) v
  obtain ⟨p, hp⟩ : ∃ p, p = 2 ^ (t + 3) := ⟨_, rfl⟩
  rw [← hp] at HR hb
  clear q1 q2 r1 r2 r3 hy hl ht ho hp
  go_enter Tryz.func67, Tryz.ntmps67
  go_wp2_with fail
  refine (HE.out _).mono ?_; rintro e w1 ⟨rfl, h⟩; replace h := h.symm; subst h
  go_wp2_with fail
  refine (HP.out _).mono ?_; rintro e w1 ⟨rfl, h⟩; replace h := h.symm; subst h
  go_wp2_with fail
  refine (HW.out _).mono ?_; rintro e w1 ⟨rfl, h⟩; replace h := h.symm; subst h
  go_wp2_with fail
  have hG1 : Hid (G ((w.alloc (Obj.cells (u8s c) 24)).alloc (Obj.cells (u64s a) 25))) := g_alloc (g_alloc hG.out _) _
  refine (HR.out _ hG1).mono ?_; rintro e w1 ⟨rfl, h⟩; replace h := h.symm; subst h
  go_wp2_with fail
  refine (hb.out _).mono ?_; rintro e w1 ⟨rfl, h⟩; replace h := h.symm; subst h
  go_wp2_with fail
  go_ret3
  exact retR_mk rfl rfl rfl (by repeat (first | (with_reducible first | exact Below.refl _ _ | assumption | exact Nat.le_refl _ | refine Below.drew ?_ | refine Below.alloc ?_ ?_ _ | refine Below.setCell ?_ ?_ _ | refine le_alloc ?_ | refine le_set ?_ | refine le_drew ?_ | refine below_step (by assumption) ?_ ?_ | refine le_below (by assumption) ?_) | (dsimp only; omega)))
theorem Range_c (c a : Nat → Nat) (n : Nat) (hn : n < 8) (hc : Hid (OkC c)) (ha : Hid (OkA a)) (w : World) (hG : Hid (G w)) :
    Calls Tryz.prog 67 #[.agg (u8s c), .agg (u64s a), .int .i64 n] w (RetR (rA c a n) (rB c a n) (rOk c a n) w) := by
  rcases way_cases (c n) with h | h | h | h
  · exact Range_0 c a n hn h hc ha w hG
  · by_cases hz : n = 0
    · subst hz; exact Range_1z c a h hc ha w hG
    · exact Range_1s c a n hn hz h hc ha w hG
  · exact Range_2 c a n hn h hc ha w hG
  · exact Range_3 c a n hn h hc ha w hG
end Go.Proofs.YthhlcchofilimaaGreatDoor.Y
namespace Go.Proofs.YthhlcchofilimaaGreatDoor.Y
set_option linter.unusedVariables false
set_option linter.unusedSimpArgs false
set_option maxRecDepth 20000
open Go.ChangeShapes Go.WideShapes Go.ChangeAt Go.RowKit
/-- The loop that counts an address' ones. -/
def LoopI (A k x z : Nat) : Prop := k ≤ 54 ∧ z = 2 ^ (k + 3) ∧ x < 2 ^ (54 - k) ∧ ones 54 A = k + ones (54 - k) x
theorem loop_start (A : Nat) (h : A < 18014398509481984) : LoopI A 0 A 8 := ⟨by omega, rfl, h, (Nat.zero_add _).symm⟩
theorem loop_z {A k x z : Nat} (h : LoopI A k x z) : z ≤ 144115188075855872 ∧ 8 ≤ z ∧ x < 18014398509481984 := by
  obtain ⟨h1, h2, h3, h4⟩ := h
  obtain ⟨h5, h6⟩ := pow_up k h1
  have h7 : 2 ^ (54 - k) ≤ 2 ^ 54 := Nat.pow_le_pow_right (by decide) (by omega)
  exact ⟨by omega, by omega, by omega⟩
theorem loop_next {A k x z : Nat} (h : LoopI A k x z) (hx : x % 2 = 1) : LoopI A (k + 1) (x / 2) (2 * z) := by
  obtain ⟨h1, h2, h3, h4⟩ := h
  have hk : k < 54 := by
    apply Nat.lt_of_not_le
    intro h
    have : 54 - k = 0 := by omega
    rw [this] at h3
    omega
  obtain ⟨j, hj⟩ : ∃ j, 54 - k = j + 1 := ⟨53 - k, by omega⟩
  have hj2 : 54 - (k + 1) = j := by omega
  rw [hj] at h3 h4
  refine ⟨by omega, by rw [h2, Nat.pow_succ 2 (k + 3), Nat.mul_comm], ?_, ?_⟩
  · rw [hj2]; rw [Nat.pow_succ] at h3; omega
  · rw [hj2, h4]
    show k + (bif x % 2 == 1 then ones j (x / 2) + 1 else 0) = _
    rw [hx]; show k + (ones j (x / 2) + 1) = _; omega
theorem loop_end {A k x z : Nat} (h : LoopI A k x z) (hx : x % 2 ≠ 1) : z = 2 ^ (ones 54 A + 3) := by
  obtain ⟨h1, h2, h3, h4⟩ := h
  have : ones (54 - k) x = 0 := by
    cases e : 54 - k with
    | zero => rfl
    | succ j =>
      show (bif x % 2 == 1 then ones j (x / 2) + 1 else 0) = 0
      rw [show (x % 2 == 1) = false by simp [hx]]
      try rfl
  rw [this] at h4
  rw [h2, h4]
  try rfl
set_option maxRecDepth 100000 in
theorem RangeR_3 (c a : Nat → Nat) (n : Nat) (hn : n < 8) (hw : wayN (c n) = 3) (hc : Hid (OkC c)) (ha : Hid (OkA a)) (w : World) :
    Calls Tryz.prog 61 #[.agg (u8s c), .agg (u64s a), .int .i64 n] w (RetR (rA c a n) (rB c a n) (rOk c a n) w) := by
  obtain ⟨q1, q2⟩ := way3 (a := a) hw
  have n8 : (n : Int) ≤ 7 := by omega
  have n0 : ((n : Nat) : Int).toNat = n := by omega
  have HP := Lib.hid (fun v => address_c (a n) (ha.out n) v)
  have HW := Lib.hid (fun v => way_c (c n) (hc.out n) v)
  rw [hw] at HW
  have c0 : (u8s c)[n]? = some (.int .u8 (c n : Nat)) := u8s_at c n hn
  have a0 : (u64s a)[n]? = some (.int .u64 (a n : Nat)) := u64s_at a n hn
  have hA := adr_lt (a n)
  obtain ⟨A, eA⟩ : ∃ A, A = adr (a n) := ⟨_, rfl⟩
  rw [← eA] at q1 q2 HP hA
  have hI := Lib.hid (loop_start A hA)
  have HQ := Lib.hid (And.intro q1 q2)
  have HA := Lib.hid hA
  clear q1 q2 eA hA
  go_enter Tryz.func61, Tryz.ntmps61
  go_wp2_with fail
  refine (HP.out _).mono ?_; rintro e w1 ⟨rfl, h⟩; replace h := h.symm; subst h
  go_wp2_with fail
  refine (HW.out _).mono ?_; rintro e w1 ⟨rfl, h⟩; replace h := h.symm; subst h
  go_wp2_with fail
  go_loop [13, 14] (fun z x => ∃ k X Z : Nat, z = .int .u64 Z ∧ x = .int .u64 X ∧ Hid (LoopI A k X Z)) (fun _ x => (intOf x).toNat)
  case atStart => exact ⟨0, A, 8, rfl, rfl, hI⟩
  case round =>
    obtain ⟨k, X, Z, rfl, rfl, HI⟩ := hrel
    clear hI
    by_cases hx : X % 2 = 1
    · have h1 : ((X : Int) % 2 == 1) = true := by simp; omega
      have hN := loop_next HI.out hx
      obtain ⟨z1, z2, z3⟩ := loop_z HI.out
      have h2 : IntKind.u64.wrap (2 * (Z : Int)) = ((2 * Z : Nat) : Int) := by rw [IntKind.wrap_u64]; omega
      have h3 : IntKind.u64.wrap ((X : Int) / 2) = ((X / 2 : Nat) : Int) := by rw [IntKind.wrap_u64]; omega
      have HN := Lib.hid hN
      have hm : X / 2 < X := by omega
      have HM := Lib.hid hm
      clear hN z1 z2 z3 hx HI hm
      go_wp2_with fail
      go_round
      case rel => exact ⟨k + 1, X / 2, 2 * Z, by first | rfl | (rw [h2]), by first | rfl | (rw [h3]), HN⟩
      case measure => have := HM.out; simp [intOf]; omega
    · have h1 : ((X : Int) % 2 == 1) = false := by simp; omega
      have hE := loop_end HI.out hx
      obtain ⟨z1, z2, z3⟩ := loop_z HI.out
      rw [← hE] at HQ
      have hA := HA.out
      obtain ⟨b, hb⟩ : ∃ b, b = 4 * A := ⟨_, rfl⟩
      rw [← hb] at HQ
      have b1 : IntKind.u64.wrap (4 * (A : Int)) = (b : Int) := by rw [IntKind.wrap_u64]; omega
      obtain ⟨q, hq⟩ : ∃ q, q = b / Z := ⟨_, rfl⟩
      have hqb : q ≤ b := by rw [hq]; exact Nat.div_le_self _ _
      have b2 : IntKind.u64.wrap ((b : Int) / (Z : Int)) = (q : Int) := by
        rw [← Int.natCast_ediv, ← hq, IntKind.wrap_u64]; omega
      obtain ⟨f, hf⟩ : ∃ f, f = q * Z := ⟨_, rfl⟩
      have hfb : f ≤ b := by rw [hf, hq]; exact Nat.div_mul_le_self _ _
      have b3 : IntKind.u64.wrap ((q : Int) * (Z : Int)) = (f : Int) := by
        rw [← Int.natCast_mul, ← hf, IntKind.wrap_u64]; omega
      rw [← hq, ← hf] at HQ
      have b4 : IntKind.u64.wrap ((f : Int) + (Z : Int)) = ((f + Z : Nat) : Int) := by rw [IntKind.wrap_u64]; omega
      have b5 : ¬ ((f : Int) ≥ ((f + Z : Nat) : Int)) := by omega
      have b6 : IntKind.u64.wrap (((f + Z : Nat) : Int) - 1) = ((f + Z - 1 : Nat) : Int) := by rw [IntKind.wrap_u64]; omega
      have b0 : ¬ Z = 0 := by omega
      obtain ⟨g, hg⟩ : ∃ g, g = f + Z := ⟨_, rfl⟩
      obtain ⟨r1, r2, r3⟩ := rsel_y HQ.out.1 HQ.out.2 (by omega)
      rw [← hg] at b4 b5 b6 r3
      have HR := Lib.hid (And.intro r1 (And.intro r2 r3))
      clear r1 r2 r3 hx hE z1 z2 z3 hA hb hqb hq hf hfb hg HQ HI
      go_wp2_with fail
      go_ret3
      rw [HR.out.1, HR.out.2.1, HR.out.2.2]
      exact retR_mk rfl rfl rfl (by repeat (first | (with_reducible first | exact Below.refl _ _ | assumption | exact Nat.le_refl _ | refine Below.drew ?_ | refine Below.alloc ?_ ?_ _ | refine Below.setCell ?_ ?_ _ | refine le_alloc ?_ | refine le_set ?_ | refine le_drew ?_ | refine below_step (by assumption) ?_ ?_ | refine le_below (by assumption) ?_) | (dsimp only; omega)))
set_option maxRecDepth 100000 in
theorem RangeR_0 (c a : Nat → Nat) (n : Nat) (hn : n < 8) (hw : wayN (c n) = 0) (hc : Hid (OkC c)) (ha : Hid (OkA a)) (w : World) :
    Calls Tryz.prog 61 #[.agg (u8s c), .agg (u64s a), .int .i64 n] w (RetR (rA c a n) (rB c a n) (rOk c a n) w) := by
  obtain ⟨q1, q2⟩ := way0 (a := a) hw
  obtain ⟨r1, r2, r3⟩ := rsel_n q1 q2 (by omega)
  rw [r1, r2, r3]
  clear q1 q2 r1 r2 r3
  have n8 : (n : Int) ≤ 7 := by omega
  have n0 : ((n : Nat) : Int).toNat = n := by omega
  have HP := Lib.hid (fun v => address_c (a n) (ha.out n) v)
  have HW := Lib.hid (fun v => way_c (c n) (hc.out n) v)
  rw [hw] at HW
  have c0 : (u8s c)[n]? = some (.int .u8 (c n : Nat)) := u8s_at c n hn
  have a0 : (u64s a)[n]? = some (.int .u64 (a n : Nat)) := u64s_at a n hn
  go_enter Tryz.func61, Tryz.ntmps61
  go_wp2_with fail
  refine (HP.out _).mono ?_; rintro e w1 ⟨rfl, h⟩; replace h := h.symm; subst h
  go_wp2_with fail
  refine (HW.out _).mono ?_; rintro e w1 ⟨rfl, h⟩; replace h := h.symm; subst h
  go_wp2_with fail
  go_ret3
  exact retR_mk rfl rfl rfl (by repeat (first | (with_reducible first | exact Below.refl _ _ | assumption | exact Nat.le_refl _ | refine Below.drew ?_ | refine Below.alloc ?_ ?_ _ | refine Below.setCell ?_ ?_ _ | refine le_alloc ?_ | refine le_set ?_ | refine le_drew ?_ | refine below_step (by assumption) ?_ ?_ | refine le_below (by assumption) ?_) | (dsimp only; omega)))
set_option maxRecDepth 100000 in
theorem RangeR_2 (c a : Nat → Nat) (n : Nat) (hn : n < 8) (hw : wayN (c n) = 2) (hc : Hid (OkC c)) (ha : Hid (OkA a)) (w : World) :
    Calls Tryz.prog 61 #[.agg (u8s c), .agg (u64s a), .int .i64 n] w (RetR (rA c a n) (rB c a n) (rOk c a n) w) := by
  obtain ⟨q1, q2⟩ := way2 (a := a) hw
  obtain ⟨r1, r2, r3⟩ := rsel_y q1 q2 (by omega)
  have n8 : (n : Int) ≤ 7 := by omega
  have n0 : ((n : Nat) : Int).toNat = n := by omega
  have HP := Lib.hid (fun v => address_c (a n) (ha.out n) v)
  have HW := Lib.hid (fun v => way_c (c n) (hc.out n) v)
  rw [hw] at HW
  have c0 : (u8s c)[n]? = some (.int .u8 (c n : Nat)) := u8s_at c n hn
  have a0 : (u64s a)[n]? = some (.int .u64 (a n : Nat)) := u64s_at a n hn
  have hA := adr_lt (a n)
  obtain ⟨A, eA⟩ : ∃ A, A = adr (a n) := ⟨_, rfl⟩
  rw [← eA] at r2 r3 HP hA
  have b1 : IntKind.u64.wrap (4 * (A : Int)) = ((4 * A : Nat) : Int) := by rw [IntKind.wrap_u64]; omega
  obtain ⟨f, hf⟩ : ∃ f, f = 4 * A := ⟨_, rfl⟩
  rw [← hf] at b1 r2 r3
  have b4 : IntKind.u64.wrap ((f : Int) + 4) = ((f + 4 : Nat) : Int) := by rw [IntKind.wrap_u64]; omega
  have b5 : ¬ ((f : Int) ≥ ((f + 4 : Nat) : Int)) := by omega
  have b6 : IntKind.u64.wrap (((f + 4 : Nat) : Int) - 1) = ((f + 4 - 1 : Nat) : Int) := by rw [IntKind.wrap_u64]; omega
  obtain ⟨g, hg⟩ : ∃ g, g = f + 4 := ⟨_, rfl⟩
  rw [← hg] at b4 b5 b6 r3
  rw [r1, r2, r3]
  clear q1 q2 r1 r2 r3 eA hA hf hg
  go_enter Tryz.func61, Tryz.ntmps61
  go_wp2_with fail
  refine (HP.out _).mono ?_; rintro e w1 ⟨rfl, h⟩; replace h := h.symm; subst h
  go_wp2_with fail
  refine (HW.out _).mono ?_; rintro e w1 ⟨rfl, h⟩; replace h := h.symm; subst h
  go_wp2_with fail
  go_ret3
  exact retR_mk rfl (by first | rfl | exact b6) rfl (by repeat (first | (with_reducible first | exact Below.refl _ _ | assumption | exact Nat.le_refl _ | refine Below.drew ?_ | refine Below.alloc ?_ ?_ _ | refine Below.setCell ?_ ?_ _ | refine le_alloc ?_ | refine le_set ?_ | refine le_drew ?_ | refine below_step (by assumption) ?_ ?_ | refine le_below (by assumption) ?_) | (dsimp only; omega)))
set_option maxRecDepth 100000 in
theorem RangeR_1z (c a : Nat → Nat) (n : Nat) (hn : n < 8) (hz : n = 0) (hw : wayN (c n) = 1) (hc : Hid (OkC c)) (ha : Hid (OkA a)) (w : World) :
    Calls Tryz.prog 61 #[.agg (u8s c), .agg (u64s a), .int .i64 n] w (RetR (rA c a n) (rB c a n) (rOk c a n) w) := by
  obtain ⟨q1, q2⟩ := way1 (a := a) hw
  have n8 : (n : Int) ≤ 7 := by omega
  have n0 : ((n : Nat) : Int).toNat = n := by omega
  have HP := Lib.hid (fun v => address_c (a n) (ha.out n) v)
  have HW := Lib.hid (fun v => way_c (c n) (hc.out n) v)
  rw [hw] at HW
  have c0 : (u8s c)[n]? = some (.int .u8 (c n : Nat)) := u8s_at c n hn
  have a0 : (u64s a)[n]? = some (.int .u64 (a n : Nat)) := u64s_at a n hn
  have z0 : ¬ (n : Int) > 0 := by omega
  rw [show (bif n == 0 then 0 else 4 * adr (a (n - 1))) = 0 by rw [hz]; rfl] at q1
  obtain ⟨x, hx⟩ : ∃ x, x = 0 := ⟨_, rfl⟩
  rw [← hx] at q1
  have hA := adr_lt (a n)
  obtain ⟨A, eA⟩ : ∃ A, A = adr (a n) := ⟨_, rfl⟩
  rw [← eA] at q2 HP hA
  obtain ⟨y, hy⟩ : ∃ y, y = 4 * A := ⟨_, rfl⟩
  rw [← hy] at q2
  have b1 : IntKind.u64.wrap (4 * (A : Int)) = (y : Int) := by rw [IntKind.wrap_u64]; omega
  by_cases h : x < y
  · obtain ⟨r1, r2, r3⟩ := rsel_y q1 q2 h
    rw [r1, r2, r3]
    have b5 : ¬ ((x : Int) ≥ (y : Int)) := by omega
    have b6 : IntKind.u64.wrap ((y : Int) - 1) = ((y - 1 : Nat) : Int) := by rw [IntKind.wrap_u64]; omega
    subst hx
    rw [show ((0 : Nat) : Int) = 0 from rfl] at b5
    clear q1 q2 r1 r2 r3 eA hA hy hz h
    go_enter Tryz.func61, Tryz.ntmps61
    go_wp2_with fail
    refine (HP.out _).mono ?_; rintro e w1 ⟨rfl, h⟩; replace h := h.symm; subst h
    go_wp2_with fail
    refine (HW.out _).mono ?_; rintro e w1 ⟨rfl, h⟩; replace h := h.symm; subst h
    go_wp2_with fail
    go_ret3
    exact retR_mk rfl (by first | rfl | exact b6) rfl (by repeat (first | (with_reducible first | exact Below.refl _ _ | assumption | exact Nat.le_refl _ | refine Below.drew ?_ | refine Below.alloc ?_ ?_ _ | refine Below.setCell ?_ ?_ _ | refine le_alloc ?_ | refine le_set ?_ | refine le_drew ?_ | refine below_step (by assumption) ?_ ?_ | refine le_below (by assumption) ?_) | (dsimp only; omega)))
  · obtain ⟨r1, r2, r3⟩ := rsel_n q1 q2 h
    rw [r1, r2, r3]
    have b5 : ((x : Int) ≥ (y : Int)) := by omega
    subst hx
    rw [show ((0 : Nat) : Int) = 0 from rfl] at b5
    clear q1 q2 r1 r2 r3 eA hA hy hz h
    go_enter Tryz.func61, Tryz.ntmps61
    go_wp2_with fail
    refine (HP.out _).mono ?_; rintro e w1 ⟨rfl, h⟩; replace h := h.symm; subst h
    go_wp2_with fail
    refine (HW.out _).mono ?_; rintro e w1 ⟨rfl, h⟩; replace h := h.symm; subst h
    go_wp2_with fail
    go_ret3
    exact retR_mk rfl rfl rfl (by repeat (first | (with_reducible first | exact Below.refl _ _ | assumption | exact Nat.le_refl _ | refine Below.drew ?_ | refine Below.alloc ?_ ?_ _ | refine Below.setCell ?_ ?_ _ | refine le_alloc ?_ | refine le_set ?_ | refine le_drew ?_ | refine below_step (by assumption) ?_ ?_ | refine le_below (by assumption) ?_) | (dsimp only; omega)))
set_option maxRecDepth 100000 in
theorem RangeR_1s (c a : Nat → Nat) (n : Nat) (hn : n < 8) (hz : n ≠ 0) (hw : wayN (c n) = 1) (hc : Hid (OkC c)) (ha : Hid (OkA a)) (w : World) :
    Calls Tryz.prog 61 #[.agg (u8s c), .agg (u64s a), .int .i64 n] w (RetR (rA c a n) (rB c a n) (rOk c a n) w) := by
  obtain ⟨q1, q2⟩ := way1 (a := a) hw
  have n8 : (n : Int) ≤ 7 := by omega
  have n0 : ((n : Nat) : Int).toNat = n := by omega
  have HP := Lib.hid (fun v => address_c (a n) (ha.out n) v)
  have HW := Lib.hid (fun v => way_c (c n) (hc.out n) v)
  rw [hw] at HW
  have c0 : (u8s c)[n]? = some (.int .u8 (c n : Nat)) := u8s_at c n hn
  have a0 : (u64s a)[n]? = some (.int .u64 (a n : Nat)) := u64s_at a n hn
  obtain ⟨m, hm⟩ : ∃ m, m = n - 1 := ⟨_, rfl⟩
  have m8 : (m : Int) < 8 := by omega
  have m0 : ((m : Nat) : Int).toNat = m := by omega
  have z0 : (0 : Int) < n := by omega
  have z2 : wrap64 ((n : Int) - 1) = (m : Int) := by rw [IntWalk.wrap64_in _ ⟨by omega, by omega⟩]; omega
  have z1 : IntKind.i64.wrap ((n : Int) - 1) = (m : Int) := by rw [IntKind.wrap_i64]; omega
  have am : (u64s a)[m]? = some (.int .u64 (a m : Nat)) := u64s_at a m (by omega)
  have HM := Lib.hid (fun v => address_c (a m) (ha.out m) v)
  rw [show (bif n == 0 then 0 else 4 * adr (a (n - 1))) = 4 * adr (a m) by rw [hm, show (n == 0) = false by simp [hz]]; rfl] at q1
  have hB := adr_lt (a m)
  obtain ⟨B, eB⟩ : ∃ B, B = adr (a m) := ⟨_, rfl⟩
  rw [← eB] at q1 HM hB
  obtain ⟨x, hx⟩ : ∃ x, x = 4 * B := ⟨_, rfl⟩
  rw [← hx] at q1
  have d1 : IntKind.u64.wrap (4 * (B : Int)) = (x : Int) := by rw [IntKind.wrap_u64]; omega
  have hA := adr_lt (a n)
  obtain ⟨A, eA⟩ : ∃ A, A = adr (a n) := ⟨_, rfl⟩
  rw [← eA] at q2 HP hA
  obtain ⟨y, hy⟩ : ∃ y, y = 4 * A := ⟨_, rfl⟩
  rw [← hy] at q2
  have b1 : IntKind.u64.wrap (4 * (A : Int)) = (y : Int) := by rw [IntKind.wrap_u64]; omega
  by_cases h : x < y
  · obtain ⟨r1, r2, r3⟩ := rsel_y q1 q2 h
    rw [r1, r2, r3]
    have b5 : ¬ ((x : Int) ≥ (y : Int)) := by omega
    have b6 : IntKind.u64.wrap ((y : Int) - 1) = ((y - 1 : Nat) : Int) := by rw [IntKind.wrap_u64]; omega
    clear q1 q2 r1 r2 r3 eA hA hy hz h hm eB hB hx
    go_enter Tryz.func61, Tryz.ntmps61
    go_wp2_with fail
    refine (HP.out _).mono ?_; rintro e w1 ⟨rfl, h⟩; replace h := h.symm; subst h
    go_wp2_with fail
    refine (HW.out _).mono ?_; rintro e w1 ⟨rfl, h⟩; replace h := h.symm; subst h
    go_wp2_with fail
    refine (HM.out _).mono ?_; rintro e w1 ⟨rfl, h⟩; replace h := h.symm; subst h
    go_wp2_with fail
    go_ret3
    exact retR_mk rfl (by first | rfl | exact b6) rfl (by repeat (first | (with_reducible first | exact Below.refl _ _ | assumption | exact Nat.le_refl _ | refine Below.drew ?_ | refine Below.alloc ?_ ?_ _ | refine Below.setCell ?_ ?_ _ | refine le_alloc ?_ | refine le_set ?_ | refine le_drew ?_ | refine below_step (by assumption) ?_ ?_ | refine le_below (by assumption) ?_) | (dsimp only; omega)))
  · obtain ⟨r1, r2, r3⟩ := rsel_n q1 q2 h
    rw [r1, r2, r3]
    have b5 : ((x : Int) ≥ (y : Int)) := by omega
    clear q1 q2 r1 r2 r3 eA hA hy hz h hm eB hB hx
    go_enter Tryz.func61, Tryz.ntmps61
    go_wp2_with fail
    refine (HP.out _).mono ?_; rintro e w1 ⟨rfl, h⟩; replace h := h.symm; subst h
    go_wp2_with fail
    refine (HW.out _).mono ?_; rintro e w1 ⟨rfl, h⟩; replace h := h.symm; subst h
    go_wp2_with fail
    refine (HM.out _).mono ?_; rintro e w1 ⟨rfl, h⟩; replace h := h.symm; subst h
    go_wp2_with fail
    go_ret3
    exact retR_mk rfl rfl rfl (by repeat (first | (with_reducible first | exact Below.refl _ _ | assumption | exact Nat.le_refl _ | refine Below.drew ?_ | refine Below.alloc ?_ ?_ _ | refine Below.setCell ?_ ?_ _ | refine le_alloc ?_ | refine le_set ?_ | refine le_drew ?_ | refine below_step (by assumption) ?_ ?_ | refine le_below (by assumption) ?_) | (dsimp only; omega)))
theorem RangeR_c (c a : Nat → Nat) (n : Nat) (hn : n < 8) (hc : Hid (OkC c)) (ha : Hid (OkA a)) (w : World) :
    Calls Tryz.prog 61 #[.agg (u8s c), .agg (u64s a), .int .i64 n] w (RetR (rA c a n) (rB c a n) (rOk c a n) w) := by
  rcases way_cases (c n) with h | h | h | h
  · exact RangeR_0 c a n hn h hc ha w
  · by_cases hz : n = 0
    · exact RangeR_1z c a n hn hz h hc ha w
    · exact RangeR_1s c a n hn hz h hc ha w
  · exact RangeR_2 c a n hn h hc ha w
  · exact RangeR_3 c a n hn h hc ha w
end Go.Proofs.YthhlcchofilimaaGreatDoor.Y
namespace Go.Proofs.YthhlcchofilimaaGreatDoor.Y
set_option linter.unusedVariables false
set_option linter.unusedSimpArgs false
set_option maxRecDepth 20000
open Go.ChangeShapes Go.WideShapes Go.ChangeAt Go.RowKit
/-- An access that is one. -/
def Acc (kind : Int) (x : Nat) (size : Int) (k s : Nat) : Prop := kind = k ∧ k < 4 ∧ size = s ∧ (s = 1 ∨ s = 2 ∨ s = 4 ∨ s = 8) ∧ x + s ≤ 18446744073709551616
theorem acc_y {kind : Int} {x : Nat} {size : Int} (h : accB kind x size = true) : ∃ k s : Nat, Acc kind x size k s := by
  unfold accB at h
  simp only [Bool.and_eq_true, Bool.or_eq_true, decide_eq_true_eq] at h
  obtain ⟨⟨⟨h1, h2⟩, h3⟩, h4⟩ := h
  refine ⟨kind.toNat, size.toNat, by omega, by omega, by omega, by omega, by omega⟩
theorem acc_k {kind : Int} {x : Nat} {size : Int} {k s : Nat} (h : Acc kind x size k s) : accB kind x size = true := by
  obtain ⟨rfl, h1, rfl, h2, h3⟩ := h
  unfold accB
  simp only [Bool.and_eq_true, Bool.or_eq_true, decide_eq_true_eq]
  omega
theorem acc_n {kind : Int} {x : Nat} {size : Int} (h : accB kind x size = false) : (size ≠ 1 ∧ size ≠ 2 ∧ size ≠ 4 ∧ size ≠ 8) ∨ ((size = 1 ∨ size = 2 ∨ size = 4 ∨ size = 8) ∧ kind < 0) ∨ ((size = 1 ∨ size = 2 ∨ size = 4 ∨ size = 8) ∧ 0 ≤ kind ∧ 3 < kind) ∨ ((size = 1 ∨ size = 2 ∨ size = 4 ∨ size = 8) ∧ 0 ≤ kind ∧ kind ≤ 3 ∧ 18446744073709551616 ≤ (x : Int) + size - 1) := by
  have h' : ¬ accB kind x size = true := by rw [h]; decide
  unfold accB at h'
  simp only [Bool.and_eq_true, Bool.or_eq_true, decide_eq_true_eq] at h'
  omega
theorem isAccess_1y (k x : Nat) (h1 : k < 4) (hx : Hid (x < 18446744073709551616)) (h3 : Hid (x + 1 ≤ 18446744073709551616)) (w : World) : Calls Tryz.prog 66 #[.int .i64 k, .int .u64 x, .int .i64 1] w (RetBX true w) := by
  have k0 : (0 : Int) ≤ k := by omega
  have k3 : (k : Int) ≤ 3 := by omega
  have hx := hx.out
  have h3 := h3.out
  obtain ⟨y, hy⟩ : ∃ y, y = x + 1 - 1 := ⟨_, rfl⟩
  have b1 : IntKind.u64.wrap (IntKind.u64.wrap ((x : Int) + 1) - 1) = (y : Int) := by rw [IntKind.wrap_u64, IntKind.wrap_u64]; omega
  have b2 : (x : Int) ≤ y := by omega
  clear hx h3 hy h1
  go_enter Tryz.func66, Tryz.ntmps66
  go_wp2_with fail
  go_ret
  exact retBX_mk rfl
theorem isAccess_1n (k x : Nat) (h1 : k < 4) (hx : Hid (x < 18446744073709551616)) (h3 : Hid (18446744073709551616 < x + 1)) (w : World) : Calls Tryz.prog 66 #[.int .i64 k, .int .u64 x, .int .i64 1] w (RetBX false w) := by
  have k0 : (0 : Int) ≤ k := by omega
  have k3 : (k : Int) ≤ 3 := by omega
  have hx := hx.out
  have h3 := h3.out
  obtain ⟨y, hy⟩ : ∃ y, y = x + 1 - 1 - 18446744073709551616 := ⟨_, rfl⟩
  have b1 : IntKind.u64.wrap (IntKind.u64.wrap ((x : Int) + 1) - 1) = (y : Int) := by rw [IntKind.wrap_u64, IntKind.wrap_u64]; omega
  have b2 : ¬ ((x : Int) ≤ y) := by omega
  clear hx h3 hy h1
  go_enter Tryz.func66, Tryz.ntmps66
  go_wp2_with fail
  go_ret
  exact retBX_mk rfl
theorem isAccess_2y (k x : Nat) (h1 : k < 4) (hx : Hid (x < 18446744073709551616)) (h3 : Hid (x + 2 ≤ 18446744073709551616)) (w : World) : Calls Tryz.prog 66 #[.int .i64 k, .int .u64 x, .int .i64 2] w (RetBX true w) := by
  have k0 : (0 : Int) ≤ k := by omega
  have k3 : (k : Int) ≤ 3 := by omega
  have hx := hx.out
  have h3 := h3.out
  obtain ⟨y, hy⟩ : ∃ y, y = x + 2 - 1 := ⟨_, rfl⟩
  have b1 : IntKind.u64.wrap (IntKind.u64.wrap ((x : Int) + 2) - 1) = (y : Int) := by rw [IntKind.wrap_u64, IntKind.wrap_u64]; omega
  have b2 : (x : Int) ≤ y := by omega
  clear hx h3 hy h1
  go_enter Tryz.func66, Tryz.ntmps66
  go_wp2_with fail
  go_ret
  exact retBX_mk rfl
theorem isAccess_2n (k x : Nat) (h1 : k < 4) (hx : Hid (x < 18446744073709551616)) (h3 : Hid (18446744073709551616 < x + 2)) (w : World) : Calls Tryz.prog 66 #[.int .i64 k, .int .u64 x, .int .i64 2] w (RetBX false w) := by
  have k0 : (0 : Int) ≤ k := by omega
  have k3 : (k : Int) ≤ 3 := by omega
  have hx := hx.out
  have h3 := h3.out
  obtain ⟨y, hy⟩ : ∃ y, y = x + 2 - 1 - 18446744073709551616 := ⟨_, rfl⟩
  have b1 : IntKind.u64.wrap (IntKind.u64.wrap ((x : Int) + 2) - 1) = (y : Int) := by rw [IntKind.wrap_u64, IntKind.wrap_u64]; omega
  have b2 : ¬ ((x : Int) ≤ y) := by omega
  clear hx h3 hy h1
  go_enter Tryz.func66, Tryz.ntmps66
  go_wp2_with fail
  go_ret
  exact retBX_mk rfl
theorem isAccess_4y (k x : Nat) (h1 : k < 4) (hx : Hid (x < 18446744073709551616)) (h3 : Hid (x + 4 ≤ 18446744073709551616)) (w : World) : Calls Tryz.prog 66 #[.int .i64 k, .int .u64 x, .int .i64 4] w (RetBX true w) := by
  have k0 : (0 : Int) ≤ k := by omega
  have k3 : (k : Int) ≤ 3 := by omega
  have hx := hx.out
  have h3 := h3.out
  obtain ⟨y, hy⟩ : ∃ y, y = x + 4 - 1 := ⟨_, rfl⟩
  have b1 : IntKind.u64.wrap (IntKind.u64.wrap ((x : Int) + 4) - 1) = (y : Int) := by rw [IntKind.wrap_u64, IntKind.wrap_u64]; omega
  have b2 : (x : Int) ≤ y := by omega
  clear hx h3 hy h1
  go_enter Tryz.func66, Tryz.ntmps66
  go_wp2_with fail
  go_ret
  exact retBX_mk rfl
theorem isAccess_4n (k x : Nat) (h1 : k < 4) (hx : Hid (x < 18446744073709551616)) (h3 : Hid (18446744073709551616 < x + 4)) (w : World) : Calls Tryz.prog 66 #[.int .i64 k, .int .u64 x, .int .i64 4] w (RetBX false w) := by
  have k0 : (0 : Int) ≤ k := by omega
  have k3 : (k : Int) ≤ 3 := by omega
  have hx := hx.out
  have h3 := h3.out
  obtain ⟨y, hy⟩ : ∃ y, y = x + 4 - 1 - 18446744073709551616 := ⟨_, rfl⟩
  have b1 : IntKind.u64.wrap (IntKind.u64.wrap ((x : Int) + 4) - 1) = (y : Int) := by rw [IntKind.wrap_u64, IntKind.wrap_u64]; omega
  have b2 : ¬ ((x : Int) ≤ y) := by omega
  clear hx h3 hy h1
  go_enter Tryz.func66, Tryz.ntmps66
  go_wp2_with fail
  go_ret
  exact retBX_mk rfl
theorem isAccess_8y (k x : Nat) (h1 : k < 4) (hx : Hid (x < 18446744073709551616)) (h3 : Hid (x + 8 ≤ 18446744073709551616)) (w : World) : Calls Tryz.prog 66 #[.int .i64 k, .int .u64 x, .int .i64 8] w (RetBX true w) := by
  have k0 : (0 : Int) ≤ k := by omega
  have k3 : (k : Int) ≤ 3 := by omega
  have hx := hx.out
  have h3 := h3.out
  obtain ⟨y, hy⟩ : ∃ y, y = x + 8 - 1 := ⟨_, rfl⟩
  have b1 : IntKind.u64.wrap (IntKind.u64.wrap ((x : Int) + 8) - 1) = (y : Int) := by rw [IntKind.wrap_u64, IntKind.wrap_u64]; omega
  have b2 : (x : Int) ≤ y := by omega
  clear hx h3 hy h1
  go_enter Tryz.func66, Tryz.ntmps66
  go_wp2_with fail
  go_ret
  exact retBX_mk rfl
theorem isAccess_8n (k x : Nat) (h1 : k < 4) (hx : Hid (x < 18446744073709551616)) (h3 : Hid (18446744073709551616 < x + 8)) (w : World) : Calls Tryz.prog 66 #[.int .i64 k, .int .u64 x, .int .i64 8] w (RetBX false w) := by
  have k0 : (0 : Int) ≤ k := by omega
  have k3 : (k : Int) ≤ 3 := by omega
  have hx := hx.out
  have h3 := h3.out
  obtain ⟨y, hy⟩ : ∃ y, y = x + 8 - 1 - 18446744073709551616 := ⟨_, rfl⟩
  have b1 : IntKind.u64.wrap (IntKind.u64.wrap ((x : Int) + 8) - 1) = (y : Int) := by rw [IntKind.wrap_u64, IntKind.wrap_u64]; omega
  have b2 : ¬ ((x : Int) ≤ y) := by omega
  clear hx h3 hy h1
  go_enter Tryz.func66, Tryz.ntmps66
  go_wp2_with fail
  go_ret
  exact retBX_mk rfl
theorem isAccess_y (kind : Int) (x : Nat) (size : Int) (k s : Nat) (h : Hid (Acc kind x size k s)) (hx : Hid (x < 18446744073709551616)) (w : World) : Calls Tryz.prog 66 #[.int .i64 kind, .int .u64 x, .int .i64 size] w (RetBX true w) := by
  obtain ⟨rfl, h1, rfl, h2, h3⟩ := h.out
  rcases h2 with rfl | rfl | rfl | rfl
  · exact isAccess_1y k x h1 hx h3 w
  · exact isAccess_2y k x h1 hx h3 w
  · exact isAccess_4y k x h1 hx h3 w
  · exact isAccess_8y k x h1 hx h3 w
theorem isAccess_s (kind : Int) (x : Nat) (size : Int) (h : size ≠ 1 ∧ size ≠ 2 ∧ size ≠ 4 ∧ size ≠ 8) (w : World) : Calls Tryz.prog 66 #[.int .i64 kind, .int .u64 x, .int .i64 size] w (RetBX false w) := by
  obtain ⟨h1, h2, h3, h4⟩ := h
  have e1 : (size == 1) = false := by rw [beq_eq_false_iff_ne]; exact h1
  have e2 : (size == 2) = false := by rw [beq_eq_false_iff_ne]; exact h2
  have e3 : (size == 4) = false := by rw [beq_eq_false_iff_ne]; exact h3
  have e4 : (size == 8) = false := by rw [beq_eq_false_iff_ne]; exact h4
  go_enter Tryz.func66, Tryz.ntmps66
  go_wp2_with fail
  go_ret
  exact retBX_mk rfl
theorem isAccess_1l (kind : Int) (x : Nat) (h : kind < 0) (w : World) : Calls Tryz.prog 66 #[.int .i64 kind, .int .u64 x, .int .i64 1] w (RetBX false w) := by
  go_enter Tryz.func66, Tryz.ntmps66
  go_wp2_with fail
  go_ret
  exact retBX_mk rfl
theorem isAccess_1g (kind : Int) (x : Nat) (h0 : 0 ≤ kind) (h : 3 < kind) (w : World) : Calls Tryz.prog 66 #[.int .i64 kind, .int .u64 x, .int .i64 1] w (RetBX false w) := by
  go_enter Tryz.func66, Tryz.ntmps66
  go_wp2_with fail
  go_ret
  exact retBX_mk rfl
theorem isAccess_2l (kind : Int) (x : Nat) (h : kind < 0) (w : World) : Calls Tryz.prog 66 #[.int .i64 kind, .int .u64 x, .int .i64 2] w (RetBX false w) := by
  go_enter Tryz.func66, Tryz.ntmps66
  go_wp2_with fail
  go_ret
  exact retBX_mk rfl
theorem isAccess_2g (kind : Int) (x : Nat) (h0 : 0 ≤ kind) (h : 3 < kind) (w : World) : Calls Tryz.prog 66 #[.int .i64 kind, .int .u64 x, .int .i64 2] w (RetBX false w) := by
  go_enter Tryz.func66, Tryz.ntmps66
  go_wp2_with fail
  go_ret
  exact retBX_mk rfl
theorem isAccess_4l (kind : Int) (x : Nat) (h : kind < 0) (w : World) : Calls Tryz.prog 66 #[.int .i64 kind, .int .u64 x, .int .i64 4] w (RetBX false w) := by
  go_enter Tryz.func66, Tryz.ntmps66
  go_wp2_with fail
  go_ret
  exact retBX_mk rfl
theorem isAccess_4g (kind : Int) (x : Nat) (h0 : 0 ≤ kind) (h : 3 < kind) (w : World) : Calls Tryz.prog 66 #[.int .i64 kind, .int .u64 x, .int .i64 4] w (RetBX false w) := by
  go_enter Tryz.func66, Tryz.ntmps66
  go_wp2_with fail
  go_ret
  exact retBX_mk rfl
theorem isAccess_8l (kind : Int) (x : Nat) (h : kind < 0) (w : World) : Calls Tryz.prog 66 #[.int .i64 kind, .int .u64 x, .int .i64 8] w (RetBX false w) := by
  go_enter Tryz.func66, Tryz.ntmps66
  go_wp2_with fail
  go_ret
  exact retBX_mk rfl
theorem isAccess_8g (kind : Int) (x : Nat) (h0 : 0 ≤ kind) (h : 3 < kind) (w : World) : Calls Tryz.prog 66 #[.int .i64 kind, .int .u64 x, .int .i64 8] w (RetBX false w) := by
  go_enter Tryz.func66, Tryz.ntmps66
  go_wp2_with fail
  go_ret
  exact retBX_mk rfl
theorem isAccess_n (kind : Int) (x : Nat) (size : Int) (h : Hid (accB kind x size = false)) (hx : Hid (x < 18446744073709551616)) (w : World) : Calls Tryz.prog 66 #[.int .i64 kind, .int .u64 x, .int .i64 size] w (RetBX false w) := by
  rcases acc_n h.out with h | ⟨h1, h2⟩ | ⟨h1, h2, h3⟩ | ⟨h1, h2, h3, h4⟩
  · exact isAccess_s kind x size h w
  · rcases h1 with rfl | rfl | rfl | rfl
    · exact isAccess_1l kind x h2 w
    · exact isAccess_2l kind x h2 w
    · exact isAccess_4l kind x h2 w
    · exact isAccess_8l kind x h2 w
  · rcases h1 with rfl | rfl | rfl | rfl
    · exact isAccess_1g kind x h2 h3 w
    · exact isAccess_2g kind x h2 h3 w
    · exact isAccess_4g kind x h2 h3 w
    · exact isAccess_8g kind x h2 h3 w
  · obtain ⟨k, rfl⟩ : ∃ k : Nat, kind = k := ⟨kind.toNat, by omega⟩
    rcases h1 with rfl | rfl | rfl | rfl
    · exact isAccess_1n k x (by omega) hx (by show _ < _; omega) w
    · exact isAccess_2n k x (by omega) hx (by show _ < _; omega) w
    · exact isAccess_4n k x (by omega) hx (by show _ < _; omega) w
    · exact isAccess_8n k x (by omega) hx (by show _ < _; omega) w
/-- A row of cells in a block. -/
def Row (w : World) (b : Nat) (t : TypeId) (cs : Array Value) : Prop := w.heap[b]? = some (.cells cs t (0, 0))
theorem Row.below {w w' : World} {b : Nat} {t : TypeId} {cs : Array Value} {B : Nat} (h : Row w b t cs) (hb : Below B w w') (hB : b < B) : Row w' b t cs := by
  unfold Row; rw [hb.block b hB]; exact h
theorem row_new (w : World) (cs : Array Value) (t : TypeId) : Row (w.alloc (Obj.cells cs t)) w.heap.size t cs := heap_alloc_new w _
theorem row_old {w : World} {b : Nat} {t : TypeId} {cs : Array Value} (h : Row w b t cs) (o : Obj) : Row (w.alloc o) b t cs := by
  unfold Row
  have hb : b < w.heap.size := by
    apply Nat.lt_of_not_le
    intro hn
    unfold Row at h
    rw [Array.getElem?_eq_none hn] at h; cases h
  exact (heap_alloc_old w o hb).trans h
theorem info8c (c : Nat → Nat) : (Tryz.prog.info? 24).map (·.size) = some (u8s c).size := by rw [u8s_size]; kernel_rfl
theorem info8a (a : Nat → Nat) : (Tryz.prog.info? 25).map (·.size) = some (u64s a).size := by rw [u64s_size]; kernel_rfl
theorem Row.cell {w : World} {b : Nat} {t : TypeId} {cs : Array Value} (h : Row w b t cs) (o : Nat) : w.cell? ⟨b, o, none⟩ = cs[o]? := cell_of_row w b o cs t (0, 0) h
theorem idx8 (c : Nat → Nat) (n : Nat) (hn : n < 8) (v : World) : Sem.run Tryz.prog (Instr.index 24 (.agg (u8s c)) (.int .i64 n)) v = .ok (.int .u8 (c n : Nat)) v := by
  have : n = 0 ∨ n = 1 ∨ n = 2 ∨ n = 3 ∨ n = 4 ∨ n = 5 ∨ n = 6 ∨ n = 7 := by omega
  rcases this with rfl | rfl | rfl | rfl | rfl | rfl | rfl | rfl <;> rfl
/-- What the entry n says, by cases. -/
theorem go_miss {c a : Nat → Nat} {m : Bool} {k x y n g : Nat} (hn : n + (g + 1) = 8) (h : missB c a x y n = true) : goF c a m k x y (g + 1) = goF c a m k x y g := by
  show (bif missB c a x y (7 - g) then _ else _) = _
  rw [show 7 - g = n by omega, h]; rfl
theorem go_part {c a : Nat → Nat} {m : Bool} {k x y n g : Nat} (hn : n + (g + 1) = 8) (h : missB c a x y n = false) (h2 : partB c a x y n = true) : goF c a m k x y (g + 1) = false := by
  show (bif missB c a x y (7 - g) then _ else (bif partB c a x y (7 - g) then false else _)) = _
  rw [show 7 - g = n by omega, h, h2]; rfl
theorem go_all {c a : Nat → Nat} {m : Bool} {k x y n g : Nat} (hn : n + (g + 1) = 8) (h : missB c a x y n = false) (h2 : partB c a x y n = false) : goF c a m k x y (g + 1) = ((m && !lockB (c n)) || allowB (c n) k) := by
  show (bif missB c a x y (7 - g) then _ else (bif partB c a x y (7 - g) then false else (m && !lockB (c (7 - g))) || allowB (c (7 - g)) k)) = _
  rw [show 7 - g = n by omega, h, h2]; rfl
set_option maxRecDepth 100000 in
theorem Check_n (c a : Nat → Nat) (mode kind : Int) (x : Nat) (size : Int) (h : Hid (accB kind x size = false)) (hx : Hid (x < 18446744073709551616)) (w : World) :
    Calls Tryz.prog 45 #[.agg (u8s c), .agg (u64s a), .int .i64 mode, .int .i64 kind, .int .u64 x, .int .i64 size] w (RetB false w) := by
  have HA := Lib.hid (fun v => isAccess_n kind x size h hx v)
  go_enter Tryz.func45, Tryz.ntmps45
  go_wp2_with fail
  go_step3
  go_wp2_with fail
  refine (HA.out _).mono ?_; rintro e w1 ⟨rfl, h⟩; replace h := h.symm; subst h
  go_wp2_with fail
  try rw [Exit.noGoto_ret]
  go_ret
  exact retB_mk rfl (by repeat (first | (with_reducible first | exact Below.refl _ _ | assumption | exact Nat.le_refl _ | refine Below.drew ?_ | refine Below.alloc ?_ ?_ _ | refine Below.setCell ?_ ?_ _ | refine le_alloc ?_ | refine le_set ?_ | refine le_drew ?_ | refine below_step (by assumption) ?_ ?_ | refine le_below (by assumption) ?_) | (dsimp only; omega)))
set_option maxRecDepth 100000 in
theorem Check_y (c a : Nat → Nat) (mode kind : Int) (x : Nat) (size : Int) (k s : Nat) (hk : Hid (Acc kind x size k s)) (hc : Hid (OkC c)) (ha : Hid (OkA a)) (hx : Hid (x < 18446744073709551616)) (m : Bool) (hm : (mode == 3) = m) (w : World) (hG : Hid (G w)) :
    Calls Tryz.prog 45 #[.agg (u8s c), .agg (u64s a), .int .i64 mode, .int .i64 kind, .int .u64 x, .int .i64 size] w (RetB (goF c a m k x (x + s - 1) 8) w) := by
  have HA := Lib.hid (fun v => isAccess_y kind x size k s hk hx v)
  obtain ⟨rfl, h1, rfl, h2, h3⟩ := hk.out
  have hx0 := hx.out
  obtain ⟨y, hy⟩ : ∃ y, y = x + s - 1 := ⟨_, rfl⟩
  have b0 : IntKind.u64.wrap (s : Int) = s := by rw [IntKind.wrap_u64]; omega
  have b1 : IntKind.u64.wrap (IntKind.u64.wrap ((x : Int) + s) - 1) = (y : Int) := by rw [IntKind.wrap_u64, IntKind.wrap_u64]; omega
  rw [← hy]
  have H1 := Lib.hid h1
  clear h1 h2 h3 hx0 hy hk hx
  obtain ⟨R, hR⟩ : ∃ R, R = goF c a m k x y 8 := ⟨_, rfl⟩
  rw [← hR]
  have HR := Lib.hid hR
  clear hR
  go_enter Tryz.func45, Tryz.ntmps45
  go_wp2_with fail
  go_step3
  go_wp2_with fail
  refine (HA.out _).mono ?_; rintro e w1 ⟨rfl, h⟩; replace h := h.symm; subst h
  go_wp2_with fail
  go_step3
  go_wp2_with (refine wpList_load_row rfl 24 _ rfl w.heap.size rfl 24 (u8s c) (0, 0) _ (row_old (row_new _ _ _) _) Tryz.underlying24 rfl (info8c c) ?_)
  go_loopg [30] 8 (fun g i wr => ∃ n : Nat, n + g = 8 ∧ i = .int .i64 n ∧ Hid (R = goF c a m k x y g) ∧ Hid (Row wr w.heap.size 24 (u8s c)) ∧ Hid (Row wr (w.heap.size + 1) 25 (u64s a)) ∧ Hid (Below w.heap.size w wr) ∧ Hid (w.heap.size + 2 ≤ wr.heap.size) ∧ Hid (G wr))
  case atStart => exact ⟨0, by omega, rfl, HR, row_old (row_new _ _ _) _, by have := row_new (w.alloc (Obj.cells (u8s c) 24)) (u64s a) 25; rwa [sz_alloc] at this, by show Below _ _ _; exact (by repeat (first | (with_reducible first | exact Below.refl _ _ | assumption | exact Nat.le_refl _ | refine Below.drew ?_ | refine Below.alloc ?_ ?_ _ | refine Below.setCell ?_ ?_ _ | refine le_alloc ?_ | refine le_set ?_ | refine le_drew ?_ | refine below_step (by assumption) ?_ ?_ | refine le_below (by assumption) ?_) | (dsimp only; omega))), by show _ ≤ _; simp only [sz_alloc]; omega, g_alloc (g_alloc hG.out _) _⟩
  case round =>
    obtain ⟨n, hn, rfl, hI, r1, r2, hB, hS, hGr⟩ := hrel
    clear HR hG
    cases gk with
    | zero =>
      obtain rfl : n = 8 := by omega
      go_wp2_with fail
      try rw [Exit.noGoto_ret]
      go_ret
      exact retB_mk hI.out.symm hB.out
    | succ g =>
      have n8 : (n : Int) < 8 := by omega
      have n0 : ((n : Nat) : Int).toNat = n := by omega
      have HX := idx8 c n (by omega)
      have HRg := Lib.hid (fun v hv => Range_c c a n (by omega) hc ha v hv)
      have HL := Lib.hid (fun v => isLocked_c (c n) (hc.out n) v)
      have HW := Lib.hid (fun v => allows_c (c n) k H1.out (hc.out n) v)
      have q0 := @go_miss c a m k x y n g hn
      have q1 := @go_part c a m k x y n g hn
      have q2 := @go_all c a m k x y n g hn
      unfold missB at q0 q1 q2
      unfold partB at q1 q2
      obtain ⟨A, eA⟩ : ∃ A, A = rA c a n := ⟨_, rfl⟩
      obtain ⟨B, eB⟩ : ∃ B, B = rB c a n := ⟨_, rfl⟩
      obtain ⟨K, eK⟩ : ∃ K, K = rOk c a n := ⟨_, rfl⟩
      obtain ⟨L, eL⟩ : ∃ L, L = lockB (c n) := ⟨_, rfl⟩
      obtain ⟨W, eW⟩ : ∃ W, W = allowB (c n) k := ⟨_, rfl⟩
      rw [← eA, ← eB, ← eK] at HRg q0 q1 q2
      rw [← eL] at HL q2
      rw [← eW] at HW q2
      clear eA eB eK eL eW
      have HN1 : n + 1 + g = 8 := by omega
      -- what is missed
      have missed : (!K || decide (B < x) || decide (y < A)) = true → Hid (R = goF c a m k x y g) := fun h => by
        show _ = _
        rw [hI.out, q0 h]
      cases K with
      | false =>
        have HN := missed rfl
        clear missed q0 q1 q2 hI hn
        go_wp2_with (first
          | (refine wpList_load_row rfl 24 _ rfl w.heap.size rfl 24 (u8s c) (0, 0) _ r1.out Tryz.underlying24 rfl (info8c c) ?_)
          | (refine wpList_load_row rfl 25 _ rfl (w.heap.size + 1) rfl 25 (u64s a) (0, 0) _ r2.out Tryz.underlying25 rfl (info8a a) ?_))
        refine (HRg.out _ hGr).mono ?_; rintro e w1 ⟨rfl, hb⟩
        have r1' := Lib.hid (r1.out.below hb (by have := hS.out; omega))
        have r2' := Lib.hid (r2.out.below hb (by have := hS.out; omega))
        have hB' := Lib.hid (below_step hb hB.out hB.out.size)
        have hS' : Hid (w.heap.size + 2 ≤ w1.heap.size) := Nat.le_trans hS.out hb.size
        have hG' := Lib.hid (g_below hGr.out hb hGr.out.1)
        clear hb
        go_wp2_with fail
        go_roundg g
        case measure => omega
        case rel => exact ⟨n + 1, by omega, by go_num, HN, r1', r2', hB', hS', hG'⟩
      | true =>
        by_cases h1 : B < x
        · have HN := missed (by simp [h1])
          have h1' : (B : Int) < x := by omega
          clear missed q0 q1 q2 hI hn h1
          go_wp2_with (first
            | (refine wpList_load_row rfl 24 _ rfl w.heap.size rfl 24 (u8s c) (0, 0) _ r1.out Tryz.underlying24 rfl (info8c c) ?_)
            | (refine wpList_load_row rfl 25 _ rfl (w.heap.size + 1) rfl 25 (u64s a) (0, 0) _ r2.out Tryz.underlying25 rfl (info8a a) ?_))
          refine (HRg.out _ hGr).mono ?_; rintro e w1 ⟨rfl, hb⟩
          have r1' := Lib.hid (r1.out.below hb (by have := hS.out; omega))
          have r2' := Lib.hid (r2.out.below hb (by have := hS.out; omega))
          have hB' := Lib.hid (below_step hb hB.out hB.out.size)
          have hS' : Hid (w.heap.size + 2 ≤ w1.heap.size) := Nat.le_trans hS.out hb.size
          have hG' := Lib.hid (g_below hGr.out hb hGr.out.1)
          clear hb
          go_wp2_with fail
          go_roundg g
          case measure => omega
          case rel => exact ⟨n + 1, by omega, by go_num, HN, r1', r2', hB', hS', hG'⟩
        · have h1' : ¬ ((B : Int) < x) := by omega
          by_cases h2 : y < A
          · have HN := missed (by simp [h2])
            have h2' : (y : Int) < A := by omega
            clear missed q0 q1 q2 hI hn h1 h2
            go_wp2_with (first
              | (refine wpList_load_row rfl 24 _ rfl w.heap.size rfl 24 (u8s c) (0, 0) _ r1.out Tryz.underlying24 rfl (info8c c) ?_)
              | (refine wpList_load_row rfl 25 _ rfl (w.heap.size + 1) rfl 25 (u64s a) (0, 0) _ r2.out Tryz.underlying25 rfl (info8a a) ?_))
            refine (HRg.out _ hGr).mono ?_; rintro e w1 ⟨rfl, hb⟩
            have r1' := Lib.hid (r1.out.below hb (by have := hS.out; omega))
            have r2' := Lib.hid (r2.out.below hb (by have := hS.out; omega))
            have hB' := Lib.hid (below_step hb hB.out hB.out.size)
            have hS' : Hid (w.heap.size + 2 ≤ w1.heap.size) := Nat.le_trans hS.out hb.size
            have hG' := Lib.hid (g_below hGr.out hb hGr.out.1)
            clear hb
            go_wp2_with fail
            go_roundg g
            case measure => omega
            case rel => exact ⟨n + 1, by omega, by go_num, HN, r1', r2', hB', hS', hG'⟩
          · have h2' : ¬ ((y : Int) < A) := by omega
            clear missed q0
            have e0 : (!true || decide (B < x) || decide (y < A)) = false := by simp [h1, h2] <;> omega
            by_cases h3 : x < A
            · have h3' : (x : Int) < A := by omega
              have HN : Hid (R = false) := by show _ = _; rw [hI.out, q1 e0 (by simp [h3])]
              clear q1 q2 hI hn h1 h2 h3 e0
              go_wp2_with (first
                | (refine wpList_load_row rfl 24 _ rfl w.heap.size rfl 24 (u8s c) (0, 0) _ r1.out Tryz.underlying24 rfl (info8c c) ?_)
                | (refine wpList_load_row rfl 25 _ rfl (w.heap.size + 1) rfl 25 (u64s a) (0, 0) _ r2.out Tryz.underlying25 rfl (info8a a) ?_))
              refine (HRg.out _ hGr).mono ?_; rintro e w1 ⟨rfl, hb⟩
              have r1' := Lib.hid (r1.out.below hb (by have := hS.out; omega))
              have r2' := Lib.hid (r2.out.below hb (by have := hS.out; omega))
              have hB' := Lib.hid (below_step hb hB.out hB.out.size)
              have hS' : Hid (w.heap.size + 2 ≤ w1.heap.size) := Nat.le_trans hS.out hb.size
              have hG' := Lib.hid (g_below hGr.out hb hGr.out.1)
              clear hb
              go_wp2_with fail
              try rw [Exit.noGoto_ret]
              go_ret
              exact retB_mk HN.out.symm hB'.out
            · have h3' : ¬ ((x : Int) < A) := by omega
              by_cases h4 : B < y
              · have h4' : (B : Int) < y := by omega
                have HN : Hid (R = false) := by show _ = _; rw [hI.out, q1 e0 (by simp [h4])]
                clear q1 q2 hI hn h1 h2 h3 h4 e0
                go_wp2_with (first
                  | (refine wpList_load_row rfl 24 _ rfl w.heap.size rfl 24 (u8s c) (0, 0) _ r1.out Tryz.underlying24 rfl (info8c c) ?_)
                  | (refine wpList_load_row rfl 25 _ rfl (w.heap.size + 1) rfl 25 (u64s a) (0, 0) _ r2.out Tryz.underlying25 rfl (info8a a) ?_))
                refine (HRg.out _ hGr).mono ?_; rintro e w1 ⟨rfl, hb⟩
                have r1' := Lib.hid (r1.out.below hb (by have := hS.out; omega))
                have r2' := Lib.hid (r2.out.below hb (by have := hS.out; omega))
                have hB' := Lib.hid (below_step hb hB.out hB.out.size)
                have hS' : Hid (w.heap.size + 2 ≤ w1.heap.size) := Nat.le_trans hS.out hb.size
                have hG' := Lib.hid (g_below hGr.out hb hGr.out.1)
                clear hb
                go_wp2_with fail
                try rw [Exit.noGoto_ret]
                go_ret
                exact retB_mk HN.out.symm hB'.out
              · have h4' : ¬ ((B : Int) < y) := by omega
                have HN : Hid (R = ((m && !L) || W)) := by show _ = _; rw [hI.out, q2 e0 (by simp [h3, h4] <;> omega)]
                clear q1 q2 hI hn h1 h2 h3 h4 e0
                cases m with
                | false =>
                  go_wp2_with (first
                    | (refine wpList_load_row rfl 24 _ rfl w.heap.size rfl 24 (u8s c) (0, 0) _ r1.out Tryz.underlying24 rfl (info8c c) ?_)
                    | (refine wpList_load_row rfl 25 _ rfl (w.heap.size + 1) rfl 25 (u64s a) (0, 0) _ r2.out Tryz.underlying25 rfl (info8a a) ?_))
                  refine (HRg.out _ hGr).mono ?_; rintro e w1 ⟨rfl, hb⟩
                  have r1' := Lib.hid (r1.out.below hb (by have := hS.out; omega))
                  have r2' := Lib.hid (r2.out.below hb (by have := hS.out; omega))
                  have hB' := Lib.hid (below_step hb hB.out hB.out.size)
                  have hS' : Hid (w.heap.size + 2 ≤ w1.heap.size) := Nat.le_trans hS.out hb.size
                  have hG' := Lib.hid (g_below hGr.out hb hGr.out.1)
                  clear hb
                  go_wp2_with fail
                  refine (HW.out _).mono ?_; rintro e w2 ⟨rfl, h⟩; replace h := h.symm; subst h
                  go_wp2_with fail
                  try rw [Exit.noGoto_ret]
                  go_ret
                  exact retB_mk (by rw [HN.out]; cases L <;> cases W <;> rfl) hB'.out
                | true =>
                  go_wp2_with (first
                    | (refine wpList_load_row rfl 24 _ rfl w.heap.size rfl 24 (u8s c) (0, 0) _ r1.out Tryz.underlying24 rfl (info8c c) ?_)
                    | (refine wpList_load_row rfl 25 _ rfl (w.heap.size + 1) rfl 25 (u64s a) (0, 0) _ r2.out Tryz.underlying25 rfl (info8a a) ?_))
                  refine (HRg.out _ hGr).mono ?_; rintro e w1 ⟨rfl, hb⟩
                  have r1' := Lib.hid (r1.out.below hb (by have := hS.out; omega))
                  have r2' := Lib.hid (r2.out.below hb (by have := hS.out; omega))
                  have hB' := Lib.hid (below_step hb hB.out hB.out.size)
                  have hS' : Hid (w.heap.size + 2 ≤ w1.heap.size) := Nat.le_trans hS.out hb.size
                  have hG' := Lib.hid (g_below hGr.out hb hGr.out.1)
                  clear hb
                  go_wp2_with fail
                  refine (HL.out _).mono ?_; rintro e w2 ⟨rfl, h⟩; replace h := h.symm; subst h
                  cases L with
                  | false =>
                    go_wp2_with fail
                    try rw [Exit.noGoto_ret]
                    go_ret
                    exact retB_mk (by rw [HN.out]; cases W <;> rfl) hB'.out
                  | true =>
                    go_wp2_with fail
                    refine (HW.out _).mono ?_; rintro e w3 ⟨rfl, h⟩; replace h := h.symm; subst h
                    go_wp2_with fail
                    try rw [Exit.noGoto_ret]
                    go_ret
                    exact retB_mk (by rw [HN.out]; cases W <;> rfl) hB'.out
end Go.Proofs.YthhlcchofilimaaGreatDoor.Y
