/- Words for what a call returns; the package's variables in memory. -/
import Derived.Test.YtcfeeookjgdkmaaDoorProg
import Derived.Test.YtcfeeookjgdkmaaDoorM0
import Derived.WalkKit
import Derived.Deep.QuietTactic
import Derived.BigQuiet
import Derived.ProofKit
import Derived.OpenShut
import Derived.WalkLawsBesides
import Derived.WalkSpells
import Derived.RegionTactic
import Derived.ChangeAlike
import Derived.Outline
import Derived.Laws.Externs
import Derived.Lib.Hide
namespace Go.Proofs.YtcfeeookjgdkmaaDoor
open Go.ChangeShapes Go.WideShapes Go.ChangeAt Go.RowKit
set_option linter.unusedVariables false
set_option linter.unusedSimpArgs false

theorem bcell {W w1 : World} (hb : Below W.heap.size W w1) : (∀ b o, b < W.heap.size → w1.cell? ⟨b, o, none⟩ = W.cell? ⟨b, o, none⟩) ∧ (∀ b o, b < W.heap.size → w1.frozen? ⟨b, o, none⟩ = W.frozen? ⟨b, o, none⟩) :=
  ⟨fun b o h => hb.cell (p := ⟨b, o, none⟩) h, fun b o h => hb.frozen (p := ⟨b, o, none⟩) h⟩

theorem sz_alloc (w : World) (o : Obj) : (w.alloc o).heap.size = w.heap.size + 1 := by show (w.heap.push _).size = _; simp
theorem sz_set (w : World) (a : Addr) (v : Value) : (w.setCell a v).heap.size = w.heap.size := by simp [World.setCell]
theorem sz_drew (w : World) : w.drew.heap.size = w.heap.size := rfl
theorem le_alloc {n : Nat} {w : World} {o : Obj} (h : n ≤ w.heap.size) : n ≤ (w.alloc o).heap.size := by rw [sz_alloc]; omega
theorem le_set {n : Nat} {w : World} {a : Addr} {v : Value} (h : n ≤ w.heap.size) : n ≤ (w.setCell a v).heap.size := by rw [sz_set]; exact h
theorem le_drew {n : Nat} {w : World} (h : n ≤ w.heap.size) : n ≤ w.drew.heap.size := h
theorem le_below {n B : Nat} {w w' : World} (hb : Below B w w') (h : n ≤ w.heap.size) : n ≤ w'.heap.size := Nat.le_trans h hb.size
theorem below_step {B B' : Nat} {w w1 w2 : World} (hb : Below B' w1 w2) (h : Below B w w1) (hB : B ≤ B') : Below B w w2 := h.trans (hb.mono hB)

def RetB (b : Bool) (W : World) (e : Ending) (w' : World) : Prop := e = .returned (.bool b) ∧ Below W.heap.size W w'
def RetI (n : Int) (W : World) (e : Ending) (w' : World) : Prop := e = .returned (.int .i64 n) ∧ Below W.heap.size W w'
def RetU (n : Nat) (W : World) (e : Ending) (w' : World) : Prop := e = .returned (.int .u32 n) ∧ Below W.heap.size W w'
theorem retB_mk {a b : Bool} {W w' : World} (h : a = b) (hb : Below W.heap.size W w') : RetB b W (.returned (.bool a)) w' := ⟨by rw [h], hb⟩
theorem retI_mk {a b : Int} {W w' : World} (h : a = b) (hb : Below W.heap.size W w') : RetI b W (.returned (.int .i64 a)) w' := ⟨by rw [h], hb⟩
theorem retU_mk {a : Int} {b : Nat} {W w' : World} (h : a = b) (hb : Below W.heap.size W w') : RetU b W (.returned (.int .u32 a)) w' := ⟨by rw [h], hb⟩

def RetH (n : Nat) (W : World) (e : Ending) (w' : World) : Prop := e = .returned (.int .u16 n) ∧ Below W.heap.size W w'
def RetP (n : Nat) (b : Bool) (W : World) (e : Ending) (w' : World) : Prop := e = .returned (.tuple #[.int .u32 n, .bool b]) ∧ Below W.heap.size W w'
def RetQ (n : Nat) (b : Bool) (W : World) (e : Ending) (w' : World) : Prop := e = .returned (.tuple #[.int .u16 n, .bool b]) ∧ Below W.heap.size W w'
theorem below_drewN {B : Nat} {w w' : World} (h : Below B w w') (n : Nat) : Below B w (w'.drewN n) := ⟨h.os, h.tape, h.output, h.size, h.block⟩
theorem le_drewN {n k : Nat} {w : World} (h : n ≤ w.heap.size) : n ≤ (w.drewN k).heap.size := h
theorem sz_drewN (w : World) (k : Nat) : (w.drewN k).heap.size = w.heap.size := rfl
/-- The same, of a call that leaves the world as it was. -/
def RetUX (n : Nat) (W : World) (e : Ending) (w' : World) : Prop := e = .returned (.int .u32 n) ∧ W = w'
def RetIX (n : Int) (W : World) (e : Ending) (w' : World) : Prop := e = .returned (.int .i64 n) ∧ W = w'
theorem retUX_mk {a : Int} {b : Nat} {W : World} (h : a = b) : RetUX b W (.returned (.int .u32 a)) W := ⟨by rw [h], rfl⟩
theorem retIX_mk {a b : Int} {W : World} (h : a = b) : RetIX b W (.returned (.int .i64 a)) W := ⟨by rw [h], rfl⟩
theorem retH_mk {a : Int} {b : Nat} {W w' : World} (h : a = b) (hb : Below W.heap.size W w') : RetH b W (.returned (.int .u16 a)) w' := ⟨by rw [h], hb⟩
theorem mask_low (k x : Nat) : x &&& (2 ^ k - 1) = x % 2 ^ k := Nat.and_two_pow_sub_one_eq_mod x k
theorem u32_low (x k : Nat) (hx : x < 4294967296) (hk : k < 32) : bits .and .u32 (x : Int) ((2 ^ k - 1 : Nat) : Int) = ((x % 2 ^ k : Nat) : Int) := by
  have : 2 ^ k < 2 ^ 32 := Nat.pow_lt_pow_right (by decide) hk
  rw [u32_and_nat x (2 ^ k - 1) hx (by omega), mask_low]
theorem u16_low (x k : Nat) (hx : x < 65536) (hk : k < 16) : bits .and .u16 (x : Int) ((2 ^ k - 1 : Nat) : Int) = ((x % 2 ^ k : Nat) : Int) := by
  have : 2 ^ k < 2 ^ 16 := Nat.pow_lt_pow_right (by decide) hk
  rw [u16_and_nat x (2 ^ k - 1) hx (by omega), mask_low]
/- The package's variables. -/
def immC : Array Value := #[.int .u16 0, .int .u64 0, .bool false, .int .u16 8160, .int .u64 1419277859, .bool false, .int .u16 7264, .int .u64 344950, .bool false, .int .u16 7264, .int .u64 344870, .bool false, .int .u16 4220, .int .u64 5517840, .bool true, .int .u16 4220, .int .u64 5517840, .bool false, .int .u16 4220, .int .u64 9726069, .bool true, .int .u16 8188, .int .u64 12410482536981, .bool true, .int .u16 7292, .int .u64 2218222101, .bool true, .int .u16 4220, .int .u64 5519478, .bool false, .int .u16 4220, .int .u64 5517942, .bool false, .int .u16 8064, .int .u64 5519478, .bool false, .int .u16 8064, .int .u64 5517942, .bool false]
def regC : Array Value := #[.int .u8 7, .int .u8 5, .int .u8 7, .int .u8 7, .int .u8 3, .int .u8 7, .int .u8 2, .int .u8 3, .int .u8 7, .int .u8 7, .int .u8 5, .int .u8 15, .int .u8 7, .int .u8 3, .int .u8 15, .int .u8 2, .int .u8 5, .int .u8 20, .int .u8 2, .int .u8 3, .int .u8 20]
def debC : Array Value := #[.int .u8 0, .int .u8 1, .int .u8 28, .int .u8 2, .int .u8 29, .int .u8 14, .int .u8 24, .int .u8 3, .int .u8 30, .int .u8 22, .int .u8 20, .int .u8 15, .int .u8 25, .int .u8 17, .int .u8 4, .int .u8 8, .int .u8 31, .int .u8 27, .int .u8 13, .int .u8 23, .int .u8 21, .int .u8 19, .int .u8 16, .int .u8 7, .int .u8 26, .int .u8 12, .int .u8 18, .int .u8 6, .int .u8 11, .int .u8 5, .int .u8 10, .int .u8 9]
def G (w : World) : Prop := 3 ≤ w.heap.size ∧ (∀ o, o < 39 → w.cell? ⟨0, o, none⟩ = immC[o]?) ∧ (∀ o, o < 21 → w.cell? ⟨1, o, none⟩ = regC[o]?) ∧ (∀ o, o < 32 → w.cell? ⟨2, o, none⟩ = debC[o]?)
theorem g_below {B : Nat} {w w' : World} (h : G w) (hb : Below B w w') (hB : 3 ≤ B) : G w' :=
  ⟨Nat.le_trans h.1 hb.size, fun o ho => by rw [hb.cell (p := ⟨0, o, none⟩) (by show 0 < B; omega)]; exact h.2.1 o ho, fun o ho => by rw [hb.cell (p := ⟨1, o, none⟩) (by show 1 < B; omega)]; exact h.2.2.1 o ho,
   fun o ho => by rw [hb.cell (p := ⟨2, o, none⟩) (by show 2 < B; omega)]; exact h.2.2.2 o ho⟩
theorem g_alloc {w : World} (h : G w) (o : Obj) : G (w.alloc o) := g_below h ((Below.refl w.heap.size w).alloc (Nat.le_refl _) o) h.1
theorem g_imm {w : World} (h : G w) (i f t : Nat) (s : Bool) (hi : i < 13) (h0 : immC[i * 3]? = some (.int .u16 f)) (h1 : immC[i * 3 + 1]? = some (.int .u64 t)) (h2 : immC[i * 3 + 2]? = some (.bool s)) :
    w.cell? ⟨0, i * 3, none⟩ = some (.int .u16 f) ∧ w.cell? ⟨0, i * 3 + 1, none⟩ = some (.int .u64 t) ∧ w.cell? ⟨0, i * 3 + 2, none⟩ = some (.bool s) :=
  ⟨by rw [h.2.1 _ (by omega)]; exact h0, by rw [h.2.1 _ (by omega)]; exact h1, by rw [h.2.1 _ (by omega)]; exact h2⟩
theorem g_reg {w : World} (h : G w) (i a b c : Nat) (hi : i < 7) (h0 : regC[i * 3]? = some (.int .u8 a)) (h1 : regC[i * 3 + 1]? = some (.int .u8 b)) (h2 : regC[i * 3 + 2]? = some (.int .u8 c)) :
    w.cell? ⟨1, i * 3, none⟩ = some (.int .u8 a) ∧ w.cell? ⟨1, i * 3 + 1, none⟩ = some (.int .u8 b) ∧ w.cell? ⟨1, i * 3 + 2, none⟩ = some (.int .u8 c) :=
  ⟨by rw [h.2.2.1 _ (by omega)]; exact h0, by rw [h.2.2.1 _ (by omega)]; exact h1, by rw [h.2.2.1 _ (by omega)]; exact h2⟩
end Go.Proofs.YtcfeeookjgdkmaaDoor
