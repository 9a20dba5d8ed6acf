/- The contracts of the least functions of layer soft: numbers of two words. -/
import Derived.Test.YthjdeopfbjmmeaaProg
import Derived.Test.YthjdeopfbjmmeaaM0
import Derived.Test.YthjdeopfbjmmeaaShelf
import Derived.WalkKit
import Derived.ProofKit
import Derived.OpenShut
import Derived.WalkLawsBesides
import Derived.WalkSpells
import Derived.RegionTactic
import Derived.ChangeAlike
import Derived.Outline
import Derived.Laws.Externs
import Derived.Lib.Hide
import Derived.Shelf.Spec.BitsCarry
namespace Go.Proofs.Ythjdeopfbjmmeaa
open Go.ChangeShapes Go.WideShapes Go.ChangeAt Go.RowKit
set_option linter.unusedVariables false
set_option linter.unusedSimpArgs false

theorem bcell {W w1 : World} (hb : Below W.heap.size W w1) : (∀ b o, b < W.heap.size → w1.cell? ⟨b, o, none⟩ = W.cell? ⟨b, o, none⟩) ∧ (∀ b o, b < W.heap.size → w1.frozen? ⟨b, o, none⟩ = W.frozen? ⟨b, o, none⟩) :=
  ⟨fun b o h => hb.cell (p := ⟨b, o, none⟩) h, fun b o h => hb.frozen (p := ⟨b, o, none⟩) h⟩

theorem sz_alloc (w : World) (o : Obj) : (w.alloc o).heap.size = w.heap.size + 1 := by show (w.heap.push _).size = _; simp
theorem sz_set (w : World) (a : Addr) (v : Value) : (w.setCell a v).heap.size = w.heap.size := by simp [World.setCell]
theorem sz_drew (w : World) : w.drew.heap.size = w.heap.size := rfl
theorem le_alloc {n : Nat} {w : World} {o : Obj} (h : n ≤ w.heap.size) : n ≤ (w.alloc o).heap.size := by rw [sz_alloc]; omega
theorem le_set {n : Nat} {w : World} {a : Addr} {v : Value} (h : n ≤ w.heap.size) : n ≤ (w.setCell a v).heap.size := by rw [sz_set]; exact h
theorem le_drew {n : Nat} {w : World} (h : n ≤ w.heap.size) : n ≤ w.drew.heap.size := h
theorem le_below {n B : Nat} {w w' : World} (hb : Below B w w') (h : n ≤ w.heap.size) : n ≤ w'.heap.size := Nat.le_trans h hb.size
theorem below_step {B B' : Nat} {w w1 w2 : World} (hb : Below B' w1 w2) (h : Below B w w1) (hB : B ≤ B') : Below B w w2 := h.trans (hb.mono hB)

def RetW (x : Nat) (W : World) (e : Ending) (w' : World) : Prop := ∃ h l : Nat, e = .returned (.agg #[.int .u64 h, .int .u64 l]) ∧ Hid (IsW h l x) ∧ Below W.heap.size W w'
def RetN (N : Num) (W : World) (e : Ending) (w' : World) : Prop := ∃ (c : Int) (m : Bool) (x : Int) (h l : Nat), e = .returned (.agg #[.int .i64 c, .bool m, .int .i64 x, .int .u64 h, .int .u64 l]) ∧ Hid (IsN c m x h l N) ∧ Below W.heap.size W w'
def RetB (b : Bool) (W : World) (e : Ending) (w' : World) : Prop := e = .returned (.bool b) ∧ Below W.heap.size W w'
def RetI (n : Int) (W : World) (e : Ending) (w' : World) : Prop := e = .returned (.int .i64 n) ∧ Below W.heap.size W w'
def RetU (n : Nat) (W : World) (e : Ending) (w' : World) : Prop := e = .returned (.int .u64 n) ∧ Below W.heap.size W w'

theorem retW_mk {h l x : Nat} {a b : Int} {W w' : World} (hI : IsW h l x) (ha : a = h) (hl : b = l) (hb : Below W.heap.size W w') : RetW x W (.returned (.agg #[.int .u64 a, .int .u64 b])) w' :=
  ⟨h, l, by rw [ha, hl], hI, hb⟩
theorem retN_mk {h l : Nat} {N : Num} {c : Int} {m : Bool} {x : Int} {a b : Int} {W w' : World} (hI : IsN c m x h l N) (ha : a = h) (hl : b = l) (hb : Below W.heap.size W w') : RetN N W (.returned (.agg #[.int .i64 c, .bool m, .int .i64 x, .int .u64 a, .int .u64 b])) w' :=
  ⟨c, m, x, h, l, by rw [ha, hl], hI, hb⟩
theorem retB_mk {a b : Bool} {W w' : World} (h : a = b) (hb : Below W.heap.size W w') : RetB b W (.returned (.bool a)) w' := ⟨by rw [h], hb⟩
theorem retI_mk {a b : Int} {W w' : World} (h : a = b) (hb : Below W.heap.size W w') : RetI b W (.returned (.int .i64 a)) w' := ⟨by rw [h], hb⟩
theorem retU_mk {a : Int} {b : Nat} {W w' : World} (h : a = b) (hb : Below W.heap.size W w') : RetU b W (.returned (.int .u64 a)) w' := ⟨by rw [h], hb⟩

theorem left_c (h l x : Nat) (n : Int) (hx : Hid (IsW h l x)) (h0 : 0 ≤ n) (h1 : n < 65536) (w : World) :
    Calls Try.prog 83 #[.agg #[.int .u64 h, .int .u64 l], .int .i64 n] w (RetW (shl x n.toNat) w) := by
  obtain ⟨n, rfl⟩ := Int.eq_ofNat_of_zero_le h0
  have hn : n < 65536 := by omega
  clear h0 h1
  rw [Int.toNat_natCast]
  go_enter Try.func83, Try.ntmps83
  go_wp2
  · exact bodyPost_ret (v := .agg #[_, _]) (by simp [results, Try.results83, go_sem] <;> (first | rfl | (repeat' (first | rfl | apply And.intro)))) rfl (retW_mk (hx.out.left_high (by omega)) (wrap_shl_min _ _) rfl (by repeat (first | (with_reducible first | exact Below.refl _ _ | assumption | exact Nat.le_refl _ | refine Below.drew ?_ | refine Below.alloc ?_ ?_ _ | refine Below.setCell ?_ ?_ _ | refine le_alloc ?_ | refine le_set ?_ | refine le_drew ?_ | refine below_step (by assumption) ?_ ?_ | refine le_below (by assumption) ?_) | (dsimp only; omega))))
  · go_region
    go_wp2
    obtain ⟨hh, hl, -⟩ := hx.out
    exact bodyPost_ret (v := .agg #[_, _]) (by simp [results, Try.results83, go_sem] <;> (first | rfl | (repeat' (first | rfl | apply And.intro)))) rfl (retW_mk (hx.out.left_low (by omega)) (by rw [wrap_shl, div_shr, bits_or_u64_nat _ _ (Nat.mod_lt _ (by decide)) (Nat.lt_of_le_of_lt (Nat.div_le_self _ _) hl)]) (wrap_shl _ _) (by repeat (first | (with_reducible first | exact Below.refl _ _ | assumption | exact Nat.le_refl _ | refine Below.drew ?_ | refine Below.alloc ?_ ?_ _ | refine Below.setCell ?_ ?_ _ | refine le_alloc ?_ | refine le_set ?_ | refine le_drew ?_ | refine below_step (by assumption) ?_ ?_ | refine le_below (by assumption) ?_) | (dsimp only; omega))))

theorem right_c (h l x : Nat) (n : Int) (hx : Hid (IsW h l x)) (h0 : 0 ≤ n) (h1 : n < 65536) (w : World) :
    Calls Try.prog 86 #[.agg #[.int .u64 h, .int .u64 l], .int .i64 n] w (RetW (x / 2 ^ n.toNat) w) := by
  obtain ⟨n, rfl⟩ := Int.eq_ofNat_of_zero_le h0
  have hn : n < 65536 := by omega
  clear h0 h1
  rw [Int.toNat_natCast]
  go_enter Try.func86, Try.ntmps86
  go_wp2
  · exact bodyPost_ret (v := .agg #[_, _]) (by simp [results, Try.results86, go_sem] <;> (first | rfl | (repeat' (first | rfl | apply And.intro)))) rfl (retW_mk (hx.out.right_high (by omega)) rfl (div_shr_min _ _ hx.out.1) (by repeat (first | (with_reducible first | exact Below.refl _ _ | assumption | exact Nat.le_refl _ | refine Below.drew ?_ | refine Below.alloc ?_ ?_ _ | refine Below.setCell ?_ ?_ _ | refine le_alloc ?_ | refine le_set ?_ | refine le_drew ?_ | refine below_step (by assumption) ?_ ?_ | refine le_below (by assumption) ?_) | (dsimp only; omega))))
  · go_region
    go_wp2
    obtain ⟨hh, hl, -⟩ := hx.out
    exact bodyPost_ret (v := .agg #[_, _]) (by simp [results, Try.results86, go_sem] <;> (first | rfl | (repeat' (first | rfl | apply And.intro)))) rfl (retW_mk (hx.out.right_low (by omega)) (div_shr _ _) (by rw [wrap_shl, div_shr, bits_or_u64_nat _ _ (Nat.lt_of_le_of_lt (Nat.div_le_self _ _) hl) (Nat.mod_lt _ (by decide))]) (by repeat (first | (with_reducible first | exact Below.refl _ _ | assumption | exact Nat.le_refl _ | refine Below.drew ?_ | refine Below.alloc ?_ ?_ _ | refine Below.setCell ?_ ?_ _ | refine le_alloc ?_ | refine le_set ?_ | refine le_drew ?_ | refine below_step (by assumption) ?_ ?_ | refine le_below (by assumption) ?_) | (dsimp only; omega))))

theorem sticky_c (h l x : Nat) (b : Bool) (hx : Hid (IsW h l x)) (w : World) :
    Calls Try.prog 84 #[.agg #[.int .u64 h, .int .u64 l], .bool b] w (RetW (if b then x / 2 * 2 + 1 else x) w) := by
  cases b
  · go_enter Try.func84, Try.ntmps84
    go_wp2
    exact bodyPost_ret (v := .agg #[_, _]) (by simp [results, Try.results84, go_sem] <;> (first | rfl | (repeat' (first | rfl | apply And.intro)))) rfl (retW_mk hx.out rfl rfl (by repeat (first | (with_reducible first | exact Below.refl _ _ | assumption | exact Nat.le_refl _ | refine Below.drew ?_ | refine Below.alloc ?_ ?_ _ | refine Below.setCell ?_ ?_ _ | refine le_alloc ?_ | refine le_set ?_ | refine le_drew ?_ | refine below_step (by assumption) ?_ ?_ | refine le_below (by assumption) ?_) | (dsimp only; omega))))
  · go_enter Try.func84, Try.ntmps84
    go_wp2
    exact bodyPost_ret (v := .agg #[_, _]) (by simp [results, Try.results84, go_sem] <;> (first | rfl | (repeat' (first | rfl | apply And.intro)))) rfl (retW_mk hx.out.sticky rfl (or_one _ hx.out.2.1) (by repeat (first | (with_reducible first | exact Below.refl _ _ | assumption | exact Nat.le_refl _ | refine Below.drew ?_ | refine Below.alloc ?_ ?_ _ | refine Below.setCell ?_ ?_ _ | refine le_alloc ?_ | refine le_set ?_ | refine le_drew ?_ | refine below_step (by assumption) ?_ ?_ | refine le_below (by assumption) ?_) | (dsimp only; omega))))
theorem below_c (h l x h' l' x' : Nat) (hx : Hid (IsW h l x)) (hx' : Hid (IsW h' l' x')) (w : World) :
    Calls Try.prog 88 #[.agg #[.int .u64 h, .int .u64 l], .agg #[.int .u64 h', .int .u64 l']] w (RetB (decide (x < x')) w) := by
  go_enter Try.func88, Try.ntmps88
  go_wp2
  all_goals go_ret
  all_goals refine retB_mk ?_ (by repeat (first | (with_reducible first | exact Below.refl _ _ | assumption | exact Nat.le_refl _ | refine Below.drew ?_ | refine Below.alloc ?_ ?_ _ | refine Below.setCell ?_ ?_ _ | refine le_alloc ?_ | refine le_set ?_ | refine le_drew ?_ | refine below_step (by assumption) ?_ ?_ | refine le_below (by assumption) ?_) | (dsimp only; omega)))
  all_goals (rw [Bool.eq_iff_iff]; simp only [Bool.or_eq_true, decide_eq_true_eq, hx.out.lt hx'.out]; (try simp only [true_iff]); omega)

theorem bits_of (h : Nat) (hh : h < 18446744073709551616) : (64 : Int) - (Lib.bitLen (Int.toNat (h : Int)) : Int) = 64 - (blen h : Int) := by
  rw [Int.toNat_natCast, bitLen_eq h hh]

theorem leadingNoughts_c (h l x : Nat) (hx : Hid (IsW h l x)) (w : World) :
    Calls Try.prog 94 #[.agg #[.int .u64 h, .int .u64 l]] w (RetI (128 - (blen x : Int)) w) := by
  obtain ⟨hh, hl, -⟩ := hx.out
  have HH := Lib.hid hh; have HL := Lib.hid hl
  clear hh hl
  by_cases h0 : h = 0
  · have hb : ((h : Int) != 0) = false := by simp [h0]
    have e : 64 + (64 - (blen l : Int)) = 128 - (blen x : Int) := by rw [blen_wide hx.out, if_pos h0]; omega
    have E := Lib.hid e; clear e h0
    go_enter Try.func94, Try.ntmps94
    go_wp2_with fail
    refine (Try.bits_LeadingZeros64 _ _ (by omega) (by have := HL.out; omega)).mono ?_
    rintro e w' ⟨rfl, rfl⟩
    rw [bits_of _ HL.out]
    have b := blen_le l 64 (by rw [← pow64]; exact HL.out)
    have b' : (0 : Int) ≤ blen l := by omega
    go_wp2_with fail
    go_ret
    exact retI_mk E.out (by repeat (first | (with_reducible first | exact Below.refl _ _ | assumption | exact Nat.le_refl _ | refine Below.drew ?_ | refine Below.alloc ?_ ?_ _ | refine Below.setCell ?_ ?_ _ | refine le_alloc ?_ | refine le_set ?_ | refine le_drew ?_ | refine below_step (by assumption) ?_ ?_ | refine le_below (by assumption) ?_) | (dsimp only; omega)))
  · have hb : ((h : Int) != 0) = true := by simp [h0]
    have e : (64 - (blen h : Int)) = 128 - (blen x : Int) := by rw [blen_wide hx.out, if_neg h0]; omega
    have E := Lib.hid e; clear e h0
    go_enter Try.func94, Try.ntmps94
    go_wp2_with fail
    refine (Try.bits_LeadingZeros64 _ _ (by omega) (by have := HH.out; omega)).mono ?_
    rintro e w' ⟨rfl, rfl⟩
    rw [bits_of _ HH.out]
    go_wp2_with fail
    go_ret
    exact retI_mk E.out (by repeat (first | (with_reducible first | exact Below.refl _ _ | assumption | exact Nat.le_refl _ | refine Below.drew ?_ | refine Below.alloc ?_ ?_ _ | refine Below.setCell ?_ ?_ _ | refine le_alloc ?_ | refine le_set ?_ | refine le_drew ?_ | refine below_step (by assumption) ?_ ?_ | refine le_below (by assumption) ?_) | (dsimp only; omega)))

theorem multiply_c (a b : Nat) (ha : a < 18446744073709551616) (hb : b < 18446744073709551616) (w : World) :
    Calls Try.prog 71 #[.int .u64 a, .int .u64 b] w (RetW (a * b) w) := by
  have HA := Lib.hid ha; have HB := Lib.hid hb; clear ha hb
  go_enter Try.func71, Try.ntmps71
  go_wp2_with fail
  refine (Try.bits_Mul64 a b HA.out HB.out _).mono ?_
  rintro e w' ⟨rfl, rfl⟩
  go_wp2_with fail
  exact bodyPost_ret (v := .agg #[_, _]) (by simp [results, Try.results71, go_sem] <;> (first | rfl | (repeat' (first | rfl | apply And.intro)))) rfl (retW_mk (IsW.times a b HA.out HB.out) rfl rfl (by repeat (first | (with_reducible first | exact Below.refl _ _ | assumption | exact Nat.le_refl _ | refine Below.drew ?_ | refine Below.alloc ?_ ?_ _ | refine Below.setCell ?_ ?_ _ | refine le_alloc ?_ | refine le_set ?_ | refine le_drew ?_ | refine below_step (by assumption) ?_ ?_ | refine le_below (by assumption) ?_) | (dsimp only; omega))))

theorem go_add64 (x y c : Nat) (hc : c ≤ 1) (w : World) :
    (callFunc 99 #[.int .u64 x, .int .u64 y, .int .u64 c]).run Try.prog w =
      .ok (.value (.tuple #[.int .u64 (((x + y + c) % 18446744073709551616 : Nat) : Int), .int .u64 (((x + y + c) / 18446744073709551616 : Nat) : Int)])) w := by
  rw [run_callFunc_extern Try.func99 (by kernel_rfl) (by kernel_rfl) (by kernel_rfl) (e := add64Entry) (by kernel_rfl), Go.run_add64 x y c (by omega) (by omega) (by omega) (by omega)]
  simp only [Result.andThen]
  congr 5 <;> omega
theorem go_sub64 (x y b : Nat) (hb : b ≤ 1) (w : World) :
    (callFunc 100 #[.int .u64 x, .int .u64 y, .int .u64 b]).run Try.prog w =
      .ok (.value (.tuple #[.int .u64 (((x + 18446744073709551616 - y - b) % 18446744073709551616 : Nat) : Int), .int .u64 ((if x < y + b then 1 else 0 : Nat) : Int)])) w := by
  rw [run_callFunc_extern Try.func100 (by kernel_rfl) (by kernel_rfl) (by kernel_rfl) (e := sub64Entry) (by kernel_rfl), Go.Proofs.run_sub64 x y b hb]
  rfl
end Go.Proofs.Ythjdeopfbjmmeaa
