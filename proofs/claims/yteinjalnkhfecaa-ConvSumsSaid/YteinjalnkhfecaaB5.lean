/- The contracts of the reference's view of a float. -/
import Derived.Test.YteinjalnkhfecaaB4
import Derived.Test.YteinjalnkhfecaaRows
import Derived.ProofKit
import Derived.OpenShut
import Derived.ChangeSame
namespace Go.Proofs.Yteinjalnkhfecaa
open Go.ChangeShapes Go.WideShapes Go.ChangeAt Go.RowKit
set_option linter.unusedVariables false
set_option linter.unusedSimpArgs false
/-- Only numbers came in: nothing of memory is handed over, so it is enough that what was there is as it was. -/
theorem post_nums {H : Type} {enc : TypeId × Value → H} {P : Program} {f : Func} {s : ChangeSpec} {apart fresh handsOn again : Bool} {W W' : World} {args : Array Value} {v : Value} {ds gs : List (DataW H)}
    (hW : DataW.Whole enc P f.params.toList s.vars apart W args.toList ds gs [])
    (hr : ∀ (b : Nat) (sp : Nat → Bool) (hd : Bool), DataW.TrodAll enc P W' b sp hd f.resultTypes.toList (v.resultList f.resultTypes.size) (s.fn H (ds ++ gs)).results [])
    (ha : ∀ sp : Nat → Bool, DataW.TrodAll enc P W' 0 sp true f.params.toList args.toList (s.fn H (ds ++ gs)).args [])
    (hv : ∀ sp : Nat → Bool, DataW.TrodVars enc P W' sp s.vars (s.fn H (ds ++ gs)).vars [])
    (hb : Below W.heap.size W W')
    (hok : ∀ (j : Nat) (t : TypeId) (r : Value), f.resultTypes[j]? = some t → (v.resultList f.resultTypes.size)[j]? = some r → Value.okWide P W' .any 0 t r) :
    s.post enc P f apart fresh handsOn again W args v W' :=
  ⟨ds, gs, [], [], [], [], hW, hr _ _ _, ha _, hv _, hb.frame _, fun _ => ⟨hok, _, _, [], ⟨[], [], trodAll_append (ha _) (hr _ _ _), hv _, rfl, fun _ _ h => absurd h List.not_mem_nil, fun _ => List.nodup_nil⟩, fun _ h => absurd h List.not_mem_nil⟩⟩
theorem mask32 (x : Nat) (hx : x < 18446744073709551616) : bits .and .u64 (x : Int) 4294967295 = ((x % 4294967296 : Nat) : Int) := by
  rw [show (4294967295 : Int) = ((2 ^ 32 - 1 : Nat) : Int) by decide, u64_and_nat _ _ hx (by decide), Nat.and_two_pow_sub_one_eq_mod]
theorem i64_and1 (n : Int) : bits .and .i64 n 1 = 0 ∨ bits .and .i64 n 1 = 1 := by
  have e : bits .and .i64 n 1 = IntKind.i64.wrap ((BitVec.ofInt 64 n &&& BitVec.ofInt 64 1).toNat : Nat) := rfl
  have k : (BitVec.ofInt 64 n &&& BitVec.ofInt 64 1).toNat < 2 := by
    rw [BitVec.toNat_and]
    exact Nat.lt_of_le_of_lt Nat.and_le_right (by decide)
  rw [e, IntKind.wrap_i64]
  generalize (BitVec.ofInt 64 n &&& BitVec.ofInt 64 1).toNat = x at k ⊢
  omega
def RetT (b : Bool) (x m : Nat) (W : World) (e : Ending) (w' : World) : Prop := e = .returned (.tuple #[.bool b, .int .i64 x, .int .u64 m]) ∧ Below W.heap.size W w'
theorem retT_mk {b b' : Bool} {x m : Nat} {y n : Int} {W w' : World} (hb : b' = b) (hx : y = x) (hm : n = m) (h : Below W.heap.size W w') : RetT b x m W (.returned (.tuple #[.bool b', .int .i64 y, .int .u64 n])) w' := ⟨by rw [hb, hx, hm], h⟩
theorem shape_4 (w : World) : Calls Try.prog 72 #[.int .i64 4] w (fun e w' => e = .returned (.tuple #[.int .i64 23, .int .i64 8]) ∧ Below w.heap.size w w') := by
  go_enter Try.func72, Try.ntmps72
  go_wp2
  go_ret2
  exact ⟨rfl, (by repeat (first | (with_reducible first | exact Below.refl _ _ | assumption | exact Nat.le_refl _ | refine Below.drew ?_ | refine Below.alloc ?_ ?_ _ | refine Below.setCell ?_ ?_ _ | refine le_alloc ?_ | refine le_set ?_ | refine le_drew ?_ | refine below_step (by assumption) ?_ ?_ | refine le_below (by assumption) ?_) | (dsimp only; omega)))⟩
theorem mask_4 (a : Nat) (ha : Hid (a < 18446744073709551616)) (w : World) : Calls Try.prog 33 #[.int .i64 4, .int .u64 a] w (RetU (a % 4294967296) w) := by
  have e0 : bits .and .u64 (a : Int) 4294967295 = ((a % 4294967296 : Nat) : Int) := mask32 a ha.out
  go_enter Try.func33, Try.ntmps33
  go_wp2
  go_ret
  exact retU_mk (by omega) (by repeat (first | (with_reducible first | exact Below.refl _ _ | assumption | exact Nat.le_refl _ | refine Below.drew ?_ | refine Below.alloc ?_ ?_ _ | refine Below.setCell ?_ ?_ _ | refine le_alloc ?_ | refine le_set ?_ | refine le_drew ?_ | refine below_step (by assumption) ?_ ?_ | refine le_below (by assumption) ?_) | (dsimp only; omega)))
theorem parts_4 (a : Nat) (ha : Hid (a < 18446744073709551616)) (w : World) : Calls Try.prog 73 #[.int .i64 4, .int .u64 a] w (RetT (decide (a / signB false % 2 = 1)) (a / fracT false % expT false) (a % fracT false) w) := by
  go_enter Try.func73, Try.ntmps73
  go_wp2_with fail
  refine (shape_4 _).mono ?_; rintro e w1 ⟨rfl, hb1⟩
  go_wp2_with fail
  refine (mask_4 a ha _).mono ?_; rintro e w2 ⟨rfl, hb2⟩
  have HA : Hid (∃ x, x = a % 4294967296 ∧ x < 4294967296 ∧ a / signB false % 2 = x / 2147483648 ∧ a / fracT false % expT false = x / 8388608 % 256 ∧ a % fracT false = x % 8388608) := by
    have h1 := ha.out
    refine ⟨_, rfl, ?_, ?_, ?_, ?_⟩
    · omega
    · show a / 2147483648 % 2 = _; omega
    · show a / 8388608 % 256 = _; omega
    · show a % 8388608 = _; omega
  obtain ⟨x, hx, hlt, h1, h2, h3⟩ := HA.out
  rw [← hx]
  have H1 := Lib.hid h1; have H2 := Lib.hid h2; have H3 := Lib.hid h3
  have HX : Hid (x < 4294967296) := hlt
  clear hx h1 h2 h3 HA hlt
  have e1 : bits .and .u64 ((x : Int) / 8388608) 255 = ((x / 8388608 % 256 : Nat) : Int) := by
    rw [show (x : Int) / 8388608 = ((x / 8388608 : Nat) : Int) by omega]
    exact and_mask (x / 8388608) 8 (by have := HX.out; omega) (by decide)
  have e2 : bits .and .u64 (x : Int) 8388607 = ((x % 8388608 : Nat) : Int) := and_mask x 23 (by have := HX.out; omega) (by decide)
  have e3 : wrap64 ((x / 8388608 % 256 : Nat) : Int) = ((x / 8388608 % 256 : Nat) : Int) := wrap64_nat _ (by omega)
  go_wp2_with fail
  go_region
  all_goals go_wp2_with fail
  all_goals refine bodyPost_ret (v := .tuple #[_, _, _]) (by simp [results, Try.results73, go_sem] <;> (first | rfl | (repeat' (first | rfl | apply And.intro)))) rfl (retT_mk ?_ ?_ ?_ (by repeat (first | (with_reducible first | exact Below.refl _ _ | assumption | exact Nat.le_refl _ | refine Below.drew ?_ | refine Below.alloc ?_ ?_ _ | refine Below.setCell ?_ ?_ _ | refine le_alloc ?_ | refine le_set ?_ | refine le_drew ?_ | refine below_step (by assumption) ?_ ?_ | refine le_below (by assumption) ?_) | (dsimp only; omega))))
  all_goals (first | (rw [H1.out, Bool.eq_iff_iff]; simp only [beq_iff_eq, decide_eq_true_eq]; omega) | (rw [H2.out]; omega) | (rw [H3.out]; omega))
theorem shape_8 (w : World) : Calls Try.prog 72 #[.int .i64 8] w (fun e w' => e = .returned (.tuple #[.int .i64 52, .int .i64 11]) ∧ Below w.heap.size w w') := by
  go_enter Try.func72, Try.ntmps72
  go_wp2
  go_ret2
  exact ⟨rfl, (by repeat (first | (with_reducible first | exact Below.refl _ _ | assumption | exact Nat.le_refl _ | refine Below.drew ?_ | refine Below.alloc ?_ ?_ _ | refine Below.setCell ?_ ?_ _ | refine le_alloc ?_ | refine le_set ?_ | refine le_drew ?_ | refine below_step (by assumption) ?_ ?_ | refine le_below (by assumption) ?_) | (dsimp only; omega)))⟩
theorem mask_8 (a : Nat) (ha : Hid (a < 18446744073709551616)) (w : World) : Calls Try.prog 33 #[.int .i64 8, .int .u64 a] w (RetU a w) := by
  skip
  go_enter Try.func33, Try.ntmps33
  go_wp2
  go_ret
  exact retU_mk (by omega) (by repeat (first | (with_reducible first | exact Below.refl _ _ | assumption | exact Nat.le_refl _ | refine Below.drew ?_ | refine Below.alloc ?_ ?_ _ | refine Below.setCell ?_ ?_ _ | refine le_alloc ?_ | refine le_set ?_ | refine le_drew ?_ | refine below_step (by assumption) ?_ ?_ | refine le_below (by assumption) ?_) | (dsimp only; omega)))
theorem parts_8 (a : Nat) (ha : Hid (a < 18446744073709551616)) (w : World) : Calls Try.prog 73 #[.int .i64 8, .int .u64 a] w (RetT (decide (a / signB true % 2 = 1)) (a / fracT true % expT true) (a % fracT true) w) := by
  go_enter Try.func73, Try.ntmps73
  go_wp2_with fail
  refine (shape_8 _).mono ?_; rintro e w1 ⟨rfl, hb1⟩
  go_wp2_with fail
  refine (mask_8 a ha _).mono ?_; rintro e w2 ⟨rfl, hb2⟩
  have HA : Hid (∃ x, x = a ∧ x < 18446744073709551616 ∧ a / signB true % 2 = x / 9223372036854775808 ∧ a / fracT true % expT true = x / 4503599627370496 % 2048 ∧ a % fracT true = x % 4503599627370496) := by
    have h1 := ha.out
    refine ⟨_, rfl, ?_, ?_, ?_, ?_⟩
    · omega
    · show a / 9223372036854775808 % 2 = _; omega
    · show a / 4503599627370496 % 2048 = _; omega
    · show a % 4503599627370496 = _; omega
  obtain ⟨x, hx, hlt, h1, h2, h3⟩ := HA.out
  rw [← hx]
  have H1 := Lib.hid h1; have H2 := Lib.hid h2; have H3 := Lib.hid h3
  have HX : Hid (x < 18446744073709551616) := hlt
  clear hx h1 h2 h3 HA hlt
  have e1 : bits .and .u64 ((x : Int) / 4503599627370496) 2047 = ((x / 4503599627370496 % 2048 : Nat) : Int) := by
    rw [show (x : Int) / 4503599627370496 = ((x / 4503599627370496 : Nat) : Int) by omega]
    exact and_mask (x / 4503599627370496) 11 (by have := HX.out; omega) (by decide)
  have e2 : bits .and .u64 (x : Int) 4503599627370495 = ((x % 4503599627370496 : Nat) : Int) := and_mask x 52 (by have := HX.out; omega) (by decide)
  have e3 : wrap64 ((x / 4503599627370496 % 2048 : Nat) : Int) = ((x / 4503599627370496 % 2048 : Nat) : Int) := wrap64_nat _ (by omega)
  go_wp2_with fail
  go_region
  all_goals go_wp2_with fail
  all_goals refine bodyPost_ret (v := .tuple #[_, _, _]) (by simp [results, Try.results73, go_sem] <;> (first | rfl | (repeat' (first | rfl | apply And.intro)))) rfl (retT_mk ?_ ?_ ?_ (by repeat (first | (with_reducible first | exact Below.refl _ _ | assumption | exact Nat.le_refl _ | refine Below.drew ?_ | refine Below.alloc ?_ ?_ _ | refine Below.setCell ?_ ?_ _ | refine le_alloc ?_ | refine le_set ?_ | refine le_drew ?_ | refine below_step (by assumption) ?_ ?_ | refine le_below (by assumption) ?_) | (dsimp only; omega))))
  all_goals (first | (rw [H1.out, Bool.eq_iff_iff]; simp only [beq_iff_eq, decide_eq_true_eq]; omega) | (rw [H2.out]; omega) | (rw [H3.out]; omega))

def nanX (d : Bool) (a : Nat) : Bool := decide (infB d < farN d a)
def sigX (d : Bool) (a : Nat) : Bool := decide (infB d < farN d a ∧ farN d a < quietB d)
def infX (d : Bool) (a : Nat) : Bool := decide (farN d a = infB d)
def zeroX (d : Bool) (a : Nat) : Bool := decide (farN d a = 0)
theorem far_parts (d : Bool) (a : Nat) : farN d a = a / fracT d % expT d * fracT d + a % fracT d ∧ a % fracT d < fracT d ∧ a / fracT d % expT d < expT d := by
  cases d
  · show a % 2147483648 = a / 8388608 % 256 * 8388608 + a % 8388608 ∧ a % 8388608 < 8388608 ∧ a / 8388608 % 256 < 256; omega
  · show a % 9223372036854775808 = a / 4503599627370496 % 2048 * 4503599627370496 + a % 4503599627370496 ∧ a % 4503599627370496 < 4503599627370496 ∧ a / 4503599627370496 % 2048 < 2048; omega
theorem nan_4 (a : Nat) (ha : Hid (a < 18446744073709551616)) (w : World) : Calls Try.prog 30 #[.int .i64 4, .int .u64 a] w (RetB (nanX false a) w) := by
  go_enter Try.func30, Try.ntmps30
  go_wp2_with fail
  refine (shape_4 _).mono ?_; rintro e w1 ⟨rfl, hb1⟩
  go_wp2_with fail
  refine (parts_4 a ha _).mono ?_; rintro e w2 ⟨rfl, hb2⟩
  have HF := Lib.hid (far_parts false a)
  generalize a / fracT false % expT false = x at *
  generalize a % fracT false = m at *
  have HG : Hid (farN false a = x * 8388608 + m ∧ m < 8388608 ∧ x < 256) := HF.out
  clear HF
  have HN : Hid (nanX false a = decide (x = 255 ∧ m ≠ 0)) := by
    show _ = _; unfold nanX; rw [HG.out.1, Bool.eq_iff_iff]; simp only [decide_eq_true_eq]; show 2139095040 < _ ↔ _; have := HG.out; omega
  by_cases h1 : x = 255
  · have g1 : ((x : Int) == 255) = true := by rw [beq_iff_eq]; omega
    by_cases h2 : m = 0
    · have g2 : ((m : Int) != 0) = false := by rw [h2]; rfl
      have E : Hid (nanX false a = false) := by show _ = _; rw [HN.out]; exact decide_eq_false (fun h => h.2 h2)
      clear h1 h2 HN
      go_wp2_with fail
      go_ret
      exact retB_mk E.out.symm (by repeat (first | (with_reducible first | exact Below.refl _ _ | assumption | exact Nat.le_refl _ | refine Below.drew ?_ | refine Below.alloc ?_ ?_ _ | refine Below.setCell ?_ ?_ _ | refine le_alloc ?_ | refine le_set ?_ | refine le_drew ?_ | refine below_step (by assumption) ?_ ?_ | refine le_below (by assumption) ?_) | (dsimp only; omega)))
    · have g2 : ((m : Int) != 0) = true := by rw [bne_iff_ne]; omega
      have E : Hid (nanX false a = true) := by show _ = _; rw [HN.out]; exact decide_eq_true ⟨h1, h2⟩
      clear h1 h2 HN
      go_wp2_with fail
      go_ret
      exact retB_mk E.out.symm (by repeat (first | (with_reducible first | exact Below.refl _ _ | assumption | exact Nat.le_refl _ | refine Below.drew ?_ | refine Below.alloc ?_ ?_ _ | refine Below.setCell ?_ ?_ _ | refine le_alloc ?_ | refine le_set ?_ | refine le_drew ?_ | refine below_step (by assumption) ?_ ?_ | refine le_below (by assumption) ?_) | (dsimp only; omega)))
  · have g1 : ((x : Int) == 255) = false := by rw [beq_eq_false_iff_ne]; omega
    have E : Hid (nanX false a = false) := by show _ = _; rw [HN.out]; exact decide_eq_false (fun h => h1 h.1)
    clear h1 HN
    go_wp2_with fail
    go_ret
    exact retB_mk E.out.symm (by repeat (first | (with_reducible first | exact Below.refl _ _ | assumption | exact Nat.le_refl _ | refine Below.drew ?_ | refine Below.alloc ?_ ?_ _ | refine Below.setCell ?_ ?_ _ | refine le_alloc ?_ | refine le_set ?_ | refine le_drew ?_ | refine below_step (by assumption) ?_ ?_ | refine le_below (by assumption) ?_) | (dsimp only; omega)))
theorem inf_4 (a : Nat) (ha : Hid (a < 18446744073709551616)) (w : World) : Calls Try.prog 51 #[.int .i64 4, .int .u64 a] w (RetB (infX false a) w) := by
  go_enter Try.func51, Try.ntmps51
  go_wp2_with fail
  refine (shape_4 _).mono ?_; rintro e w1 ⟨rfl, hb1⟩
  go_wp2_with fail
  refine (parts_4 a ha _).mono ?_; rintro e w2 ⟨rfl, hb2⟩
  have HF := Lib.hid (far_parts false a)
  generalize a / fracT false % expT false = x at *
  generalize a % fracT false = m at *
  have HG : Hid (farN false a = x * 8388608 + m ∧ m < 8388608 ∧ x < 256) := HF.out
  clear HF
  have HN : Hid (infX false a = decide (x = 255 ∧ m = 0)) := by
    show _ = _; unfold infX; rw [HG.out.1, Bool.eq_iff_iff]; simp only [decide_eq_true_eq]; show _ = 2139095040 ↔ _; have := HG.out; omega
  by_cases h1 : x = 255
  · have g1 : ((x : Int) == 255) = true := by rw [beq_iff_eq]; omega
    by_cases h2 : m = 0
    · have g2 : ((m : Int) == 0) = true := by rw [h2]; rfl
      have E : Hid (infX false a = true) := by show _ = _; rw [HN.out]; exact decide_eq_true ⟨h1, h2⟩
      clear h1 h2 HN
      go_wp2_with fail
      go_ret
      exact retB_mk E.out.symm (by repeat (first | (with_reducible first | exact Below.refl _ _ | assumption | exact Nat.le_refl _ | refine Below.drew ?_ | refine Below.alloc ?_ ?_ _ | refine Below.setCell ?_ ?_ _ | refine le_alloc ?_ | refine le_set ?_ | refine le_drew ?_ | refine below_step (by assumption) ?_ ?_ | refine le_below (by assumption) ?_) | (dsimp only; omega)))
    · have g2 : ((m : Int) == 0) = false := by rw [beq_eq_false_iff_ne]; omega
      have E : Hid (infX false a = false) := by show _ = _; rw [HN.out]; exact decide_eq_false (fun h => h2 h.2)
      clear h1 h2 HN
      go_wp2_with fail
      go_ret
      exact retB_mk E.out.symm (by repeat (first | (with_reducible first | exact Below.refl _ _ | assumption | exact Nat.le_refl _ | refine Below.drew ?_ | refine Below.alloc ?_ ?_ _ | refine Below.setCell ?_ ?_ _ | refine le_alloc ?_ | refine le_set ?_ | refine le_drew ?_ | refine below_step (by assumption) ?_ ?_ | refine le_below (by assumption) ?_) | (dsimp only; omega)))
  · have g1 : ((x : Int) == 255) = false := by rw [beq_eq_false_iff_ne]; omega
    have E : Hid (infX false a = false) := by show _ = _; rw [HN.out]; exact decide_eq_false (fun h => h1 h.1)
    clear h1 HN
    go_wp2_with fail
    go_ret
    exact retB_mk E.out.symm (by repeat (first | (with_reducible first | exact Below.refl _ _ | assumption | exact Nat.le_refl _ | refine Below.drew ?_ | refine Below.alloc ?_ ?_ _ | refine Below.setCell ?_ ?_ _ | refine le_alloc ?_ | refine le_set ?_ | refine le_drew ?_ | refine below_step (by assumption) ?_ ?_ | refine le_below (by assumption) ?_) | (dsimp only; omega)))
theorem zero_4 (a : Nat) (ha : Hid (a < 18446744073709551616)) (w : World) : Calls Try.prog 64 #[.int .i64 4, .int .u64 a] w (RetB (zeroX false a) w) := by
  go_enter Try.func64, Try.ntmps64
  go_wp2_with fail
  refine (parts_4 a ha _).mono ?_; rintro e w2 ⟨rfl, hb2⟩
  have HF := Lib.hid (far_parts false a)
  generalize a / fracT false % expT false = x at *
  generalize a % fracT false = m at *
  have HG : Hid (farN false a = x * 8388608 + m ∧ m < 8388608 ∧ x < 256) := HF.out
  clear HF
  have HN : Hid (zeroX false a = decide (x = 0 ∧ m = 0)) := by
    show _ = _; unfold zeroX; rw [HG.out.1, Bool.eq_iff_iff]; simp only [decide_eq_true_eq]; have := HG.out; omega
  by_cases h1 : x = 0
  · have g1 : ((x : Int) == 0) = true := by rw [h1]; rfl
    by_cases h2 : m = 0
    · have g2 : ((m : Int) == 0) = true := by rw [h2]; rfl
      have E : Hid (zeroX false a = true) := by show _ = _; rw [HN.out]; exact decide_eq_true ⟨h1, h2⟩
      clear h1 h2 HN
      go_wp2_with fail
      go_ret
      exact retB_mk E.out.symm (by repeat (first | (with_reducible first | exact Below.refl _ _ | assumption | exact Nat.le_refl _ | refine Below.drew ?_ | refine Below.alloc ?_ ?_ _ | refine Below.setCell ?_ ?_ _ | refine le_alloc ?_ | refine le_set ?_ | refine le_drew ?_ | refine below_step (by assumption) ?_ ?_ | refine le_below (by assumption) ?_) | (dsimp only; omega)))
    · have g2 : ((m : Int) == 0) = false := by rw [beq_eq_false_iff_ne]; omega
      have E : Hid (zeroX false a = false) := by show _ = _; rw [HN.out]; exact decide_eq_false (fun h => h2 h.2)
      clear h1 h2 HN
      go_wp2_with fail
      go_ret
      exact retB_mk E.out.symm (by repeat (first | (with_reducible first | exact Below.refl _ _ | assumption | exact Nat.le_refl _ | refine Below.drew ?_ | refine Below.alloc ?_ ?_ _ | refine Below.setCell ?_ ?_ _ | refine le_alloc ?_ | refine le_set ?_ | refine le_drew ?_ | refine below_step (by assumption) ?_ ?_ | refine le_below (by assumption) ?_) | (dsimp only; omega)))
  · have g1 : ((x : Int) == 0) = false := by rw [beq_eq_false_iff_ne]; omega
    have E : Hid (zeroX false a = false) := by show _ = _; rw [HN.out]; exact decide_eq_false (fun h => h1 h.1)
    clear h1 HN
    go_wp2_with fail
    go_ret
    exact retB_mk E.out.symm (by repeat (first | (with_reducible first | exact Below.refl _ _ | assumption | exact Nat.le_refl _ | refine Below.drew ?_ | refine Below.alloc ?_ ?_ _ | refine Below.setCell ?_ ?_ _ | refine le_alloc ?_ | refine le_set ?_ | refine le_drew ?_ | refine below_step (by assumption) ?_ ?_ | refine le_below (by assumption) ?_) | (dsimp only; omega)))
theorem minused_4 (a : Nat) (ha : Hid (a < 18446744073709551616)) (w : World) : Calls Try.prog 50 #[.int .i64 4, .int .u64 a] w (RetB (minusN false a) w) := by
  go_enter Try.func50, Try.ntmps50
  go_wp2_with fail
  refine (parts_4 a ha _).mono ?_; rintro e w2 ⟨rfl, hb2⟩
  go_wp2_with fail
  go_ret
  exact retB_mk rfl (by repeat (first | (with_reducible first | exact Below.refl _ _ | assumption | exact Nat.le_refl _ | refine Below.drew ?_ | refine Below.alloc ?_ ?_ _ | refine Below.setCell ?_ ?_ _ | refine le_alloc ?_ | refine le_set ?_ | refine le_drew ?_ | refine below_step (by assumption) ?_ ?_ | refine le_below (by assumption) ?_) | (dsimp only; omega)))
theorem sig_4 (a : Nat) (ha : Hid (a < 18446744073709551616)) (w : World) : Calls Try.prog 32 #[.int .i64 4, .int .u64 a] w (RetB (sigX false a) w) := by
  go_enter Try.func32, Try.ntmps32
  go_wp2_with fail
  refine (shape_4 _).mono ?_; rintro e w1 ⟨rfl, hb1⟩
  go_wp2_with fail
  refine (parts_4 a ha _).mono ?_; rintro e w2 ⟨rfl, hb2⟩
  have HF := Lib.hid (far_parts false a)
  generalize a / fracT false % expT false = x at *
  generalize a % fracT false = m at *
  have HG : Hid (farN false a = x * 8388608 + m ∧ m < 8388608 ∧ x < 256) := HF.out
  clear HF
  have HN : Hid (nanX false a = decide (x = 255 ∧ m ≠ 0)) := by
    show _ = _; unfold nanX; rw [HG.out.1, Bool.eq_iff_iff]; simp only [decide_eq_true_eq]; show 2139095040 < _ ↔ _; have := HG.out; omega
  have HS : Hid (sigX false a = decide (x = 255 ∧ m ≠ 0 ∧ m < 4194304)) := by
    show _ = _; unfold sigX; rw [HG.out.1, Bool.eq_iff_iff]; simp only [decide_eq_true_eq]; show 2139095040 < _ ∧ _ < 2143289344 ↔ _; have := HG.out; omega
  go_wp2_with fail
  refine (nan_4 a ha _).mono ?_; rintro e w3 ⟨rfl, hb3⟩
  cases hn : nanX false a
  · have E : Hid (sigX false a = false) := by
      show _ = _; rw [HS.out]; have h := of_decide_eq_false (HN.out.symm.trans hn); exact decide_eq_false (fun k => h ⟨k.1, k.2.1⟩)
    clear hn
    go_wp2_with fail
    go_ret
    exact retB_mk E.out.symm (by repeat (first | (with_reducible first | exact Below.refl _ _ | assumption | exact Nat.le_refl _ | refine Below.drew ?_ | refine Below.alloc ?_ ?_ _ | refine Below.setCell ?_ ?_ _ | refine le_alloc ?_ | refine le_set ?_ | refine le_drew ?_ | refine below_step (by assumption) ?_ ?_ | refine le_below (by assumption) ?_) | (dsimp only; omega)))
  · have HD := Lib.hid (of_decide_eq_true (HN.out.symm.trans hn))
    clear hn
    by_cases h2 : m < 4194304
    · have g2 : (((m : Int) / 4194304) == 0) = true := by rw [beq_iff_eq]; omega
      have E : Hid (sigX false a = true) := by show _ = _; rw [HS.out]; exact decide_eq_true ⟨HD.out.1, HD.out.2, h2⟩
      clear h2
      go_wp2_with fail
      go_ret
      exact retB_mk E.out.symm (by repeat (first | (with_reducible first | exact Below.refl _ _ | assumption | exact Nat.le_refl _ | refine Below.drew ?_ | refine Below.alloc ?_ ?_ _ | refine Below.setCell ?_ ?_ _ | refine le_alloc ?_ | refine le_set ?_ | refine le_drew ?_ | refine below_step (by assumption) ?_ ?_ | refine le_below (by assumption) ?_) | (dsimp only; omega)))
    · have g2 : (((m : Int) / 4194304) == 0) = false := by rw [beq_eq_false_iff_ne]; omega
      have E : Hid (sigX false a = false) := by show _ = _; rw [HS.out]; exact decide_eq_false (fun h => h2 h.2.2)
      clear h2
      go_wp2_with fail
      go_ret
      exact retB_mk E.out.symm (by repeat (first | (with_reducible first | exact Below.refl _ _ | assumption | exact Nat.le_refl _ | refine Below.drew ?_ | refine Below.alloc ?_ ?_ _ | refine Below.setCell ?_ ?_ _ | refine le_alloc ?_ | refine le_set ?_ | refine le_drew ?_ | refine below_step (by assumption) ?_ ?_ | refine le_below (by assumption) ?_) | (dsimp only; omega)))
theorem nought_4 (m : Bool) (w : World) : Calls Try.prog 65 #[.int .i64 4, .bool m] w (RetU (noughtV false m) w) := by
  cases m
  all_goals
    go_enter Try.func65, Try.ntmps65
    go_wp2
    go_ret
    exact retU_mk rfl (by repeat (first | (with_reducible first | exact Below.refl _ _ | assumption | exact Nat.le_refl _ | refine Below.drew ?_ | refine Below.alloc ?_ ?_ _ | refine Below.setCell ?_ ?_ _ | refine le_alloc ?_ | refine le_set ?_ | refine le_drew ?_ | refine below_step (by assumption) ?_ ?_ | refine le_below (by assumption) ?_) | (dsimp only; omega)))
theorem rquiet_4 (w : World) : Calls Try.prog 31 #[.int .i64 4] w (RetU (quietB false) w) := by
  go_enter Try.func31, Try.ntmps31
  go_wp2
  go_ret
  exact retU_mk rfl (by repeat (first | (with_reducible first | exact Below.refl _ _ | assumption | exact Nat.le_refl _ | refine Below.drew ?_ | refine Below.alloc ?_ ?_ _ | refine Below.setCell ?_ ?_ _ | refine le_alloc ?_ | refine le_set ?_ | refine le_drew ?_ | refine below_step (by assumption) ?_ ?_ | refine le_below (by assumption) ?_) | (dsimp only; omega)))
theorem right_4 (w : World) : Calls Try.prog 47 #[.int .i64 4, .int .i64 0] w (RetB true w) := by
  go_enter Try.func47, Try.ntmps47
  go_wp2
  go_ret
  exact retB_mk rfl (by repeat (first | (with_reducible first | exact Below.refl _ _ | assumption | exact Nat.le_refl _ | refine Below.drew ?_ | refine Below.alloc ?_ ?_ _ | refine Below.setCell ?_ ?_ _ | refine le_alloc ?_ | refine le_set ?_ | refine le_drew ?_ | refine below_step (by assumption) ?_ ?_ | refine le_below (by assumption) ?_) | (dsimp only; omega)))
theorem nan_8 (a : Nat) (ha : Hid (a < 18446744073709551616)) (w : World) : Calls Try.prog 30 #[.int .i64 8, .int .u64 a] w (RetB (nanX true a) w) := by
  go_enter Try.func30, Try.ntmps30
  go_wp2_with fail
  refine (shape_8 _).mono ?_; rintro e w1 ⟨rfl, hb1⟩
  go_wp2_with fail
  refine (parts_8 a ha _).mono ?_; rintro e w2 ⟨rfl, hb2⟩
  have HF := Lib.hid (far_parts true a)
  generalize a / fracT true % expT true = x at *
  generalize a % fracT true = m at *
  have HG : Hid (farN true a = x * 4503599627370496 + m ∧ m < 4503599627370496 ∧ x < 2048) := HF.out
  clear HF
  have HN : Hid (nanX true a = decide (x = 2047 ∧ m ≠ 0)) := by
    show _ = _; unfold nanX; rw [HG.out.1, Bool.eq_iff_iff]; simp only [decide_eq_true_eq]; show 9218868437227405312 < _ ↔ _; have := HG.out; omega
  by_cases h1 : x = 2047
  · have g1 : ((x : Int) == 2047) = true := by rw [beq_iff_eq]; omega
    by_cases h2 : m = 0
    · have g2 : ((m : Int) != 0) = false := by rw [h2]; rfl
      have E : Hid (nanX true a = false) := by show _ = _; rw [HN.out]; exact decide_eq_false (fun h => h.2 h2)
      clear h1 h2 HN
      go_wp2_with fail
      go_ret
      exact retB_mk E.out.symm (by repeat (first | (with_reducible first | exact Below.refl _ _ | assumption | exact Nat.le_refl _ | refine Below.drew ?_ | refine Below.alloc ?_ ?_ _ | refine Below.setCell ?_ ?_ _ | refine le_alloc ?_ | refine le_set ?_ | refine le_drew ?_ | refine below_step (by assumption) ?_ ?_ | refine le_below (by assumption) ?_) | (dsimp only; omega)))
    · have g2 : ((m : Int) != 0) = true := by rw [bne_iff_ne]; omega
      have E : Hid (nanX true a = true) := by show _ = _; rw [HN.out]; exact decide_eq_true ⟨h1, h2⟩
      clear h1 h2 HN
      go_wp2_with fail
      go_ret
      exact retB_mk E.out.symm (by repeat (first | (with_reducible first | exact Below.refl _ _ | assumption | exact Nat.le_refl _ | refine Below.drew ?_ | refine Below.alloc ?_ ?_ _ | refine Below.setCell ?_ ?_ _ | refine le_alloc ?_ | refine le_set ?_ | refine le_drew ?_ | refine below_step (by assumption) ?_ ?_ | refine le_below (by assumption) ?_) | (dsimp only; omega)))
  · have g1 : ((x : Int) == 2047) = false := by rw [beq_eq_false_iff_ne]; omega
    have E : Hid (nanX true a = false) := by show _ = _; rw [HN.out]; exact decide_eq_false (fun h => h1 h.1)
    clear h1 HN
    go_wp2_with fail
    go_ret
    exact retB_mk E.out.symm (by repeat (first | (with_reducible first | exact Below.refl _ _ | assumption | exact Nat.le_refl _ | refine Below.drew ?_ | refine Below.alloc ?_ ?_ _ | refine Below.setCell ?_ ?_ _ | refine le_alloc ?_ | refine le_set ?_ | refine le_drew ?_ | refine below_step (by assumption) ?_ ?_ | refine le_below (by assumption) ?_) | (dsimp only; omega)))
theorem inf_8 (a : Nat) (ha : Hid (a < 18446744073709551616)) (w : World) : Calls Try.prog 51 #[.int .i64 8, .int .u64 a] w (RetB (infX true a) w) := by
  go_enter Try.func51, Try.ntmps51
  go_wp2_with fail
  refine (shape_8 _).mono ?_; rintro e w1 ⟨rfl, hb1⟩
  go_wp2_with fail
  refine (parts_8 a ha _).mono ?_; rintro e w2 ⟨rfl, hb2⟩
  have HF := Lib.hid (far_parts true a)
  generalize a / fracT true % expT true = x at *
  generalize a % fracT true = m at *
  have HG : Hid (farN true a = x * 4503599627370496 + m ∧ m < 4503599627370496 ∧ x < 2048) := HF.out
  clear HF
  have HN : Hid (infX true a = decide (x = 2047 ∧ m = 0)) := by
    show _ = _; unfold infX; rw [HG.out.1, Bool.eq_iff_iff]; simp only [decide_eq_true_eq]; show _ = 9218868437227405312 ↔ _; have := HG.out; omega
  by_cases h1 : x = 2047
  · have g1 : ((x : Int) == 2047) = true := by rw [beq_iff_eq]; omega
    by_cases h2 : m = 0
    · have g2 : ((m : Int) == 0) = true := by rw [h2]; rfl
      have E : Hid (infX true a = true) := by show _ = _; rw [HN.out]; exact decide_eq_true ⟨h1, h2⟩
      clear h1 h2 HN
      go_wp2_with fail
      go_ret
      exact retB_mk E.out.symm (by repeat (first | (with_reducible first | exact Below.refl _ _ | assumption | exact Nat.le_refl _ | refine Below.drew ?_ | refine Below.alloc ?_ ?_ _ | refine Below.setCell ?_ ?_ _ | refine le_alloc ?_ | refine le_set ?_ | refine le_drew ?_ | refine below_step (by assumption) ?_ ?_ | refine le_below (by assumption) ?_) | (dsimp only; omega)))
    · have g2 : ((m : Int) == 0) = false := by rw [beq_eq_false_iff_ne]; omega
      have E : Hid (infX true a = false) := by show _ = _; rw [HN.out]; exact decide_eq_false (fun h => h2 h.2)
      clear h1 h2 HN
      go_wp2_with fail
      go_ret
      exact retB_mk E.out.symm (by repeat (first | (with_reducible first | exact Below.refl _ _ | assumption | exact Nat.le_refl _ | refine Below.drew ?_ | refine Below.alloc ?_ ?_ _ | refine Below.setCell ?_ ?_ _ | refine le_alloc ?_ | refine le_set ?_ | refine le_drew ?_ | refine below_step (by assumption) ?_ ?_ | refine le_below (by assumption) ?_) | (dsimp only; omega)))
  · have g1 : ((x : Int) == 2047) = false := by rw [beq_eq_false_iff_ne]; omega
    have E : Hid (infX true a = false) := by show _ = _; rw [HN.out]; exact decide_eq_false (fun h => h1 h.1)
    clear h1 HN
    go_wp2_with fail
    go_ret
    exact retB_mk E.out.symm (by repeat (first | (with_reducible first | exact Below.refl _ _ | assumption | exact Nat.le_refl _ | refine Below.drew ?_ | refine Below.alloc ?_ ?_ _ | refine Below.setCell ?_ ?_ _ | refine le_alloc ?_ | refine le_set ?_ | refine le_drew ?_ | refine below_step (by assumption) ?_ ?_ | refine le_below (by assumption) ?_) | (dsimp only; omega)))
theorem zero_8 (a : Nat) (ha : Hid (a < 18446744073709551616)) (w : World) : Calls Try.prog 64 #[.int .i64 8, .int .u64 a] w (RetB (zeroX true a) w) := by
  go_enter Try.func64, Try.ntmps64
  go_wp2_with fail
  refine (parts_8 a ha _).mono ?_; rintro e w2 ⟨rfl, hb2⟩
  have HF := Lib.hid (far_parts true a)
  generalize a / fracT true % expT true = x at *
  generalize a % fracT true = m at *
  have HG : Hid (farN true a = x * 4503599627370496 + m ∧ m < 4503599627370496 ∧ x < 2048) := HF.out
  clear HF
  have HN : Hid (zeroX true a = decide (x = 0 ∧ m = 0)) := by
    show _ = _; unfold zeroX; rw [HG.out.1, Bool.eq_iff_iff]; simp only [decide_eq_true_eq]; have := HG.out; omega
  by_cases h1 : x = 0
  · have g1 : ((x : Int) == 0) = true := by rw [h1]; rfl
    by_cases h2 : m = 0
    · have g2 : ((m : Int) == 0) = true := by rw [h2]; rfl
      have E : Hid (zeroX true a = true) := by show _ = _; rw [HN.out]; exact decide_eq_true ⟨h1, h2⟩
      clear h1 h2 HN
      go_wp2_with fail
      go_ret
      exact retB_mk E.out.symm (by repeat (first | (with_reducible first | exact Below.refl _ _ | assumption | exact Nat.le_refl _ | refine Below.drew ?_ | refine Below.alloc ?_ ?_ _ | refine Below.setCell ?_ ?_ _ | refine le_alloc ?_ | refine le_set ?_ | refine le_drew ?_ | refine below_step (by assumption) ?_ ?_ | refine le_below (by assumption) ?_) | (dsimp only; omega)))
    · have g2 : ((m : Int) == 0) = false := by rw [beq_eq_false_iff_ne]; omega
      have E : Hid (zeroX true a = false) := by show _ = _; rw [HN.out]; exact decide_eq_false (fun h => h2 h.2)
      clear h1 h2 HN
      go_wp2_with fail
      go_ret
      exact retB_mk E.out.symm (by repeat (first | (with_reducible first | exact Below.refl _ _ | assumption | exact Nat.le_refl _ | refine Below.drew ?_ | refine Below.alloc ?_ ?_ _ | refine Below.setCell ?_ ?_ _ | refine le_alloc ?_ | refine le_set ?_ | refine le_drew ?_ | refine below_step (by assumption) ?_ ?_ | refine le_below (by assumption) ?_) | (dsimp only; omega)))
  · have g1 : ((x : Int) == 0) = false := by rw [beq_eq_false_iff_ne]; omega
    have E : Hid (zeroX true a = false) := by show _ = _; rw [HN.out]; exact decide_eq_false (fun h => h1 h.1)
    clear h1 HN
    go_wp2_with fail
    go_ret
    exact retB_mk E.out.symm (by repeat (first | (with_reducible first | exact Below.refl _ _ | assumption | exact Nat.le_refl _ | refine Below.drew ?_ | refine Below.alloc ?_ ?_ _ | refine Below.setCell ?_ ?_ _ | refine le_alloc ?_ | refine le_set ?_ | refine le_drew ?_ | refine below_step (by assumption) ?_ ?_ | refine le_below (by assumption) ?_) | (dsimp only; omega)))
theorem minused_8 (a : Nat) (ha : Hid (a < 18446744073709551616)) (w : World) : Calls Try.prog 50 #[.int .i64 8, .int .u64 a] w (RetB (minusN true a) w) := by
  go_enter Try.func50, Try.ntmps50
  go_wp2_with fail
  refine (parts_8 a ha _).mono ?_; rintro e w2 ⟨rfl, hb2⟩
  go_wp2_with fail
  go_ret
  exact retB_mk rfl (by repeat (first | (with_reducible first | exact Below.refl _ _ | assumption | exact Nat.le_refl _ | refine Below.drew ?_ | refine Below.alloc ?_ ?_ _ | refine Below.setCell ?_ ?_ _ | refine le_alloc ?_ | refine le_set ?_ | refine le_drew ?_ | refine below_step (by assumption) ?_ ?_ | refine le_below (by assumption) ?_) | (dsimp only; omega)))
theorem sig_8 (a : Nat) (ha : Hid (a < 18446744073709551616)) (w : World) : Calls Try.prog 32 #[.int .i64 8, .int .u64 a] w (RetB (sigX true a) w) := by
  go_enter Try.func32, Try.ntmps32
  go_wp2_with fail
  refine (shape_8 _).mono ?_; rintro e w1 ⟨rfl, hb1⟩
  go_wp2_with fail
  refine (parts_8 a ha _).mono ?_; rintro e w2 ⟨rfl, hb2⟩
  have HF := Lib.hid (far_parts true a)
  generalize a / fracT true % expT true = x at *
  generalize a % fracT true = m at *
  have HG : Hid (farN true a = x * 4503599627370496 + m ∧ m < 4503599627370496 ∧ x < 2048) := HF.out
  clear HF
  have HN : Hid (nanX true a = decide (x = 2047 ∧ m ≠ 0)) := by
    show _ = _; unfold nanX; rw [HG.out.1, Bool.eq_iff_iff]; simp only [decide_eq_true_eq]; show 9218868437227405312 < _ ↔ _; have := HG.out; omega
  have HS : Hid (sigX true a = decide (x = 2047 ∧ m ≠ 0 ∧ m < 2251799813685248)) := by
    show _ = _; unfold sigX; rw [HG.out.1, Bool.eq_iff_iff]; simp only [decide_eq_true_eq]; show 9218868437227405312 < _ ∧ _ < 9221120237041090560 ↔ _; have := HG.out; omega
  go_wp2_with fail
  refine (nan_8 a ha _).mono ?_; rintro e w3 ⟨rfl, hb3⟩
  cases hn : nanX true a
  · have E : Hid (sigX true a = false) := by
      show _ = _; rw [HS.out]; have h := of_decide_eq_false (HN.out.symm.trans hn); exact decide_eq_false (fun k => h ⟨k.1, k.2.1⟩)
    clear hn
    go_wp2_with fail
    go_ret
    exact retB_mk E.out.symm (by repeat (first | (with_reducible first | exact Below.refl _ _ | assumption | exact Nat.le_refl _ | refine Below.drew ?_ | refine Below.alloc ?_ ?_ _ | refine Below.setCell ?_ ?_ _ | refine le_alloc ?_ | refine le_set ?_ | refine le_drew ?_ | refine below_step (by assumption) ?_ ?_ | refine le_below (by assumption) ?_) | (dsimp only; omega)))
  · have HD := Lib.hid (of_decide_eq_true (HN.out.symm.trans hn))
    clear hn
    by_cases h2 : m < 2251799813685248
    · have g2 : (((m : Int) / 2251799813685248) == 0) = true := by rw [beq_iff_eq]; omega
      have E : Hid (sigX true a = true) := by show _ = _; rw [HS.out]; exact decide_eq_true ⟨HD.out.1, HD.out.2, h2⟩
      clear h2
      go_wp2_with fail
      go_ret
      exact retB_mk E.out.symm (by repeat (first | (with_reducible first | exact Below.refl _ _ | assumption | exact Nat.le_refl _ | refine Below.drew ?_ | refine Below.alloc ?_ ?_ _ | refine Below.setCell ?_ ?_ _ | refine le_alloc ?_ | refine le_set ?_ | refine le_drew ?_ | refine below_step (by assumption) ?_ ?_ | refine le_below (by assumption) ?_) | (dsimp only; omega)))
    · have g2 : (((m : Int) / 2251799813685248) == 0) = false := by rw [beq_eq_false_iff_ne]; omega
      have E : Hid (sigX true a = false) := by show _ = _; rw [HS.out]; exact decide_eq_false (fun h => h2 h.2.2)
      clear h2
      go_wp2_with fail
      go_ret
      exact retB_mk E.out.symm (by repeat (first | (with_reducible first | exact Below.refl _ _ | assumption | exact Nat.le_refl _ | refine Below.drew ?_ | refine Below.alloc ?_ ?_ _ | refine Below.setCell ?_ ?_ _ | refine le_alloc ?_ | refine le_set ?_ | refine le_drew ?_ | refine below_step (by assumption) ?_ ?_ | refine le_below (by assumption) ?_) | (dsimp only; omega)))
theorem nought_8 (m : Bool) (w : World) : Calls Try.prog 65 #[.int .i64 8, .bool m] w (RetU (noughtV true m) w) := by
  cases m
  all_goals
    go_enter Try.func65, Try.ntmps65
    go_wp2
    go_ret
    exact retU_mk rfl (by repeat (first | (with_reducible first | exact Below.refl _ _ | assumption | exact Nat.le_refl _ | refine Below.drew ?_ | refine Below.alloc ?_ ?_ _ | refine Below.setCell ?_ ?_ _ | refine le_alloc ?_ | refine le_set ?_ | refine le_drew ?_ | refine below_step (by assumption) ?_ ?_ | refine le_below (by assumption) ?_) | (dsimp only; omega)))
theorem rquiet_8 (w : World) : Calls Try.prog 31 #[.int .i64 8] w (RetU (quietB true) w) := by
  go_enter Try.func31, Try.ntmps31
  go_wp2
  go_ret
  exact retU_mk rfl (by repeat (first | (with_reducible first | exact Below.refl _ _ | assumption | exact Nat.le_refl _ | refine Below.drew ?_ | refine Below.alloc ?_ ?_ _ | refine Below.setCell ?_ ?_ _ | refine le_alloc ?_ | refine le_set ?_ | refine le_drew ?_ | refine below_step (by assumption) ?_ ?_ | refine le_below (by assumption) ?_) | (dsimp only; omega)))
theorem right_8 (w : World) : Calls Try.prog 47 #[.int .i64 8, .int .i64 0] w (RetB true w) := by
  go_enter Try.func47, Try.ntmps47
  go_wp2
  go_ret
  exact retB_mk rfl (by repeat (first | (with_reducible first | exact Below.refl _ _ | assumption | exact Nat.le_refl _ | refine Below.drew ?_ | refine Below.alloc ?_ ?_ _ | refine Below.setCell ?_ ?_ _ | refine le_alloc ?_ | refine le_set ?_ | refine le_drew ?_ | refine below_step (by assumption) ?_ ?_ | refine le_below (by assumption) ?_) | (dsimp only; omega)))
theorem right_no (sz : Int) (h4 : (sz == 4) = false) (h8 : (sz == 8) = false) (w : World) : Calls Try.prog 47 #[.int .i64 sz, .int .i64 0] w (RetB false w) := by
  go_enter Try.func47, Try.ntmps47
  go_wp2
  go_ret
  exact retB_mk rfl (by repeat (first | (with_reducible first | exact Below.refl _ _ | assumption | exact Nat.le_refl _ | refine Below.drew ?_ | refine Below.alloc ?_ ?_ _ | refine Below.setCell ?_ ?_ _ | refine le_alloc ?_ | refine le_set ?_ | refine le_drew ?_ | refine below_step (by assumption) ?_ ?_ | refine le_below (by assumption) ?_) | (dsimp only; omega)))
theorem rmask_c (sz : Int) (d : Bool) (hsz : Hid (SzOk sz d)) (a : Nat) (ha : Hid (a < 18446744073709551616)) (w : World) : Calls Try.prog 33 #[.int .i64 sz, .int .u64 a] w (RetU (maskN d a) w) := by
  have hs : sz = if d then 8 else 4 := hsz.out
  subst hs
  cases d
  · have e : maskN false a = a % 4294967296 := by show a % 2147483648 + a / 2147483648 % 2 * 2147483648 = _; omega
    rw [e]; exact mask_4 a ha w
  · have e : maskN true a = a := by have := ha.out; show a % 9223372036854775808 + a / 9223372036854775808 % 2 * 9223372036854775808 = _; omega
    rw [e]; exact mask_8 a ha w
theorem rnan_c (sz : Int) (d : Bool) (hsz : Hid (SzOk sz d)) (a : Nat) (ha : Hid (a < 18446744073709551616)) (w : World) : Calls Try.prog 30 #[.int .i64 sz, .int .u64 a] w (RetB (nanX d a) w) := by
  have hs : sz = if d then 8 else 4 := hsz.out
  subst hs
  cases d
  · exact nan_4 a ha w
  · exact nan_8 a ha w
theorem rinf_c (sz : Int) (d : Bool) (hsz : Hid (SzOk sz d)) (a : Nat) (ha : Hid (a < 18446744073709551616)) (w : World) : Calls Try.prog 51 #[.int .i64 sz, .int .u64 a] w (RetB (infX d a) w) := by
  have hs : sz = if d then 8 else 4 := hsz.out
  subst hs
  cases d
  · exact inf_4 a ha w
  · exact inf_8 a ha w
theorem rzero_c (sz : Int) (d : Bool) (hsz : Hid (SzOk sz d)) (a : Nat) (ha : Hid (a < 18446744073709551616)) (w : World) : Calls Try.prog 64 #[.int .i64 sz, .int .u64 a] w (RetB (zeroX d a) w) := by
  have hs : sz = if d then 8 else 4 := hsz.out
  subst hs
  cases d
  · exact zero_4 a ha w
  · exact zero_8 a ha w
theorem rsig_c (sz : Int) (d : Bool) (hsz : Hid (SzOk sz d)) (a : Nat) (ha : Hid (a < 18446744073709551616)) (w : World) : Calls Try.prog 32 #[.int .i64 sz, .int .u64 a] w (RetB (sigX d a) w) := by
  have hs : sz = if d then 8 else 4 := hsz.out
  subst hs
  cases d
  · exact sig_4 a ha w
  · exact sig_8 a ha w
theorem rminus_c (sz : Int) (d : Bool) (hsz : Hid (SzOk sz d)) (a : Nat) (ha : Hid (a < 18446744073709551616)) (w : World) : Calls Try.prog 50 #[.int .i64 sz, .int .u64 a] w (RetB (minusN d a) w) := by
  have hs : sz = if d then 8 else 4 := hsz.out
  subst hs
  cases d
  · exact minused_4 a ha w
  · exact minused_8 a ha w
theorem rnought_c (sz : Int) (d : Bool) (hsz : Hid (SzOk sz d)) (m : Bool) (w : World) : Calls Try.prog 65 #[.int .i64 sz, .bool m] w (RetU (noughtV d m) w) := by
  have hs : sz = if d then 8 else 4 := hsz.out
  subst hs
  cases d
  · exact nought_4 m w
  · exact nought_8 m w
theorem rquiet_c (sz : Int) (d : Bool) (hsz : Hid (SzOk sz d))  (w : World) : Calls Try.prog 31 #[.int .i64 sz] w (RetU (quietB d) w) := by
  have hs : sz = if d then 8 else 4 := hsz.out
  subst hs
  cases d
  · exact rquiet_4 w
  · exact rquiet_8 w
theorem rright_c (sz : Int) (d : Bool) (hsz : Hid (SzOk sz d))  (w : World) : Calls Try.prog 47 #[.int .i64 sz, .int .i64 0] w (RetB true w) := by
  have hs : sz = if d then 8 else 4 := hsz.out
  subst hs
  cases d
  · exact right_4 w
  · exact right_8 w
end Go.Proofs.Yteinjalnkhfecaa
