/- The contracts of the law's small helpers, and of the reference's view of a float; the row's last step where only numbers came in. -/
import Derived.Test.YthjdeopfbjmmeaaF1
import Derived.Test.YthjdeopfbjmmeaaRows
import Derived.ProofKit
import Derived.OpenShut
import Derived.ChangeSame
namespace Go.Proofs.Ythjdeopfbjmmeaa
open Go.ChangeShapes Go.WideShapes Go.ChangeAt Go.RowKit
set_option linter.unusedVariables false
set_option linter.unusedSimpArgs false
/-- Only numbers came in: nothing of memory is handed over, so it is enough that what was there is as it was. -/
theorem post_nums {H : Type} {enc : TypeId × Value → H} {P : Program} {f : Func} {s : ChangeSpec} {apart fresh handsOn again : Bool} {W W' : World} {args : Array Value} {v : Value} {ds gs : List (DataW H)}
    (hW : DataW.Whole enc P f.params.toList s.vars apart W args.toList ds gs [])
    (hr : ∀ (b : Nat) (sp : Nat → Bool) (hd : Bool), DataW.TrodAll enc P W' b sp hd f.resultTypes.toList (v.resultList f.resultTypes.size) (s.fn H (ds ++ gs)).results [])
    (ha : ∀ sp : Nat → Bool, DataW.TrodAll enc P W' 0 sp true f.params.toList args.toList (s.fn H (ds ++ gs)).args [])
    (hv : ∀ sp : Nat → Bool, DataW.TrodVars enc P W' sp s.vars (s.fn H (ds ++ gs)).vars [])
    (hb : Below W.heap.size W W')
    (hok : ∀ (j : Nat) (t : TypeId) (r : Value), f.resultTypes[j]? = some t → (v.resultList f.resultTypes.size)[j]? = some r → Value.okWide P W' .any 0 t r) :
    s.post enc P f apart fresh handsOn again W args v W' :=
  ⟨ds, gs, [], [], [], [], hW, hr _ _ _, ha _, hv _, hb.frame _, fun _ => ⟨hok, _, _, [], ⟨[], [], trodAll_append (ha _) (hr _ _ _), hv _, rfl, fun _ _ h => absurd h List.not_mem_nil, fun _ => List.nodup_nil⟩, fun _ h => absurd h List.not_mem_nil⟩⟩
theorem i64_and1 (n : Int) : bits .and .i64 n 1 = 0 ∨ bits .and .i64 n 1 = 1 := by
  have e : bits .and .i64 n 1 = IntKind.i64.wrap ((BitVec.ofInt 64 n &&& BitVec.ofInt 64 1).toNat : Nat) := rfl
  have k : (BitVec.ofInt 64 n &&& BitVec.ofInt 64 1).toNat < 2 := by
    rw [BitVec.toNat_and]
    exact Nat.lt_of_le_of_lt Nat.and_le_right (by decide)
  rw [e, IntKind.wrap_i64]
  generalize (BitVec.ofInt 64 n &&& BitVec.ofInt 64 1).toNat = x at k ⊢
  omega
theorem size_4 (n : Int) (h : bits .and .i64 n 1 = 0) (w : World) : Calls Try.prog 25 #[.int .i64 n] w (RetI 4 w) := by
  go_enter Try.func25, Try.ntmps25
  go_wp2
  go_ret
  exact retI_mk rfl (by repeat (first | (with_reducible first | exact Below.refl _ _ | assumption | exact Nat.le_refl _ | refine Below.drew ?_ | refine Below.alloc ?_ ?_ _ | refine Below.setCell ?_ ?_ _ | refine le_alloc ?_ | refine le_set ?_ | refine le_drew ?_ | refine below_step (by assumption) ?_ ?_ | refine le_below (by assumption) ?_) | (dsimp only; omega)))
theorem size_8 (n : Int) (h : bits .and .i64 n 1 = 1) (w : World) : Calls Try.prog 25 #[.int .i64 n] w (RetI 8 w) := by
  go_enter Try.func25, Try.ntmps25
  go_wp2
  go_ret
  exact retI_mk rfl (by repeat (first | (with_reducible first | exact Below.refl _ _ | assumption | exact Nat.le_refl _ | refine Below.drew ?_ | refine Below.alloc ?_ ?_ _ | refine Below.setCell ?_ ?_ _ | refine le_alloc ?_ | refine le_set ?_ | refine le_drew ?_ | refine below_step (by assumption) ?_ ?_ | refine le_below (by assumption) ?_) | (dsimp only; omega)))
def RetM (W : World) (e : Ending) (w' : World) : Prop := ∃ rm : Int, e = .returned (.int .i64 rm) ∧ 0 ≤ rm ∧ rm < 5 ∧ Below W.heap.size W w'
theorem mode_c (n : Int) (w : World) : Calls Try.prog 26 #[.int .i64 n] w (RetM w) := by
  go_enter Try.func26, Try.ntmps26
  go_wp2
  go_ret
  have h0 : 0 ≤ IntKind.u64.wrap n := by rw [IntKind.wrap_u64]; omega
  have e : (IntKind.u64.wrap n).tmod 5 = IntKind.u64.wrap n % 5 := Int.tmod_eq_emod_of_nonneg h0
  refine ⟨wrap64 ((IntKind.u64.wrap n).tmod 5), rfl, ?_, ?_, (by repeat (first | (with_reducible first | exact Below.refl _ _ | assumption | exact Nat.le_refl _ | refine Below.drew ?_ | refine Below.alloc ?_ ?_ _ | refine Below.setCell ?_ ?_ _ | refine le_alloc ?_ | refine le_set ?_ | refine le_drew ?_ | refine below_step (by assumption) ?_ ?_ | refine le_below (by assumption) ?_) | (dsimp only; omega)))⟩
  · rw [e, IntWalk.wrap64_in _ ⟨by omega, by omega⟩]; omega
  · rw [e, IntWalk.wrap64_in _ ⟨by omega, by omega⟩]; omega
def RetT (b : Bool) (x m : Nat) (W : World) (e : Ending) (w' : World) : Prop := e = .returned (.tuple #[.bool b, .int .i64 x, .int .u64 m]) ∧ Below W.heap.size W w'
theorem retT_mk {b b' : Bool} {x m : Nat} {y n : Int} {W w' : World} (hb : b' = b) (hx : y = x) (hm : n = m) (h : Below W.heap.size W w') : RetT b x m W (.returned (.tuple #[.bool b', .int .i64 y, .int .u64 n])) w' := ⟨by rw [hb, hx, hm], h⟩
theorem shape_4 (w : World) : Calls Try.prog 59 #[.int .i64 4] w (fun e w' => e = .returned (.tuple #[.int .i64 23, .int .i64 8]) ∧ Below w.heap.size w w') := by
  go_enter Try.func59, Try.ntmps59
  go_wp2
  go_ret2
  exact ⟨rfl, (by repeat (first | (with_reducible first | exact Below.refl _ _ | assumption | exact Nat.le_refl _ | refine Below.drew ?_ | refine Below.alloc ?_ ?_ _ | refine Below.setCell ?_ ?_ _ | refine le_alloc ?_ | refine le_set ?_ | refine le_drew ?_ | refine below_step (by assumption) ?_ ?_ | refine le_below (by assumption) ?_) | (dsimp only; omega)))⟩
theorem mask_4 (a : Nat) (ha : Hid (a < 18446744073709551616)) (w : World) : Calls Try.prog 29 #[.int .i64 4, .int .u64 a] w (RetU (a % 4294967296) w) := by
  have e0 : bits .and .u64 (a : Int) 4294967295 = ((a % 4294967296 : Nat) : Int) := mask32 a ha.out
  go_enter Try.func29, Try.ntmps29
  go_wp2
  go_ret
  exact retU_mk (by omega) (by repeat (first | (with_reducible first | exact Below.refl _ _ | assumption | exact Nat.le_refl _ | refine Below.drew ?_ | refine Below.alloc ?_ ?_ _ | refine Below.setCell ?_ ?_ _ | refine le_alloc ?_ | refine le_set ?_ | refine le_drew ?_ | refine below_step (by assumption) ?_ ?_ | refine le_below (by assumption) ?_) | (dsimp only; omega)))
theorem parts_4 (a : Nat) (ha : Hid (a < 18446744073709551616)) (w : World) : Calls Try.prog 60 #[.int .i64 4, .int .u64 a] w (RetT (decide (a / signB false % 2 = 1)) (a / fracT false % expT false) (a % fracT false) w) := by
  go_enter Try.func60, Try.ntmps60
  go_wp2_with fail
  refine (shape_4 _).mono ?_; rintro e w1 ⟨rfl, hb1⟩
  go_wp2_with fail
  refine (mask_4 a ha _).mono ?_; rintro e w2 ⟨rfl, hb2⟩
  have HA : Hid (∃ x, x = a % 4294967296 ∧ x < 4294967296 ∧ a / signB false % 2 = x / 2147483648 ∧ a / fracT false % expT false = x / 8388608 % 256 ∧ a % fracT false = x % 8388608) := by
    have h1 := ha.out
    refine ⟨_, rfl, ?_, ?_, ?_, ?_⟩
    · omega
    · show a / 2147483648 % 2 = _; omega
    · show a / 8388608 % 256 = _; omega
    · show a % 8388608 = _; omega
  obtain ⟨x, hx, hlt, h1, h2, h3⟩ := HA.out
  rw [← hx]
  have H1 := Lib.hid h1; have H2 := Lib.hid h2; have H3 := Lib.hid h3
  have HX : Hid (x < 4294967296) := hlt
  clear hx h1 h2 h3 HA hlt
  have e1 : bits .and .u64 ((x : Int) / 8388608) 255 = ((x / 8388608 % 256 : Nat) : Int) := by
    rw [show (x : Int) / 8388608 = ((x / 8388608 : Nat) : Int) by omega]
    exact and_mask (x / 8388608) 8 (by have := HX.out; omega) (by decide)
  have e2 : bits .and .u64 (x : Int) 8388607 = ((x % 8388608 : Nat) : Int) := and_mask x 23 (by have := HX.out; omega) (by decide)
  have e3 : wrap64 ((x / 8388608 % 256 : Nat) : Int) = ((x / 8388608 % 256 : Nat) : Int) := wrap64_nat _ (by omega)
  go_wp2_with fail
  go_region
  all_goals go_wp2_with fail
  all_goals refine bodyPost_ret (v := .tuple #[_, _, _]) (by simp [results, Try.results60, go_sem] <;> (first | rfl | (repeat' (first | rfl | apply And.intro)))) rfl (retT_mk ?_ ?_ ?_ (by repeat (first | (with_reducible first | exact Below.refl _ _ | assumption | exact Nat.le_refl _ | refine Below.drew ?_ | refine Below.alloc ?_ ?_ _ | refine Below.setCell ?_ ?_ _ | refine le_alloc ?_ | refine le_set ?_ | refine le_drew ?_ | refine below_step (by assumption) ?_ ?_ | refine le_below (by assumption) ?_) | (dsimp only; omega))))
  all_goals (first | (rw [H1.out, Bool.eq_iff_iff]; simp only [beq_iff_eq, decide_eq_true_eq]; omega) | (rw [H2.out]; omega) | (rw [H3.out]; omega))
theorem shape_8 (w : World) : Calls Try.prog 59 #[.int .i64 8] w (fun e w' => e = .returned (.tuple #[.int .i64 52, .int .i64 11]) ∧ Below w.heap.size w w') := by
  go_enter Try.func59, Try.ntmps59
  go_wp2
  go_ret2
  exact ⟨rfl, (by repeat (first | (with_reducible first | exact Below.refl _ _ | assumption | exact Nat.le_refl _ | refine Below.drew ?_ | refine Below.alloc ?_ ?_ _ | refine Below.setCell ?_ ?_ _ | refine le_alloc ?_ | refine le_set ?_ | refine le_drew ?_ | refine below_step (by assumption) ?_ ?_ | refine le_below (by assumption) ?_) | (dsimp only; omega)))⟩
theorem mask_8 (a : Nat) (ha : Hid (a < 18446744073709551616)) (w : World) : Calls Try.prog 29 #[.int .i64 8, .int .u64 a] w (RetU a w) := by
  skip
  go_enter Try.func29, Try.ntmps29
  go_wp2
  go_ret
  exact retU_mk (by omega) (by repeat (first | (with_reducible first | exact Below.refl _ _ | assumption | exact Nat.le_refl _ | refine Below.drew ?_ | refine Below.alloc ?_ ?_ _ | refine Below.setCell ?_ ?_ _ | refine le_alloc ?_ | refine le_set ?_ | refine le_drew ?_ | refine below_step (by assumption) ?_ ?_ | refine le_below (by assumption) ?_) | (dsimp only; omega)))
theorem parts_8 (a : Nat) (ha : Hid (a < 18446744073709551616)) (w : World) : Calls Try.prog 60 #[.int .i64 8, .int .u64 a] w (RetT (decide (a / signB true % 2 = 1)) (a / fracT true % expT true) (a % fracT true) w) := by
  go_enter Try.func60, Try.ntmps60
  go_wp2_with fail
  refine (shape_8 _).mono ?_; rintro e w1 ⟨rfl, hb1⟩
  go_wp2_with fail
  refine (mask_8 a ha _).mono ?_; rintro e w2 ⟨rfl, hb2⟩
  have HA : Hid (∃ x, x = a ∧ x < 18446744073709551616 ∧ a / signB true % 2 = x / 9223372036854775808 ∧ a / fracT true % expT true = x / 4503599627370496 % 2048 ∧ a % fracT true = x % 4503599627370496) := by
    have h1 := ha.out
    refine ⟨_, rfl, ?_, ?_, ?_, ?_⟩
    · omega
    · show a / 9223372036854775808 % 2 = _; omega
    · show a / 4503599627370496 % 2048 = _; omega
    · show a % 4503599627370496 = _; omega
  obtain ⟨x, hx, hlt, h1, h2, h3⟩ := HA.out
  rw [← hx]
  have H1 := Lib.hid h1; have H2 := Lib.hid h2; have H3 := Lib.hid h3
  have HX : Hid (x < 18446744073709551616) := hlt
  clear hx h1 h2 h3 HA hlt
  have e1 : bits .and .u64 ((x : Int) / 4503599627370496) 2047 = ((x / 4503599627370496 % 2048 : Nat) : Int) := by
    rw [show (x : Int) / 4503599627370496 = ((x / 4503599627370496 : Nat) : Int) by omega]
    exact and_mask (x / 4503599627370496) 11 (by have := HX.out; omega) (by decide)
  have e2 : bits .and .u64 (x : Int) 4503599627370495 = ((x % 4503599627370496 : Nat) : Int) := and_mask x 52 (by have := HX.out; omega) (by decide)
  have e3 : wrap64 ((x / 4503599627370496 % 2048 : Nat) : Int) = ((x / 4503599627370496 % 2048 : Nat) : Int) := wrap64_nat _ (by omega)
  go_wp2_with fail
  go_region
  all_goals go_wp2_with fail
  all_goals refine bodyPost_ret (v := .tuple #[_, _, _]) (by simp [results, Try.results60, go_sem] <;> (first | rfl | (repeat' (first | rfl | apply And.intro)))) rfl (retT_mk ?_ ?_ ?_ (by repeat (first | (with_reducible first | exact Below.refl _ _ | assumption | exact Nat.le_refl _ | refine Below.drew ?_ | refine Below.alloc ?_ ?_ _ | refine Below.setCell ?_ ?_ _ | refine le_alloc ?_ | refine le_set ?_ | refine le_drew ?_ | refine below_step (by assumption) ?_ ?_ | refine le_below (by assumption) ?_) | (dsimp only; omega))))
  all_goals (first | (rw [H1.out, Bool.eq_iff_iff]; simp only [beq_iff_eq, decide_eq_true_eq]; omega) | (rw [H2.out]; omega) | (rw [H3.out]; omega))
end Go.Proofs.Ythjdeopfbjmmeaa
