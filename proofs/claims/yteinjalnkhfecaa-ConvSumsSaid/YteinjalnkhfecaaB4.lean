/- The contracts of Class, Sign, Box and Unbox. -/
import Derived.Test.YteinjalnkhfecaaB3
namespace Go.Proofs.Yteinjalnkhfecaa
open Go.ChangeShapes Go.WideShapes Go.ChangeAt Go.RowKit
set_option linter.unusedVariables false
set_option linter.unusedSimpArgs false
def SzOk (sz : Int) (d : Bool) : Prop := sz = if d then 8 else 4
theorem layoutOf_s (sz : Int) (d : Bool) (hsz : Hid (SzOk sz d)) (w : World) :
    Calls Try.prog 37 #[.int .i64 sz] w (fun e w' => ∃ E F : Int, e = .returned (.tuple #[.agg #[.int .i64 E, .int .i64 F], .bool true]) ∧ Hid (Lay d E F) ∧ Below w.heap.size w w') := by
  have hs : sz = if d then 8 else 4 := hsz.out
  subst hs
  cases d
  · simp only [Bool.false_eq_true, if_false]
    go_enter Try.func37, Try.ntmps37
    go_wp2
    exact bodyPost_ret (v := .tuple #[.agg #[_, _], .bool true]) (by simp [results, Try.results37, go_sem] <;> (first | rfl | (repeat' (first | rfl | apply And.intro)))) rfl ⟨8, 23, rfl, .inl ⟨rfl, rfl, rfl⟩, (by repeat (first | (with_reducible first | exact Below.refl _ _ | assumption | exact Nat.le_refl _ | refine Below.drew ?_ | refine Below.alloc ?_ ?_ _ | refine Below.setCell ?_ ?_ _ | refine le_alloc ?_ | refine le_set ?_ | refine le_drew ?_ | refine below_step (by assumption) ?_ ?_ | refine le_below (by assumption) ?_) | (dsimp only; omega)))⟩
  · simp only [if_true]
    go_enter Try.func37, Try.ntmps37
    go_wp2
    exact bodyPost_ret (v := .tuple #[.agg #[_, _], .bool true]) (by simp [results, Try.results37, go_sem] <;> (first | rfl | (repeat' (first | rfl | apply And.intro)))) rfl ⟨11, 52, rfl, .inr ⟨rfl, rfl, rfl⟩, (by repeat (first | (with_reducible first | exact Below.refl _ _ | assumption | exact Nat.le_refl _ | refine Below.drew ?_ | refine Below.alloc ?_ ?_ _ | refine Below.setCell ?_ ?_ _ | refine le_alloc ?_ | refine le_set ?_ | refine le_drew ?_ | refine below_step (by assumption) ?_ ?_ | refine le_below (by assumption) ?_) | (dsimp only; omega)))⟩
theorem layoutOf_no (sz : Int) (h4 : (sz == 4) = false) (h8 : (sz == 8) = false) (w : World) :
    Calls Try.prog 37 #[.int .i64 sz] w (fun e w' => e = .returned (.tuple #[.agg #[.int .i64 0, .int .i64 0], .bool false]) ∧ Below w.heap.size w w') := by
  go_enter Try.func37, Try.ntmps37
  go_wp2
  exact bodyPost_ret (v := .tuple #[.agg #[_, _], .bool false]) (by simp [results, Try.results37, go_sem] <;> (first | rfl | (repeat' (first | rfl | apply And.intro)))) rfl ⟨rfl, (by repeat (first | (with_reducible first | exact Below.refl _ _ | assumption | exact Nat.le_refl _ | refine Below.drew ?_ | refine Below.alloc ?_ ?_ _ | refine Below.setCell ?_ ?_ _ | refine le_alloc ?_ | refine le_set ?_ | refine le_drew ?_ | refine below_step (by assumption) ?_ ?_ | refine le_below (by assumption) ?_) | (dsimp only; omega)))⟩
theorem far_c (d : Bool) (E F : Int) (hd : Hid (Lay d E F)) (a : Nat) (ha : Hid (a < 18446744073709551616)) (w : World) : Calls Try.prog 66 #[.agg #[.int .i64 E, .int .i64 F], .int .u64 a] w (RetU (farN d a) w) := by
  rcases hd.out with ⟨rfl, rfl, rfl⟩ | ⟨rfl, rfl, rfl⟩
  · exact far_f a ha w
  · exact far_t a ha w
theorem class_c (d : Bool) (E F : Int) (hd : Hid (Lay d E F)) (a : Nat) (ha : Hid (a < 18446744073709551616)) (w : World) : Calls Try.prog 41 #[.agg #[.int .i64 E, .int .i64 F], .int .u64 a] w (RetI (clsV d a) w) := by
  rcases hd.out with ⟨rfl, rfl, rfl⟩ | ⟨rfl, rfl, rfl⟩
  · exact class_f a ha w
  · exact class_t a ha w
theorem isMinus_c (d : Bool) (E F : Int) (hd : Hid (Lay d E F)) (a : Nat) (ha : Hid (a < 18446744073709551616)) (w : World) : Calls Try.prog 40 #[.agg #[.int .i64 E, .int .i64 F], .int .u64 a] w (RetB (minusN d a) w) := by
  rcases hd.out with ⟨rfl, rfl, rfl⟩ | ⟨rfl, rfl, rfl⟩
  · exact isMinus_f a ha w
  · exact isMinus_t a ha w
theorem isNone_c (d : Bool) (E F : Int) (hd : Hid (Lay d E F)) (a : Nat) (ha : Hid (a < 18446744073709551616)) (w : World) : Calls Try.prog 68 #[.agg #[.int .i64 E, .int .i64 F], .int .u64 a] w (RetB (noneV d a) w) := by
  rcases hd.out with ⟨rfl, rfl, rfl⟩ | ⟨rfl, rfl, rfl⟩
  · exact isNone_f a ha w
  · exact isNone_t a ha w
theorem bits_c (d : Bool) (E F : Int) (hd : Hid (Lay d E F)) (a : Nat) (ha : Hid (a < 18446744073709551616)) (w : World) : Calls Try.prog 69 #[.agg #[.int .i64 E, .int .i64 F], .int .u64 a] w (RetU (maskN d a) w) := by
  rcases hd.out with ⟨rfl, rfl, rfl⟩ | ⟨rfl, rfl, rfl⟩
  · exact bits_f a ha w
  · exact bits_t a ha w
theorem rank_c (d : Bool) (E F : Int) (hd : Hid (Lay d E F)) (a : Nat) (ha : Hid (a < 18446744073709551616)) (w : World) : Calls Try.prog 70 #[.agg #[.int .i64 E, .int .i64 F], .int .u64 a] w (RetI (rankV d a) w) := by
  rcases hd.out with ⟨rfl, rfl, rfl⟩ | ⟨rfl, rfl, rfl⟩
  · exact rank_f a ha w
  · exact rank_t a ha w
theorem ofSig2_c (d : Bool) (E F : Int) (hd : Hid (Lay d E F)) (x y : Nat) (hx : Hid (x < 18446744073709551616)) (hy : Hid (y < 18446744073709551616)) (w : World) (a : Nat) (ha : a < w.heap.size) (h0 : ∀ o, w.cell? ⟨a, o, none⟩ = (#[.int .u64 x, .int .u64 y] : Array Value)[o]?) :
    Calls Try.prog 61 #[.agg #[.int .i64 E, .int .i64 F], .slice (some ⟨a, 0, none⟩) 2 2] w (RetI (flagS (clsV d x) (clsV d y)) w) := by
  rcases hd.out with ⟨rfl, rfl, rfl⟩ | ⟨rfl, rfl, rfl⟩
  · exact ofSig2_f x y hx hy w a ha h0
  · exact ofSig2_t x y hx hy w a ha h0
theorem clsV_bd (d : Bool) (a : Nat) : 0 ≤ clsV d a ∧ clsV d a ≤ 9 := by
  unfold clsV clsX
  (repeat' split) <;> omega
theorem Class_c (sz : Int) (d : Bool) (hsz : Hid (SzOk sz d)) (a : Nat) (ha : Hid (a < 18446744073709551616)) (w : World) :
    Calls Try.prog 24 #[.int .i64 sz, .int .u64 a] w (RetU (2 ^ (clsV d a).toNat) w) := by
  go_enter Try.func24, Try.ntmps24
  go_wp2_with fail
  refine (layoutOf_s sz d hsz _).mono ?_; rintro e w1 ⟨E, F, rfl, hd, hb1⟩; obtain ⟨hc1, hf1⟩ := bcell hb1; have hz1 := hb1.size; (try simp only [sz_alloc, sz_drew, sz_set] at hz1 hc1 hf1)
  clear hc1 hf1
  go_wp2_with fail
  refine (class_c d E F hd a ha _).mono ?_; rintro e w2 ⟨rfl, hb2⟩
  obtain ⟨b0, b1⟩ := clsV_bd d a
  generalize clsV d a = c at *
  have hc : c = 0 ∨ c = 1 ∨ c = 2 ∨ c = 3 ∨ c = 4 ∨ c = 5 ∨ c = 6 ∨ c = 7 ∨ c = 8 ∨ c = 9 := by omega
  clear b0 b1
  rcases hc with rfl | rfl | rfl | rfl | rfl | rfl | rfl | rfl | rfl | rfl
  all_goals
    go_wp2_with fail
    go_ret
    exact retU_mk rfl (by repeat (first | (with_reducible first | exact Below.refl _ _ | assumption | exact Nat.le_refl _ | refine Below.drew ?_ | refine Below.alloc ?_ ?_ _ | refine Below.setCell ?_ ?_ _ | refine le_alloc ?_ | refine le_set ?_ | refine le_drew ?_ | refine below_step (by assumption) ?_ ?_ | refine le_below (by assumption) ?_) | (dsimp only; omega)))
theorem Class_no (sz : Int) (h4 : (sz == 4) = false) (h8 : (sz == 8) = false) (a : Nat) (w : World) :
    Calls Try.prog 24 #[.int .i64 sz, .int .u64 a] w (RetU 0 w) := by
  go_enter Try.func24, Try.ntmps24
  go_wp2_with fail
  refine (layoutOf_no sz h4 h8 _).mono ?_; rintro e w1 ⟨rfl, hb1⟩
  go_wp2_with fail
  go_ret
  exact retU_mk rfl (by repeat (first | (with_reducible first | exact Below.refl _ _ | assumption | exact Nat.le_refl _ | refine Below.drew ?_ | refine Below.alloc ?_ ?_ _ | refine Below.setCell ?_ ?_ _ | refine le_alloc ?_ | refine le_set ?_ | refine le_drew ?_ | refine below_step (by assumption) ?_ ?_ | refine le_below (by assumption) ?_) | (dsimp only; omega)))
theorem tail_num (d : Bool) (a c : Nat) (hc : c < 18446744073709551616) : bits .or .u64 ((farN d a : Nat) : Int) (bits .and .u64 (c : Int) ((signB d : Nat) : Int)) = ((farN d a + c / signB d % 2 * signB d : Nat) : Int) := by
  cases d
  · have e : bits .and .u64 (c : Int) ((signB false : Nat) : Int) = ((c / 2147483648 % 2 * 2147483648 : Nat) : Int) := by
      rw [show ((signB false : Nat) : Int) = ((2 ^ 31 : Nat) : Int) by decide, u64_and_nat _ _ hc (by decide), nat_bit]
    have f : farN false a < 2147483648 := Nat.mod_lt _ (by decide)
    have g : c / 2147483648 % 2 < 2 := Nat.mod_lt _ (by decide)
    rw [e, bits_or_u64_nat _ _ (by omega) (by omega), Nat.or_comm, or_disj 31 _ _ (by simp) f, Nat.add_comm]
    rfl
  · have e : bits .and .u64 (c : Int) ((signB true : Nat) : Int) = ((c / 9223372036854775808 % 2 * 9223372036854775808 : Nat) : Int) := by
      rw [show ((signB true : Nat) : Int) = ((2 ^ 63 : Nat) : Int) by decide, u64_and_nat _ _ hc (by decide), nat_bit]
    have f : farN true a < 9223372036854775808 := Nat.mod_lt _ (by decide)
    have g : c / 9223372036854775808 % 2 < 2 := Nat.mod_lt _ (by decide)
    rw [e, bits_or_u64_nat _ _ (by omega) (by omega), Nat.or_comm, or_disj 63 _ _ (by simp) f, Nat.add_comm]
    rfl
theorem xor_max (b : Nat) (hb : b < 18446744073709551616) : bits .xor .u64 IntKind.u64.max (b : Int) = ((18446744073709551615 - b : Nat) : Int) := by
  have e : IntKind.u64.max = ((18446744073709551615 : Nat) : Int) := by decide
  rw [e, u64_xor_nat _ _ (by decide) hb]
  congr 1
  apply Nat.eq_of_testBit_eq
  intro i
  rw [Nat.testBit_xor, show (18446744073709551615 : Nat) - b = 2 ^ 64 - (b + 1) by omega, Nat.testBit_two_pow_sub_succ (by rw [← pow64]; exact hb), show (18446744073709551615 : Nat) = 2 ^ 64 - 1 by decide, Nat.testBit_two_pow_sub_one]
  by_cases h : i < 64
  · simp [h]
  · have : b.testBit i = false := Nat.testBit_lt_two_pow (Nat.lt_of_lt_of_le (by rw [← pow64]; exact hb) (Nat.pow_le_pow_right (by decide) (by omega : 64 ≤ i)))
    simp [h, this]
theorem bit_xor (x y k : Nat) : (x ^^^ y) / 2 ^ k % 2 = (x / 2 ^ k % 2 + y / 2 ^ k % 2) % 2 := by
  have e : ∀ z : Nat, z / 2 ^ k % 2 = (z.testBit k).toNat := fun z => by rw [Nat.toNat_testBit]
  rw [e, e, e, Nat.testBit_xor]
  cases x.testBit k <;> cases y.testBit k <;> rfl
theorem signB_pow (d : Bool) : signB d = 2 ^ (if d then 63 else 31) := by cases d <;> decide
/-- The bit of the sign that comes out. -/
def sgnV (k : Int) (d : Bool) (a b : Nat) : Nat := if k = 64 then b / signB d % 2 else if k = 65 then 1 - b / signB d % 2 else (b / signB d % 2 + a / signB d % 2) % 2
def KindOk (k : Int) : Prop := k = 64 ∨ k = 65 ∨ k = 66
theorem Sign_c (k : Int) (hk : Hid (KindOk k)) (sz : Int) (d : Bool) (hsz : Hid (SzOk sz d)) (a b : Nat) (ha : Hid (a < 18446744073709551616)) (hb : Hid (b < 18446744073709551616)) (w : World) :
    Calls Try.prog 22 #[.int .i64 k, .int .i64 sz, .int .u64 a, .int .u64 b] w (RetU (farN d a + sgnV k d a b * signB d) w) := by
  have HC : Hid (∃ c : Nat, c < 18446744073709551616 ∧ c / signB d % 2 = sgnV k d a b ∧ ((k = 64 ∧ c = b) ∨ (k = 65 ∧ bits .xor .u64 IntKind.u64.max (b : Int) = (c : Int)) ∨ (k = 66 ∧ bits .xor .u64 (b : Int) (a : Int) = (c : Int)))) := by
    rcases hk.out with rfl | rfl | rfl
    · exact ⟨b, hb.out, rfl, .inl ⟨rfl, rfl⟩⟩
    · refine ⟨18446744073709551615 - b, by omega, ?_, .inr (.inl ⟨rfl, xor_max b hb.out⟩)⟩
      have h1 := hb.out
      show _ = 1 - b / signB d % 2
      cases d
      · show (18446744073709551615 - b) / 2147483648 % 2 = 1 - b / 2147483648 % 2; omega
      · show (18446744073709551615 - b) / 9223372036854775808 % 2 = 1 - b / 9223372036854775808 % 2; omega
    · refine ⟨b ^^^ a, ?_, ?_, .inr (.inr ⟨rfl, u64_xor_nat _ _ hb.out ha.out⟩)⟩
      · rw [pow64]; exact Nat.xor_lt_two_pow (by rw [← pow64]; exact hb.out) (by rw [← pow64]; exact ha.out)
      · show _ = (b / signB d % 2 + a / signB d % 2) % 2
        rw [signB_pow, bit_xor]
  obtain ⟨c, hc, hcv, hcc⟩ := HC.out
  have HB : Hid (c < 18446744073709551616) := hc
  have HV := Lib.hid hcv
  have HT := Lib.hid (tail_num d a c hc)
  clear hc hcv HC
  rcases hcc with ⟨rfl, rfl⟩ | ⟨rfl, e⟩ | ⟨rfl, e⟩
  all_goals
    go_enter Try.func22, Try.ntmps22
    go_wp2_with fail
    refine (layoutOf_s sz d hsz _).mono ?_; rintro e w1 ⟨E, F, rfl, hd, hb1⟩; obtain ⟨hc1, hf1⟩ := bcell hb1; have hz1 := hb1.size; (try simp only [sz_alloc, sz_drew, sz_set] at hz1 hc1 hf1)
    clear hc1 hf1
    go_wp2_with fail
    go_region_held3 (fun w' => w'.cell? ⟨w1.heap.size, 0, none⟩ = some (.int .i64 E) ∧ w'.cell? ⟨w1.heap.size, 1, none⟩ = some (.int .i64 F)) (all_goals (first | (go_keep; done) | (simp (disch := omega) only [cell_set_far]; simp [*])))
      (first
        | (go_at_call 66; refine (far_c d E F hd a ha _).mono ?_; rintro e w2 ⟨rfl, hb2⟩; obtain ⟨hc2, hf2⟩ := bcell hb2; have hz2 := hb2.size; (try simp only [sz_alloc, sz_drew, sz_set] at hz2 hc2 hf2); have l2_0 : w1.heap.size < w2.heap.size := (by omega); have n2_0 : ¬ w1.heap.size = w2.heap.size := (by omega); have m2_0 : ¬ w2.heap.size = w1.heap.size := (by omega); have k2_0 := fun o => hc2 (w1.heap.size) o (by omega); have f2_0 := fun o => hf2 (w1.heap.size) o (by omega); (try simp (disch := (first | rfl | omega | (simp only [sz_alloc, sz_drew, sz_set]; omega))) only [sz_alloc, sz_drew, sz_set, World.cell?_drew, World.frozen?_drew, World.cell?_alloc_at, World.cell?_alloc_past, World.frozen?_alloc_at, World.frozen?_alloc_past] at k2_0 f2_0))
        | (go_at_call 67; refine (sign_c d E F hd.out _).mono ?_; rintro e w3 ⟨rfl, hb3⟩; obtain ⟨hc3, hf3⟩ := bcell hb3; have hz3 := hb3.size; (try simp only [sz_alloc, sz_drew, sz_set] at hz3 hc3 hf3); have l3_0 : w1.heap.size < w3.heap.size := (by omega); have n3_0 : ¬ w1.heap.size = w3.heap.size := (by omega); have m3_0 : ¬ w3.heap.size = w1.heap.size := (by omega); have k3_0 := fun o => hc3 (w1.heap.size) o (by omega); have f3_0 := fun o => hf3 (w1.heap.size) o (by omega); (try simp (disch := (first | rfl | omega | (simp only [sz_alloc, sz_drew, sz_set]; omega))) only [sz_alloc, sz_drew, sz_set, World.cell?_drew, World.frozen?_drew, World.cell?_alloc_at, World.cell?_alloc_past, World.frozen?_alloc_at, World.frozen?_alloc_past] at k3_0 f3_0)))
    all_goals go_wp2_with fail
    all_goals go_ret
    all_goals exact retU_mk (by rw [HT.out, HV.out]) (by repeat (first | (with_reducible first | exact Below.refl _ _ | assumption | exact Nat.le_refl _ | refine Below.drew ?_ | refine Below.alloc ?_ ?_ _ | refine Below.setCell ?_ ?_ _ | refine le_alloc ?_ | refine le_set ?_ | refine le_drew ?_ | refine below_step (by assumption) ?_ ?_ | refine le_below (by assumption) ?_) | (dsimp only; omega)))
theorem Sign_no (k sz : Int) (h : Hid (¬ (KindOk k ∧ ∃ d, SzOk sz d))) (a b : Nat) (w : World) :
    Calls Try.prog 22 #[.int .i64 k, .int .i64 sz, .int .u64 a, .int .u64 b] w (RetU 0 w) := by
  by_cases hs : sz = 4 ∨ sz = 8
  · have hd : ∃ d, SzOk sz d := by
      rcases hs with rfl | rfl
      · exact ⟨false, rfl⟩
      · exact ⟨true, rfl⟩
    have hk : ¬ KindOk k := fun hk => h.out ⟨hk, hd⟩
    obtain ⟨d, hd⟩ := hd
    have HD := Lib.hid hd
    have k1 : (k == 64) = false := by rw [beq_eq_false_iff_ne]; intro e; exact hk (.inl e)
    have k2 : (k == 65) = false := by rw [beq_eq_false_iff_ne]; intro e; exact hk (.inr (.inl e))
    have k3 : (k == 66) = false := by rw [beq_eq_false_iff_ne]; intro e; exact hk (.inr (.inr e))
    clear hk hd hs
    go_enter Try.func22, Try.ntmps22
    go_wp2_with fail
    refine (layoutOf_s sz d HD _).mono ?_; rintro e w1 ⟨E, F, rfl, hd, hb1⟩; obtain ⟨hc1, hf1⟩ := bcell hb1; have hz1 := hb1.size; (try simp only [sz_alloc, sz_drew, sz_set] at hz1 hc1 hf1)
    clear hc1 hf1
    go_wp2_with fail
    go_ret
    exact retU_mk rfl (by repeat (first | (with_reducible first | exact Below.refl _ _ | assumption | exact Nat.le_refl _ | refine Below.drew ?_ | refine Below.alloc ?_ ?_ _ | refine Below.setCell ?_ ?_ _ | refine le_alloc ?_ | refine le_set ?_ | refine le_drew ?_ | refine below_step (by assumption) ?_ ?_ | refine le_below (by assumption) ?_) | (dsimp only; omega)))
  · have h4 : (sz == 4) = false := by rw [beq_eq_false_iff_ne]; intro e; exact hs (.inl e)
    have h8 : (sz == 8) = false := by rw [beq_eq_false_iff_ne]; intro e; exact hs (.inr e)
    clear hs
    go_enter Try.func22, Try.ntmps22
    go_wp2_with fail
    refine (layoutOf_no sz h4 h8 _).mono ?_; rintro e w1 ⟨rfl, hb1⟩
    go_wp2_with fail
    go_ret
    exact retU_mk rfl (by repeat (first | (with_reducible first | exact Below.refl _ _ | assumption | exact Nat.le_refl _ | refine Below.drew ?_ | refine Below.alloc ?_ ?_ _ | refine Below.setCell ?_ ?_ _ | refine le_alloc ?_ | refine le_set ?_ | refine le_drew ?_ | refine below_step (by assumption) ?_ ?_ | refine le_below (by assumption) ?_) | (dsimp only; omega)))
theorem box_num (a : Nat) (ha : a < 18446744073709551616) : bits .or .u64 18446744069414584320 (a : Int) = ((a % 4294967296 + 18446744069414584320 : Nat) : Int) := by
  rw [show (18446744069414584320 : Int) = ((18446744069414584320 : Nat) : Int) from rfl, bits_or_u64_nat _ _ (by decide) ha]
  have e : (18446744069414584320 : Nat) ||| a = 18446744069414584320 ||| (a % 4294967296) := by
    apply Nat.eq_of_testBit_eq
    intro i
    rw [Nat.testBit_or, Nat.testBit_or, show (4294967296 : Nat) = 2 ^ 32 by decide, Nat.testBit_mod_two_pow, show (18446744069414584320 : Nat) = (2 ^ 32 - 1) <<< 32 by decide, Nat.testBit_shiftLeft, Nat.testBit_two_pow_sub_one]
    by_cases h : i < 32
    · simp [h]
    · by_cases h2 : i < 64
      · have h3 : i - 32 < 32 := by omega
        have h4 : 32 ≤ i := by omega
        simp [h3, h4]
      · have : a.testBit i = false := Nat.testBit_lt_two_pow (Nat.lt_of_lt_of_le (by rw [← pow64]; exact ha) (Nat.pow_le_pow_right (by decide) (by omega : 64 ≤ i)))
        simp [h, this]
  rw [e, or_disj 32 _ _ (by decide) (by omega), Nat.add_comm]
theorem Box_c (a : Nat) (ha : Hid (a < 18446744073709551616)) (w : World) : Calls Try.prog 12 #[.int .u64 a] w (RetU (a % 4294967296 + 18446744069414584320) w) := by
  go_enter Try.func12, Try.ntmps12
  go_wp2_with fail
  go_ret
  exact retU_mk (box_num a ha.out) (by repeat (first | (with_reducible first | exact Below.refl _ _ | assumption | exact Nat.le_refl _ | refine Below.drew ?_ | refine Below.alloc ?_ ?_ _ | refine Below.setCell ?_ ?_ _ | refine le_alloc ?_ | refine le_set ?_ | refine le_drew ?_ | refine below_step (by assumption) ?_ ?_ | refine le_below (by assumption) ?_) | (dsimp only; omega)))
def unboxV (r : Nat) : Nat := if 18446744069414584320 ≤ r then r - 18446744069414584320 else 2143289344
theorem Unbox_c (r : Nat) (hr : Hid (r < 18446744073709551616)) (w : World) : Calls Try.prog 14 #[.int .u64 r] w (RetU (unboxV r) w) := by
  by_cases h : 18446744069414584320 ≤ r
  · have E : Hid (unboxV r = r - 18446744069414584320) := by show _ = _; unfold unboxV; rw [if_pos h]
    have n1 : decide ((r : Int) < 18446744069414584320) = false := decide_eq_false (by omega)
    have HH := Lib.hid h; clear h
    go_enter Try.func14, Try.ntmps14
    go_wp2_with fail
    go_ret
    exact retU_mk (by have h1 := HH.out; have h2 := hr.out; rw [E.out]; simp only [IntKind.wrap_u64]; omega) (by repeat (first | (with_reducible first | exact Below.refl _ _ | assumption | exact Nat.le_refl _ | refine Below.drew ?_ | refine Below.alloc ?_ ?_ _ | refine Below.setCell ?_ ?_ _ | refine le_alloc ?_ | refine le_set ?_ | refine le_drew ?_ | refine below_step (by assumption) ?_ ?_ | refine le_below (by assumption) ?_) | (dsimp only; omega)))
  · have E : Hid (unboxV r = 2143289344) := by show _ = _; unfold unboxV; rw [if_neg h]
    have n1 : decide ((r : Int) < 18446744069414584320) = true := decide_eq_true (by omega)
    have HH := Lib.hid h; clear h
    go_enter Try.func14, Try.ntmps14
    go_wp2_with fail
    refine (layoutOf_s 4 false rfl _).mono ?_; rintro e w1 ⟨E', F, rfl, hd, hb1⟩; obtain ⟨hc1, hf1⟩ := bcell hb1; have hz1 := hb1.size; (try simp only [sz_alloc, sz_drew, sz_set] at hz1 hc1 hf1)
    clear hc1 hf1
    go_wp2_with fail
    refine (quiet_c false E' F hd.out _).mono ?_; rintro e w2 ⟨rfl, hb2⟩
    go_wp2_with fail
    go_ret
    exact retU_mk (by rw [E.out]; rfl) (by repeat (first | (with_reducible first | exact Below.refl _ _ | assumption | exact Nat.le_refl _ | refine Below.drew ?_ | refine Below.alloc ?_ ?_ _ | refine Below.setCell ?_ ?_ _ | refine le_alloc ?_ | refine le_set ?_ | refine le_drew ?_ | refine below_step (by assumption) ?_ ?_ | refine le_below (by assumption) ?_) | (dsimp only; omega)))
end Go.Proofs.Yteinjalnkhfecaa
