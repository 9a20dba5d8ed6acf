/- PROVED: 'ConvBack' returns true whatever the arguments are: whole numbers and back, floats of 4 bytes and back. No condition. -/
import Derived.Test.YteinjalnkhfecaaZ10
import Derived.Test.YteinjalnkhfecaaQY
import Derived.Test.YteinjalnkhfecaaF2
namespace Go.Proofs.Yteinjalnkhfecaa
open Go.ChangeShapes Go.WideShapes Go.ChangeAt Go.RowKit
set_option linter.unusedVariables false
set_option linter.unusedSimpArgs false
def RetXY (x : Nat) (f : Int) (W : World) (e : Ending) (w' : World) : Prop := e = .returned (.tuple #[.int .u64 x, .int .i64 f]) ∧ Below W.heap.size W w'
set_option maxRecDepth 100000 in
set_option maxHeartbeats 4000000 in
theorem cb_f_num (rm r : Int) (hR : wrap64 ((IntKind.u64.wrap rm).tmod 5) = r) (u : Bool) (x a X Z : Nat) (f g : Int) (ha : Hid (a < 18446744073709551616)) (Y V : Nat) (fy fv : Int) (hf : (f == 0) = false) (hn : Hid (nanX false a = false)) (hq : fy = 0 ∧ V = a % 4294967296 ∧ fv = 0)
    (P1 : Hid (∀ v, Calls Try.prog 18 #[.int .i64 8, .int .i64 r, .bool false, .bool u, .int .u64 x] v (RetXY X f v)))
    (P2 : Hid (∀ v, Calls Try.prog 16 #[.int .i64 8, .int .i64 r, .bool false, .bool u, .int .u64 X] v (RetXY Z g v)))
    (P3 : Hid (∀ v, Calls Try.prog 20 #[.int .i64 8, .int .i64 r, .int .u64 a] v (RetXY Y fy v)))
    (P4 : Hid (∀ v, Calls Try.prog 20 #[.int .i64 4, .int .i64 r, .int .u64 Y] v (RetXY V fv v)))
    (w : World) : Calls Try.prog 8 #[.int .i64 rm, .bool false, .bool u, .int .u64 x, .int .u64 a] w (RetB true w) := by
  have hf2 : decide (f = 0) = false := by simpa using hf
  obtain ⟨rfl, rfl, rfl⟩ := hq
  go_enter Try.func8, Try.ntmps8
  go_wp2_with fail
  refine (awake_c _).mono ?_; rintro e w1 ⟨rfl, bq⟩
  have hbw := bq; clear bq
  go_wp2_with fail
  rw [hR]
  refine (P1.out _).mono ?_; rintro e wq ⟨rfl, bq⟩
  replace hbw := hbw.trans (bq.mono hbw.size); clear bq
  go_wp2_with fail
  refine (P2.out _).mono ?_; rintro e wq ⟨rfl, bq⟩
  replace hbw := hbw.trans (bq.mono hbw.size); clear bq
  go_wp2_with fail
  refine (P3.out _).mono ?_; rintro e wq ⟨rfl, bq⟩
  replace hbw := hbw.trans (bq.mono hbw.size); clear bq
  go_wp2_with fail
  refine (P4.out _).mono ?_; rintro e wq ⟨rfl, bq⟩
  replace hbw := hbw.trans (bq.mono hbw.size); clear bq
  go_wp2_with fail
  refine (rnan_c 4 false (Lib.hid rfl) a ha _).mono ?_; rintro e wq ⟨rfl, bq⟩
  replace hbw := hbw.trans (bq.mono hbw.size); clear bq
  rw [hn.out]
  go_wp2_with fail
  rw [and_word a ha.out]
  go_ret
  exact ⟨by simp, hbw⟩
set_option maxRecDepth 100000 in
set_option maxHeartbeats 4000000 in
theorem cb_f_nan (rm r : Int) (hR : wrap64 ((IntKind.u64.wrap rm).tmod 5) = r) (u : Bool) (x a X Z : Nat) (f g : Int) (ha : Hid (a < 18446744073709551616)) (Y V : Nat) (fy fv : Int) (hf : (f == 0) = false) (hn : Hid (nanX false a = true)) (hs : Hid (sigX false a = false)) (hq : quietB true = Y ∧ fy = 0 ∧ quietB false = V ∧ fv = 0)
    (P1 : Hid (∀ v, Calls Try.prog 18 #[.int .i64 8, .int .i64 r, .bool false, .bool u, .int .u64 x] v (RetXY X f v)))
    (P2 : Hid (∀ v, Calls Try.prog 16 #[.int .i64 8, .int .i64 r, .bool false, .bool u, .int .u64 X] v (RetXY Z g v)))
    (P3 : Hid (∀ v, Calls Try.prog 20 #[.int .i64 8, .int .i64 r, .int .u64 a] v (RetXY Y fy v)))
    (P4 : Hid (∀ v, Calls Try.prog 20 #[.int .i64 4, .int .i64 r, .int .u64 Y] v (RetXY V fv v)))
    (w : World) : Calls Try.prog 8 #[.int .i64 rm, .bool false, .bool u, .int .u64 x, .int .u64 a] w (RetB true w) := by
  have hf2 : decide (f = 0) = false := by simpa using hf
  obtain ⟨hY, rfl, hV, rfl⟩ := hq
  go_enter Try.func8, Try.ntmps8
  go_wp2_with fail
  refine (awake_c _).mono ?_; rintro e w1 ⟨rfl, bq⟩
  have hbw := bq; clear bq
  go_wp2_with fail
  rw [hR]
  refine (P1.out _).mono ?_; rintro e wq ⟨rfl, bq⟩
  replace hbw := hbw.trans (bq.mono hbw.size); clear bq
  go_wp2_with fail
  refine (P2.out _).mono ?_; rintro e wq ⟨rfl, bq⟩
  replace hbw := hbw.trans (bq.mono hbw.size); clear bq
  go_wp2_with fail
  refine (P3.out _).mono ?_; rintro e wq ⟨rfl, bq⟩
  replace hbw := hbw.trans (bq.mono hbw.size); clear bq
  go_wp2_with fail
  refine (P4.out _).mono ?_; rintro e wq ⟨rfl, bq⟩
  replace hbw := hbw.trans (bq.mono hbw.size); clear bq
  go_wp2_with fail
  refine (rnan_c 4 false (Lib.hid rfl) a ha _).mono ?_; rintro e wq ⟨rfl, bq⟩
  replace hbw := hbw.trans (bq.mono hbw.size); clear bq
  rw [hn.out]
  go_wp2_with fail
  refine (rquiet_c 8 true (Lib.hid rfl) _).mono ?_; rintro e wq ⟨rfl, bq⟩
  replace hbw := hbw.trans (bq.mono hbw.size); clear bq
  rw [hY]
  go_wp2_with fail
  refine (rquiet_c 4 false (Lib.hid rfl) _).mono ?_; rintro e wq ⟨rfl, bq⟩
  replace hbw := hbw.trans (bq.mono hbw.size); clear bq
  rw [hV]
  go_wp2_with fail
  refine (rsig_c 4 false (Lib.hid rfl) a ha _).mono ?_; rintro e wq ⟨rfl, bq⟩
  replace hbw := hbw.trans (bq.mono hbw.size); clear bq
  rw [hs.out]
  go_wp2_with fail
  go_ret
  exact ⟨rfl, hbw⟩
set_option maxRecDepth 100000 in
set_option maxHeartbeats 4000000 in
theorem cb_f_sig (rm r : Int) (hR : wrap64 ((IntKind.u64.wrap rm).tmod 5) = r) (u : Bool) (x a X Z : Nat) (f g : Int) (ha : Hid (a < 18446744073709551616)) (Y V : Nat) (fy fv : Int) (hf : (f == 0) = false) (hn : Hid (nanX false a = true)) (hs : Hid (sigX false a = true)) (hq : quietB true = Y ∧ fy = 16 ∧ quietB false = V ∧ fv = 0)
    (P1 : Hid (∀ v, Calls Try.prog 18 #[.int .i64 8, .int .i64 r, .bool false, .bool u, .int .u64 x] v (RetXY X f v)))
    (P2 : Hid (∀ v, Calls Try.prog 16 #[.int .i64 8, .int .i64 r, .bool false, .bool u, .int .u64 X] v (RetXY Z g v)))
    (P3 : Hid (∀ v, Calls Try.prog 20 #[.int .i64 8, .int .i64 r, .int .u64 a] v (RetXY Y fy v)))
    (P4 : Hid (∀ v, Calls Try.prog 20 #[.int .i64 4, .int .i64 r, .int .u64 Y] v (RetXY V fv v)))
    (w : World) : Calls Try.prog 8 #[.int .i64 rm, .bool false, .bool u, .int .u64 x, .int .u64 a] w (RetB true w) := by
  have hf2 : decide (f = 0) = false := by simpa using hf
  obtain ⟨hY, rfl, hV, rfl⟩ := hq
  go_enter Try.func8, Try.ntmps8
  go_wp2_with fail
  refine (awake_c _).mono ?_; rintro e w1 ⟨rfl, bq⟩
  have hbw := bq; clear bq
  go_wp2_with fail
  rw [hR]
  refine (P1.out _).mono ?_; rintro e wq ⟨rfl, bq⟩
  replace hbw := hbw.trans (bq.mono hbw.size); clear bq
  go_wp2_with fail
  refine (P2.out _).mono ?_; rintro e wq ⟨rfl, bq⟩
  replace hbw := hbw.trans (bq.mono hbw.size); clear bq
  go_wp2_with fail
  refine (P3.out _).mono ?_; rintro e wq ⟨rfl, bq⟩
  replace hbw := hbw.trans (bq.mono hbw.size); clear bq
  go_wp2_with fail
  refine (P4.out _).mono ?_; rintro e wq ⟨rfl, bq⟩
  replace hbw := hbw.trans (bq.mono hbw.size); clear bq
  go_wp2_with fail
  refine (rnan_c 4 false (Lib.hid rfl) a ha _).mono ?_; rintro e wq ⟨rfl, bq⟩
  replace hbw := hbw.trans (bq.mono hbw.size); clear bq
  rw [hn.out]
  go_wp2_with fail
  refine (rquiet_c 8 true (Lib.hid rfl) _).mono ?_; rintro e wq ⟨rfl, bq⟩
  replace hbw := hbw.trans (bq.mono hbw.size); clear bq
  rw [hY]
  go_wp2_with fail
  refine (rquiet_c 4 false (Lib.hid rfl) _).mono ?_; rintro e wq ⟨rfl, bq⟩
  replace hbw := hbw.trans (bq.mono hbw.size); clear bq
  rw [hV]
  go_wp2_with fail
  refine (rsig_c 4 false (Lib.hid rfl) a ha _).mono ?_; rintro e wq ⟨rfl, bq⟩
  replace hbw := hbw.trans (bq.mono hbw.size); clear bq
  rw [hs.out]
  go_wp2_with fail
  go_ret
  exact ⟨rfl, hbw⟩
set_option maxRecDepth 100000 in
set_option maxHeartbeats 4000000 in
theorem cb_t_num (rm r : Int) (hR : wrap64 ((IntKind.u64.wrap rm).tmod 5) = r) (u : Bool) (x a X Z : Nat) (f g : Int) (ha : Hid (a < 18446744073709551616)) (Y V : Nat) (fy fv : Int) (hf : f = 0 ∧ g = 0 ∧ Z = x) (hn : Hid (nanX false a = false)) (hq : fy = 0 ∧ V = a % 4294967296 ∧ fv = 0)
    (P1 : Hid (∀ v, Calls Try.prog 18 #[.int .i64 8, .int .i64 r, .bool false, .bool u, .int .u64 x] v (RetXY X f v)))
    (P2 : Hid (∀ v, Calls Try.prog 16 #[.int .i64 8, .int .i64 r, .bool false, .bool u, .int .u64 X] v (RetXY Z g v)))
    (P3 : Hid (∀ v, Calls Try.prog 20 #[.int .i64 8, .int .i64 r, .int .u64 a] v (RetXY Y fy v)))
    (P4 : Hid (∀ v, Calls Try.prog 20 #[.int .i64 4, .int .i64 r, .int .u64 Y] v (RetXY V fv v)))
    (w : World) : Calls Try.prog 8 #[.int .i64 rm, .bool false, .bool u, .int .u64 x, .int .u64 a] w (RetB true w) := by
  obtain ⟨rfl, rfl, rfl⟩ := hf
  obtain ⟨rfl, rfl, rfl⟩ := hq
  go_enter Try.func8, Try.ntmps8
  go_wp2_with fail
  refine (awake_c _).mono ?_; rintro e w1 ⟨rfl, bq⟩
  have hbw := bq; clear bq
  go_wp2_with fail
  rw [hR]
  refine (P1.out _).mono ?_; rintro e wq ⟨rfl, bq⟩
  replace hbw := hbw.trans (bq.mono hbw.size); clear bq
  go_wp2_with fail
  refine (P2.out _).mono ?_; rintro e wq ⟨rfl, bq⟩
  replace hbw := hbw.trans (bq.mono hbw.size); clear bq
  go_wp2_with fail
  refine (P3.out _).mono ?_; rintro e wq ⟨rfl, bq⟩
  replace hbw := hbw.trans (bq.mono hbw.size); clear bq
  go_wp2_with fail
  refine (P4.out _).mono ?_; rintro e wq ⟨rfl, bq⟩
  replace hbw := hbw.trans (bq.mono hbw.size); clear bq
  go_wp2_with fail
  refine (rnan_c 4 false (Lib.hid rfl) a ha _).mono ?_; rintro e wq ⟨rfl, bq⟩
  replace hbw := hbw.trans (bq.mono hbw.size); clear bq
  rw [hn.out]
  go_wp2_with fail
  rw [and_word a ha.out]
  go_ret
  exact ⟨by simp, hbw⟩
set_option maxRecDepth 100000 in
set_option maxHeartbeats 4000000 in
theorem cb_t_nan (rm r : Int) (hR : wrap64 ((IntKind.u64.wrap rm).tmod 5) = r) (u : Bool) (x a X Z : Nat) (f g : Int) (ha : Hid (a < 18446744073709551616)) (Y V : Nat) (fy fv : Int) (hf : f = 0 ∧ g = 0 ∧ Z = x) (hn : Hid (nanX false a = true)) (hs : Hid (sigX false a = false)) (hq : quietB true = Y ∧ fy = 0 ∧ quietB false = V ∧ fv = 0)
    (P1 : Hid (∀ v, Calls Try.prog 18 #[.int .i64 8, .int .i64 r, .bool false, .bool u, .int .u64 x] v (RetXY X f v)))
    (P2 : Hid (∀ v, Calls Try.prog 16 #[.int .i64 8, .int .i64 r, .bool false, .bool u, .int .u64 X] v (RetXY Z g v)))
    (P3 : Hid (∀ v, Calls Try.prog 20 #[.int .i64 8, .int .i64 r, .int .u64 a] v (RetXY Y fy v)))
    (P4 : Hid (∀ v, Calls Try.prog 20 #[.int .i64 4, .int .i64 r, .int .u64 Y] v (RetXY V fv v)))
    (w : World) : Calls Try.prog 8 #[.int .i64 rm, .bool false, .bool u, .int .u64 x, .int .u64 a] w (RetB true w) := by
  obtain ⟨rfl, rfl, rfl⟩ := hf
  obtain ⟨hY, rfl, hV, rfl⟩ := hq
  go_enter Try.func8, Try.ntmps8
  go_wp2_with fail
  refine (awake_c _).mono ?_; rintro e w1 ⟨rfl, bq⟩
  have hbw := bq; clear bq
  go_wp2_with fail
  rw [hR]
  refine (P1.out _).mono ?_; rintro e wq ⟨rfl, bq⟩
  replace hbw := hbw.trans (bq.mono hbw.size); clear bq
  go_wp2_with fail
  refine (P2.out _).mono ?_; rintro e wq ⟨rfl, bq⟩
  replace hbw := hbw.trans (bq.mono hbw.size); clear bq
  go_wp2_with fail
  refine (P3.out _).mono ?_; rintro e wq ⟨rfl, bq⟩
  replace hbw := hbw.trans (bq.mono hbw.size); clear bq
  go_wp2_with fail
  refine (P4.out _).mono ?_; rintro e wq ⟨rfl, bq⟩
  replace hbw := hbw.trans (bq.mono hbw.size); clear bq
  go_wp2_with fail
  refine (rnan_c 4 false (Lib.hid rfl) a ha _).mono ?_; rintro e wq ⟨rfl, bq⟩
  replace hbw := hbw.trans (bq.mono hbw.size); clear bq
  rw [hn.out]
  go_wp2_with fail
  refine (rquiet_c 8 true (Lib.hid rfl) _).mono ?_; rintro e wq ⟨rfl, bq⟩
  replace hbw := hbw.trans (bq.mono hbw.size); clear bq
  rw [hY]
  go_wp2_with fail
  refine (rquiet_c 4 false (Lib.hid rfl) _).mono ?_; rintro e wq ⟨rfl, bq⟩
  replace hbw := hbw.trans (bq.mono hbw.size); clear bq
  rw [hV]
  go_wp2_with fail
  refine (rsig_c 4 false (Lib.hid rfl) a ha _).mono ?_; rintro e wq ⟨rfl, bq⟩
  replace hbw := hbw.trans (bq.mono hbw.size); clear bq
  rw [hs.out]
  go_wp2_with fail
  go_ret
  exact ⟨rfl, hbw⟩
set_option maxRecDepth 100000 in
set_option maxHeartbeats 4000000 in
theorem cb_t_sig (rm r : Int) (hR : wrap64 ((IntKind.u64.wrap rm).tmod 5) = r) (u : Bool) (x a X Z : Nat) (f g : Int) (ha : Hid (a < 18446744073709551616)) (Y V : Nat) (fy fv : Int) (hf : f = 0 ∧ g = 0 ∧ Z = x) (hn : Hid (nanX false a = true)) (hs : Hid (sigX false a = true)) (hq : quietB true = Y ∧ fy = 16 ∧ quietB false = V ∧ fv = 0)
    (P1 : Hid (∀ v, Calls Try.prog 18 #[.int .i64 8, .int .i64 r, .bool false, .bool u, .int .u64 x] v (RetXY X f v)))
    (P2 : Hid (∀ v, Calls Try.prog 16 #[.int .i64 8, .int .i64 r, .bool false, .bool u, .int .u64 X] v (RetXY Z g v)))
    (P3 : Hid (∀ v, Calls Try.prog 20 #[.int .i64 8, .int .i64 r, .int .u64 a] v (RetXY Y fy v)))
    (P4 : Hid (∀ v, Calls Try.prog 20 #[.int .i64 4, .int .i64 r, .int .u64 Y] v (RetXY V fv v)))
    (w : World) : Calls Try.prog 8 #[.int .i64 rm, .bool false, .bool u, .int .u64 x, .int .u64 a] w (RetB true w) := by
  obtain ⟨rfl, rfl, rfl⟩ := hf
  obtain ⟨hY, rfl, hV, rfl⟩ := hq
  go_enter Try.func8, Try.ntmps8
  go_wp2_with fail
  refine (awake_c _).mono ?_; rintro e w1 ⟨rfl, bq⟩
  have hbw := bq; clear bq
  go_wp2_with fail
  rw [hR]
  refine (P1.out _).mono ?_; rintro e wq ⟨rfl, bq⟩
  replace hbw := hbw.trans (bq.mono hbw.size); clear bq
  go_wp2_with fail
  refine (P2.out _).mono ?_; rintro e wq ⟨rfl, bq⟩
  replace hbw := hbw.trans (bq.mono hbw.size); clear bq
  go_wp2_with fail
  refine (P3.out _).mono ?_; rintro e wq ⟨rfl, bq⟩
  replace hbw := hbw.trans (bq.mono hbw.size); clear bq
  go_wp2_with fail
  refine (P4.out _).mono ?_; rintro e wq ⟨rfl, bq⟩
  replace hbw := hbw.trans (bq.mono hbw.size); clear bq
  go_wp2_with fail
  refine (rnan_c 4 false (Lib.hid rfl) a ha _).mono ?_; rintro e wq ⟨rfl, bq⟩
  replace hbw := hbw.trans (bq.mono hbw.size); clear bq
  rw [hn.out]
  go_wp2_with fail
  refine (rquiet_c 8 true (Lib.hid rfl) _).mono ?_; rintro e wq ⟨rfl, bq⟩
  replace hbw := hbw.trans (bq.mono hbw.size); clear bq
  rw [hY]
  go_wp2_with fail
  refine (rquiet_c 4 false (Lib.hid rfl) _).mono ?_; rintro e wq ⟨rfl, bq⟩
  replace hbw := hbw.trans (bq.mono hbw.size); clear bq
  rw [hV]
  go_wp2_with fail
  refine (rsig_c 4 false (Lib.hid rfl) a ha _).mono ?_; rintro e wq ⟨rfl, bq⟩
  replace hbw := hbw.trans (bq.mono hbw.size); clear bq
  rw [hs.out]
  go_wp2_with fail
  go_ret
  exact ⟨rfl, hbw⟩
set_option maxRecDepth 100000 in
set_option maxHeartbeats 4000000 in
theorem cb_w_num (rm r : Int) (hR : wrap64 ((IntKind.u64.wrap rm).tmod 5) = r) (u : Bool) (x a X Z : Nat) (f g : Int) (ha : Hid (a < 18446744073709551616)) (Y V : Nat) (fy fv : Int) (hf : f = 0 ∧ g = 0 ∧ Z = wideV x) (hn : Hid (nanX false a = false)) (hq : fy = 0 ∧ V = a % 4294967296 ∧ fv = 0)
    (P1 : Hid (∀ v, Calls Try.prog 18 #[.int .i64 8, .int .i64 r, .bool true, .bool u, .int .u64 x] v (RetXY X f v)))
    (P2 : Hid (∀ v, Calls Try.prog 16 #[.int .i64 8, .int .i64 r, .bool true, .bool u, .int .u64 X] v (RetXY Z g v)))
    (P3 : Hid (∀ v, Calls Try.prog 20 #[.int .i64 8, .int .i64 r, .int .u64 a] v (RetXY Y fy v)))
    (P4 : Hid (∀ v, Calls Try.prog 20 #[.int .i64 4, .int .i64 r, .int .u64 Y] v (RetXY V fv v)))
    (w : World) : Calls Try.prog 8 #[.int .i64 rm, .bool true, .bool u, .int .u64 x, .int .u64 a] w (RetB true w) := by
  obtain ⟨rfl, rfl, rfl⟩ := hf
  have HW : IntKind.u64.wrap (wrap64 (wrap32 ((x : Int) % 4294967296))) = ((wideV x : Nat) : Int) := by
    have := wide_form (x % 4294967296)
    rw [wide_mod] at this
    rw [← this]; rfl
  obtain ⟨rfl, rfl, rfl⟩ := hq
  go_enter Try.func8, Try.ntmps8
  go_wp2_with fail
  refine (awake_c _).mono ?_; rintro e w1 ⟨rfl, bq⟩
  have hbw := bq; clear bq
  go_wp2_with fail
  rw [hR]
  refine (P1.out _).mono ?_; rintro e wq ⟨rfl, bq⟩
  replace hbw := hbw.trans (bq.mono hbw.size); clear bq
  go_wp2_with fail
  refine (P2.out _).mono ?_; rintro e wq ⟨rfl, bq⟩
  replace hbw := hbw.trans (bq.mono hbw.size); clear bq
  go_wp2_with fail
  refine (P3.out _).mono ?_; rintro e wq ⟨rfl, bq⟩
  replace hbw := hbw.trans (bq.mono hbw.size); clear bq
  go_wp2_with fail
  refine (P4.out _).mono ?_; rintro e wq ⟨rfl, bq⟩
  replace hbw := hbw.trans (bq.mono hbw.size); clear bq
  go_wp2_with fail
  refine (rnan_c 4 false (Lib.hid rfl) a ha _).mono ?_; rintro e wq ⟨rfl, bq⟩
  replace hbw := hbw.trans (bq.mono hbw.size); clear bq
  rw [hn.out]
  go_wp2_with fail
  rw [and_word a ha.out]
  go_ret
  exact ⟨by simp, hbw⟩
set_option maxRecDepth 100000 in
set_option maxHeartbeats 4000000 in
theorem cb_w_nan (rm r : Int) (hR : wrap64 ((IntKind.u64.wrap rm).tmod 5) = r) (u : Bool) (x a X Z : Nat) (f g : Int) (ha : Hid (a < 18446744073709551616)) (Y V : Nat) (fy fv : Int) (hf : f = 0 ∧ g = 0 ∧ Z = wideV x) (hn : Hid (nanX false a = true)) (hs : Hid (sigX false a = false)) (hq : quietB true = Y ∧ fy = 0 ∧ quietB false = V ∧ fv = 0)
    (P1 : Hid (∀ v, Calls Try.prog 18 #[.int .i64 8, .int .i64 r, .bool true, .bool u, .int .u64 x] v (RetXY X f v)))
    (P2 : Hid (∀ v, Calls Try.prog 16 #[.int .i64 8, .int .i64 r, .bool true, .bool u, .int .u64 X] v (RetXY Z g v)))
    (P3 : Hid (∀ v, Calls Try.prog 20 #[.int .i64 8, .int .i64 r, .int .u64 a] v (RetXY Y fy v)))
    (P4 : Hid (∀ v, Calls Try.prog 20 #[.int .i64 4, .int .i64 r, .int .u64 Y] v (RetXY V fv v)))
    (w : World) : Calls Try.prog 8 #[.int .i64 rm, .bool true, .bool u, .int .u64 x, .int .u64 a] w (RetB true w) := by
  obtain ⟨rfl, rfl, rfl⟩ := hf
  have HW : IntKind.u64.wrap (wrap64 (wrap32 ((x : Int) % 4294967296))) = ((wideV x : Nat) : Int) := by
    have := wide_form (x % 4294967296)
    rw [wide_mod] at this
    rw [← this]; rfl
  obtain ⟨hY, rfl, hV, rfl⟩ := hq
  go_enter Try.func8, Try.ntmps8
  go_wp2_with fail
  refine (awake_c _).mono ?_; rintro e w1 ⟨rfl, bq⟩
  have hbw := bq; clear bq
  go_wp2_with fail
  rw [hR]
  refine (P1.out _).mono ?_; rintro e wq ⟨rfl, bq⟩
  replace hbw := hbw.trans (bq.mono hbw.size); clear bq
  go_wp2_with fail
  refine (P2.out _).mono ?_; rintro e wq ⟨rfl, bq⟩
  replace hbw := hbw.trans (bq.mono hbw.size); clear bq
  go_wp2_with fail
  refine (P3.out _).mono ?_; rintro e wq ⟨rfl, bq⟩
  replace hbw := hbw.trans (bq.mono hbw.size); clear bq
  go_wp2_with fail
  refine (P4.out _).mono ?_; rintro e wq ⟨rfl, bq⟩
  replace hbw := hbw.trans (bq.mono hbw.size); clear bq
  go_wp2_with fail
  refine (rnan_c 4 false (Lib.hid rfl) a ha _).mono ?_; rintro e wq ⟨rfl, bq⟩
  replace hbw := hbw.trans (bq.mono hbw.size); clear bq
  rw [hn.out]
  go_wp2_with fail
  refine (rquiet_c 8 true (Lib.hid rfl) _).mono ?_; rintro e wq ⟨rfl, bq⟩
  replace hbw := hbw.trans (bq.mono hbw.size); clear bq
  rw [hY]
  go_wp2_with fail
  refine (rquiet_c 4 false (Lib.hid rfl) _).mono ?_; rintro e wq ⟨rfl, bq⟩
  replace hbw := hbw.trans (bq.mono hbw.size); clear bq
  rw [hV]
  go_wp2_with fail
  refine (rsig_c 4 false (Lib.hid rfl) a ha _).mono ?_; rintro e wq ⟨rfl, bq⟩
  replace hbw := hbw.trans (bq.mono hbw.size); clear bq
  rw [hs.out]
  go_wp2_with fail
  go_ret
  exact ⟨rfl, hbw⟩
set_option maxRecDepth 100000 in
set_option maxHeartbeats 4000000 in
theorem cb_w_sig (rm r : Int) (hR : wrap64 ((IntKind.u64.wrap rm).tmod 5) = r) (u : Bool) (x a X Z : Nat) (f g : Int) (ha : Hid (a < 18446744073709551616)) (Y V : Nat) (fy fv : Int) (hf : f = 0 ∧ g = 0 ∧ Z = wideV x) (hn : Hid (nanX false a = true)) (hs : Hid (sigX false a = true)) (hq : quietB true = Y ∧ fy = 16 ∧ quietB false = V ∧ fv = 0)
    (P1 : Hid (∀ v, Calls Try.prog 18 #[.int .i64 8, .int .i64 r, .bool true, .bool u, .int .u64 x] v (RetXY X f v)))
    (P2 : Hid (∀ v, Calls Try.prog 16 #[.int .i64 8, .int .i64 r, .bool true, .bool u, .int .u64 X] v (RetXY Z g v)))
    (P3 : Hid (∀ v, Calls Try.prog 20 #[.int .i64 8, .int .i64 r, .int .u64 a] v (RetXY Y fy v)))
    (P4 : Hid (∀ v, Calls Try.prog 20 #[.int .i64 4, .int .i64 r, .int .u64 Y] v (RetXY V fv v)))
    (w : World) : Calls Try.prog 8 #[.int .i64 rm, .bool true, .bool u, .int .u64 x, .int .u64 a] w (RetB true w) := by
  obtain ⟨rfl, rfl, rfl⟩ := hf
  have HW : IntKind.u64.wrap (wrap64 (wrap32 ((x : Int) % 4294967296))) = ((wideV x : Nat) : Int) := by
    have := wide_form (x % 4294967296)
    rw [wide_mod] at this
    rw [← this]; rfl
  obtain ⟨hY, rfl, hV, rfl⟩ := hq
  go_enter Try.func8, Try.ntmps8
  go_wp2_with fail
  refine (awake_c _).mono ?_; rintro e w1 ⟨rfl, bq⟩
  have hbw := bq; clear bq
  go_wp2_with fail
  rw [hR]
  refine (P1.out _).mono ?_; rintro e wq ⟨rfl, bq⟩
  replace hbw := hbw.trans (bq.mono hbw.size); clear bq
  go_wp2_with fail
  refine (P2.out _).mono ?_; rintro e wq ⟨rfl, bq⟩
  replace hbw := hbw.trans (bq.mono hbw.size); clear bq
  go_wp2_with fail
  refine (P3.out _).mono ?_; rintro e wq ⟨rfl, bq⟩
  replace hbw := hbw.trans (bq.mono hbw.size); clear bq
  go_wp2_with fail
  refine (P4.out _).mono ?_; rintro e wq ⟨rfl, bq⟩
  replace hbw := hbw.trans (bq.mono hbw.size); clear bq
  go_wp2_with fail
  refine (rnan_c 4 false (Lib.hid rfl) a ha _).mono ?_; rintro e wq ⟨rfl, bq⟩
  replace hbw := hbw.trans (bq.mono hbw.size); clear bq
  rw [hn.out]
  go_wp2_with fail
  refine (rquiet_c 8 true (Lib.hid rfl) _).mono ?_; rintro e wq ⟨rfl, bq⟩
  replace hbw := hbw.trans (bq.mono hbw.size); clear bq
  rw [hY]
  go_wp2_with fail
  refine (rquiet_c 4 false (Lib.hid rfl) _).mono ?_; rintro e wq ⟨rfl, bq⟩
  replace hbw := hbw.trans (bq.mono hbw.size); clear bq
  rw [hV]
  go_wp2_with fail
  refine (rsig_c 4 false (Lib.hid rfl) a ha _).mono ?_; rintro e wq ⟨rfl, bq⟩
  replace hbw := hbw.trans (bq.mono hbw.size); clear bq
  rw [hs.out]
  go_wp2_with fail
  go_ret
  exact ⟨rfl, hbw⟩
theorem u64_of_wf_back {a : Int} (h : (Lit.int .u64 a).wf = true) : ∃ n : Nat, a = n ∧ Hid (n < 18446744073709551616) := by
  simp [Lit.wf, IntKind.min, IntKind.max, IntKind.signed, IntKind.bits] at h
  obtain ⟨h0, h1⟩ := h
  exact ⟨a.toNat, by omega, by show _ < _; omega⟩
theorem mode_of (rm : Int) : ∃ r : Int, wrap64 ((IntKind.u64.wrap rm).tmod 5) = r ∧ 0 ≤ r ∧ r ≤ 4 := by
  refine ⟨_, rfl, ?_⟩
  rw [IntKind.wrap_u64]
  obtain ⟨y, hy⟩ : ∃ y : Nat, rm % 18446744073709551616 = (y : Int) := ⟨(rm % 18446744073709551616).toNat, by omega⟩
  rw [hy]
  have h : ((y : Int).tmod 5) = ((y % 5 : Nat) : Int) := by rw [Int.ofNat_tmod]; rfl
  rw [h]
  unfold wrap64
  omega
theorem back_u64 (r : Nat × Int) {W : World} {e : Ending} {w' : World} (h : RetP r W e w') : RetXY r.1 r.2 W e w' := h
theorem fst_eq {r : Nat × Int} {x : Nat} {f : Int} (h : r = (x, f)) : r.1 = x ∧ r.2 = f := by subst h; exact ⟨rfl, rfl⟩
theorem Convert_any (sz : Int) (d : Bool) (hd : Hid (SzOk sz d)) (rm : Int) (hrm : Hid (0 ≤ rm ∧ rm ≤ 4)) (a : Nat) (ha : Hid (a < 18446744073709551616)) (w : World) :
    Calls Try.prog 20 #[.int .i64 sz, .int .i64 rm, .int .u64 a] w (RetP (cvtV d rm a) w) := by
  by_cases hc : clsV (!d) a = 8 ∨ clsV (!d) a = 9
  · exact Convert_none sz d hd rm hrm a ha hc w
  · exact Convert_fin sz d hd rm hrm a ha (Lib.hid (fun e => hc (Or.inl e))) (Lib.hid (fun e => hc (Or.inr e))) w
theorem round_lt (d : Bool) (rm : Int) (hr : 0 ≤ rm ∧ rm ≤ 4) (m : Bool) (e : Int) (g : Nat) (hg : g < 18446744073709551616) : (roundV d rm m e g).1 < 18446744073709551616 := by
  by_cases h0 : g = 0
  · subst h0
    show noughtV d m < _
    cases d <;> cases m <;> decide
  · rw [roundV_F d rm m e g h0 hg hr]
    obtain ⟨F, h1, h2⟩ := Q.roundF_shape d rm ⟨1, m, e, g⟩ h0 (Nat.lt_trans hg (by decide))
    rw [h1]
    exact Q.shape_lt h2
theorem cvt_lt (rm : Int) (hr : 0 ≤ rm ∧ rm ≤ 4) (a : Nat) : (cvtV true rm a).1 < 18446744073709551616 := by
  unfold cvtV
  split
  · show quietB true < _; decide
  · split
    · show infV true _ < _
      cases minusN (!true) a <;> decide
    · exact round_lt true rm hr _ _ _ (readG_b false a)
theorem convBack_walk (a0 : Int) (a1 a2 : Bool) (a3 a4 : Int) (w0 : (Lit.int .i64 a0).wf = true) (w3 : (Lit.int .u64 a3).wf = true) (w4 : (Lit.int .u64 a4).wf = true) (w : World) :
    Calls Try.prog 8 #[.int .i64 a0, .bool a1, .bool a2, .int .u64 a3, .int .u64 a4] w (RetB true w) := by
  obtain ⟨x, rfl, hx⟩ := u64_of_wf_back w3
  obtain ⟨a, rfl, ha⟩ := u64_of_wf_back w4
  obtain ⟨r, hR, hr⟩ := mode_of a0
  have hrm : Hid (0 ≤ r ∧ r ≤ 4) := hr
  have hl := heldF_lt a1 a2 x hx.out
  have hX := round_lt true r hr (heldM a1 a2 x) 0 (heldF a1 a2 x) hl
  have P1 := fun v => FromInt_c 8 true (Lib.hid rfl) r hrm a1 a2 x hx v
  have P2 := fun v => ToInt_c 8 true (Lib.hid rfl) r hrm a1 a2 (roundV true r (heldM a1 a2 x) 0 (heldF a1 a2 x)).1 hX v
  have P3 := fun v => Convert_any 8 true (Lib.hid rfl) r hrm a ha v
  have P4 := fun v => Convert_any 4 false (Lib.hid rfl) r hrm (cvtV true r a).1 (cvt_lt r hr a) v
  have hword := from_word r hr a2 x hx.out
  have hto := to_of_from r hr a1 a2 x hx.out
  have hnan : nanX false a = true → cvtV true r a = (quietB true, if sigX false a then 16 else 0) ∧ cvtV false r (cvtV true r a).1 = (quietB false, 0) := fun h => by
    obtain ⟨h1, h2⟩ := back_nan r hr a h
    exact ⟨h1, by rw [h1]; exact h2⟩
  have hnum := back_num r hr a
  have hf' : (roundV true r (heldM a1 a2 x) 0 (heldF a1 a2 x)).2 = 0 → (toIntV true r a1 a2 (roundV true r (heldM a1 a2 x) 0 (heldF a1 a2 x)).1).2 = 0 ∧ (toIntV true r a1 a2 (roundV true r (heldM a1 a2 x) 0 (heldF a1 a2 x)).1).1 = (if a1 then wideV x else x) := fun h => by rw [hto h]; exact ⟨rfl, rfl⟩
  have hw' : a1 = true → (roundV true r (heldM a1 a2 x) 0 (heldF a1 a2 x)).2 = 0 := fun h => by subst h; exact hword
  clear hto hword
  revert P1 P2 P3 P4 hf' hw' hnan hnum
  generalize roundV true r (heldM a1 a2 x) 0 (heldF a1 a2 x) = A
  obtain ⟨X, f⟩ := A
  generalize toIntV true r a1 a2 X = B
  obtain ⟨Z, g⟩ := B
  generalize cvtV true r a = C
  obtain ⟨Y, fy⟩ := C
  generalize cvtV false r Y = D
  obtain ⟨V, fv⟩ := D
  intro P1 P2 P3 P4 hnan hnum hf hw
  have P1' : Hid (∀ v, Calls Try.prog 18 #[.int .i64 8, .int .i64 r, .bool a1, .bool a2, .int .u64 x] v (RetXY X f v)) := P1
  have P2' : Hid (∀ v, Calls Try.prog 16 #[.int .i64 8, .int .i64 r, .bool a1, .bool a2, .int .u64 X] v (RetXY Z g v)) := P2
  have P3' : Hid (∀ v, Calls Try.prog 20 #[.int .i64 8, .int .i64 r, .int .u64 a] v (RetXY Y fy v)) := P3
  have P4' : Hid (∀ v, Calls Try.prog 20 #[.int .i64 4, .int .i64 r, .int .u64 Y] v (RetXY V fv v)) := P4
  clear P1 P2 P3 P4
  have hz : (f == 0) = false ∧ a1 = false ∨ f = 0 ∧ g = 0 ∧ Z = (if a1 then wideV x else x) := by
    by_cases h : f = 0
    · exact Or.inr ⟨h, (hf h).1, (hf h).2⟩
    · refine Or.inl ⟨by simpa using h, ?_⟩
      cases a1
      · rfl
      · exact absurd (hw rfl) h
  clear hf hw
  by_cases hN : nanX false a = true
  · obtain ⟨n1, n2⟩ := hnan hN
    obtain ⟨n1, n3⟩ := fst_eq n1
    obtain ⟨n4, n5⟩ := fst_eq n2
    replace n1 : Y = quietB true := n1
    replace n3 : fy = if sigX false a then 16 else 0 := n3
    replace n4 : V = quietB false := n4
    replace n5 : fv = 0 := n5
    by_cases hS : sigX false a = true
    · rw [hS] at n3
      have n3 : fy = 16 := n3
      rcases hz with ⟨z1, rfl⟩ | ⟨z1, z2, z3⟩
      · exact cb_f_sig a0 r hR a2 x a X Z f g ha Y V fy fv z1 hN hS ⟨n1.symm, n3, n4.symm, n5⟩ P1' P2' P3' P4' w
      · cases a1
        · exact cb_t_sig a0 r hR a2 x a X Z f g ha Y V fy fv ⟨z1, z2, z3⟩ hN hS ⟨n1.symm, n3, n4.symm, n5⟩ P1' P2' P3' P4' w
        · exact cb_w_sig a0 r hR a2 x a X Z f g ha Y V fy fv ⟨z1, z2, z3⟩ hN hS ⟨n1.symm, n3, n4.symm, n5⟩ P1' P2' P3' P4' w
    · have hS : sigX false a = false := by simpa using hS
      rw [hS] at n3
      have n3 : fy = 0 := n3
      rcases hz with ⟨z1, rfl⟩ | ⟨z1, z2, z3⟩
      · exact cb_f_nan a0 r hR a2 x a X Z f g ha Y V fy fv z1 hN hS ⟨n1.symm, n3, n4.symm, n5⟩ P1' P2' P3' P4' w
      · cases a1
        · exact cb_t_nan a0 r hR a2 x a X Z f g ha Y V fy fv ⟨z1, z2, z3⟩ hN hS ⟨n1.symm, n3, n4.symm, n5⟩ P1' P2' P3' P4' w
        · exact cb_w_nan a0 r hR a2 x a X Z f g ha Y V fy fv ⟨z1, z2, z3⟩ hN hS ⟨n1.symm, n3, n4.symm, n5⟩ P1' P2' P3' P4' w
  · have hN : nanX false a = false := by simpa using hN
    obtain ⟨n3, n2⟩ := hnum hN
    obtain ⟨n4, n5⟩ := fst_eq n2
    replace n3 : fy = 0 := n3
    replace n4 : V = a % 4294967296 := n4
    replace n5 : fv = 0 := n5
    rcases hz with ⟨z1, rfl⟩ | ⟨z1, z2, z3⟩
    · exact cb_f_num a0 r hR a2 x a X Z f g ha Y V fy fv z1 hN ⟨n3, n4, n5⟩ P1' P2' P3' P4' w
    · cases a1
      · exact cb_t_num a0 r hR a2 x a X Z f g ha Y V fy fv ⟨z1, z2, z3⟩ hN ⟨n3, n4, n5⟩ P1' P2' P3' P4' w
      · exact cb_w_num a0 r hR a2 x a X Z f g ha Y V fy fv ⟨z1, z2, z3⟩ hN ⟨n3, n4, n5⟩ P1' P2' P3' P4' w
end Go.Proofs.Yteinjalnkhfecaa
namespace Go.Proofs.Yteinjalnkhfecaa.convBack
open Go.ChangeShapes Go.WideShapes Go.ChangeAt Go.RowKit
set_option linter.unusedVariables false
theorem own : ownKnob Try.prog.godebug = none := by kernel_rfl
set_option maxRecDepth 100000 in
theorem lifted (os : Os) (started : os.Started) (H : Type) (enc : TypeId × Value → H) :
    ReturnsInHanded {} Try.checked os 8 .any (Rows.convBackSpec.pre6 enc Try.prog Try.f8 Rows.convBackRow.domain false) (Rows.convBackSpec.post enc Try.prog Try.f8 false true false false) := by
  refine returnsInHanded_of_change (C := Try.checked) own started (by kernel_rfl) Try.func8
    (ChangeSpec.witness6 (enc := enc) (C := Try.checked) false ⟨#[], #[.int .i64 0, .bool false, .bool false, .int .u64 0, .int .u64 0], []⟩ 8 (by kernel_rfl) (by kernel_rfl) (by kernel_rfl) (by kernel_rfl)) ?_
  intro W base args ds gs before hval0 hW hcnd _
  have hval : ∀ (j : Nat) t v, Try.f8.params[j]? = some t → args[j]? = some v → Value.okWide Try.prog W .any base t v := hval0
  have hW' := hW
  obtain ⟨p, q, hA0, hV, rfl, hfz, hnd⟩ := hW
  have hA : DataW.TrodAll enc Try.prog W 0 (fun _ => true) true Try.f8.params.toList args.toList ds p := hA0
  rw [Try.params8] at hA hval
  obtain ⟨v0, vs0, d0, ds0, p0, q0, hargs, rfl, rfl, h0, r0⟩ := trodAll_cons hA
  obtain ⟨v1, vs1, d1, ds1, p1, q1, rfl, rfl, rfl, h1, r1⟩ := trodAll_cons r0
  obtain ⟨v2, vs2, d2, ds2, p2, q2, rfl, rfl, rfl, h2, r2⟩ := trodAll_cons r1
  obtain ⟨v3, vs3, d3, ds3, p3, q3, rfl, rfl, rfl, h3, r3⟩ := trodAll_cons r2
  obtain ⟨v4, vs4, d4, ds4, p4, q4, rfl, rfl, rfl, h4, r4⟩ := trodAll_cons r3
  obtain ⟨rfl, rfl, rfl⟩ := trodAll_nil r4
  obtain rfl : args = #[v0, v1, v2, v3, v4] := by cases args; simp_all
  obtain ⟨rfl, rfl⟩ := trodVars_none hV
  obtain ⟨a0, rfl, rfl, rfl, w0⟩ := open_int Try.underlying3 (hval 0 3 v0 rfl rfl) h0
  obtain ⟨a1, rfl, rfl, rfl⟩ := open_bool Try.underlying4 (hval 1 4 v1 rfl rfl) h1
  obtain ⟨a2, rfl, rfl, rfl⟩ := open_bool Try.underlying4 (hval 2 4 v2 rfl rfl) h2
  obtain ⟨a3, rfl, rfl, rfl, w3⟩ := open_int Try.underlying22 (hval 3 22 v3 rfl rfl) h3
  obtain ⟨a4, rfl, rfl, rfl, w4⟩ := open_int Try.underlying22 (hval 4 22 v4 rfl rfl) h4
  clear hA0 hval0
  simp only [List.append_nil] at hW'
  refine (convBack_walk a0 a1 a2 a3 a4 w0 w3 w4 W).mono fun e W' ⟨he, hg⟩ => ?_
  subst he
  exact ⟨_, rfl, post_nums hW' (fun _ _ _ => (trodAll_cons_mk (shut_bool Try.underlying4 _) trodAll_mk0)) (fun sp => (trodAll_cons_mk (shut_int Try.underlying3 w0) (trodAll_cons_mk (shut_bool Try.underlying4 _) (trodAll_cons_mk (shut_bool Try.underlying4 _) (trodAll_cons_mk (shut_int Try.underlying22 w3) (trodAll_cons_mk (shut_int Try.underlying22 w4) trodAll_mk0)))))) (fun _ => rfl) hg (ok_one (by kernel_rfl) rfl (okWide_bool_mk Try.underlying4 _))⟩
theorem over : Rows.convBackRow.holds Try.pinned (OpenSpec.ofChange Rows.convBackSpec) :=
  OpenClaim.holds_of_wide 8 Try.f8 rfl rfl rfl rfl rfl rfl rfl ⟨rfl, rfl, rfl, rfl, rfl⟩ rfl rfl rfl rfl rfl (by kernel_rfl) Try.func8 (by kernel_rfl)
    (of_decide_eq_true (by kernel_rfl)) (by unfold Func.isWrapper; first | (rw [if_pos (by decide +kernel)]; kernel_rfl) | (rw [if_neg (by decide +kernel)]; exact ⟨rfl, rfl⟩))
    (fun os started H enc _ => lifted os started H enc)
theorem proved : Rows.ConvBackSaid := over
#print axioms proved
end Go.Proofs.Yteinjalnkhfecaa.convBack
