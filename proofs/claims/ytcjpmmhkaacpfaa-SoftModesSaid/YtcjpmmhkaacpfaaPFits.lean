/- PROVED: 'SoftFits' returns true whatever the four numbers are: Fma with 1 is Add, and Fma with a nought of the product's sign behind is Mul. No condition. -/
import Derived.Test.YtcjpmmhkaacpfaaF2
import Derived.Test.YtcjpmmhkaacpfaaG1
import Derived.Test.YtcjpmmhkaacpfaaG2
namespace Go.Proofs.Ytcjpmmhkaacpfaa
open Go.ChangeShapes Go.WideShapes Go.ChangeAt Go.RowKit
set_option linter.unusedVariables false
set_option linter.unusedSimpArgs false
theorem nan_4 (a : Nat) (ha : Hid (a < 18446744073709551616)) (w : World) : Calls Try.prog 30 #[.int .i64 4, .int .u64 a] w (RetB (nanB false a) w) := by
  go_enter Try.func30, Try.ntmps30
  go_wp2_with fail
  refine (shape_4 _).mono ?_; rintro e w1 ⟨rfl, hb1⟩
  go_wp2_with fail
  refine (parts_4 a ha _).mono ?_; rintro e w2 ⟨rfl, hb2⟩
  have HN : Hid (nanB false a = decide (a / fracT false % expT false = 255 ∧ a % fracT false ≠ 0)) := rfl
  generalize a / fracT false % expT false = x at *
  generalize a % fracT false = m at *
  by_cases h1 : x = 255
  · have g1 : ((x : Int) == 255) = true := by rw [beq_iff_eq]; omega
    by_cases h2 : m = 0
    · have g2 : ((m : Int) != 0) = false := by rw [h2]; rfl
      have E : Hid (nanB false a = false) := by show _ = _; rw [HN.out]; exact decide_eq_false (fun h => h.2 h2)
      clear h1 h2 HN
      go_wp2_with fail
      go_ret
      exact retB_mk E.out.symm (by repeat (first | (with_reducible first | exact Below.refl _ _ | assumption | exact Nat.le_refl _ | refine Below.drew ?_ | refine Below.alloc ?_ ?_ _ | refine Below.setCell ?_ ?_ _ | refine le_alloc ?_ | refine le_set ?_ | refine le_drew ?_ | refine below_step (by assumption) ?_ ?_ | refine le_below (by assumption) ?_) | (dsimp only; omega)))
    · have g2 : ((m : Int) != 0) = true := by rw [bne_iff_ne]; omega
      have E : Hid (nanB false a = true) := by show _ = _; rw [HN.out]; exact decide_eq_true ⟨h1, h2⟩
      clear h1 h2 HN
      go_wp2_with fail
      go_ret
      exact retB_mk E.out.symm (by repeat (first | (with_reducible first | exact Below.refl _ _ | assumption | exact Nat.le_refl _ | refine Below.drew ?_ | refine Below.alloc ?_ ?_ _ | refine Below.setCell ?_ ?_ _ | refine le_alloc ?_ | refine le_set ?_ | refine le_drew ?_ | refine below_step (by assumption) ?_ ?_ | refine le_below (by assumption) ?_) | (dsimp only; omega)))
  · have g1 : ((x : Int) == 255) = false := by rw [beq_eq_false_iff_ne]; omega
    have E : Hid (nanB false a = false) := by show _ = _; rw [HN.out]; exact decide_eq_false (fun h => h1 h.1)
    clear h1 HN
    go_wp2_with fail
    go_ret
    exact retB_mk E.out.symm (by repeat (first | (with_reducible first | exact Below.refl _ _ | assumption | exact Nat.le_refl _ | refine Below.drew ?_ | refine Below.alloc ?_ ?_ _ | refine Below.setCell ?_ ?_ _ | refine le_alloc ?_ | refine le_set ?_ | refine le_drew ?_ | refine below_step (by assumption) ?_ ?_ | refine le_below (by assumption) ?_) | (dsimp only; omega)))
theorem nan_8 (a : Nat) (ha : Hid (a < 18446744073709551616)) (w : World) : Calls Try.prog 30 #[.int .i64 8, .int .u64 a] w (RetB (nanB true a) w) := by
  go_enter Try.func30, Try.ntmps30
  go_wp2_with fail
  refine (shape_8 _).mono ?_; rintro e w1 ⟨rfl, hb1⟩
  go_wp2_with fail
  refine (parts_8 a ha _).mono ?_; rintro e w2 ⟨rfl, hb2⟩
  have HN : Hid (nanB true a = decide (a / fracT true % expT true = 2047 ∧ a % fracT true ≠ 0)) := rfl
  generalize a / fracT true % expT true = x at *
  generalize a % fracT true = m at *
  by_cases h1 : x = 2047
  · have g1 : ((x : Int) == 2047) = true := by rw [beq_iff_eq]; omega
    by_cases h2 : m = 0
    · have g2 : ((m : Int) != 0) = false := by rw [h2]; rfl
      have E : Hid (nanB true a = false) := by show _ = _; rw [HN.out]; exact decide_eq_false (fun h => h.2 h2)
      clear h1 h2 HN
      go_wp2_with fail
      go_ret
      exact retB_mk E.out.symm (by repeat (first | (with_reducible first | exact Below.refl _ _ | assumption | exact Nat.le_refl _ | refine Below.drew ?_ | refine Below.alloc ?_ ?_ _ | refine Below.setCell ?_ ?_ _ | refine le_alloc ?_ | refine le_set ?_ | refine le_drew ?_ | refine below_step (by assumption) ?_ ?_ | refine le_below (by assumption) ?_) | (dsimp only; omega)))
    · have g2 : ((m : Int) != 0) = true := by rw [bne_iff_ne]; omega
      have E : Hid (nanB true a = true) := by show _ = _; rw [HN.out]; exact decide_eq_true ⟨h1, h2⟩
      clear h1 h2 HN
      go_wp2_with fail
      go_ret
      exact retB_mk E.out.symm (by repeat (first | (with_reducible first | exact Below.refl _ _ | assumption | exact Nat.le_refl _ | refine Below.drew ?_ | refine Below.alloc ?_ ?_ _ | refine Below.setCell ?_ ?_ _ | refine le_alloc ?_ | refine le_set ?_ | refine le_drew ?_ | refine below_step (by assumption) ?_ ?_ | refine le_below (by assumption) ?_) | (dsimp only; omega)))
  · have g1 : ((x : Int) == 2047) = false := by rw [beq_eq_false_iff_ne]; omega
    have E : Hid (nanB true a = false) := by show _ = _; rw [HN.out]; exact decide_eq_false (fun h => h1 h.1)
    clear h1 HN
    go_wp2_with fail
    go_ret
    exact retB_mk E.out.symm (by repeat (first | (with_reducible first | exact Below.refl _ _ | assumption | exact Nat.le_refl _ | refine Below.drew ?_ | refine Below.alloc ?_ ?_ _ | refine Below.setCell ?_ ?_ _ | refine le_alloc ?_ | refine le_set ?_ | refine le_drew ?_ | refine below_step (by assumption) ?_ ?_ | refine le_below (by assumption) ?_) | (dsimp only; omega)))
/-- Fma with 1 in the middle. -/
def RetQ (r0 : Nat × Int) (W : World) (e : Ending) (w' : World) : Prop := ∃ r : Nat × Int, e = .returned (.tuple #[.int .u64 r.1, .int .i64 r.2]) ∧ Hid (r = r0) ∧ Below W.heap.size W w'
theorem retQ_of {r r0 : Nat × Int} {W : World} {e : Ending} {w' : World} (hr : r = r0) (h : RetP r W e w') : RetQ r0 W e w' := ⟨r, h.1, hr, h.2⟩
theorem fma_one_c (sz : Int) (d : Bool) (hsz : Hid (sz = if d then 8 else 4)) (rm : Int) (h5 : 0 ≤ rm) (h3 : rm < 5) (one : Nat) (ho : Hid (one = oneB d)) (a b : Nat) (ha : Hid (a < 18446744073709551616)) (hb : Hid (b < 18446744073709551616)) (w : World) :
    Calls Try.prog 26 #[.int .i64 sz, .int .i64 rm, .int .u64 a, .int .u64 one, .int .u64 b] w (RetQ (sumF d rm (readN d a) (readN d b)) w) :=
  (Fma_c sz d hsz rm h5 h3 a one b ha (by have := ho.out; show one < _; rw [this]; cases d <;> decide) hb w).mono fun _ _ h => retQ_of (by rw [ho.out]; exact fma_one d rm a b) h
theorem add_q (sz : Int) (d : Bool) (hsz : Hid (sz = if d then 8 else 4)) (rm : Int) (h5 : 0 ≤ rm) (h3 : rm < 5) (a b : Nat) (ha : Hid (a < 18446744073709551616)) (hb : Hid (b < 18446744073709551616)) (w : World) :
    Calls Try.prog 16 #[.int .i64 sz, .int .i64 rm, .int .u64 a, .int .u64 b] w (RetQ (sumF d rm (readN d a) (readN d b)) w) :=
  (Add_c sz d hsz rm h5 h3 a b ha hb w).mono fun _ _ h => retQ_of rfl h
def MulIs (d : Bool) (rm : Int) (a b v : Nat) (f : Int) : Prop := mulF d rm (readN d a) (readN d b) = (v, f)
def RetV (d : Bool) (rm : Int) (a b : Nat) (W : World) (e : Ending) (w' : World) : Prop := ∃ (v : Nat) (f : Int), e = .returned (.tuple #[.int .u64 v, .int .i64 f]) ∧ Hid (MulIs d rm a b v f) ∧ Hid (v < 18446744073709551616) ∧ Below W.heap.size W w'
theorem mul_q (sz : Int) (d : Bool) (hsz : Hid (sz = if d then 8 else 4)) (rm : Int) (h5 : 0 ≤ rm) (h3 : rm < 5) (a b : Nat) (ha : Hid (a < 18446744073709551616)) (hb : Hid (b < 18446744073709551616)) (w : World) :
    Calls Try.prog 20 #[.int .i64 sz, .int .i64 rm, .int .u64 a, .int .u64 b] w (RetV d rm a b w) :=
  (Mul_c sz d hsz rm h5 h3 a b ha hb w).mono fun _ _ h => ⟨_, _, h.1, rfl, mulF_lt _ _ _ _, h.2⟩
def NgOk (d : Bool) (v z : Nat) : Prop := (∃ m, z = noughtV d m) ∧ (nanB d v = false → z = v / signB d % 2 * signB d)
theorem fma_back_c (sz : Int) (d : Bool) (hsz : Hid (sz = if d then 8 else 4)) (rm : Int) (h5 : 0 ≤ rm) (h3 : rm < 5) (a b z : Nat) (ha : Hid (a < 18446744073709551616)) (hb : Hid (b < 18446744073709551616)) (v : Nat) (f : Int) (hm : Hid (MulIs d rm a b v f)) (hz : Hid (NgOk d v z)) (w : World) :
    Calls Try.prog 26 #[.int .i64 sz, .int .i64 rm, .int .u64 a, .int .u64 b, .int .u64 z] w (RetQ (v, f) w) :=
  (Fma_c sz d hsz rm h5 h3 a b z ha hb (by obtain ⟨⟨m, e⟩, -⟩ := hz.out; show z < _; rw [e]; cases d <;> cases m <;> decide) w).mono fun _ _ h => retQ_of (by
    have e : mulF d rm (readN d a) (readN d b) = (v, f) := hm.out
    rw [← e]; exact fma_back d rm a b z ⟨hz.out.1, by rw [e]; exact hz.out.2⟩) h
theorem nought_of_bit (d : Bool) (v : Nat) : ∃ m, v / signB d % 2 * signB d = noughtV d m := by
  have : v / signB d % 2 = 0 ∨ v / signB d % 2 = 1 := by omega
  rcases this with h | h <;> rw [h]
  · exact ⟨false, by rw [Nat.zero_mul]; rfl⟩
  · exact ⟨true, by rw [Nat.one_mul]; rfl⟩
theorem sign_bit_4 (v : Nat) (h : v < 18446744073709551616) : bits .and .u64 (v : Int) 2147483648 = ((v / signB false % 2 * signB false : Nat) : Int) := by
  rw [show (2147483648 : Int) = ((2 ^ 31 : Nat) : Int) by decide, u64_and_nat _ _ h (by decide), nat_bit]
  rfl
theorem sign_bit_8 (v : Nat) (h : v < 18446744073709551616) : bits .and .u64 (v : Int) 9223372036854775808 = ((v / signB true % 2 * signB true : Nat) : Int) := by
  rw [show (9223372036854775808 : Int) = ((2 ^ 63 : Nat) : Int) by decide, u64_and_nat _ _ h (by decide), nat_bit]
  rfl
theorem softFits_4 (a0 a1 : Int) (a b : Nat) (hs : bits .and .i64 a0 1 = 0) (ha : Hid (a < 18446744073709551616)) (hb : Hid (b < 18446744073709551616)) (w : World) :
    Calls Try.prog 9 #[.int .i64 a0, .int .i64 a1, .int .u64 a, .int .u64 b] w (RetB true w) := by
  go_enter Try.func9, Try.ntmps9
  go_wp2_with fail
  refine (awake_c _).mono ?_; rintro e w1 ⟨rfl, hb1⟩
  go_wp2_with fail
  refine (size_4 a0 hs _).mono ?_; rintro e w2 ⟨rfl, hb2⟩
  go_wp2_with fail
  refine (mode_c a1 _).mono ?_; rintro e w3 ⟨rm, rfl, m0, m5, hb3⟩
  go_wp2_with fail
  refine (fma_one_c 4 false rfl rm m0 m5 1065353216 rfl a b ha hb _).mono ?_; rintro e w4 ⟨r, rfl, hr, hb4⟩
  go_wp2_with fail
  refine (add_q 4 false rfl rm m0 m5 a b ha hb _).mono ?_; rintro e w5 ⟨r2, rfl, hr2, hb5⟩
  obtain rfl : r2 = r := hr2.out.trans hr.out.symm
  go_wp2_with fail
  refine (mul_q 4 false rfl rm m0 m5 a b ha hb _).mono ?_; rintro e w6 ⟨v, f, rfl, hv, hlt, hb6⟩
  have e1 : bits .and .u64 (v : Int) 2147483648 = ((v / signB false % 2 * signB false : Nat) : Int) := sign_bit_4 v hlt.out
  obtain ⟨m, hm⟩ := nought_of_bit false v
  have HM := Lib.hid hm
  clear hm
  generalize hzz : v / signB false % 2 * signB false = z at *
  have HZ := Lib.hid hzz
  clear hzz
  go_wp2_with fail
  refine (nan_4 v hlt _).mono ?_; rintro e w7 ⟨rfl, hb7⟩
  cases hn : nanB false v
  · have Z : Hid (NgOk false v z) := ⟨⟨m, HM.out⟩, fun _ => HZ.out.symm⟩
    clear hn
    go_wp2_with fail
    refine (fma_back_c 4 false rfl rm m0 m5 a b z ha hb v f hv Z _).mono ?_; rintro e w8 ⟨r3, rfl, hr3, hb8⟩
    obtain rfl : r3 = (v, f) := hr3.out
    go_wp2_with fail
    go_ret
    exact retB_mk rfl (by repeat (first | (with_reducible first | exact Below.refl _ _ | assumption | exact Nat.le_refl _ | refine Below.drew ?_ | refine Below.alloc ?_ ?_ _ | refine Below.setCell ?_ ?_ _ | refine le_alloc ?_ | refine le_set ?_ | refine le_drew ?_ | refine below_step (by assumption) ?_ ?_ | refine le_below (by assumption) ?_) | (dsimp only; omega)))
  · have Z : Hid (NgOk false v 0) := ⟨⟨false, rfl⟩, fun h => by rw [hn] at h; exact absurd h (by decide)⟩
    clear hn
    go_wp2_with fail
    refine (fma_back_c 4 false rfl rm m0 m5 a b 0 ha hb v f hv Z _).mono ?_; rintro e w8 ⟨r3, rfl, hr3, hb8⟩
    obtain rfl : r3 = (v, f) := hr3.out
    go_wp2_with fail
    go_ret
    exact retB_mk rfl (by repeat (first | (with_reducible first | exact Below.refl _ _ | assumption | exact Nat.le_refl _ | refine Below.drew ?_ | refine Below.alloc ?_ ?_ _ | refine Below.setCell ?_ ?_ _ | refine le_alloc ?_ | refine le_set ?_ | refine le_drew ?_ | refine below_step (by assumption) ?_ ?_ | refine le_below (by assumption) ?_) | (dsimp only; omega)))
theorem softFits_8 (a0 a1 : Int) (a b : Nat) (hs : bits .and .i64 a0 1 = 1) (ha : Hid (a < 18446744073709551616)) (hb : Hid (b < 18446744073709551616)) (w : World) :
    Calls Try.prog 9 #[.int .i64 a0, .int .i64 a1, .int .u64 a, .int .u64 b] w (RetB true w) := by
  go_enter Try.func9, Try.ntmps9
  go_wp2_with fail
  refine (awake_c _).mono ?_; rintro e w1 ⟨rfl, hb1⟩
  go_wp2_with fail
  refine (size_8 a0 hs _).mono ?_; rintro e w2 ⟨rfl, hb2⟩
  go_wp2_with fail
  refine (mode_c a1 _).mono ?_; rintro e w3 ⟨rm, rfl, m0, m5, hb3⟩
  go_wp2_with fail
  refine (fma_one_c 8 true rfl rm m0 m5 4607182418800017408 rfl a b ha hb _).mono ?_; rintro e w4 ⟨r, rfl, hr, hb4⟩
  go_wp2_with fail
  refine (add_q 8 true rfl rm m0 m5 a b ha hb _).mono ?_; rintro e w5 ⟨r2, rfl, hr2, hb5⟩
  obtain rfl : r2 = r := hr2.out.trans hr.out.symm
  go_wp2_with fail
  refine (mul_q 8 true rfl rm m0 m5 a b ha hb _).mono ?_; rintro e w6 ⟨v, f, rfl, hv, hlt, hb6⟩
  have e1 : bits .and .u64 (v : Int) 9223372036854775808 = ((v / signB true % 2 * signB true : Nat) : Int) := sign_bit_8 v hlt.out
  obtain ⟨m, hm⟩ := nought_of_bit true v
  have HM := Lib.hid hm
  clear hm
  generalize hzz : v / signB true % 2 * signB true = z at *
  have HZ := Lib.hid hzz
  clear hzz
  go_wp2_with fail
  refine (nan_8 v hlt _).mono ?_; rintro e w7 ⟨rfl, hb7⟩
  cases hn : nanB true v
  · have Z : Hid (NgOk true v z) := ⟨⟨m, HM.out⟩, fun _ => HZ.out.symm⟩
    clear hn
    go_wp2_with fail
    refine (fma_back_c 8 true rfl rm m0 m5 a b z ha hb v f hv Z _).mono ?_; rintro e w8 ⟨r3, rfl, hr3, hb8⟩
    obtain rfl : r3 = (v, f) := hr3.out
    go_wp2_with fail
    go_ret
    exact retB_mk rfl (by repeat (first | (with_reducible first | exact Below.refl _ _ | assumption | exact Nat.le_refl _ | refine Below.drew ?_ | refine Below.alloc ?_ ?_ _ | refine Below.setCell ?_ ?_ _ | refine le_alloc ?_ | refine le_set ?_ | refine le_drew ?_ | refine below_step (by assumption) ?_ ?_ | refine le_below (by assumption) ?_) | (dsimp only; omega)))
  · have Z : Hid (NgOk true v 0) := ⟨⟨false, rfl⟩, fun h => by rw [hn] at h; exact absurd h (by decide)⟩
    clear hn
    go_wp2_with fail
    refine (fma_back_c 8 true rfl rm m0 m5 a b 0 ha hb v f hv Z _).mono ?_; rintro e w8 ⟨r3, rfl, hr3, hb8⟩
    obtain rfl : r3 = (v, f) := hr3.out
    go_wp2_with fail
    go_ret
    exact retB_mk rfl (by repeat (first | (with_reducible first | exact Below.refl _ _ | assumption | exact Nat.le_refl _ | refine Below.drew ?_ | refine Below.alloc ?_ ?_ _ | refine Below.setCell ?_ ?_ _ | refine le_alloc ?_ | refine le_set ?_ | refine le_drew ?_ | refine below_step (by assumption) ?_ ?_ | refine le_below (by assumption) ?_) | (dsimp only; omega)))
theorem u64_of_wf {a : Int} (h : (Lit.int .u64 a).wf = true) : ∃ n : Nat, a = n ∧ Hid (n < 18446744073709551616) := by
  simp [Lit.wf, IntKind.min, IntKind.max, IntKind.signed, IntKind.bits] at h
  obtain ⟨h0, h1⟩ := h
  exact ⟨a.toNat, by omega, by show _ < _; omega⟩
theorem softFits_walk (a0 a1 a2 a3 : Int) (w0 : (Lit.int .i64 a0).wf = true) (w1 : (Lit.int .i64 a1).wf = true) (w2 : (Lit.int .u64 a2).wf = true) (w3 : (Lit.int .u64 a3).wf = true) (w : World) :
    Calls Try.prog 9 #[.int .i64 a0, .int .i64 a1, .int .u64 a2, .int .u64 a3] w (RetB true w) := by
  obtain ⟨a, rfl, ha⟩ := u64_of_wf w2
  obtain ⟨b, rfl, hb⟩ := u64_of_wf w3
  rcases i64_and1 a0 with hs | hs
  · exact softFits_4 a0 a1 a b hs ha hb w
  · exact softFits_8 a0 a1 a b hs ha hb w
end Go.Proofs.Ytcjpmmhkaacpfaa
namespace Go.Proofs.Ytcjpmmhkaacpfaa.softFits
open Go.ChangeShapes Go.WideShapes Go.ChangeAt Go.RowKit
set_option linter.unusedVariables false
theorem own : ownKnob Try.prog.godebug = none := by kernel_rfl
set_option maxRecDepth 100000 in
theorem lifted (os : Os) (started : os.Started) (H : Type) (enc : TypeId × Value → H) :
    ReturnsInHanded {} Try.checked os 9 .any (Rows.softFitsSpec.pre6 enc Try.prog Try.f9 Rows.softFitsRow.domain false) (Rows.softFitsSpec.post enc Try.prog Try.f9 false true false false) := by
  refine returnsInHanded_of_change (C := Try.checked) own started (by kernel_rfl) Try.func9
    (ChangeSpec.witness6 (enc := enc) (C := Try.checked) false ⟨#[], #[.int .i64 0, .int .i64 0, .int .u64 0, .int .u64 0], []⟩ 8 (by kernel_rfl) (by kernel_rfl) (by kernel_rfl) (by kernel_rfl)) ?_
  intro W base args ds gs before hval0 hW hcnd _
  have hval : ∀ (j : Nat) t v, Try.f9.params[j]? = some t → args[j]? = some v → Value.okWide Try.prog W .any base t v := hval0
  have hW' := hW
  obtain ⟨p, q, hA0, hV, rfl, hfz, hnd⟩ := hW
  have hA : DataW.TrodAll enc Try.prog W 0 (fun _ => true) true Try.f9.params.toList args.toList ds p := hA0
  rw [Try.params9] at hA hval
  obtain ⟨v0, vs0, d0, ds0, p0, q0, hargs, rfl, rfl, h0, r0⟩ := trodAll_cons hA
  obtain ⟨v1, vs1, d1, ds1, p1, q1, rfl, rfl, rfl, h1, r1⟩ := trodAll_cons r0
  obtain ⟨v2, vs2, d2, ds2, p2, q2, rfl, rfl, rfl, h2, r2⟩ := trodAll_cons r1
  obtain ⟨v3, vs3, d3, ds3, p3, q3, rfl, rfl, rfl, h3, r3⟩ := trodAll_cons r2
  obtain ⟨rfl, rfl, rfl⟩ := trodAll_nil r3
  obtain rfl : args = #[v0, v1, v2, v3] := by cases args; simp_all
  obtain ⟨rfl, rfl⟩ := trodVars_none hV
  obtain ⟨a0, rfl, rfl, rfl, w0⟩ := open_int Try.underlying3 (hval 0 3 v0 rfl rfl) h0
  obtain ⟨a1, rfl, rfl, rfl, w1⟩ := open_int Try.underlying3 (hval 1 3 v1 rfl rfl) h1
  obtain ⟨a2, rfl, rfl, rfl, w2⟩ := open_int Try.underlying22 (hval 2 22 v2 rfl rfl) h2
  obtain ⟨a3, rfl, rfl, rfl, w3⟩ := open_int Try.underlying22 (hval 3 22 v3 rfl rfl) h3
  clear hA0 hval0
  simp only [List.append_nil] at hW'
  refine (softFits_walk a0 a1 a2 a3 w0 w1 w2 w3 W).mono fun e W' ⟨he, hg⟩ => ?_
  subst he
  exact ⟨_, rfl, post_nums hW' (fun _ _ _ => (trodAll_cons_mk (shut_bool Try.underlying4 _) trodAll_mk0)) (fun sp => (trodAll_cons_mk (shut_int Try.underlying3 w0) (trodAll_cons_mk (shut_int Try.underlying3 w1) (trodAll_cons_mk (shut_int Try.underlying22 w2) (trodAll_cons_mk (shut_int Try.underlying22 w3) trodAll_mk0))))) (fun _ => rfl) hg (ok_one (by kernel_rfl) rfl (okWide_bool_mk Try.underlying4 _))⟩
theorem over : Rows.softFitsRow.holds Try.pinned (OpenSpec.ofChange Rows.softFitsSpec) :=
  OpenClaim.holds_of_wide 9 Try.f9 rfl rfl rfl rfl rfl rfl rfl ⟨rfl, rfl, rfl, rfl, rfl⟩ rfl rfl rfl rfl rfl (by kernel_rfl) Try.func9 (by kernel_rfl)
    (of_decide_eq_true (by kernel_rfl)) (by unfold Func.isWrapper; first | (rw [if_pos (by decide +kernel)]; kernel_rfl) | (rw [if_neg (by decide +kernel)]; exact ⟨rfl, rfl⟩))
    (fun os started H enc _ => lifted os started H enc)
theorem proved : Rows.SoftFitsSaid := over
#print axioms proved
end Go.Proofs.Ytcjpmmhkaacpfaa.softFits
