/- Read: the number of the bytes that stand there. -/
import Derived.Test.YtibgdlianedcbaaB3
import Derived.Laws.Bits64
namespace Go.Proofs.Ytibgdlianedcbaa
open Go.Maps Go.WideMaps Go.ChangeShapes Go.WideShapes Go.ChangeAt Go.RowKit
set_option linter.unusedVariables false
set_option linter.unusedSimpArgs false
theorem filled0 (w : World) (n a : Nat) (F : Nat → Nat) (t : TypeId) (hn : n ≤ 8) : Filled (w.alloc (Obj.cells #[.int .u8 0, .int .u8 0, .int .u8 0, .int .u8 0, .int .u8 0, .int .u8 0, .int .u8 0, .int .u8 0] t)) w.heap.size 0 n a F 0 (w.alloc (Obj.cells #[.int .u8 0, .int .u8 0, .int .u8 0, .int .u8 0, .int .u8 0, .int .u8 0, .int .u8 0, .int .u8 0] t)) := by
  refine ⟨by simp, fun i hi => ⟨?_, ?_⟩, fun i _ => ⟨rfl, rfl⟩⟩
  · rw [World.cell?_alloc_at _ _ _ _ rfl, Nat.zero_add, if_neg (Nat.not_lt_zero _)]
    have : i = 0 ∨ i = 1 ∨ i = 2 ∨ i = 3 ∨ i = 4 ∨ i = 5 ∨ i = 6 ∨ i = 7 := by omega
    rcases this with rfl | rfl | rfl | rfl | rfl | rfl | rfl | rfl <;> rfl
  · rw [World.frozen?_alloc_at _ _ _ _ rfl]
theorem cells8 (w : World) (t : TypeId) : ∀ i, i < 8 → (w.alloc (Obj.cells #[.int .u8 0, .int .u8 0, .int .u8 0, .int .u8 0, .int .u8 0, .int .u8 0, .int .u8 0, .int .u8 0] t)).cell? ⟨w.heap.size, i, none⟩ = some (.int .u8 0) := by
  intro i hi
  rw [World.cell?_alloc_at _ _ _ _ rfl]
  have : i = 0 ∨ i = 1 ∨ i = 2 ∨ i = 3 ∨ i = 4 ∨ i = 5 ∨ i = 6 ∨ i = 7 := by omega
  rcases this with rfl | rfl | rfl | rfl | rfl | rfl | rfl | rfl <;> rfl
/-- A number of bytes, the lowest first. -/
def numR (R : Nat → Nat) : Nat → Nat
  | 0 => 0
  | k + 1 => numR R k + R k * 256 ^ k
theorem numR_lt (R : Nat → Nat) (hR : ∀ i, R i < 256) : ∀ k, numR R k < 256 ^ k
  | 0 => by show 0 < 1; decide
  | k + 1 => by
    have h := numR_lt R hR k
    have h2 : R k * 256 ^ k ≤ 255 * 256 ^ k := Nat.mul_le_mul_right _ (by have := hR k; omega)
    show numR R k + R k * 256 ^ k < 256 ^ (k + 1)
    rw [Nat.pow_succ]
    omega
theorem index8 (r0 r1 r2 r3 r4 r5 r6 r7 : Value) (w : World) (k : Nat) (hk : k < 8) (v : Value) (hv : #[r0, r1, r2, r3, r4, r5, r6, r7][k]? = some v) : (Instr.index 55 (.agg #[r0, r1, r2, r3, r4, r5, r6, r7]) (.int .i64 (k : Int))).run Try.prog w = .ok v w := by
  have h : k = 0 ∨ k = 1 ∨ k = 2 ∨ k = 3 ∨ k = 4 ∨ k = 5 ∨ k = 6 ∨ k = 7 := by omega
  rcases h with rfl | rfl | rfl | rfl | rfl | rfl | rfl | rfl <;> (simp at hv; subst hv; rfl)
theorem or8 (k : Nat) (hk : k < 8) (x r : Nat) (hx : x < 256 ^ k) (hr : r < 256) (P : Int) (hP : P = ((256 ^ k : Nat) : Int)) : bits .or .u64 (x : Int) (IntKind.u64.wrap (IntKind.u64.wrap (r : Int) * P)) = ((x + r * 256 ^ k : Nat) : Int) := by
  subst hP
  have e : (256 : Nat) ^ k = 2 ^ (8 * k) := by rw [Nat.pow_mul]
  have hp : 256 ^ k ≤ 72057594037927936 := Nat.le_trans (Nat.pow_le_pow_right (by decide) (show k ≤ 7 by omega)) (by decide)
  have hrp : r * 256 ^ k ≤ 255 * 256 ^ k := Nat.mul_le_mul_right _ (by omega)
  have w1 : IntKind.u64.wrap (r : Int) = (r : Int) := by rw [IntKind.wrap_u64]; omega
  have w2 : IntKind.u64.wrap ((r : Int) * ((256 ^ k : Nat) : Int)) = ((r * 256 ^ k : Nat) : Int) := by
    rw [← Int.natCast_mul, IntKind.wrap_u64]
    omega
  rw [w1, w2, bits_or_u64_nat _ _ (by omega) (by omega)]
  congr 1
  rw [e] at hx ⊢
  have := Nat.two_pow_add_eq_or_of_lt hx r
  rw [Nat.or_comm, Nat.mul_comm r, ← this, Nat.add_comm]
theorem numR_or (R : Nat → Nat) (hR : ∀ i, R i < 256) (k : Nat) (hk : k < 8) (r : Nat) (hr : r = R k) (P : Int) (hP : P = ((256 ^ k : Nat) : Int)) : bits .or .u64 ((numR R k : Nat) : Int) (IntKind.u64.wrap (IntKind.u64.wrap (r : Int) * P)) = ((numR R (k + 1) : Nat) : Int) := by
  subst hr
  exact or8 k hk _ _ (numR_lt R hR k) (hR k) P hP
def rB (F : Nat → Nat) (a n i : Nat) : Nat := if i < n then F (a + i) else 0
theorem row_cell {w1 w2 : World} {n a : Nat} {F : Nat → Nat} {t : TypeId} (h : Filled (w1.alloc (Obj.cells #[.int .u8 0, .int .u8 0, .int .u8 0, .int .u8 0, .int .u8 0, .int .u8 0, .int .u8 0, .int .u8 0] t)) w1.heap.size 0 n a F n w2) (i : Nat) (hi : i < 8) :
    ∃ r : Nat, w2.cell? ⟨w1.heap.size, i, none⟩ = some (.int .u8 r) ∧ Hid (r = rB F a n i) := by
  refine ⟨_, ?_, rfl⟩
  unfold rB
  by_cases c : i < n
  · have := (h.2.1 i c).1
    rw [Nat.zero_add] at this
    exact this
  · rw [if_neg c, (h.2.2 i (by omega)).1]
    exact cells8 w1 t i hi
def RetR (x : Nat) (ok : Bool) (W : World) (e : Ending) (w' : World) : Prop := e = .returned (.tuple #[.int .u64 x, .bool ok]) ∧ Below W.heap.size W w'
set_option maxRecDepth 100000 in
set_option maxHeartbeats 4000000 in
theorem read_y (m a n : Nat) (F : Nat → Nat) (w : World) (hM : Hid (Mem w m F)) (hn : Hid (n = 1 ∨ n = 2 ∨ n = 4 ∨ n = 8)) (ha : Hid (a < 18446744073709551616)) (hv : Hid (hasV a n = true)) (hF : Hid (∀ i, F i < 256)) :
    Calls Try.prog 14 #[.pointer (some ⟨m, 0, none⟩), .int .u64 a, .int .i64 n] w (RetR (numR (rB F a n) 8) true w) := by
  have n8 : (n : Int) ≤ 8 := by have := hn.out; omega
  have n0 : (0 : Int) ≤ n := by omega
  go_enter Try.func14, Try.ntmps14
  go_wp2_with fail
  refine (has_c _ a ha n _).mono ?_; rintro e w1 ⟨rfl, hb1⟩
  rw [hv.out]
  go_wp2_with fail
  have hM1 : Hid (Mem w m F) := hM
  have hle : Hid (n ≤ 8) := by have := hn.out; show n ≤ 8; omega
  have hi8 : Hid (a + n < 18446744073709551616) := by
    have h := hv.out
    unfold hasV at h
    have := of_decide_eq_true h
    show _ < _
    omega
  refine (get_c m w1.heap.size 0 n 8 a F w _ hM (Lib.hid (hb1.alloc hb1.size _)) (Lib.hid hb1.size) hi8 (Lib.hid ⟨hle.out, by have := hle.out; omega⟩) (Lib.hid (filled0 w1 n a F _ hle.out))).mono ?_
  rintro e w2 ⟨rfl, hb2, hs2, hF2⟩
  have HB2 := Lib.hid hb2; have HS2 := Lib.hid hs2; have HF2 := Lib.hid hF2
  clear hb2 hs2 hF2
  obtain ⟨r0, c0, H0⟩ := row_cell HF2.out 0 (by decide)
  obtain ⟨r1, c1, H1⟩ := row_cell HF2.out 1 (by decide)
  obtain ⟨r2, c2, H2⟩ := row_cell HF2.out 2 (by decide)
  obtain ⟨r3, c3, H3⟩ := row_cell HF2.out 3 (by decide)
  obtain ⟨r4, c4, H4⟩ := row_cell HF2.out 4 (by decide)
  obtain ⟨r5, c5, H5⟩ := row_cell HF2.out 5 (by decide)
  obtain ⟨r6, c6, H6⟩ := row_cell HF2.out 6 (by decide)
  obtain ⟨r7, c7, H7⟩ := row_cell HF2.out 7 (by decide)
  go_wp2_with fail
  have HR : Hid (∀ i, rB F a n i < 256) := by
    intro i
    unfold rB
    split
    · exact hF.out _
    · decide
  go_loopw [9, 23] (fun v i wr => ∃ k : Nat, k ≤ 8 ∧ i = .int .i64 k ∧ v = .int .u64 (numR (rB F a n) k) ∧ wr = w2) (fun _ i _ => 8 - (intOf i).toNat)
  case atStart =>
    exact ⟨0, by omega, rfl, rfl, rfl⟩
  case round =>
    obtain ⟨k, hk, rfl, rfl, rfl⟩ := hrel
    have hk8 : k = 0 ∨ k = 1 ∨ k = 2 ∨ k = 3 ∨ k = 4 ∨ k = 5 ∨ k = 6 ∨ k = 7 ∨ k = 8 := by omega
    rcases hk8 with rfl | rfl | rfl | rfl | rfl | rfl | rfl | rfl | rfl
    · have hix : ∀ w', (Instr.index 55 (.agg #[.int .u8 r0, .int .u8 r1, .int .u8 r2, .int .u8 r3, .int .u8 r4, .int .u8 r5, .int .u8 r6, .int .u8 r7]) (.int .i64 0)).run Try.prog w' = .ok (.int .u8 r0) w' := fun w' => index8 (.int .u8 r0) (.int .u8 r1) (.int .u8 r2) (.int .u8 r3) (.int .u8 r4) (.int .u8 r5) (.int .u8 r6) (.int .u8 r7) w' 0 (by decide) (.int .u8 r0) rfl
      go_wp2_with fail
      go_roundw
      case rel => exact ⟨1, by omega, rfl, by congr 1; have := numR_or (rB F a n) HR.out 0 (by decide) r0 H0.out 1 rfl; rwa [Int.mul_one] at this, trivial⟩
      case measure => show 8 - ((1 : Int)).toNat < 8 - (((0 : Nat) : Int)).toNat; decide
    · have hix : ∀ w', (Instr.index 55 (.agg #[.int .u8 r0, .int .u8 r1, .int .u8 r2, .int .u8 r3, .int .u8 r4, .int .u8 r5, .int .u8 r6, .int .u8 r7]) (.int .i64 1)).run Try.prog w' = .ok (.int .u8 r1) w' := fun w' => index8 (.int .u8 r0) (.int .u8 r1) (.int .u8 r2) (.int .u8 r3) (.int .u8 r4) (.int .u8 r5) (.int .u8 r6) (.int .u8 r7) w' 1 (by decide) (.int .u8 r1) rfl
      go_wp2_with fail
      go_roundw
      case rel => exact ⟨2, by omega, rfl, by congr 1; exact numR_or (rB F a n) HR.out 1 (by decide) r1 H1.out 256 rfl, trivial⟩
      case measure => show 8 - ((2 : Int)).toNat < 8 - (((1 : Nat) : Int)).toNat; decide
    · have hix : ∀ w', (Instr.index 55 (.agg #[.int .u8 r0, .int .u8 r1, .int .u8 r2, .int .u8 r3, .int .u8 r4, .int .u8 r5, .int .u8 r6, .int .u8 r7]) (.int .i64 2)).run Try.prog w' = .ok (.int .u8 r2) w' := fun w' => index8 (.int .u8 r0) (.int .u8 r1) (.int .u8 r2) (.int .u8 r3) (.int .u8 r4) (.int .u8 r5) (.int .u8 r6) (.int .u8 r7) w' 2 (by decide) (.int .u8 r2) rfl
      go_wp2_with fail
      go_roundw
      case rel => exact ⟨3, by omega, rfl, by congr 1; exact numR_or (rB F a n) HR.out 2 (by decide) r2 H2.out 65536 rfl, trivial⟩
      case measure => show 8 - ((3 : Int)).toNat < 8 - (((2 : Nat) : Int)).toNat; decide
    · have hix : ∀ w', (Instr.index 55 (.agg #[.int .u8 r0, .int .u8 r1, .int .u8 r2, .int .u8 r3, .int .u8 r4, .int .u8 r5, .int .u8 r6, .int .u8 r7]) (.int .i64 3)).run Try.prog w' = .ok (.int .u8 r3) w' := fun w' => index8 (.int .u8 r0) (.int .u8 r1) (.int .u8 r2) (.int .u8 r3) (.int .u8 r4) (.int .u8 r5) (.int .u8 r6) (.int .u8 r7) w' 3 (by decide) (.int .u8 r3) rfl
      go_wp2_with fail
      go_roundw
      case rel => exact ⟨4, by omega, rfl, by congr 1; exact numR_or (rB F a n) HR.out 3 (by decide) r3 H3.out 16777216 rfl, trivial⟩
      case measure => show 8 - ((4 : Int)).toNat < 8 - (((3 : Nat) : Int)).toNat; decide
    · have hix : ∀ w', (Instr.index 55 (.agg #[.int .u8 r0, .int .u8 r1, .int .u8 r2, .int .u8 r3, .int .u8 r4, .int .u8 r5, .int .u8 r6, .int .u8 r7]) (.int .i64 4)).run Try.prog w' = .ok (.int .u8 r4) w' := fun w' => index8 (.int .u8 r0) (.int .u8 r1) (.int .u8 r2) (.int .u8 r3) (.int .u8 r4) (.int .u8 r5) (.int .u8 r6) (.int .u8 r7) w' 4 (by decide) (.int .u8 r4) rfl
      go_wp2_with fail
      go_roundw
      case rel => exact ⟨5, by omega, rfl, by congr 1; exact numR_or (rB F a n) HR.out 4 (by decide) r4 H4.out 4294967296 rfl, trivial⟩
      case measure => show 8 - ((5 : Int)).toNat < 8 - (((4 : Nat) : Int)).toNat; decide
    · have hix : ∀ w', (Instr.index 55 (.agg #[.int .u8 r0, .int .u8 r1, .int .u8 r2, .int .u8 r3, .int .u8 r4, .int .u8 r5, .int .u8 r6, .int .u8 r7]) (.int .i64 5)).run Try.prog w' = .ok (.int .u8 r5) w' := fun w' => index8 (.int .u8 r0) (.int .u8 r1) (.int .u8 r2) (.int .u8 r3) (.int .u8 r4) (.int .u8 r5) (.int .u8 r6) (.int .u8 r7) w' 5 (by decide) (.int .u8 r5) rfl
      go_wp2_with fail
      go_roundw
      case rel => exact ⟨6, by omega, rfl, by congr 1; exact numR_or (rB F a n) HR.out 5 (by decide) r5 H5.out 1099511627776 rfl, trivial⟩
      case measure => show 8 - ((6 : Int)).toNat < 8 - (((5 : Nat) : Int)).toNat; decide
    · have hix : ∀ w', (Instr.index 55 (.agg #[.int .u8 r0, .int .u8 r1, .int .u8 r2, .int .u8 r3, .int .u8 r4, .int .u8 r5, .int .u8 r6, .int .u8 r7]) (.int .i64 6)).run Try.prog w' = .ok (.int .u8 r6) w' := fun w' => index8 (.int .u8 r0) (.int .u8 r1) (.int .u8 r2) (.int .u8 r3) (.int .u8 r4) (.int .u8 r5) (.int .u8 r6) (.int .u8 r7) w' 6 (by decide) (.int .u8 r6) rfl
      go_wp2_with fail
      go_roundw
      case rel => exact ⟨7, by omega, rfl, by congr 1; exact numR_or (rB F a n) HR.out 6 (by decide) r6 H6.out 281474976710656 rfl, trivial⟩
      case measure => show 8 - ((7 : Int)).toNat < 8 - (((6 : Nat) : Int)).toNat; decide
    · have hix : ∀ w', (Instr.index 55 (.agg #[.int .u8 r0, .int .u8 r1, .int .u8 r2, .int .u8 r3, .int .u8 r4, .int .u8 r5, .int .u8 r6, .int .u8 r7]) (.int .i64 7)).run Try.prog w' = .ok (.int .u8 r7) w' := fun w' => index8 (.int .u8 r0) (.int .u8 r1) (.int .u8 r2) (.int .u8 r3) (.int .u8 r4) (.int .u8 r5) (.int .u8 r6) (.int .u8 r7) w' 7 (by decide) (.int .u8 r7) rfl
      go_wp2_with fail
      go_roundw
      case rel => exact ⟨8, by omega, rfl, by congr 1; exact numR_or (rB F a n) HR.out 7 (by decide) r7 H7.out 72057594037927936 rfl, trivial⟩
      case measure => show 8 - ((8 : Int)).toNat < 8 - (((7 : Nat) : Int)).toNat; decide
    · go_wp2_with fail
      go_ret2
      exact ⟨by rfl, HB2.out⟩
def readV (F : Nat → Nat) (a : Nat) (sz : Int) : Nat := if hasV a sz then numR (rB F a sz.toNat) 8 else 0
theorem read_n (m a : Nat) (sz : Int) (w : World) (ha : Hid (a < 18446744073709551616)) (hv : Hid (hasV a sz = false)) :
    Calls Try.prog 14 #[.pointer (some ⟨m, 0, none⟩), .int .u64 a, .int .i64 sz] w (RetR 0 false w) := by
  go_enter Try.func14, Try.ntmps14
  go_wp2_with fail
  refine (has_c _ a ha sz _).mono ?_; rintro e w1 ⟨rfl, hb1⟩
  rw [hv.out]
  go_wp2_with fail
  go_ret2
  exact ⟨by rfl, hb1⟩
theorem read_c (m a : Nat) (sz : Int) (F : Nat → Nat) (w : World) (hM : Hid (Mem w m F)) (ha : Hid (a < 18446744073709551616)) (hF : Hid (∀ i, F i < 256)) :
    Calls Try.prog 14 #[.pointer (some ⟨m, 0, none⟩), .int .u64 a, .int .i64 sz] w (RetR (readV F a sz) (hasV a sz) w) := by
  unfold readV
  cases hv : hasV a sz
  · exact read_n m a sz w ha hv
  · have h := hv
    unfold hasV at h
    have h2 := (of_decide_eq_true h).1
    obtain ⟨n, rfl⟩ : ∃ n : Nat, sz = n := ⟨sz.toNat, by omega⟩
    exact read_y m a n F w hM (by show _ ∨ _; omega) ha hv hF
end Go.Proofs.Ytibgdlianedcbaa
