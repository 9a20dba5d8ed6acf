/- The document's Lay, Write, Read. -/
import Derived.Test.YtibgdlianedcbaaX4
import Derived.Test.YtibgdlianedcbaaC1
namespace Go.Proofs.Ytibgdlianedcbaa
open Go.ChangeShapes Go.WideShapes Go.ChangeAt Go.RowKit
set_option linter.unusedVariables false
set_option linter.unusedSimpArgs false
def RetL (ok : Bool) (r : Nat) (F : Nat → Nat) (R : Fp) (w : World) (e : Ending) (w' : World) : Prop := e = .returned (.bool ok) ∧ IsRm (Up R w w') w' r F ∧ Ch R w w'
section
variable {R : Fp} {w w1 w2 : World} {r : Nat} {F : Nat → Nat}
theorem IsRm.flat (h : IsRm (Up (Up R w w1) w1 w2) w2 r F) (h1 : w.heap.size ≤ w1.heap.size) (h2 : w1.heap.size ≤ w2.heap.size) : IsRm (Up R w w2) w2 r F := by
  obtain ⟨pb, A, n, c, g, x⟩ := h
  refine ⟨pb, A, n, c, g, x.mono (fun k j hk => ?_) (fun k j hk => ?_)⟩
  · rcases hk with (hk | hk) | hk
    · exact .inl hk
    · exact .inr ⟨hk.1, Nat.lt_of_lt_of_le hk.2 h2⟩
    · exact .inr ⟨Nat.le_trans h1 hk.1, hk.2⟩
  · rcases hk with hk | hk
    · exact x.rlt k j (.inl (.inl hk))
    · exact hk.2
theorem ch_flat (h : Ch R w w1) (k : Ch (Up R w w1) w1 w2) : Ch R w w2 := h.trans k (fun _ _ q => q.imp id (·.1))
theorem IsRm.start (h : IsRm R w r F) : IsRm (Up R w w) w r F := by
  obtain ⟨pb, A, n, c, g, x⟩ := h
  exact ⟨pb, A, n, c, g, x.up w⟩
theorem IsRm.kept {T : Fp} (h : IsRm R w r F) (hc : Ch T w w1) (hd : Dj T R) : IsRm R w1 r F := by
  obtain ⟨pb, A, n, c, g, x⟩ := h
  exact ⟨pb, A, n, c, g, x.kept hc hd⟩
theorem IsRm.below (h : IsRm R w r F) (hb : Below w.heap.size w w1) : IsRm (Up R w w1) w1 r F := by
  obtain ⟨pb, A, n, c, g, x⟩ := h
  exact ⟨pb, A, n, c, g, (x.kept (Ch.of_below (fun _ _ => False) hb) (fun _ _ h => h.elim)).up w⟩
theorem IsRm.f8 (h : IsRm R w r F) : ∀ x, F x < 256 := by
  obtain ⟨pb, A, n, c, g, x⟩ := h
  exact x.f8
end
theorem lay_put (F : Nat → Nat) (a i : Nat) (X : Nat → Nat) : putF (layF F a i X) (a + i) (X i) = layF F a (i + 1) X := by
  funext x
  unfold putF layF
  by_cases e : x = a + i
  · rw [if_pos e, if_pos (by omega), e, Nat.add_sub_cancel_left]
  · rw [if_neg e]
    by_cases h : a ≤ x ∧ x < a + i
    · rw [if_pos h, if_pos (by omega)]
    · rw [if_neg h, if_neg (by omega)]
theorem at_split (a : Nat) (h1 : 2147483648 ≤ a) (h2 : a < 2148532224) : a = atP ((a - 2147483648) / 4096) ((a - 2147483648) % 4096) ∧ (a - 2147483648) / 4096 < 256 ∧ (a - 2147483648) % 4096 < 4096 := by
  unfold atP; omega
theorem put_at (R : Fp) (r a y : Nat) (F : Nat → Nat) (w : World) (hM : Hid (IsRm R w r F)) (ha : Hid (2147483648 ≤ a ∧ a < 2148532224)) (hy : Hid (y < 256)) : Calls Try.prog 26 #[.pointer (some ⟨r, 0, none⟩), .int .u64 a, .int .u8 y] w (RetPt r (putF F a y) R w) :=
  have h := at_split a ha.out.1 ha.out.2
  putr_c R r _ _ a y F w hM h.2.1 h.2.2 h.1 hy
theorem byte_at (R : Fp) (r a : Nat) (F : Nat → Nat) (w : World) (hM : Hid (IsRm R w r F)) (ha : Hid (2147483648 ≤ a ∧ a < 2148532224)) : Calls Try.prog 28 #[.pointer (some ⟨r, 0, none⟩), .int .u64 a] w (fun e w' => e = .returned (.int .u8 (F a : Nat)) ∧ w' = w) :=
  have h := at_split a ha.out.1 ha.out.2
  byter_c R r _ _ a F w hM h.2.1 h.2.2 h.1
theorem layr_big (m n c : Nat) (a : Option Addr) (w : World) (hn : (1048576 : Int) < n) : Calls Try.prog 11 #[.pointer (some ⟨m, 0, none⟩), .slice a n c] w (fun e w' => e = .returned (.bool false) ∧ w' = w) := by
  go_enter Try.func11, Try.ntmps11
  go_wp2_with fail
  go_ret
  exact ⟨rfl, rfl⟩
set_option maxRecDepth 100000 in
set_option maxHeartbeats 4000000 in
theorem layr_c (R : Fp) (r g o n c : Nat) (sa : Option Addr) (F X : Nat → Nat) (w : World) (hM : Hid (IsRm R w r F)) (hsa : Hid (0 < n → sa = some ⟨g, o, none⟩ ∧ g < w.heap.size ∧ ∀ j, ¬ R g j)) (hn : Hid (n ≤ 1048576)) (hX : Hid (∀ i, X i < 256)) (hr : Hid (∀ i, i < n → w.cell? ⟨g, o + i, none⟩ = some (.int .u8 (X i : Nat)))) :
    Calls Try.prog 11 #[.pointer (some ⟨r, 0, none⟩), .slice sa n c] w (RetL true r (layF F 2147483648 n X) R w) := by
  have d0 : decide ((1048576 : Int) < n) = false := decide_eq_false (by have := hn.out; omega)
  have d0' : decide (1048576 < n) = false := decide_eq_false (by have := hn.out; omega)
  have d1 : ¬ (1048576 : Int) < n := by have := hn.out; omega
  go_enter Try.func11, Try.ntmps11
  go_wp2_with fail
  go_loopw [5] (fun iv wr => ∃ i : Nat, i ≤ n ∧ iv = .int .i64 i ∧ Hid (IsRm (Up R w wr) wr r (layF F 2147483648 i X)) ∧ Hid (Ch R w wr)) (fun iv _ => n - (intOf iv).toNat)
  case atStart => exact ⟨0, Nat.zero_le _, rfl, by rw [layF_zero]; exact hM.out.start, Ch.refl _ _⟩
  case round =>
    obtain ⟨i, hi, rfl, HM, HC⟩ := hrel
    by_cases hlt : i < n
    · have hlt' : (i : Int) < n := by omega
      obtain ⟨rfl, hg, hd⟩ := hsa.out (by omega)
      have cx : wr.cell? ⟨g, o + i, none⟩ = some (.int .u8 (X i : Nat)) := (HC.out.cell g (o + i) hg (hd _)).trans (hr.out i hlt)
      obtain ⟨x, hx⟩ : ∃ x, X i = x := ⟨_, rfl⟩
      rw [hx] at cx
      have X8 : Hid (x < 256) := by show _ < _; rw [← hx]; exact hX.out i
      have HP : Hid (putF (layF F 2147483648 i X) (2147483648 + i) x = layF F 2147483648 (i + 1) X) := by show _ = _; rw [← hx]; exact lay_put F 2147483648 i X
      have HI : Hid (2147483648 ≤ 2147483648 + i ∧ 2147483648 + i < 2148532224) := by have := hn.out; show _ ∧ _; omega
      have ew : IntKind.u64.wrap (i : Int) = i := by rw [IntKind.wrap_u64]; have := hn.out; omega
      have ew2 : IntKind.u64.wrap (2147483648 + (i : Int)) = ((2147483648 + i : Nat) : Int) := by rw [IntKind.wrap_u64]; have := hn.out; omega
      have kk1 : IntKind.i64.wrap ((i : Int) + 1) = (i : Int) + 1 := IntWalk.i64_in _ (by have := hn.out; omega)
      obtain ⟨t, ht⟩ : ∃ t, 2147483648 + i = t := ⟨_, rfl⟩
      rw [ht] at HP HI ew2
      clear hx hg hd ht d1
      go_wp2_with fail
      refine (put_at _ r t x _ wr HM HI X8).mono ?_; rintro e w2 ⟨rfl, h1, h2⟩
      rw [HP.out] at h1
      have HM2 := Lib.hid (h1.flat HC.out.size h2.size)
      have HC2 := Lib.hid (ch_flat HC.out h2)
      clear h1 h2
      go_wp2_with fail
      go_roundw
      case rel => exact ⟨i + 1, by omega, by go_num, HM2, HC2⟩
      case measure => simp [intOf]; omega
    · obtain rfl : i = n := by omega
      go_wp2_with fail
      go_ret
      exact ⟨rfl, HM.out, HC.out⟩
theorem add8 (R : Nat → Nat) (hR : ∀ i, R i < 256) (i : Nat) (hi : i < 8) (x : Nat) (hx : x = R i) : IntKind.u64.wrap (((numR R i : Nat) : Int) + IntKind.u64.wrap ((x : Int) * 2 ^ (8 * i))) = ((numR R (i + 1) : Nat) : Int) := by
  subst hx
  have e : (2 : Int) ^ (8 * i) = ((256 ^ i : Nat) : Int) := by rw [← pow8]; simp
  have hp : 256 ^ i ≤ 72057594037927936 := Nat.le_trans (Nat.pow_le_pow_right (by decide) (show i ≤ 7 by omega)) (by decide)
  have hrp : R i * 256 ^ i ≤ 255 * 256 ^ i := Nat.mul_le_mul_right _ (by have := hR i; omega)
  have hl := numR_lt R hR i
  have w2 : IntKind.u64.wrap ((R i : Int) * ((256 ^ i : Nat) : Int)) = ((R i * 256 ^ i : Nat) : Int) := by
    rw [← Int.natCast_mul, IntKind.wrap_u64]
    omega
  rw [e, w2, IntKind.wrap_u64]
  show _ = ((numR R i + R i * 256 ^ i : Nat) : Int)
  omega
theorem wr_round (F : Nat → Nat) (a i v : Nat) : putF (layF F a i (byteV v)) (a + i) (v / 256 ^ i % 256) = layF F a (i + 1) (byteV v) := lay_put F a i (byteV v)
set_option maxRecDepth 100000 in
set_option maxHeartbeats 4000000 in
theorem writer_y (R : Fp) (r a n v : Nat) (F : Nat → Nat) (w : World) (hM : Hid (IsRm R w r F)) (hn : Hid (n = 1 ∨ n = 2 ∨ n = 4 ∨ n = 8)) (ha : Hid (2147483648 ≤ a ∧ a + n ≤ 2148532224)) (hv : Hid (hasV a n = true)) :
    Calls Try.prog 13 #[.pointer (some ⟨r, 0, none⟩), .int .u64 a, .int .i64 n, .int .u64 v] w (RetL true r (layF F a n (byteV v)) R w) := by
  have n8 : (n : Int) ≤ 8 := by have := hn.out; omega
  have HH : Hid (Calls Try.prog 17 #[.pointer (some ⟨r, 0, none⟩), .int .u64 a, .int .i64 n] w (RetB true w)) := by rw [← hv.out]; exact hasr_c _ a n (by have := ha.out; show _ < _; omega) w
  go_enter Try.func13, Try.ntmps13
  go_wp2_with fail
  refine HH.out.mono ?_; rintro e w1 ⟨rfl, hb⟩
  have HM0 : Hid (IsRm (Up R w w1) w1 r F) := hM.out.below hb
  have HC0 : Hid (Ch R w w1) := Ch.of_below R hb
  clear hb
  go_wp2_with fail
  go_loopw [10] (fun iv wr => ∃ i : Nat, i ≤ n ∧ iv = .int .i64 i ∧ Hid (IsRm (Up R w wr) wr r (layF F a i (byteV v))) ∧ Hid (Ch R w wr)) (fun iv _ => n - (intOf iv).toNat)
  case atStart => exact ⟨0, Nat.zero_le _, rfl, by rw [layF_zero]; exact HM0.out, HC0⟩
  case round =>
    clear HM0 HC0
    obtain ⟨i, hi, rfl, HM, HC⟩ := hrel
    by_cases hlt : i < n
    · have hlt' : (i : Int) < n := by omega
      have i8 : (i : Int) < 8 := by omega
      obtain ⟨t, ht⟩ : ∃ t, a + i = t := ⟨_, rfl⟩
      have ew : IntKind.u64.wrap (i : Int) = i := by rw [IntKind.wrap_u64]; omega
      have ew2 : IntKind.u64.wrap ((a : Int) + (i : Int)) = (t : Nat) := by rw [IntKind.wrap_u64]; have := ha.out; omega
      have ew3 : IntKind.i64.wrap (8 * (i : Int)) = 8 * (i : Int) := IntWalk.i64_in _ (by omega)
      have kk1 : IntKind.i64.wrap ((i : Int) + 1) = (i : Int) + 1 := IntWalk.i64_in _ (by omega)
      obtain ⟨y, hy⟩ : ∃ y, v / 256 ^ i % 256 = y := ⟨_, rfl⟩
      have HY : Hid ((v : Int) / 2 ^ (8 * i) % 256 = (y : Nat)) := by show _ = _; rw [shr_mod, hy]
      have Y8 : Hid (y < 256) := by show _ < _; rw [← hy]; exact Nat.mod_lt _ (by decide)
      have HP : Hid (putF (layF F a i (byteV v)) t y = layF F a (i + 1) (byteV v)) := by show _ = _; rw [← ht, ← hy]; exact wr_round F a i v
      have HI : Hid (2147483648 ≤ t ∧ t < 2148532224) := by have := ha.out; show _ ∧ _; omega
      clear ht hy
      go_wp2_with fail
      rw [HY.out]
      refine (put_at _ r t y _ wr HM HI Y8).mono ?_; rintro e w2 ⟨rfl, h1, h2⟩
      rw [HP.out] at h1
      have HM2 := Lib.hid (h1.flat HC.out.size h2.size)
      have HC2 := Lib.hid (ch_flat HC.out h2)
      clear h1 h2
      go_wp2_with fail
      go_roundw
      case rel => exact ⟨i + 1, by omega, by go_num, HM2, HC2⟩
      case measure => simp [intOf]; omega
    · obtain rfl : i = n := by omega
      go_wp2_with fail
      go_ret
      exact ⟨rfl, HM.out, HC.out⟩
theorem writer_n (R : Fp) (r a v : Nat) (z : Int) (F : Nat → Nat) (w : World) (hM : Hid (IsRm R w r F)) (ha : Hid (a < 18446744073709551616)) (hv : Hid (hasV a z = false)) :
    Calls Try.prog 13 #[.pointer (some ⟨r, 0, none⟩), .int .u64 a, .int .i64 z, .int .u64 v] w (RetL false r F R w) := by
  have HH : Hid (Calls Try.prog 17 #[.pointer (some ⟨r, 0, none⟩), .int .u64 a, .int .i64 z] w (RetB false w)) := by rw [← hv.out]; exact hasr_c _ a z ha w
  go_enter Try.func13, Try.ntmps13
  go_wp2_with fail
  refine HH.out.mono ?_; rintro e w1 ⟨rfl, hb⟩
  have HB := Lib.hid hb; clear hb
  go_wp2_with fail
  go_ret
  exact ⟨rfl, hM.out.below HB.out, Ch.of_below R HB.out⟩
theorem writer_c (R : Fp) (r a v : Nat) (z : Int) (F : Nat → Nat) (w : World) (hM : Hid (IsRm R w r F)) (ha : Hid (a < 18446744073709551616)) :
    Calls Try.prog 13 #[.pointer (some ⟨r, 0, none⟩), .int .u64 a, .int .i64 z, .int .u64 v] w (RetL (hasV a z) r (wrF F a z v) R w) := by
  cases hv : hasV a z
  · have : wrF F a z v = F := by unfold wrF; rw [if_neg (by rw [hv]; decide)]
    rw [this]
    exact writer_n R r a v z F w hM ha hv
  · have h := hv
    unfold hasV at h
    have h := of_decide_eq_true h
    obtain ⟨n, rfl⟩ : ∃ n : Nat, z = n := ⟨z.toNat, by omega⟩
    have : wrF F a n v = layF F a n (byteV v) := by unfold wrF; rw [if_pos hv]; rfl
    rw [this]
    exact writer_y R r a n v F w hM (by show _ ∨ _; omega) (by show _ ∧ _; omega) hv
set_option maxRecDepth 100000 in
set_option maxHeartbeats 4000000 in
theorem readr_y (R : Fp) (r a n : Nat) (F : Nat → Nat) (w : World) (hM : Hid (IsRm R w r F)) (hn : Hid (n = 1 ∨ n = 2 ∨ n = 4 ∨ n = 8)) (ha : Hid (2147483648 ≤ a ∧ a + n ≤ 2148532224)) (hv : Hid (hasV a n = true)) :
    Calls Try.prog 15 #[.pointer (some ⟨r, 0, none⟩), .int .u64 a, .int .i64 n] w (RetR (numR (fun i => F (a + i)) n) true w) := by
  have n8 : (n : Int) ≤ 8 := by have := hn.out; omega
  have HH : Hid (Calls Try.prog 17 #[.pointer (some ⟨r, 0, none⟩), .int .u64 a, .int .i64 n] w (RetB true w)) := by rw [← hv.out]; exact hasr_c _ a n (by have := ha.out; show _ < _; omega) w
  have HF : Hid (∀ i, (fun i => F (a + i)) i < 256) := fun i => hM.out.f8 (a + i)
  go_enter Try.func15, Try.ntmps15
  go_wp2_with fail
  refine HH.out.mono ?_; rintro e w1 ⟨rfl, hb⟩
  have HB := Lib.hid hb; clear hb
  have HM : Hid (IsRm (Up R w w1) w1 r F) := hM.out.below HB.out
  go_wp2_with fail
  go_loopw [9, 10] (fun vv iv wr => ∃ i : Nat, i ≤ n ∧ iv = .int .i64 i ∧ vv = .int .u64 (numR (fun i => F (a + i)) i : Nat) ∧ wr = w1) (fun _ iv _ => n - (intOf iv).toNat)
  case atStart => exact ⟨0, Nat.zero_le _, rfl, rfl, rfl⟩
  case round =>
    obtain ⟨i, hi, rfl, rfl, rfl⟩ := hrel
    by_cases hlt : i < n
    · have hlt' : (i : Int) < n := by omega
      have i8 : (i : Int) < 8 := by omega
      obtain ⟨t, ht⟩ : ∃ t, a + i = t := ⟨_, rfl⟩
      have ew : IntKind.u64.wrap (i : Int) = i := by rw [IntKind.wrap_u64]; omega
      have ew2 : IntKind.u64.wrap ((a : Int) + (i : Int)) = (t : Nat) := by rw [IntKind.wrap_u64]; have := ha.out; omega
      have ew3 : IntKind.i64.wrap (8 * (i : Int)) = 8 * (i : Int) := IntWalk.i64_in _ (by omega)
      have kk1 : IntKind.i64.wrap ((i : Int) + 1) = (i : Int) + 1 := IntWalk.i64_in _ (by omega)
      have HI : Hid (2147483648 ≤ t ∧ t < 2148532224) := by have := ha.out; show _ ∧ _; omega
      obtain ⟨x, hx⟩ : ∃ x, F t = x := ⟨_, rfl⟩
      have X8 : x < 256 := by rw [← hx]; exact hM.out.f8 t
      have ex : IntKind.u64.wrap (x : Int) = x := by rw [IntKind.wrap_u64]; omega
      have HX := Lib.hid hx
      have H8 := Lib.hid X8
      have HT := Lib.hid ht
      clear hx X8 ht
      go_wp2_with fail
      refine (byte_at _ r t F wr HM HI).mono ?_; rintro e w2 ⟨rfl, h1⟩
      subst h1
      rw [HX.out]
      have HA8 : Hid (IntKind.u64.wrap (((numR (fun i => F (a + i)) i : Nat) : Int) + IntKind.u64.wrap ((x : Int) * 2 ^ (8 * i))) = ((numR (fun i => F (a + i)) (i + 1) : Nat) : Int)) := add8 _ HF.out i (by omega) x (by show x = F (a + i); rw [HT.out]; exact HX.out.symm)
      go_wp2_with fail
      rw [HA8.out]
      go_roundw
      case rel => exact ⟨i + 1, by omega, by go_num, rfl, trivial⟩
      case measure => simp [intOf]; omega
    · obtain rfl : i = n := by omega
      go_wp2_with fail
      go_ret2
      exact ⟨rfl, HB.out⟩
theorem readr_n (R : Fp) (r a : Nat) (z : Int) (F : Nat → Nat) (w : World) (ha : Hid (a < 18446744073709551616)) (hv : Hid (hasV a z = false)) :
    Calls Try.prog 15 #[.pointer (some ⟨r, 0, none⟩), .int .u64 a, .int .i64 z] w (RetR 0 false w) := by
  have HH : Hid (Calls Try.prog 17 #[.pointer (some ⟨r, 0, none⟩), .int .u64 a, .int .i64 z] w (RetB false w)) := by rw [← hv.out]; exact hasr_c _ a z ha w
  go_enter Try.func15, Try.ntmps15
  go_wp2_with fail
  refine HH.out.mono ?_; rintro e w1 ⟨rfl, hb⟩
  have HB := Lib.hid hb; clear hb
  go_wp2_with fail
  go_ret2
  exact ⟨rfl, HB.out⟩
theorem readr_c (R : Fp) (r a : Nat) (z : Int) (F : Nat → Nat) (w : World) (hM : Hid (IsRm R w r F)) (ha : Hid (a < 18446744073709551616)) :
    Calls Try.prog 15 #[.pointer (some ⟨r, 0, none⟩), .int .u64 a, .int .i64 z] w (RetR (readV F a z) (hasV a z) w) := by
  cases hv : hasV a z
  · have : readV F a z = 0 := by unfold readV; rw [hv]; rfl
    rw [this]
    exact readr_n R r a z F w ha hv
  · have h := hv
    unfold hasV at h
    have h := of_decide_eq_true h
    obtain ⟨n, rfl⟩ : ∃ n : Nat, z = n := ⟨z.toNat, by omega⟩
    have hn : n = 1 ∨ n = 2 ∨ n = 4 ∨ n = 8 := by omega
    have : readV F a n = numR (fun i => F (a + i)) n := by
      unfold readV
      rw [if_pos hv, show ((n : Nat) : Int).toNat = n from rfl]
      have h8 := numR_zero (rB F a n) n (8 - n) (fun i hi => by unfold rB; rw [if_neg (by omega)])
      rw [show n + (8 - n) = 8 by omega] at h8
      rw [h8]
      exact numR_congr n (fun i hi => by unfold rB; rw [if_pos hi])
    rw [this]
    exact readr_y R r a n F w hM hn (by show _ ∧ _; omega) hv
end Go.Proofs.Ytibgdlianedcbaa
