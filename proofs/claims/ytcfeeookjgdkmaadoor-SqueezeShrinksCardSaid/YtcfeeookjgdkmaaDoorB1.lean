/- The contracts of field, at each place that is asked for; of TrailingZeros. -/
import Derived.Test.YtcfeeookjgdkmaaDoorA
import Derived.Deep.QuietTactic
import Derived.BigQuiet
import Derived.Deep.DeepCutAuto
import Derived.Deep.CutBlock
namespace Go.Proofs.YtcfeeookjgdkmaaDoor
open Go.ChangeShapes Go.WideShapes Go.ChangeAt Go.RowKit
set_option linter.unusedVariables false
set_option linter.unusedSimpArgs false

theorem field_7_5 (x : Nat) (hx : Hid (x < 4294967296)) (w : World) : Calls Tryd.prog 45 #[.int .u32 x, .int .u8 7, .int .u8 5] w (RetUX (x / 128 % 32) w) := by
  have H1 : Hid (bits .and .u32 ((x / 128 : Nat) : Int) 31 = ((x / 128 % 32 : Nat) : Int)) := u32_low (x / 128) 5 (by have := hx.out; omega) (by decide)
  go_enter Tryd.func45, Tryd.ntmps45
  go_wp2_with fail
  go_ret
  exact retUX_mk (by first | exact H1.out | (have e : ((x : Int) / 128) = ((x / 128 : Nat) : Int) := (by simp); rw [e]; exact H1.out))
theorem field_7_3 (x : Nat) (hx : Hid (x < 4294967296)) (w : World) : Calls Tryd.prog 45 #[.int .u32 x, .int .u8 7, .int .u8 3] w (RetUX (x / 128 % 8) w) := by
  have H1 : Hid (bits .and .u32 ((x / 128 : Nat) : Int) 7 = ((x / 128 % 8 : Nat) : Int)) := u32_low (x / 128) 3 (by have := hx.out; omega) (by decide)
  go_enter Tryd.func45, Tryd.ntmps45
  go_wp2_with fail
  go_ret
  exact retUX_mk (by first | exact H1.out | (have e : ((x : Int) / 128) = ((x / 128 : Nat) : Int) := (by simp); rw [e]; exact H1.out))
theorem field_2_3 (x : Nat) (hx : Hid (x < 4294967296)) (w : World) : Calls Tryd.prog 45 #[.int .u32 x, .int .u8 2, .int .u8 3] w (RetUX (x / 4 % 8) w) := by
  have H1 : Hid (bits .and .u32 ((x / 4 : Nat) : Int) 7 = ((x / 4 % 8 : Nat) : Int)) := u32_low (x / 4) 3 (by have := hx.out; omega) (by decide)
  go_enter Tryd.func45, Tryd.ntmps45
  go_wp2_with fail
  go_ret
  exact retUX_mk (by first | exact H1.out | (have e : ((x : Int) / 4) = ((x / 4 : Nat) : Int) := (by simp); rw [e]; exact H1.out))
theorem field_2_5 (x : Nat) (hx : Hid (x < 4294967296)) (w : World) : Calls Tryd.prog 45 #[.int .u32 x, .int .u8 2, .int .u8 5] w (RetUX (x / 4 % 32) w) := by
  have H1 : Hid (bits .and .u32 ((x / 4 : Nat) : Int) 31 = ((x / 4 % 32 : Nat) : Int)) := u32_low (x / 4) 5 (by have := hx.out; omega) (by decide)
  go_enter Tryd.func45, Tryd.ntmps45
  go_wp2_with fail
  go_ret
  exact retUX_mk (by first | exact H1.out | (have e : ((x : Int) / 4) = ((x / 4 : Nat) : Int) := (by simp); rw [e]; exact H1.out))
theorem field_15_5 (x : Nat) (hx : Hid (x < 4294967296)) (w : World) : Calls Tryd.prog 45 #[.int .u32 x, .int .u8 15, .int .u8 5] w (RetUX (x / 32768 % 32) w) := by
  have H1 : Hid (bits .and .u32 ((x / 32768 : Nat) : Int) 31 = ((x / 32768 % 32 : Nat) : Int)) := u32_low (x / 32768) 5 (by have := hx.out; omega) (by decide)
  go_enter Tryd.func45, Tryd.ntmps45
  go_wp2_with fail
  go_ret
  exact retUX_mk (by first | exact H1.out | (have e : ((x : Int) / 32768) = ((x / 32768 : Nat) : Int) := (by simp); rw [e]; exact H1.out))
theorem field_15_3 (x : Nat) (hx : Hid (x < 4294967296)) (w : World) : Calls Tryd.prog 45 #[.int .u32 x, .int .u8 15, .int .u8 3] w (RetUX (x / 32768 % 8) w) := by
  have H1 : Hid (bits .and .u32 ((x / 32768 : Nat) : Int) 7 = ((x / 32768 % 8 : Nat) : Int)) := u32_low (x / 32768) 3 (by have := hx.out; omega) (by decide)
  go_enter Tryd.func45, Tryd.ntmps45
  go_wp2_with fail
  go_ret
  exact retUX_mk (by first | exact H1.out | (have e : ((x : Int) / 32768) = ((x / 32768 : Nat) : Int) := (by simp); rw [e]; exact H1.out))
theorem field_20_5 (x : Nat) (hx : Hid (x < 4294967296)) (w : World) : Calls Tryd.prog 45 #[.int .u32 x, .int .u8 20, .int .u8 5] w (RetUX (x / 1048576 % 32) w) := by
  have H1 : Hid (bits .and .u32 ((x / 1048576 : Nat) : Int) 31 = ((x / 1048576 % 32 : Nat) : Int)) := u32_low (x / 1048576) 5 (by have := hx.out; omega) (by decide)
  go_enter Tryd.func45, Tryd.ntmps45
  go_wp2_with fail
  go_ret
  exact retUX_mk (by first | exact H1.out | (have e : ((x : Int) / 1048576) = ((x / 1048576 : Nat) : Int) := (by simp); rw [e]; exact H1.out))
theorem field_20_3 (x : Nat) (hx : Hid (x < 4294967296)) (w : World) : Calls Tryd.prog 45 #[.int .u32 x, .int .u8 20, .int .u8 3] w (RetUX (x / 1048576 % 8) w) := by
  have H1 : Hid (bits .and .u32 ((x / 1048576 : Nat) : Int) 7 = ((x / 1048576 % 8 : Nat) : Int)) := u32_low (x / 1048576) 3 (by have := hx.out; omega) (by decide)
  go_enter Tryd.func45, Tryd.ntmps45
  go_wp2_with fail
  go_ret
  exact retUX_mk (by first | exact H1.out | (have e : ((x : Int) / 1048576) = ((x / 1048576 : Nat) : Int) := (by simp); rw [e]; exact H1.out))
theorem field_0_5 (x : Nat) (hx : Hid (x < 4294967296)) (w : World) : Calls Tryd.prog 45 #[.int .u32 x, .int .u8 0, .int .u8 5] w (RetUX (x % 32) w) := by
  have H1 : Hid (bits .and .u32 ((x : Nat) : Int) 31 = ((x % 32 : Nat) : Int)) := u32_low (x) 5 (by have := hx.out; omega) (by decide)
  go_enter Tryd.func45, Tryd.ntmps45
  go_wp2_with fail
  go_ret
  exact retUX_mk (by first | exact H1.out | (have e : ((x : Int) / 1) = ((x / 1 : Nat) : Int) := (by simp); rw [e]; exact H1.out))
theorem field_12_1 (x : Nat) (hx : Hid (x < 4294967296)) (w : World) : Calls Tryd.prog 45 #[.int .u32 x, .int .u8 12, .int .u8 1] w (RetUX (x / 4096 % 2) w) := by
  have H1 : Hid (bits .and .u32 ((x / 4096 : Nat) : Int) 1 = ((x / 4096 % 2 : Nat) : Int)) := u32_low (x / 4096) 1 (by have := hx.out; omega) (by decide)
  go_enter Tryd.func45, Tryd.ntmps45
  go_wp2_with fail
  go_ret
  exact retUX_mk (by first | exact H1.out | (have e : ((x : Int) / 4096) = ((x / 4096 : Nat) : Int) := (by simp); rw [e]; exact H1.out))
theorem field_5_6 (x : Nat) (hx : Hid (x < 4294967296)) (w : World) : Calls Tryd.prog 45 #[.int .u32 x, .int .u8 5, .int .u8 6] w (RetUX (x / 32 % 64) w) := by
  have H1 : Hid (bits .and .u32 ((x / 32 : Nat) : Int) 63 = ((x / 32 % 64 : Nat) : Int)) := u32_low (x / 32) 6 (by have := hx.out; omega) (by decide)
  go_enter Tryd.func45, Tryd.ntmps45
  go_wp2_with fail
  go_ret
  exact retUX_mk (by first | exact H1.out | (have e : ((x : Int) / 32) = ((x / 32 : Nat) : Int) := (by simp); rw [e]; exact H1.out))
theorem field_1_4 (x : Nat) (hx : Hid (x < 4294967296)) (w : World) : Calls Tryd.prog 45 #[.int .u32 x, .int .u8 1, .int .u8 4] w (RetUX (x / 2 % 16) w) := by
  have H1 : Hid (bits .and .u32 ((x / 2 : Nat) : Int) 15 = ((x / 2 % 16 : Nat) : Int)) := u32_low (x / 2) 4 (by have := hx.out; omega) (by decide)
  go_enter Tryd.func45, Tryd.ntmps45
  go_wp2_with fail
  go_ret
  exact retUX_mk (by first | exact H1.out | (have e : ((x : Int) / 2) = ((x / 2 : Nat) : Int) := (by simp); rw [e]; exact H1.out))
theorem field_11_1 (x : Nat) (hx : Hid (x < 4294967296)) (w : World) : Calls Tryd.prog 45 #[.int .u32 x, .int .u8 11, .int .u8 1] w (RetUX (x / 2048 % 2) w) := by
  have H1 : Hid (bits .and .u32 ((x / 2048 : Nat) : Int) 1 = ((x / 2048 % 2 : Nat) : Int)) := u32_low (x / 2048) 1 (by have := hx.out; omega) (by decide)
  go_enter Tryd.func45, Tryd.ntmps45
  go_wp2_with fail
  go_ret
  exact retUX_mk (by first | exact H1.out | (have e : ((x : Int) / 2048) = ((x / 2048 : Nat) : Int) := (by simp); rw [e]; exact H1.out))
theorem field_20_1 (x : Nat) (hx : Hid (x < 4294967296)) (w : World) : Calls Tryd.prog 45 #[.int .u32 x, .int .u8 20, .int .u8 1] w (RetUX (x / 1048576 % 2) w) := by
  have H1 : Hid (bits .and .u32 ((x / 1048576 : Nat) : Int) 1 = ((x / 1048576 % 2 : Nat) : Int)) := u32_low (x / 1048576) 1 (by have := hx.out; omega) (by decide)
  go_enter Tryd.func45, Tryd.ntmps45
  go_wp2_with fail
  go_ret
  exact retUX_mk (by first | exact H1.out | (have e : ((x : Int) / 1048576) = ((x / 1048576 : Nat) : Int) := (by simp); rw [e]; exact H1.out))
theorem field_1_10 (x : Nat) (hx : Hid (x < 4294967296)) (w : World) : Calls Tryd.prog 45 #[.int .u32 x, .int .u8 1, .int .u8 10] w (RetUX (x / 2 % 1024) w) := by
  have H1 : Hid (bits .and .u32 ((x / 2 : Nat) : Int) 1023 = ((x / 2 % 1024 : Nat) : Int)) := u32_low (x / 2) 10 (by have := hx.out; omega) (by decide)
  go_enter Tryd.func45, Tryd.ntmps45
  go_wp2_with fail
  go_ret
  exact retUX_mk (by first | exact H1.out | (have e : ((x : Int) / 2) = ((x / 2 : Nat) : Int) := (by simp); rw [e]; exact H1.out))
theorem field_12_8 (x : Nat) (hx : Hid (x < 4294967296)) (w : World) : Calls Tryd.prog 45 #[.int .u32 x, .int .u8 12, .int .u8 8] w (RetUX (x / 4096 % 256) w) := by
  have H1 : Hid (bits .and .u32 ((x / 4096 : Nat) : Int) 255 = ((x / 4096 % 256 : Nat) : Int)) := u32_low (x / 4096) 8 (by have := hx.out; omega) (by decide)
  go_enter Tryd.func45, Tryd.ntmps45
  go_wp2_with fail
  go_ret
  exact retUX_mk (by first | exact H1.out | (have e : ((x : Int) / 4096) = ((x / 4096 : Nat) : Int) := (by simp); rw [e]; exact H1.out))
theorem field_25_6 (x : Nat) (hx : Hid (x < 4294967296)) (w : World) : Calls Tryd.prog 45 #[.int .u32 x, .int .u8 25, .int .u8 6] w (RetUX (x / 33554432 % 64) w) := by
  have H1 : Hid (bits .and .u32 ((x / 33554432 : Nat) : Int) 63 = ((x / 33554432 % 64 : Nat) : Int)) := u32_low (x / 33554432) 6 (by have := hx.out; omega) (by decide)
  go_enter Tryd.func45, Tryd.ntmps45
  go_wp2_with fail
  go_ret
  exact retUX_mk (by first | exact H1.out | (have e : ((x : Int) / 33554432) = ((x / 33554432 : Nat) : Int) := (by simp); rw [e]; exact H1.out))
theorem field_8_4 (x : Nat) (hx : Hid (x < 4294967296)) (w : World) : Calls Tryd.prog 45 #[.int .u32 x, .int .u8 8, .int .u8 4] w (RetUX (x / 256 % 16) w) := by
  have H1 : Hid (bits .and .u32 ((x / 256 : Nat) : Int) 15 = ((x / 256 % 16 : Nat) : Int)) := u32_low (x / 256) 4 (by have := hx.out; omega) (by decide)
  go_enter Tryd.func45, Tryd.ntmps45
  go_wp2_with fail
  go_ret
  exact retUX_mk (by first | exact H1.out | (have e : ((x : Int) / 256) = ((x / 256 : Nat) : Int) := (by simp); rw [e]; exact H1.out))
theorem field_21_10 (x : Nat) (hx : Hid (x < 4294967296)) (w : World) : Calls Tryd.prog 45 #[.int .u32 x, .int .u8 21, .int .u8 10] w (RetUX (x / 2097152 % 1024) w) := by
  have H1 : Hid (bits .and .u32 ((x / 2097152 : Nat) : Int) 1023 = ((x / 2097152 % 1024 : Nat) : Int)) := u32_low (x / 2097152) 10 (by have := hx.out; omega) (by decide)
  go_enter Tryd.func45, Tryd.ntmps45
  go_wp2_with fail
  go_ret
  exact retUX_mk (by first | exact H1.out | (have e : ((x : Int) / 2097152) = ((x / 2097152 : Nat) : Int) := (by simp); rw [e]; exact H1.out))
theorem tz16_c (n k : Nat) (hn : Hid (n < 65536 ∧ 0 < n ∧ k < 16 ∧ bits .and .u16 (n : Int) ((65536 - n : Nat) : Int) = ((2 ^ k : Nat) : Int))) (w : World) (hG : Hid (G w)) :
    Calls Tryd.prog 46 #[.int .u16 n] w (RetIX k w) := by
  obtain ⟨h0, h1, h2, h3⟩ := hn.out
  have h4 : ((n : Int) == 0) = false := by rw [beq_eq_false_iff_ne]; omega
  have h5 : IntKind.u16.wrap (-(n : Int)) = ((65536 - n : Nat) : Int) := by
    rw [show IntKind.u16.wrap (-(n : Int)) = (-(n : Int)) % 65536 by rfl]; omega
  have hk : k = 0 ∨ k = 1 ∨ k = 2 ∨ k = 3 ∨ k = 4 ∨ k = 5 ∨ k = 6 ∨ k = 7 ∨ k = 8 ∨ k = 9 ∨ k = 10 ∨ k = 11 ∨ k = 12 ∨ k = 13 ∨ k = 14 ∨ k = 15 := by omega
  clear hn h0 h1 h2
  have hd := hG.out.2.2.2
  rcases hk with rfl | rfl | rfl | rfl | rfl | rfl | rfl | rfl | rfl | rfl | rfl | rfl | rfl | rfl | rfl | rfl
  · have c0 : w.cell? ⟨2, 0, none⟩ = some (.int .u8 0) := by rw [hd 0 (by decide)]; rfl
    have h6 : bits .and .u16 (n : Int) (IntKind.u16.wrap (-(n : Int))) = 1 := by rw [h5, h3]; rfl
    clear hd h3 h5
    go_enter Tryd.func46, Tryd.ntmps46
    go_wp2_with fail
    go_ret
    exact retIX_mk rfl
  · have c0 : w.cell? ⟨2, 1, none⟩ = some (.int .u8 1) := by rw [hd 1 (by decide)]; rfl
    have h6 : bits .and .u16 (n : Int) (IntKind.u16.wrap (-(n : Int))) = 2 := by rw [h5, h3]; rfl
    clear hd h3 h5
    go_enter Tryd.func46, Tryd.ntmps46
    go_wp2_with fail
    go_ret
    exact retIX_mk rfl
  · have c0 : w.cell? ⟨2, 3, none⟩ = some (.int .u8 2) := by rw [hd 3 (by decide)]; rfl
    have h6 : bits .and .u16 (n : Int) (IntKind.u16.wrap (-(n : Int))) = 4 := by rw [h5, h3]; rfl
    clear hd h3 h5
    go_enter Tryd.func46, Tryd.ntmps46
    go_wp2_with fail
    go_ret
    exact retIX_mk rfl
  · have c0 : w.cell? ⟨2, 7, none⟩ = some (.int .u8 3) := by rw [hd 7 (by decide)]; rfl
    have h6 : bits .and .u16 (n : Int) (IntKind.u16.wrap (-(n : Int))) = 8 := by rw [h5, h3]; rfl
    clear hd h3 h5
    go_enter Tryd.func46, Tryd.ntmps46
    go_wp2_with fail
    go_ret
    exact retIX_mk rfl
  · have c0 : w.cell? ⟨2, 14, none⟩ = some (.int .u8 4) := by rw [hd 14 (by decide)]; rfl
    have h6 : bits .and .u16 (n : Int) (IntKind.u16.wrap (-(n : Int))) = 16 := by rw [h5, h3]; rfl
    clear hd h3 h5
    go_enter Tryd.func46, Tryd.ntmps46
    go_wp2_with fail
    go_ret
    exact retIX_mk rfl
  · have c0 : w.cell? ⟨2, 29, none⟩ = some (.int .u8 5) := by rw [hd 29 (by decide)]; rfl
    have h6 : bits .and .u16 (n : Int) (IntKind.u16.wrap (-(n : Int))) = 32 := by rw [h5, h3]; rfl
    clear hd h3 h5
    go_enter Tryd.func46, Tryd.ntmps46
    go_wp2_with fail
    go_ret
    exact retIX_mk rfl
  · have c0 : w.cell? ⟨2, 27, none⟩ = some (.int .u8 6) := by rw [hd 27 (by decide)]; rfl
    have h6 : bits .and .u16 (n : Int) (IntKind.u16.wrap (-(n : Int))) = 64 := by rw [h5, h3]; rfl
    clear hd h3 h5
    go_enter Tryd.func46, Tryd.ntmps46
    go_wp2_with fail
    go_ret
    exact retIX_mk rfl
  · have c0 : w.cell? ⟨2, 23, none⟩ = some (.int .u8 7) := by rw [hd 23 (by decide)]; rfl
    have h6 : bits .and .u16 (n : Int) (IntKind.u16.wrap (-(n : Int))) = 128 := by rw [h5, h3]; rfl
    clear hd h3 h5
    go_enter Tryd.func46, Tryd.ntmps46
    go_wp2_with fail
    go_ret
    exact retIX_mk rfl
  · have c0 : w.cell? ⟨2, 15, none⟩ = some (.int .u8 8) := by rw [hd 15 (by decide)]; rfl
    have h6 : bits .and .u16 (n : Int) (IntKind.u16.wrap (-(n : Int))) = 256 := by rw [h5, h3]; rfl
    clear hd h3 h5
    go_enter Tryd.func46, Tryd.ntmps46
    go_wp2_with fail
    go_ret
    exact retIX_mk rfl
  · have c0 : w.cell? ⟨2, 31, none⟩ = some (.int .u8 9) := by rw [hd 31 (by decide)]; rfl
    have h6 : bits .and .u16 (n : Int) (IntKind.u16.wrap (-(n : Int))) = 512 := by rw [h5, h3]; rfl
    clear hd h3 h5
    go_enter Tryd.func46, Tryd.ntmps46
    go_wp2_with fail
    go_ret
    exact retIX_mk rfl
  · have c0 : w.cell? ⟨2, 30, none⟩ = some (.int .u8 10) := by rw [hd 30 (by decide)]; rfl
    have h6 : bits .and .u16 (n : Int) (IntKind.u16.wrap (-(n : Int))) = 1024 := by rw [h5, h3]; rfl
    clear hd h3 h5
    go_enter Tryd.func46, Tryd.ntmps46
    go_wp2_with fail
    go_ret
    exact retIX_mk rfl
  · have c0 : w.cell? ⟨2, 28, none⟩ = some (.int .u8 11) := by rw [hd 28 (by decide)]; rfl
    have h6 : bits .and .u16 (n : Int) (IntKind.u16.wrap (-(n : Int))) = 2048 := by rw [h5, h3]; rfl
    clear hd h3 h5
    go_enter Tryd.func46, Tryd.ntmps46
    go_wp2_with fail
    go_ret
    exact retIX_mk rfl
  · have c0 : w.cell? ⟨2, 25, none⟩ = some (.int .u8 12) := by rw [hd 25 (by decide)]; rfl
    have h6 : bits .and .u16 (n : Int) (IntKind.u16.wrap (-(n : Int))) = 4096 := by rw [h5, h3]; rfl
    clear hd h3 h5
    go_enter Tryd.func46, Tryd.ntmps46
    go_wp2_with fail
    go_ret
    exact retIX_mk rfl
  · have c0 : w.cell? ⟨2, 18, none⟩ = some (.int .u8 13) := by rw [hd 18 (by decide)]; rfl
    have h6 : bits .and .u16 (n : Int) (IntKind.u16.wrap (-(n : Int))) = 8192 := by rw [h5, h3]; rfl
    clear hd h3 h5
    go_enter Tryd.func46, Tryd.ntmps46
    go_wp2_with fail
    go_ret
    exact retIX_mk rfl
  · have c0 : w.cell? ⟨2, 5, none⟩ = some (.int .u8 14) := by rw [hd 5 (by decide)]; rfl
    have h6 : bits .and .u16 (n : Int) (IntKind.u16.wrap (-(n : Int))) = 16384 := by rw [h5, h3]; rfl
    clear hd h3 h5
    go_enter Tryd.func46, Tryd.ntmps46
    go_wp2_with fail
    go_ret
    exact retIX_mk rfl
  · have c0 : w.cell? ⟨2, 11, none⟩ = some (.int .u8 15) := by rw [hd 11 (by decide)]; rfl
    have h6 : bits .and .u16 (n : Int) (IntKind.u16.wrap (-(n : Int))) = 32768 := by rw [h5, h3]; rfl
    clear hd h3 h5
    go_enter Tryd.func46, Tryd.ntmps46
    go_wp2_with fail
    go_ret
    exact retIX_mk rfl
set_option maxRecDepth 100000 in
theorem tz8_1 (w : World) : Calls Tryd.prog 44 #[.int .u8 1] w (RetIX 0 w) := by
  go_enter Tryd.func44, Tryd.ntmps44
  go_wp2_with fail
  go_ret
  exact retIX_mk (by decide +kernel)
set_option maxRecDepth 100000 in
theorem tz8_4 (w : World) : Calls Tryd.prog 44 #[.int .u8 4] w (RetIX 2 w) := by
  go_enter Tryd.func44, Tryd.ntmps44
  go_wp2_with fail
  go_ret
  exact retIX_mk (by decide +kernel)
set_option maxRecDepth 100000 in
theorem tz8_8 (w : World) : Calls Tryd.prog 44 #[.int .u8 8] w (RetIX 3 w) := by
  go_enter Tryd.func44, Tryd.ntmps44
  go_wp2_with fail
  go_ret
  exact retIX_mk (by decide +kernel)
set_option maxRecDepth 100000 in
theorem tz8_9 (w : World) : Calls Tryd.prog 44 #[.int .u8 9] w (RetIX 0 w) := by
  go_enter Tryd.func44, Tryd.ntmps44
  go_wp2_with fail
  go_ret
  exact retIX_mk (by decide +kernel)
set_option maxRecDepth 100000 in
theorem tz8_16 (w : World) : Calls Tryd.prog 44 #[.int .u8 16] w (RetIX 4 w) := by
  go_enter Tryd.func44, Tryd.ntmps44
  go_wp2_with fail
  go_ret
  exact retIX_mk (by decide +kernel)
set_option maxRecDepth 100000 in
theorem tz8_18 (w : World) : Calls Tryd.prog 44 #[.int .u8 18] w (RetIX 1 w) := by
  go_enter Tryd.func44, Tryd.ntmps44
  go_wp2_with fail
  go_ret
  exact retIX_mk (by decide +kernel)
set_option maxRecDepth 100000 in
theorem tz8_20 (w : World) : Calls Tryd.prog 44 #[.int .u8 20] w (RetIX 2 w) := by
  go_enter Tryd.func44, Tryd.ntmps44
  go_wp2_with fail
  go_ret
  exact retIX_mk (by decide +kernel)
set_option maxRecDepth 100000 in
theorem tz8_32 (w : World) : Calls Tryd.prog 44 #[.int .u8 32] w (RetIX 5 w) := by
  go_enter Tryd.func44, Tryd.ntmps44
  go_wp2_with fail
  go_ret
  exact retIX_mk (by decide +kernel)
set_option maxRecDepth 100000 in
theorem tz8_33 (w : World) : Calls Tryd.prog 44 #[.int .u8 33] w (RetIX 0 w) := by
  go_enter Tryd.func44, Tryd.ntmps44
  go_wp2_with fail
  go_ret
  exact retIX_mk (by decide +kernel)
set_option maxRecDepth 100000 in
theorem tz8_40 (w : World) : Calls Tryd.prog 44 #[.int .u8 40] w (RetIX 3 w) := by
  go_enter Tryd.func44, Tryd.ntmps44
  go_wp2_with fail
  go_ret
  exact retIX_mk (by decide +kernel)
set_option maxRecDepth 100000 in
theorem tz8_41 (w : World) : Calls Tryd.prog 44 #[.int .u8 41] w (RetIX 0 w) := by
  go_enter Tryd.func44, Tryd.ntmps44
  go_wp2_with fail
  go_ret
  exact retIX_mk (by decide +kernel)
set_option maxRecDepth 100000 in
theorem tz8_64 (w : World) : Calls Tryd.prog 44 #[.int .u8 64] w (RetIX 6 w) := by
  go_enter Tryd.func44, Tryd.ntmps44
  go_wp2_with fail
  go_ret
  exact retIX_mk (by decide +kernel)
set_option maxRecDepth 100000 in
theorem tz8_80 (w : World) : Calls Tryd.prog 44 #[.int .u8 80] w (RetIX 4 w) := by
  go_enter Tryd.func44, Tryd.ntmps44
  go_wp2_with fail
  go_ret
  exact retIX_mk (by decide +kernel)
set_option maxRecDepth 100000 in
theorem tz8_82 (w : World) : Calls Tryd.prog 44 #[.int .u8 82] w (RetIX 1 w) := by
  go_enter Tryd.func44, Tryd.ntmps44
  go_wp2_with fail
  go_ret
  exact retIX_mk (by decide +kernel)
end Go.Proofs.YtcfeeookjgdkmaaDoor
