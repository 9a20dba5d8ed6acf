/- The document's own answers: the forms. -/
import Derived.Test.YtcfeeookjgdkmaaDoorR2
namespace Go.Proofs.YtcfeeookjgdkmaaDoor
open Go.ChangeShapes Go.WideShapes Go.ChangeAt Go.RowKit
set_option linter.unusedVariables false
set_option linter.unusedSimpArgs false

theorem part_11_0 (n : Nat) (hn : Hid (n < 4294967296)) (w : World) : Calls Tryd.prog 40 #[.int .u32 n, .int .i64 11, .int .i64 0] w (RetUX (n % 4096) w) := by
  have h := part_c n 11 0 hn (by decide) (by decide) (by decide) w
  have e : partD n 11 0 = n % 4096 := by unfold partD; simp
  rw [e] at h; exact h
theorem part_11_5 (n : Nat) (hn : Hid (n < 4294967296)) (w : World) : Calls Tryd.prog 40 #[.int .u32 n, .int .i64 11, .int .i64 5] w (RetUX (n / 32 % 128) w) := by
  have h := part_c n 11 5 hn (by decide) (by decide) (by decide) w
  have e : partD n 11 5 = n / 32 % 128 := by unfold partD; simp
  rw [e] at h; exact h
theorem part_4_0 (n : Nat) (hn : Hid (n < 4294967296)) (w : World) : Calls Tryd.prog 40 #[.int .u32 n, .int .i64 4, .int .i64 0] w (RetUX (n % 32) w) := by
  have h := part_c n 4 0 hn (by decide) (by decide) (by decide) w
  have e : partD n 4 0 = n % 32 := by unfold partD; simp
  rw [e] at h; exact h
theorem part_12_12 (n : Nat) (hn : Hid (n < 4294967296)) (w : World) : Calls Tryd.prog 40 #[.int .u32 n, .int .i64 12, .int .i64 12] w (RetUX (n / 4096 % 2) w) := by
  have h := part_c n 12 12 hn (by decide) (by decide) (by decide) w
  have e : partD n 12 12 = n / 4096 % 2 := by unfold partD; simp
  rw [e] at h; exact h
theorem part_10_5 (n : Nat) (hn : Hid (n < 4294967296)) (w : World) : Calls Tryd.prog 40 #[.int .u32 n, .int .i64 10, .int .i64 5] w (RetUX (n / 32 % 64) w) := by
  have h := part_c n 10 5 hn (by decide) (by decide) (by decide) w
  have e : partD n 10 5 = n / 32 % 64 := by unfold partD; simp
  rw [e] at h; exact h
theorem part_4_1 (n : Nat) (hn : Hid (n < 4294967296)) (w : World) : Calls Tryd.prog 40 #[.int .u32 n, .int .i64 4, .int .i64 1] w (RetUX (n / 2 % 16) w) := by
  have h := part_c n 4 1 hn (by decide) (by decide) (by decide) w
  have e : partD n 4 1 = n / 2 % 16 := by unfold partD; simp
  rw [e] at h; exact h
theorem part_11_11 (n : Nat) (hn : Hid (n < 4294967296)) (w : World) : Calls Tryd.prog 40 #[.int .u32 n, .int .i64 11, .int .i64 11] w (RetUX (n / 2048 % 2) w) := by
  have h := part_c n 11 11 hn (by decide) (by decide) (by decide) w
  have e : partD n 11 11 = n / 2048 % 2 := by unfold partD; simp
  rw [e] at h; exact h
theorem part_31_12 (n : Nat) (hn : Hid (n < 4294967296)) (w : World) : Calls Tryd.prog 40 #[.int .u32 n, .int .i64 31, .int .i64 12] w (RetUX (n / 4096 % 1048576) w) := by
  have h := part_c n 31 12 hn (by decide) (by decide) (by decide) w
  have e : partD n 31 12 = n / 4096 % 1048576 := by unfold partD; simp
  rw [e] at h; exact h
theorem part_20_20 (n : Nat) (hn : Hid (n < 4294967296)) (w : World) : Calls Tryd.prog 40 #[.int .u32 n, .int .i64 20, .int .i64 20] w (RetUX (n / 1048576 % 2) w) := by
  have h := part_c n 20 20 hn (by decide) (by decide) (by decide) w
  have e : partD n 20 20 = n / 1048576 % 2 := by unfold partD; simp
  rw [e] at h; exact h
theorem part_10_1 (n : Nat) (hn : Hid (n < 4294967296)) (w : World) : Calls Tryd.prog 40 #[.int .u32 n, .int .i64 10, .int .i64 1] w (RetUX (n / 2 % 1024) w) := by
  have h := part_c n 10 1 hn (by decide) (by decide) (by decide) w
  have e : partD n 10 1 = n / 2 % 1024 := by unfold partD; simp
  rw [e] at h; exact h
theorem part_19_12 (n : Nat) (hn : Hid (n < 4294967296)) (w : World) : Calls Tryd.prog 40 #[.int .u32 n, .int .i64 19, .int .i64 12] w (RetUX (n / 4096 % 256) w) := by
  have h := part_c n 19 12 hn (by decide) (by decide) (by decide) w
  have e : partD n 19 12 = n / 4096 % 256 := by unfold partD; simp
  rw [e] at h; exact h
theorem formJ_eq (imm rd op : Nat) (h1 : rd < 32) (h2 : op < 128) :
    ((((((((imm : Int) / 1048576 % 2 * 1024 + (imm : Int) / 2 % 1024) * 2 + (imm : Int) / 2048 % 2) * 256 + (imm : Int) / 4096 % 256) * 32 + (rd : Int)) % 4294967296 * 128 % 4294967296 + (op : Int)) % 4294967296)) = ((formJD imm rd op : Nat) : Int) := by
  have ea : (imm : Int) / 1048576 % 2 = ((imm / 1048576 % 2 : Nat) : Int) := by simp
  have eb : (imm : Int) / 2 % 1024 = ((imm / 2 % 1024 : Nat) : Int) := by simp
  have ec : (imm : Int) / 2048 % 2 = ((imm / 2048 % 2 : Nat) : Int) := by simp
  have ed : (imm : Int) / 4096 % 256 = ((imm / 4096 % 256 : Nat) : Int) := by simp
  have ha : imm / 1048576 % 2 < 2 := Nat.mod_lt _ (by decide)
  have hb : imm / 2 % 1024 < 1024 := Nat.mod_lt _ (by decide)
  have hc : imm / 2048 % 2 < 2 := Nat.mod_lt _ (by decide)
  have hd : imm / 4096 % 256 < 256 := Nat.mod_lt _ (by decide)
  rw [ea, eb, ec, ed]
  unfold formJD
  generalize imm / 1048576 % 2 = a at *
  generalize imm / 2 % 1024 = b at *
  generalize imm / 2048 % 2 = c at *
  generalize imm / 4096 % 256 = d at *
  clear ea eb ec ed
  omega
set_option maxRecDepth 100000 in
set_option maxHeartbeats 1000000 in
theorem formR_c (f7 rs2 rs1 f3 rd op : Nat) (b_f7 : Hid (f7 < 128)) (b_rs2 : Hid (rs2 < 32)) (b_rs1 : Hid (rs1 < 32)) (b_f3 : Hid (f3 < 8)) (b_rd : Hid (rd < 32)) (b_op : Hid (op < 128)) (w : World) : Calls Tryd.prog 33 #[.int .u32 f7, .int .u32 rs2, .int .u32 rs1, .int .u32 f3, .int .u32 rd, .int .u32 op] w (RetUX (formRD f7 rs2 rs1 f3 rd op) w) := by
  go_enter Tryd.func33, Tryd.ntmps33
  go_wp2_with fail
  go_ret
  have c_f7 := b_f7.out
  have c_rs2 := b_rs2.out
  have c_rs1 := b_rs1.out
  have c_f3 := b_f3.out
  have c_rd := b_rd.out
  have c_op := b_op.out
  exact retUX_mk (by unfold formRD; omega)
set_option maxRecDepth 100000 in
set_option maxHeartbeats 1000000 in
theorem formI_c (imm rs1 f3 rd op : Nat) (b_imm : Hid (imm < 4294967296)) (b_rs1 : Hid (rs1 < 32)) (b_f3 : Hid (f3 < 8)) (b_rd : Hid (rd < 32)) (b_op : Hid (op < 128)) (w : World) : Calls Tryd.prog 28 #[.int .u32 imm, .int .u32 rs1, .int .u32 f3, .int .u32 rd, .int .u32 op] w (RetUX (formID imm rs1 f3 rd op) w) := by
  go_enter Tryd.func28, Tryd.ntmps28
  go_wp2_with fail
  refine (part_11_0 imm b_imm _).mono ?_; rintro e u ⟨rfl, rfl⟩
  go_wp2_with fail
  go_ret
  have c_imm := b_imm.out
  have c_rs1 := b_rs1.out
  have c_f3 := b_f3.out
  have c_rd := b_rd.out
  have c_op := b_op.out
  exact retUX_mk (by unfold formID; omega)
set_option maxRecDepth 100000 in
set_option maxHeartbeats 1000000 in
theorem formS_c (imm rs2 rs1 f3 op : Nat) (b_imm : Hid (imm < 4294967296)) (b_rs2 : Hid (rs2 < 32)) (b_rs1 : Hid (rs1 < 32)) (b_f3 : Hid (f3 < 8)) (b_op : Hid (op < 128)) (w : World) : Calls Tryd.prog 29 #[.int .u32 imm, .int .u32 rs2, .int .u32 rs1, .int .u32 f3, .int .u32 op] w (RetUX (formSD imm rs2 rs1 f3 op) w) := by
  go_enter Tryd.func29, Tryd.ntmps29
  go_wp2_with fail
  refine (part_11_5 imm b_imm _).mono ?_; rintro e u ⟨rfl, rfl⟩
  go_wp2_with fail
  refine (part_4_0 imm b_imm _).mono ?_; rintro e u ⟨rfl, rfl⟩
  go_wp2_with fail
  refine (formR_c (imm / 32 % 128) (rs2) (rs1) (f3) (imm % 32) (op) (by show _ < _; have := b_imm.out; omega) b_rs2 b_rs1 b_f3 (by show _ < _; have := b_imm.out; omega) b_op _).mono ?_; rintro e u ⟨rfl, rfl⟩
  go_wp2_with fail
  go_ret
  have c_imm := b_imm.out
  have c_rs2 := b_rs2.out
  have c_rs1 := b_rs1.out
  have c_f3 := b_f3.out
  have c_op := b_op.out
  exact retUX_mk (by rfl)
set_option maxRecDepth 100000 in
set_option maxHeartbeats 1000000 in
theorem formB_c (imm rs2 rs1 f3 op : Nat) (b_imm : Hid (imm < 4294967296)) (b_rs2 : Hid (rs2 < 32)) (b_rs1 : Hid (rs1 < 32)) (b_f3 : Hid (f3 < 8)) (b_op : Hid (op < 128)) (w : World) : Calls Tryd.prog 32 #[.int .u32 imm, .int .u32 rs2, .int .u32 rs1, .int .u32 f3, .int .u32 op] w (RetUX (formBD imm rs2 rs1 f3 op) w) := by
  go_enter Tryd.func32, Tryd.ntmps32
  go_wp2_with fail
  refine (part_12_12 imm b_imm _).mono ?_; rintro e u ⟨rfl, rfl⟩
  go_wp2_with fail
  refine (part_10_5 imm b_imm _).mono ?_; rintro e u ⟨rfl, rfl⟩
  go_wp2_with fail
  refine (part_4_1 imm b_imm _).mono ?_; rintro e u ⟨rfl, rfl⟩
  go_wp2_with fail
  refine (part_11_11 imm b_imm _).mono ?_; rintro e u ⟨rfl, rfl⟩
  go_wp2_with fail
  refine (formR_c (imm / 4096 % 2 * 64 + imm / 32 % 64) (rs2) (rs1) (f3) (imm / 2 % 16 * 2 + imm / 2048 % 2) (op) (by show _ < _; have := b_imm.out; omega) b_rs2 b_rs1 b_f3 (by show _ < _; have := b_imm.out; omega) b_op _).mono ?_; rintro e u ⟨rfl, rfl⟩
  go_wp2_with fail
  go_ret
  have c_imm := b_imm.out
  have c_rs2 := b_rs2.out
  have c_rs1 := b_rs1.out
  have c_f3 := b_f3.out
  have c_op := b_op.out
  exact retUX_mk (by rfl)
set_option maxRecDepth 100000 in
set_option maxHeartbeats 1000000 in
theorem formU_c (imm rd op : Nat) (b_imm : Hid (imm < 4294967296)) (b_rd : Hid (rd < 32)) (b_op : Hid (op < 128)) (w : World) : Calls Tryd.prog 30 #[.int .u32 imm, .int .u32 rd, .int .u32 op] w (RetUX (formUD imm rd op) w) := by
  go_enter Tryd.func30, Tryd.ntmps30
  go_wp2_with fail
  refine (part_31_12 imm b_imm _).mono ?_; rintro e u ⟨rfl, rfl⟩
  go_wp2_with fail
  go_ret
  have c_imm := b_imm.out
  have c_rd := b_rd.out
  have c_op := b_op.out
  exact retUX_mk (by unfold formUD; omega)
set_option maxRecDepth 100000 in
set_option maxHeartbeats 1000000 in
theorem formJ_c (imm rd op : Nat) (b_imm : Hid (imm < 4294967296)) (b_rd : Hid (rd < 32)) (b_op : Hid (op < 128)) (w : World) : Calls Tryd.prog 31 #[.int .u32 imm, .int .u32 rd, .int .u32 op] w (RetUX (formJD imm rd op) w) := by
  go_enter Tryd.func31, Tryd.ntmps31
  go_wp2_with fail
  refine (part_20_20 imm b_imm _).mono ?_; rintro e u ⟨rfl, rfl⟩
  go_wp2_with fail
  refine (part_10_1 imm b_imm _).mono ?_; rintro e u ⟨rfl, rfl⟩
  go_wp2_with fail
  refine (part_11_11 imm b_imm _).mono ?_; rintro e u ⟨rfl, rfl⟩
  go_wp2_with fail
  refine (part_19_12 imm b_imm _).mono ?_; rintro e u ⟨rfl, rfl⟩
  go_wp2_with fail
  go_ret
  have c_imm := b_imm.out
  have c_rd := b_rd.out
  have c_op := b_op.out
  exact retUX_mk (by exact formJ_eq imm rd op c_rd c_op)
end Go.Proofs.YtcfeeookjgdkmaaDoor
