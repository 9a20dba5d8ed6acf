/- PROVED: 'SqueezeRegs' returns true whatever the half is: short loads and stores of the first kind reach forward in whole steps, by registers 8 to 15. Condition: the package's three tables hold what the program's text lays. -/
import Derived.Test.YtcfeeookjgdkmaaDoorF2
import Derived.Test.YtcfeeookjgdkmaaDoorM4
import Derived.Test.YtcfeeookjgdkmaaDoorCards
import Derived.Test.YtcfeeookjgdkmaaDoorTie
import Derived.SevenTiedAt
namespace Go.Proofs.YtcfeeookjgdkmaaDoor
open Go.ChangeShapes Go.WideShapes Go.ChangeAt Go.RowKit
set_option linter.unusedVariables false
set_option linter.unusedSimpArgs false
theorem andNot3 (a : Nat) (ha : a < 65536) : ∃ h : Nat, bits .andNot .u16 (a : Int) 3 = (h : Int) ∧ h < 65536 ∧ h % 4 = 0 := by
  refine ⟨a &&& 65532, u16_andNot_nat a 3 ha (by decide), Nat.lt_of_le_of_lt Nat.and_le_left ha, ?_⟩
  rw [show (4 : Nat) = 2 ^ 2 from rfl, Nat.and_mod_two_pow, show 65532 % 2 ^ 2 = 0 by decide, Nat.and_zero]
theorem regs_facts {h y : Nat} (hr : regsB h y = true) (hy : y < 4294967296) :
    y / 32768 % 32 = h / 128 % 8 + 8 ∧ (if 4 < h / 8192 then y / 1048576 % 32 else y / 128 % 32) = h / 4 % 8 + 8 ∧
    ∃ I, I = (if 4 < h / 8192 then y / 33554432 * 32 ||| y / 128 % 32 else y / 1048576) ∧ I % (if h / 8192 = 2 ∨ h / 8192 = 6 then 4 else 8) = 0 ∧ I < 32 * (if h / 8192 = 2 ∨ h / 8192 = 6 then 4 else 8) := by
  unfold regsB at hr
  simp only [Bool.and_eq_true] at hr
  obtain ⟨⟨⟨⟨⟨⟨⟨h1, h2⟩, h3⟩, h4⟩, h5⟩, h6⟩, h7⟩, h8⟩ := hr
  exact ⟨Nat.eq_of_beq_eq_true h7, Nat.eq_of_beq_eq_true h8, _, rfl, Nat.eq_of_beq_eq_true h1, ble_of h2⟩
theorem regs_0 (a h : Nat) (he : bits .andNot .u16 (a : Int) 3 = (h : Int)) (hh : Hid (h < 65536)) (h4 : h % 4 = 0) (hk : h / 8192 = 0) (w : World) (hG : Hid (G w)) : Calls Tryd.prog 6 #[.int .u16 a] w (RetB true w) := by
  have k1 : (h : Int) / 8192 = 0 := by omega
  clear h4 hk
  go_enter Tryd.func6, Tryd.ntmps6
  go_wp2_with fail
  refine (fixed_c _ hG).mono ?_; rintro e w1 ⟨rfl, hb1⟩
  go_wp2_with fail
  go_ret
  exact retB_mk rfl hb1
set_option maxRecDepth 100000 in
set_option maxHeartbeats 1000000 in
theorem regs_1 (a h : Nat) (he : bits .andNot .u16 (a : Int) 3 = (h : Int)) (hh : Hid (h < 65536)) (h4 : h % 4 = 0) (hk : h / 8192 = 1) (w : World) (hG : Hid (G w)) : Calls Tryd.prog 6 #[.int .u16 a] w (RetB true w) := by
  have k1 : (h : Int) / 8192 = 1 := by omega
  have hm : memB h = true := by unfold memB; rw [h4, hk]; rfl
  have HE := Lib.hid (fun v g => Expand_c h hh v g)
  obtain ⟨⟨y, b⟩, h1⟩ : ∃ p, p = expandF h := ⟨_, rfl⟩
  rw [← h1] at HE
  dsimp only at HE
  cases b with
  | false => rw [(ex_none hh.out h1.symm).2.2] at hm; cases hm
  | true =>
  obtain ⟨hz0, hy, hy0, hy3, hh3, hz1, hz2⟩ := ex_some hh.out h1.symm
  obtain ⟨f1, f2, I, hI, hm8, hl⟩ := regs_facts (hz2 hm) hy
  rw [hk] at f2 hI hm8 hl
  have hh' := hh.out
  obtain ⟨H7, hH7⟩ : ∃ n, n = h / 128 % 8 := ⟨_, rfl⟩
  obtain ⟨H2, hH2⟩ : ∃ n, n = h / 4 % 8 := ⟨_, rfl⟩
  rw [← hH7] at f1
  rw [← hH2] at f2
  simp (decide := true) only [if_true, if_false] at f2 hI hm8 hl
  have b7 : bits .and .u16 ((h : Int) / 128) 7 = (H7 : Int) := by
    rw [show ((h : Int) / 128) = ((h / 128 : Nat) : Int) by simp, hH7]
    exact u16_low (h / 128) 3 (by omega) (by decide)
  have b2 : bits .and .u16 ((h : Int) / 4) 7 = (H2 : Int) := by
    rw [show ((h : Int) / 4) = ((h / 4 : Nat) : Int) by simp, hH2]
    exact u16_low (h / 4) 3 (by omega) (by decide)
  have r15 : bits .and .u32 ((y : Int) / 32768) 31 = (H7 : Int) + 8 := by
    rw [show ((y : Int) / 32768) = ((y / 32768 : Nat) : Int) by simp]
    have := u32_low (y / 32768) 5 (by omega) (by decide)
    rw [show ((2 ^ 5 - 1 : Nat) : Int) = 31 by decide, show (2 : Nat) ^ 5 = 32 from rfl] at this
    rw [this, f1]; omega
  have r7 : bits .and .u32 ((y : Int) / 128) 31 = (H2 : Int) + 8 := by
    rw [show ((y : Int) / 128) = ((y / 128 : Nat) : Int) by simp]
    have := u32_low (y / 128) 5 (by omega) (by decide)
    rw [show ((2 ^ 5 - 1 : Nat) : Int) = 31 by decide, show (2 : Nat) ^ 5 = 32 from rfl] at this
    rw [this, f2]; omega
  have ri : (y : Int) / 1048576 = (I : Int) := by rw [hI]; simp
  have l1 : (H7 : Int) < 8 := by omega
  have l3 : (H7 : Int) + 8 < 16 := by omega
  have l4 : (H2 : Int) + 8 < 16 := by omega
  have l2 : (H2 : Int) < 8 := by omega
  have i1 : (I : Int) % 8 = 0 := by omega
  have i2 : (I : Int).tmod 8 = 0 := by rw [Int.tmod_eq_emod_of_nonneg (by omega)]; exact i1
  have i3 : (I : Int) < 256 := by omega
  clear hz0 hz1 hz2 hy0 hy3 hh3 f1 f2 hI hm8 hl hH7 hH2 hm h1 hk h4 hh' hy
  go_enter Tryd.func6, Tryd.ntmps6
  go_wp2_with fail
  refine (fixed_c _ hG).mono ?_; rintro e w1 ⟨rfl, hb1⟩
  have hG1 := Lib.hid (g_below hG.out hb1 hG.out.1)
  go_wp2_with fail
  refine (HE.out _ hG1).mono ?_; rintro e w2 ⟨rfl, hb2⟩
  go_wp2_with fail
  go_ret
  exact retB_mk rfl (below_step hb2 hb1 hb1.size)
set_option maxRecDepth 100000 in
set_option maxHeartbeats 1000000 in
theorem regs_2 (a h : Nat) (he : bits .andNot .u16 (a : Int) 3 = (h : Int)) (hh : Hid (h < 65536)) (h4 : h % 4 = 0) (hk : h / 8192 = 2) (w : World) (hG : Hid (G w)) : Calls Tryd.prog 6 #[.int .u16 a] w (RetB true w) := by
  have k1 : (h : Int) / 8192 = 2 := by omega
  have hm : memB h = true := by unfold memB; rw [h4, hk]; rfl
  have HE := Lib.hid (fun v g => Expand_c h hh v g)
  obtain ⟨⟨y, b⟩, h1⟩ : ∃ p, p = expandF h := ⟨_, rfl⟩
  rw [← h1] at HE
  dsimp only at HE
  cases b with
  | false => rw [(ex_none hh.out h1.symm).2.2] at hm; cases hm
  | true =>
  obtain ⟨hz0, hy, hy0, hy3, hh3, hz1, hz2⟩ := ex_some hh.out h1.symm
  obtain ⟨f1, f2, I, hI, hm8, hl⟩ := regs_facts (hz2 hm) hy
  rw [hk] at f2 hI hm8 hl
  have hh' := hh.out
  obtain ⟨H7, hH7⟩ : ∃ n, n = h / 128 % 8 := ⟨_, rfl⟩
  obtain ⟨H2, hH2⟩ : ∃ n, n = h / 4 % 8 := ⟨_, rfl⟩
  rw [← hH7] at f1
  rw [← hH2] at f2
  simp (decide := true) only [if_true, if_false] at f2 hI hm8 hl
  have b7 : bits .and .u16 ((h : Int) / 128) 7 = (H7 : Int) := by
    rw [show ((h : Int) / 128) = ((h / 128 : Nat) : Int) by simp, hH7]
    exact u16_low (h / 128) 3 (by omega) (by decide)
  have b2 : bits .and .u16 ((h : Int) / 4) 7 = (H2 : Int) := by
    rw [show ((h : Int) / 4) = ((h / 4 : Nat) : Int) by simp, hH2]
    exact u16_low (h / 4) 3 (by omega) (by decide)
  have r15 : bits .and .u32 ((y : Int) / 32768) 31 = (H7 : Int) + 8 := by
    rw [show ((y : Int) / 32768) = ((y / 32768 : Nat) : Int) by simp]
    have := u32_low (y / 32768) 5 (by omega) (by decide)
    rw [show ((2 ^ 5 - 1 : Nat) : Int) = 31 by decide, show (2 : Nat) ^ 5 = 32 from rfl] at this
    rw [this, f1]; omega
  have r7 : bits .and .u32 ((y : Int) / 128) 31 = (H2 : Int) + 8 := by
    rw [show ((y : Int) / 128) = ((y / 128 : Nat) : Int) by simp]
    have := u32_low (y / 128) 5 (by omega) (by decide)
    rw [show ((2 ^ 5 - 1 : Nat) : Int) = 31 by decide, show (2 : Nat) ^ 5 = 32 from rfl] at this
    rw [this, f2]; omega
  have ri : (y : Int) / 1048576 = (I : Int) := by rw [hI]; simp
  have l1 : (H7 : Int) < 8 := by omega
  have l3 : (H7 : Int) + 8 < 16 := by omega
  have l4 : (H2 : Int) + 8 < 16 := by omega
  have l2 : (H2 : Int) < 8 := by omega
  have i1 : (I : Int) % 4 = 0 := by omega
  have i2 : (I : Int).tmod 4 = 0 := by rw [Int.tmod_eq_emod_of_nonneg (by omega)]; exact i1
  have i3 : (I : Int) < 128 := by omega
  clear hz0 hz1 hz2 hy0 hy3 hh3 f1 f2 hI hm8 hl hH7 hH2 hm h1 hk h4 hh' hy
  go_enter Tryd.func6, Tryd.ntmps6
  go_wp2_with fail
  refine (fixed_c _ hG).mono ?_; rintro e w1 ⟨rfl, hb1⟩
  have hG1 := Lib.hid (g_below hG.out hb1 hG.out.1)
  go_wp2_with fail
  refine (HE.out _ hG1).mono ?_; rintro e w2 ⟨rfl, hb2⟩
  go_wp2_with fail
  go_ret
  exact retB_mk rfl (below_step hb2 hb1 hb1.size)
set_option maxRecDepth 100000 in
set_option maxHeartbeats 1000000 in
theorem regs_3 (a h : Nat) (he : bits .andNot .u16 (a : Int) 3 = (h : Int)) (hh : Hid (h < 65536)) (h4 : h % 4 = 0) (hk : h / 8192 = 3) (w : World) (hG : Hid (G w)) : Calls Tryd.prog 6 #[.int .u16 a] w (RetB true w) := by
  have k1 : (h : Int) / 8192 = 3 := by omega
  have hm : memB h = true := by unfold memB; rw [h4, hk]; rfl
  have HE := Lib.hid (fun v g => Expand_c h hh v g)
  obtain ⟨⟨y, b⟩, h1⟩ : ∃ p, p = expandF h := ⟨_, rfl⟩
  rw [← h1] at HE
  dsimp only at HE
  cases b with
  | false => rw [(ex_none hh.out h1.symm).2.2] at hm; cases hm
  | true =>
  obtain ⟨hz0, hy, hy0, hy3, hh3, hz1, hz2⟩ := ex_some hh.out h1.symm
  obtain ⟨f1, f2, I, hI, hm8, hl⟩ := regs_facts (hz2 hm) hy
  rw [hk] at f2 hI hm8 hl
  have hh' := hh.out
  obtain ⟨H7, hH7⟩ : ∃ n, n = h / 128 % 8 := ⟨_, rfl⟩
  obtain ⟨H2, hH2⟩ : ∃ n, n = h / 4 % 8 := ⟨_, rfl⟩
  rw [← hH7] at f1
  rw [← hH2] at f2
  simp (decide := true) only [if_true, if_false] at f2 hI hm8 hl
  have b7 : bits .and .u16 ((h : Int) / 128) 7 = (H7 : Int) := by
    rw [show ((h : Int) / 128) = ((h / 128 : Nat) : Int) by simp, hH7]
    exact u16_low (h / 128) 3 (by omega) (by decide)
  have b2 : bits .and .u16 ((h : Int) / 4) 7 = (H2 : Int) := by
    rw [show ((h : Int) / 4) = ((h / 4 : Nat) : Int) by simp, hH2]
    exact u16_low (h / 4) 3 (by omega) (by decide)
  have r15 : bits .and .u32 ((y : Int) / 32768) 31 = (H7 : Int) + 8 := by
    rw [show ((y : Int) / 32768) = ((y / 32768 : Nat) : Int) by simp]
    have := u32_low (y / 32768) 5 (by omega) (by decide)
    rw [show ((2 ^ 5 - 1 : Nat) : Int) = 31 by decide, show (2 : Nat) ^ 5 = 32 from rfl] at this
    rw [this, f1]; omega
  have r7 : bits .and .u32 ((y : Int) / 128) 31 = (H2 : Int) + 8 := by
    rw [show ((y : Int) / 128) = ((y / 128 : Nat) : Int) by simp]
    have := u32_low (y / 128) 5 (by omega) (by decide)
    rw [show ((2 ^ 5 - 1 : Nat) : Int) = 31 by decide, show (2 : Nat) ^ 5 = 32 from rfl] at this
    rw [this, f2]; omega
  have ri : (y : Int) / 1048576 = (I : Int) := by rw [hI]; simp
  have l1 : (H7 : Int) < 8 := by omega
  have l3 : (H7 : Int) + 8 < 16 := by omega
  have l4 : (H2 : Int) + 8 < 16 := by omega
  have l2 : (H2 : Int) < 8 := by omega
  have i1 : (I : Int) % 8 = 0 := by omega
  have i2 : (I : Int).tmod 8 = 0 := by rw [Int.tmod_eq_emod_of_nonneg (by omega)]; exact i1
  have i3 : (I : Int) < 256 := by omega
  clear hz0 hz1 hz2 hy0 hy3 hh3 f1 f2 hI hm8 hl hH7 hH2 hm h1 hk h4 hh' hy
  go_enter Tryd.func6, Tryd.ntmps6
  go_wp2_with fail
  refine (fixed_c _ hG).mono ?_; rintro e w1 ⟨rfl, hb1⟩
  have hG1 := Lib.hid (g_below hG.out hb1 hG.out.1)
  go_wp2_with fail
  refine (HE.out _ hG1).mono ?_; rintro e w2 ⟨rfl, hb2⟩
  go_wp2_with fail
  go_ret
  exact retB_mk rfl (below_step hb2 hb1 hb1.size)
theorem regs_4 (a h : Nat) (he : bits .andNot .u16 (a : Int) 3 = (h : Int)) (hh : Hid (h < 65536)) (h4 : h % 4 = 0) (hk : h / 8192 = 4) (w : World) (hG : Hid (G w)) : Calls Tryd.prog 6 #[.int .u16 a] w (RetB true w) := by
  have k1 : (h : Int) / 8192 = 4 := by omega
  clear h4 hk
  go_enter Tryd.func6, Tryd.ntmps6
  go_wp2_with fail
  refine (fixed_c _ hG).mono ?_; rintro e w1 ⟨rfl, hb1⟩
  go_wp2_with fail
  go_ret
  exact retB_mk rfl hb1
set_option maxRecDepth 100000 in
set_option maxHeartbeats 1000000 in
theorem regs_5 (a h : Nat) (he : bits .andNot .u16 (a : Int) 3 = (h : Int)) (hh : Hid (h < 65536)) (h4 : h % 4 = 0) (hk : h / 8192 = 5) (w : World) (hG : Hid (G w)) : Calls Tryd.prog 6 #[.int .u16 a] w (RetB true w) := by
  have k1 : (h : Int) / 8192 = 5 := by omega
  have hm : memB h = true := by unfold memB; rw [h4, hk]; rfl
  have HE := Lib.hid (fun v g => Expand_c h hh v g)
  obtain ⟨⟨y, b⟩, h1⟩ : ∃ p, p = expandF h := ⟨_, rfl⟩
  rw [← h1] at HE
  dsimp only at HE
  cases b with
  | false => rw [(ex_none hh.out h1.symm).2.2] at hm; cases hm
  | true =>
  obtain ⟨hz0, hy, hy0, hy3, hh3, hz1, hz2⟩ := ex_some hh.out h1.symm
  obtain ⟨f1, f2, I, hI, hm8, hl⟩ := regs_facts (hz2 hm) hy
  rw [hk] at f2 hI hm8 hl
  have hh' := hh.out
  obtain ⟨H7, hH7⟩ : ∃ n, n = h / 128 % 8 := ⟨_, rfl⟩
  obtain ⟨H2, hH2⟩ : ∃ n, n = h / 4 % 8 := ⟨_, rfl⟩
  rw [← hH7] at f1
  rw [← hH2] at f2
  simp (decide := true) only [if_true, if_false] at f2 hI hm8 hl
  have b7 : bits .and .u16 ((h : Int) / 128) 7 = (H7 : Int) := by
    rw [show ((h : Int) / 128) = ((h / 128 : Nat) : Int) by simp, hH7]
    exact u16_low (h / 128) 3 (by omega) (by decide)
  have b2 : bits .and .u16 ((h : Int) / 4) 7 = (H2 : Int) := by
    rw [show ((h : Int) / 4) = ((h / 4 : Nat) : Int) by simp, hH2]
    exact u16_low (h / 4) 3 (by omega) (by decide)
  have r15 : bits .and .u32 ((y : Int) / 32768) 31 = (H7 : Int) + 8 := by
    rw [show ((y : Int) / 32768) = ((y / 32768 : Nat) : Int) by simp]
    have := u32_low (y / 32768) 5 (by omega) (by decide)
    rw [show ((2 ^ 5 - 1 : Nat) : Int) = 31 by decide, show (2 : Nat) ^ 5 = 32 from rfl] at this
    rw [this, f1]; omega
  obtain ⟨R7, hR7⟩ : ∃ n, n = y / 128 % 32 := ⟨_, rfl⟩
  obtain ⟨A, hA⟩ : ∃ n, n = y / 33554432 * 32 := ⟨_, rfl⟩
  have r7 : bits .and .u32 ((y : Int) / 128) 31 = (R7 : Int) := by
    rw [hR7, show ((y : Int) / 128) = ((y / 128 : Nat) : Int) by simp]
    have := u32_low (y / 128) 5 (by omega) (by decide)
    rw [show ((2 ^ 5 - 1 : Nat) : Int) = 31 by decide, show (2 : Nat) ^ 5 = 32 from rfl] at this
    exact this
  have r20 : bits .and .u32 ((y : Int) / 1048576) 31 = (H2 : Int) + 8 := by
    rw [show ((y : Int) / 1048576) = ((y / 1048576 : Nat) : Int) by simp]
    have := u32_low (y / 1048576) 5 (by omega) (by decide)
    rw [show ((2 ^ 5 - 1 : Nat) : Int) = 31 by decide, show (2 : Nat) ^ 5 = 32 from rfl] at this
    rw [this, f2]; omega
  have ra : (y : Int) / 33554432 * 32 = (A : Int) := by omega
  have ra2 : (A : Int) % 4294967296 = (A : Int) := by omega
  have ri : bits .or .u32 (A : Int) (R7 : Int) = (I : Int) := by
    rw [hI, ← hA, ← hR7]
    exact u32_or_nat _ _ (by omega) (by omega)
  clear hA hR7
  have l1 : (H7 : Int) < 8 := by omega
  have l3 : (H7 : Int) + 8 < 16 := by omega
  have l4 : (H2 : Int) + 8 < 16 := by omega
  have l2 : (H2 : Int) < 8 := by omega
  have i1 : (I : Int) % 8 = 0 := by omega
  have i2 : (I : Int).tmod 8 = 0 := by rw [Int.tmod_eq_emod_of_nonneg (by omega)]; exact i1
  have i3 : (I : Int) < 256 := by omega
  clear hz0 hz1 hz2 hy0 hy3 hh3 f1 f2 hI hm8 hl hH7 hH2 hm h1 hk h4 hh' hy
  go_enter Tryd.func6, Tryd.ntmps6
  go_wp2_with fail
  refine (fixed_c _ hG).mono ?_; rintro e w1 ⟨rfl, hb1⟩
  have hG1 := Lib.hid (g_below hG.out hb1 hG.out.1)
  go_wp2_with fail
  refine (HE.out _ hG1).mono ?_; rintro e w2 ⟨rfl, hb2⟩
  go_wp2_with fail
  go_ret
  exact retB_mk rfl (below_step hb2 hb1 hb1.size)
set_option maxRecDepth 100000 in
set_option maxHeartbeats 1000000 in
theorem regs_6 (a h : Nat) (he : bits .andNot .u16 (a : Int) 3 = (h : Int)) (hh : Hid (h < 65536)) (h4 : h % 4 = 0) (hk : h / 8192 = 6) (w : World) (hG : Hid (G w)) : Calls Tryd.prog 6 #[.int .u16 a] w (RetB true w) := by
  have k1 : (h : Int) / 8192 = 6 := by omega
  have hm : memB h = true := by unfold memB; rw [h4, hk]; rfl
  have HE := Lib.hid (fun v g => Expand_c h hh v g)
  obtain ⟨⟨y, b⟩, h1⟩ : ∃ p, p = expandF h := ⟨_, rfl⟩
  rw [← h1] at HE
  dsimp only at HE
  cases b with
  | false => rw [(ex_none hh.out h1.symm).2.2] at hm; cases hm
  | true =>
  obtain ⟨hz0, hy, hy0, hy3, hh3, hz1, hz2⟩ := ex_some hh.out h1.symm
  obtain ⟨f1, f2, I, hI, hm8, hl⟩ := regs_facts (hz2 hm) hy
  rw [hk] at f2 hI hm8 hl
  have hh' := hh.out
  obtain ⟨H7, hH7⟩ : ∃ n, n = h / 128 % 8 := ⟨_, rfl⟩
  obtain ⟨H2, hH2⟩ : ∃ n, n = h / 4 % 8 := ⟨_, rfl⟩
  rw [← hH7] at f1
  rw [← hH2] at f2
  simp (decide := true) only [if_true, if_false] at f2 hI hm8 hl
  have b7 : bits .and .u16 ((h : Int) / 128) 7 = (H7 : Int) := by
    rw [show ((h : Int) / 128) = ((h / 128 : Nat) : Int) by simp, hH7]
    exact u16_low (h / 128) 3 (by omega) (by decide)
  have b2 : bits .and .u16 ((h : Int) / 4) 7 = (H2 : Int) := by
    rw [show ((h : Int) / 4) = ((h / 4 : Nat) : Int) by simp, hH2]
    exact u16_low (h / 4) 3 (by omega) (by decide)
  have r15 : bits .and .u32 ((y : Int) / 32768) 31 = (H7 : Int) + 8 := by
    rw [show ((y : Int) / 32768) = ((y / 32768 : Nat) : Int) by simp]
    have := u32_low (y / 32768) 5 (by omega) (by decide)
    rw [show ((2 ^ 5 - 1 : Nat) : Int) = 31 by decide, show (2 : Nat) ^ 5 = 32 from rfl] at this
    rw [this, f1]; omega
  obtain ⟨R7, hR7⟩ : ∃ n, n = y / 128 % 32 := ⟨_, rfl⟩
  obtain ⟨A, hA⟩ : ∃ n, n = y / 33554432 * 32 := ⟨_, rfl⟩
  have r7 : bits .and .u32 ((y : Int) / 128) 31 = (R7 : Int) := by
    rw [hR7, show ((y : Int) / 128) = ((y / 128 : Nat) : Int) by simp]
    have := u32_low (y / 128) 5 (by omega) (by decide)
    rw [show ((2 ^ 5 - 1 : Nat) : Int) = 31 by decide, show (2 : Nat) ^ 5 = 32 from rfl] at this
    exact this
  have r20 : bits .and .u32 ((y : Int) / 1048576) 31 = (H2 : Int) + 8 := by
    rw [show ((y : Int) / 1048576) = ((y / 1048576 : Nat) : Int) by simp]
    have := u32_low (y / 1048576) 5 (by omega) (by decide)
    rw [show ((2 ^ 5 - 1 : Nat) : Int) = 31 by decide, show (2 : Nat) ^ 5 = 32 from rfl] at this
    rw [this, f2]; omega
  have ra : (y : Int) / 33554432 * 32 = (A : Int) := by omega
  have ra2 : (A : Int) % 4294967296 = (A : Int) := by omega
  have ri : bits .or .u32 (A : Int) (R7 : Int) = (I : Int) := by
    rw [hI, ← hA, ← hR7]
    exact u32_or_nat _ _ (by omega) (by omega)
  clear hA hR7
  have l1 : (H7 : Int) < 8 := by omega
  have l3 : (H7 : Int) + 8 < 16 := by omega
  have l4 : (H2 : Int) + 8 < 16 := by omega
  have l2 : (H2 : Int) < 8 := by omega
  have i1 : (I : Int) % 4 = 0 := by omega
  have i2 : (I : Int).tmod 4 = 0 := by rw [Int.tmod_eq_emod_of_nonneg (by omega)]; exact i1
  have i3 : (I : Int) < 128 := by omega
  clear hz0 hz1 hz2 hy0 hy3 hh3 f1 f2 hI hm8 hl hH7 hH2 hm h1 hk h4 hh' hy
  go_enter Tryd.func6, Tryd.ntmps6
  go_wp2_with fail
  refine (fixed_c _ hG).mono ?_; rintro e w1 ⟨rfl, hb1⟩
  have hG1 := Lib.hid (g_below hG.out hb1 hG.out.1)
  go_wp2_with fail
  refine (HE.out _ hG1).mono ?_; rintro e w2 ⟨rfl, hb2⟩
  go_wp2_with fail
  go_ret
  exact retB_mk rfl (below_step hb2 hb1 hb1.size)
set_option maxRecDepth 100000 in
set_option maxHeartbeats 1000000 in
theorem regs_7 (a h : Nat) (he : bits .andNot .u16 (a : Int) 3 = (h : Int)) (hh : Hid (h < 65536)) (h4 : h % 4 = 0) (hk : h / 8192 = 7) (w : World) (hG : Hid (G w)) : Calls Tryd.prog 6 #[.int .u16 a] w (RetB true w) := by
  have k1 : (h : Int) / 8192 = 7 := by omega
  have hm : memB h = true := by unfold memB; rw [h4, hk]; rfl
  have HE := Lib.hid (fun v g => Expand_c h hh v g)
  obtain ⟨⟨y, b⟩, h1⟩ : ∃ p, p = expandF h := ⟨_, rfl⟩
  rw [← h1] at HE
  dsimp only at HE
  cases b with
  | false => rw [(ex_none hh.out h1.symm).2.2] at hm; cases hm
  | true =>
  obtain ⟨hz0, hy, hy0, hy3, hh3, hz1, hz2⟩ := ex_some hh.out h1.symm
  obtain ⟨f1, f2, I, hI, hm8, hl⟩ := regs_facts (hz2 hm) hy
  rw [hk] at f2 hI hm8 hl
  have hh' := hh.out
  obtain ⟨H7, hH7⟩ : ∃ n, n = h / 128 % 8 := ⟨_, rfl⟩
  obtain ⟨H2, hH2⟩ : ∃ n, n = h / 4 % 8 := ⟨_, rfl⟩
  rw [← hH7] at f1
  rw [← hH2] at f2
  simp (decide := true) only [if_true, if_false] at f2 hI hm8 hl
  have b7 : bits .and .u16 ((h : Int) / 128) 7 = (H7 : Int) := by
    rw [show ((h : Int) / 128) = ((h / 128 : Nat) : Int) by simp, hH7]
    exact u16_low (h / 128) 3 (by omega) (by decide)
  have b2 : bits .and .u16 ((h : Int) / 4) 7 = (H2 : Int) := by
    rw [show ((h : Int) / 4) = ((h / 4 : Nat) : Int) by simp, hH2]
    exact u16_low (h / 4) 3 (by omega) (by decide)
  have r15 : bits .and .u32 ((y : Int) / 32768) 31 = (H7 : Int) + 8 := by
    rw [show ((y : Int) / 32768) = ((y / 32768 : Nat) : Int) by simp]
    have := u32_low (y / 32768) 5 (by omega) (by decide)
    rw [show ((2 ^ 5 - 1 : Nat) : Int) = 31 by decide, show (2 : Nat) ^ 5 = 32 from rfl] at this
    rw [this, f1]; omega
  obtain ⟨R7, hR7⟩ : ∃ n, n = y / 128 % 32 := ⟨_, rfl⟩
  obtain ⟨A, hA⟩ : ∃ n, n = y / 33554432 * 32 := ⟨_, rfl⟩
  have r7 : bits .and .u32 ((y : Int) / 128) 31 = (R7 : Int) := by
    rw [hR7, show ((y : Int) / 128) = ((y / 128 : Nat) : Int) by simp]
    have := u32_low (y / 128) 5 (by omega) (by decide)
    rw [show ((2 ^ 5 - 1 : Nat) : Int) = 31 by decide, show (2 : Nat) ^ 5 = 32 from rfl] at this
    exact this
  have r20 : bits .and .u32 ((y : Int) / 1048576) 31 = (H2 : Int) + 8 := by
    rw [show ((y : Int) / 1048576) = ((y / 1048576 : Nat) : Int) by simp]
    have := u32_low (y / 1048576) 5 (by omega) (by decide)
    rw [show ((2 ^ 5 - 1 : Nat) : Int) = 31 by decide, show (2 : Nat) ^ 5 = 32 from rfl] at this
    rw [this, f2]; omega
  have ra : (y : Int) / 33554432 * 32 = (A : Int) := by omega
  have ra2 : (A : Int) % 4294967296 = (A : Int) := by omega
  have ri : bits .or .u32 (A : Int) (R7 : Int) = (I : Int) := by
    rw [hI, ← hA, ← hR7]
    exact u32_or_nat _ _ (by omega) (by omega)
  clear hA hR7
  have l1 : (H7 : Int) < 8 := by omega
  have l3 : (H7 : Int) + 8 < 16 := by omega
  have l4 : (H2 : Int) + 8 < 16 := by omega
  have l2 : (H2 : Int) < 8 := by omega
  have i1 : (I : Int) % 8 = 0 := by omega
  have i2 : (I : Int).tmod 8 = 0 := by rw [Int.tmod_eq_emod_of_nonneg (by omega)]; exact i1
  have i3 : (I : Int) < 256 := by omega
  clear hz0 hz1 hz2 hy0 hy3 hh3 f1 f2 hI hm8 hl hH7 hH2 hm h1 hk h4 hh' hy
  go_enter Tryd.func6, Tryd.ntmps6
  go_wp2_with fail
  refine (fixed_c _ hG).mono ?_; rintro e w1 ⟨rfl, hb1⟩
  have hG1 := Lib.hid (g_below hG.out hb1 hG.out.1)
  go_wp2_with fail
  refine (HE.out _ hG1).mono ?_; rintro e w2 ⟨rfl, hb2⟩
  go_wp2_with fail
  go_ret
  exact retB_mk rfl (below_step hb2 hb1 hb1.size)
theorem squeezeRegs_walk (a0 : Int) (w0 : (Lit.int .u16 a0).wf = true) (w : World) (hg : G w) : Calls Tryd.prog 6 #[.int .u16 a0] w (RetB true w) := by
  obtain ⟨a, rfl, ha⟩ := u16_of_wf w0
  obtain ⟨h, he, hh, h4⟩ := andNot3 a ha.out
  have hk : h / 8192 = 0 ∨ h / 8192 = 1 ∨ h / 8192 = 2 ∨ h / 8192 = 3 ∨ h / 8192 = 4 ∨ h / 8192 = 5 ∨ h / 8192 = 6 ∨ h / 8192 = 7 := by omega
  rcases hk with hk | hk | hk | hk | hk | hk | hk | hk
  · exact regs_0 a h he hh h4 hk w hg
  · exact regs_1 a h he hh h4 hk w hg
  · exact regs_2 a h he hh h4 hk w hg
  · exact regs_3 a h he hh h4 hk w hg
  · exact regs_4 a h he hh h4 hk w hg
  · exact regs_5 a h he hh h4 hk w hg
  · exact regs_6 a h he hh h4 hk w hg
  · exact regs_7 a h he hh h4 hk w hg
end Go.Proofs.YtcfeeookjgdkmaaDoor
namespace Go.Proofs.YtcfeeookjgdkmaaDoor.squeezeRegs
open Go.ChangeShapes Go.WideShapes Go.ChangeAt Go.RowKit Go.WideMaps Go.WideElems
set_option linter.unusedVariables false
theorem own : ownKnob Tryd.prog.godebug = none := by kernel_rfl
set_option maxRecDepth 100000 in
theorem lifted (os : Os) (started : os.Started) (H : Type) (enc : TypeId × Value → H) :
    ReturnsInHanded {} Tryd.checked os 6 .any (fun w args => (Rows.squeezeRegsSpec.pre enc Tryd.prog Tryd.f6 [] false w args ∧ laidMetH Tryd.prog laidL w) ∧ sizedMet enc Tryd.prog Tryd.f6 (OpenSpec.ofChange Rows.squeezeRegsSpec) false w args) (Rows.squeezeRegsSpec.post enc Tryd.prog Tryd.f6 false true false false) := by
  refine returnsInHanded_of_change_and (C := Tryd.checked) (X := fun w _ => laidMetH Tryd.prog laidL w) (fun _ _ _ hh h => h.of_heap hh) own started (by kernel_rfl) Tryd.func6
    (ChangeSpec.witness_shaped (enc := enc) (C := Tryd.checked) (os := os) (X := fun w _ => laidMetH Tryd.prog laidL w) false (World.doorLaid Tryd.prog 400 os) #[.int .u16 0] 8 rfl (World.shaped_of_RefB (by kernel_rfl) (by kernel_rfl)) (by kernel_rfl) (by kernel_rfl) (by kernel_rfl) (door_met os _)) ?_
  intro W base args ds gs before hval0 hW _ _ hL _
  have hval : ∀ (j : Nat) t v, Tryd.f6.params[j]? = some t → args[j]? = some v → Value.okWide Tryd.prog W .any base t v := hval0
  have hW' := hW
  obtain ⟨p, q, hA0, hV, rfl, hfz, hnd⟩ := hW
  have hA : DataW.TrodAll enc Tryd.prog W 0 (fun _ => true) true Tryd.f6.params.toList args.toList ds p := hA0
  rw [Tryd.params6] at hA hval
  obtain ⟨v0, vs0, d0, ds0, p0, q0, hargs, rfl, rfl, h0, r0⟩ := trodAll_cons hA
  obtain ⟨rfl, rfl, rfl⟩ := trodAll_nil r0
  obtain rfl : args = #[v0] := by cases args; simp_all
  obtain ⟨rfl, rfl⟩ := trodVars_none hV
  obtain ⟨a0, rfl, rfl, rfl, w0⟩ := open_int Tryd.underlying22 (hval 0 22 v0 rfl rfl) h0
  clear hA0 hval0
  simp only [List.append_nil] at hW'
  refine (squeezeRegs_walk a0 w0 W (of_laid hL)).mono fun e W' ⟨he, hg⟩ => ?_
  subst he
  exact ⟨_, rfl, post_nums hW' (fun _ _ _ => (trodAll_cons_mk (shut_bool Tryd.underlying4 _) trodAll_mk0)) (fun sp => (trodAll_cons_mk (shut_int Tryd.underlying22 w0) trodAll_mk0)) (fun _ => rfl) hg (ok_one (by kernel_rfl) rfl (okWide_bool_mk Tryd.underlying4 _))⟩
theorem over : Rows.SqueezeRegsSaid :=
  OpenClaim.holds_of_wide 6 Tryd.f6 rfl rfl rfl rfl rfl rfl rfl ⟨rfl, rfl, rfl, rfl, rfl⟩ rfl rfl rfl rfl rfl (by kernel_rfl) Tryd.func6 (by kernel_rfl)
    (of_decide_eq_true (by kernel_rfl)) (by unfold Func.isWrapper; first | (rw [if_pos (by decide +kernel)]; kernel_rfl) | (rw [if_neg (by decide +kernel)]; exact ⟨rfl, rfl⟩))
    (fun os started H enc _ => lifted os started H enc)
theorem proved : Rows.SqueezeRegsCardSaid :=
  Claim7.holds_tied_plain_at .later [] [.data, .data, .wider] true Rows.squeezeRegsCard.stood.harness false
    over (fun _ h => by cases h) (by kernel_rfl) (fun _ h => by cases h) squeezeRegs_row_tie rfl ⟨rfl, rfl⟩ (by kernel_rfl) rfl
    (fun f fn hf hfn => by
      obtain rfl : f = 6 := Option.some.inj ((show Tryd.prog.funcNamed "tandem/tandemlaw04.SqueezeRegs" = some 6 by kernel_rfl).symm.trans hf) |>.symm
      obtain rfl : fn = Tryd.f6 := (Option.some.inj (Tryd.func6.symm.trans hfn)).symm
      exact ⟨by kernel_rfl, fun j t ht => by
        rw [Tryd.params6] at ht
        have hm : t ∈ [22] := by simpa using Array.mem_of_getElem? ht
        have hall : ([22].all fun u => !Tryd.prog.wantsStandIn u) = true := by kernel_rfl
        exact (show Tryd.prog.wantsStandIn t = false by simpa using List.all_eq_true.1 hall t hm)⟩)
    (by kernel_rfl)
#print axioms proved
end Go.Proofs.YtcfeeookjgdkmaaDoor.squeezeRegs
