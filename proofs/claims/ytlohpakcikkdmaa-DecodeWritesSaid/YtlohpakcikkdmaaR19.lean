/- The contract of the reference's write. -/
import Derived.Test.YtlohpakcikkdmaaR13
import Derived.Test.YtlohpakcikkdmaaM1
namespace Go.Proofs.Ytlohpakcikkdmaa
open Go.ChangeShapes Go.WideShapes Go.ChangeAt Go.RowKit Go.Sort
set_option linter.unusedVariables false
set_option linter.unusedSimpArgs false
theorem and_low64 (x : Int) (c : Nat) (M D : Int) (hc : c < 63) (hM : M = ((2 ^ c - 1 : Nat) : Int)) (hD : D = ((2 ^ c : Nat) : Int)) : bits .and .i64 x M = x % D := by
  have hp : 2 ^ c < 2 ^ 63 := Nat.pow_lt_pow_right (by decide) hc
  have h0 : 0 < 2 ^ c := Nat.two_pow_pos c
  have e : bits .and .i64 x M = IntKind.i64.wrap ((BitVec.ofInt 64 x &&& BitVec.ofInt 64 M).toNat : Nat) := rfl
  have hMn : (BitVec.ofInt 64 M).toNat = 2 ^ c - 1 := by
    have h64 : ((2 ^ 64 : Nat) : Int) = 18446744073709551616 := by decide
    have h63 : (2 : Nat) ^ 63 = 9223372036854775808 := by decide
    rw [BitVec.toNat_ofInt, hM, Int.emod_eq_of_lt (by omega) (by rw [h64]; omega)]; omega
  have k : (BitVec.ofInt 64 x &&& BitVec.ofInt 64 M).toNat = (x % ((2 ^ 64 : Nat) : Int)).toNat % 2 ^ c := by
    rw [BitVec.toNat_and, hMn, Nat.and_two_pow_sub_one_eq_mod, BitVec.toNat_ofInt]
  have k2 : ((((x % ((2 ^ 64 : Nat) : Int)).toNat % 2 ^ c : Nat)) : Int) = x % D := by
    rw [Int.natCast_emod, Int.toNat_of_nonneg (Int.emod_nonneg _ (by decide)), hD]
    exact Int.emod_emod_of_dvd x (Int.natCast_dvd_natCast.2 (Nat.pow_dvd_pow 2 (by omega)))
  have hl := Int.emod_lt_of_pos x (show (0 : Int) < D by rw [hD]; omega)
  have hg := Int.emod_nonneg x (show D ≠ 0 by rw [hD]; omega)
  have h63 : (2 : Nat) ^ 63 = 9223372036854775808 := by decide
  rw [e, k, k2, IntWalk.i64_in _ (by omega)]
theorem or_pl (x y : Nat) (E : Int) (hE : E = (y : Int)) (hx : x < 4294967296) (hy : y < 4294967296) : bits .or .u32 (x : Int) E = ((x ||| y : Nat) : Int) := by rw [hE]; exact u32_or_nat x y hx hy
theorem or_lt (x y : Nat) (hx : x < 4294967296) (hy : y < 4294967296) : x ||| y < 4294967296 := Nat.or_lt_two_pow (n := 32) hx hy

def wq1 (s : ByteArray) (I : Ins) (x : Nat) : Nat := if hasQ s 100 then x ||| plN I.rd 7 5 else x
theorem wq1_lt (s : ByteArray) (I : Ins) (x : Nat) (h : x < 4294967296) : wq1 s I x < 4294967296 := by unfold wq1; split; exact or_lt _ _ h (plN_lt _ _ _ (by decide)); exact h
def wq2 (s : ByteArray) (I : Ins) (x : Nat) : Nat := if hasQ s 49 then x ||| plN I.rs1 15 5 else x
theorem wq2_lt (s : ByteArray) (I : Ins) (x : Nat) (h : x < 4294967296) : wq2 s I x < 4294967296 := by unfold wq2; split; exact or_lt _ _ h (plN_lt _ _ _ (by decide)); exact h
def wq3 (s : ByteArray) (I : Ins) (x : Nat) : Nat := if hasQ s 50 then x ||| plN I.rs2 20 5 else x
theorem wq3_lt (s : ByteArray) (I : Ins) (x : Nat) (h : x < 4294967296) : wq3 s I x < 4294967296 := by unfold wq3; split; exact or_lt _ _ h (plN_lt _ _ _ (by decide)); exact h
def wq4 (s : ByteArray) (I : Ins) (x : Nat) : Nat := if hasQ s 51 then x ||| plN I.rs3 27 5 else x
theorem wq4_lt (s : ByteArray) (I : Ins) (x : Nat) (h : x < 4294967296) : wq4 s I x < 4294967296 := by unfold wq4; split; exact or_lt _ _ h (plN_lt _ _ _ (by decide)); exact h
def wq5 (s : ByteArray) (I : Ins) (x : Nat) : Nat := if hasQ s 114 then x ||| plN I.rm 12 3 else x
theorem wq5_lt (s : ByteArray) (I : Ins) (x : Nat) (h : x < 4294967296) : wq5 s I x < 4294967296 := by unfold wq5; split; exact or_lt _ _ h (plN_lt _ _ _ (by decide)); exact h
def wq6 (s : ByteArray) (I : Ins) (x : Nat) : Nat := if hasQ s 99 then x ||| plN I.csr 20 12 else x
theorem wq6_lt (s : ByteArray) (I : Ins) (x : Nat) (h : x < 4294967296) : wq6 s I x < 4294967296 := by unfold wq6; split; exact or_lt _ _ h (plN_lt _ _ _ (by decide)); exact h
def wq7 (s : ByteArray) (I : Ins) (x : Nat) : Nat := if hasQ s 104 then x ||| plN I.imm 20 6 else x
theorem wq7_lt (s : ByteArray) (I : Ins) (x : Nat) (h : x < 4294967296) : wq7 s I x < 4294967296 := by unfold wq7; split; exact or_lt _ _ h (plN_lt _ _ _ (by decide)); exact h
def wq8 (s : ByteArray) (I : Ins) (x : Nat) : Nat := if hasQ s 122 then x ||| plN I.imm 15 5 else x
theorem wq8_lt (s : ByteArray) (I : Ins) (x : Nat) (h : x < 4294967296) : wq8 s I x < 4294967296 := by unfold wq8; split; exact or_lt _ _ h (plN_lt _ _ _ (by decide)); exact h
def iw73 (I : Ins) (x : Nat) : Nat → Nat
  | 0 => x
  | _ => x ||| plN I.imm 20 12
def iw83 (I : Ins) (x : Nat) : Nat → Nat
  | 0 => x
  | 1 => x ||| plN I.imm 7 5
  | _ => x ||| plN I.imm 7 5 ||| plN (I.imm / 32) 25 7
def iw66 (I : Ins) (x : Nat) : Nat → Nat
  | 0 => x
  | 1 => x ||| plN (I.imm / 2) 8 4
  | 2 => x ||| plN (I.imm / 2) 8 4 ||| plN (I.imm / 32) 25 6
  | 3 => x ||| plN (I.imm / 2) 8 4 ||| plN (I.imm / 32) 25 6 ||| plN (I.imm / 2048) 7 1
  | _ => x ||| plN (I.imm / 2) 8 4 ||| plN (I.imm / 32) 25 6 ||| plN (I.imm / 2048) 7 1 ||| plN (I.imm / 4096) 31 1
def iw85 (I : Ins) (x : Nat) : Nat → Nat
  | 0 => x
  | _ => x ||| plN (I.imm / 4096) 12 20
def iw74 (I : Ins) (x : Nat) : Nat → Nat
  | 0 => x
  | 1 => x ||| plN (I.imm / 2) 21 10
  | 2 => x ||| plN (I.imm / 2) 21 10 ||| plN (I.imm / 2048) 20 1
  | 3 => x ||| plN (I.imm / 2) 21 10 ||| plN (I.imm / 2048) 20 1 ||| plN (I.imm / 4096) 12 8
  | _ => x ||| plN (I.imm / 2) 21 10 ||| plN (I.imm / 2048) 20 1 ||| plN (I.imm / 4096) 12 8 ||| plN (I.imm / 1048576) 31 1
def iw0 (I : Ins) (x : Nat) : Nat → Nat
  | _ => x
def immW (l : Nat) (I : Ins) (x : Nat) : Nat := if l = 73 then iw73 I x 1 else if l = 83 then iw83 I x 2 else if l = 66 then iw66 I x 4 else if l = 85 then iw85 I x 1 else if l = 74 then iw74 I x 4 else x
def writeQ (bt : Nat) (s : ByteArray) (I : Ins) : Nat := immW (letterQ s) I (wq8 s I (wq7 s I (wq6 s I (wq5 s I (wq4 s I (wq3 s I (wq2 s I (wq1 s I bt))))))))
theorem iw73_lt (I : Ins) (x : Nat) (h : x < 4294967296) (k : Nat) : iw73 I x k < 4294967296 := by
  unfold iw73; split
  · exact h
  · exact (or_lt _ _ h (plN_lt _ _ _ (by decide)))
theorem iw83_lt (I : Ins) (x : Nat) (h : x < 4294967296) (k : Nat) : iw83 I x k < 4294967296 := by
  unfold iw83; split
  · exact h
  · exact (or_lt _ _ h (plN_lt _ _ _ (by decide)))
  · exact (or_lt _ _ (or_lt _ _ h (plN_lt _ _ _ (by decide))) (plN_lt _ _ _ (by decide)))
theorem iw66_lt (I : Ins) (x : Nat) (h : x < 4294967296) (k : Nat) : iw66 I x k < 4294967296 := by
  unfold iw66; split
  · exact h
  · exact (or_lt _ _ h (plN_lt _ _ _ (by decide)))
  · exact (or_lt _ _ (or_lt _ _ h (plN_lt _ _ _ (by decide))) (plN_lt _ _ _ (by decide)))
  · exact (or_lt _ _ (or_lt _ _ (or_lt _ _ h (plN_lt _ _ _ (by decide))) (plN_lt _ _ _ (by decide))) (plN_lt _ _ _ (by decide)))
  · exact (or_lt _ _ (or_lt _ _ (or_lt _ _ (or_lt _ _ h (plN_lt _ _ _ (by decide))) (plN_lt _ _ _ (by decide))) (plN_lt _ _ _ (by decide))) (plN_lt _ _ _ (by decide)))
theorem iw85_lt (I : Ins) (x : Nat) (h : x < 4294967296) (k : Nat) : iw85 I x k < 4294967296 := by
  unfold iw85; split
  · exact h
  · exact (or_lt _ _ h (plN_lt _ _ _ (by decide)))
theorem iw74_lt (I : Ins) (x : Nat) (h : x < 4294967296) (k : Nat) : iw74 I x k < 4294967296 := by
  unfold iw74; split
  · exact h
  · exact (or_lt _ _ h (plN_lt _ _ _ (by decide)))
  · exact (or_lt _ _ (or_lt _ _ h (plN_lt _ _ _ (by decide))) (plN_lt _ _ _ (by decide)))
  · exact (or_lt _ _ (or_lt _ _ (or_lt _ _ h (plN_lt _ _ _ (by decide))) (plN_lt _ _ _ (by decide))) (plN_lt _ _ _ (by decide)))
  · exact (or_lt _ _ (or_lt _ _ (or_lt _ _ (or_lt _ _ h (plN_lt _ _ _ (by decide))) (plN_lt _ _ _ (by decide))) (plN_lt _ _ _ (by decide))) (plN_lt _ _ _ (by decide)))
theorem iw0_lt (I : Ins) (x : Nat) (h : x < 4294967296) (k : Nat) : iw0 I x k < 4294967296 := by
  exact h
set_option maxRecDepth 100000 in
set_option maxHeartbeats 16000000 in
theorem write_q (m bt : Nat) (hbt : Hid (bt < 4294967296)) (k : Int) (s : ByteArray) (sz : Int) (wd un : Bool) (hs : s.size ≤ 100) (I : Ins) (w : World) : Calls Try.prog 22 #[.agg #[.int .u32 m, .int .u32 bt, .int .i64 k, .string s, .int .i64 sz, .bool wd, .bool un], .agg #[.int .i64 I.kind, .int .i64 I.rd, .int .i64 I.rs1, .int .i64 I.rs2, .int .i64 I.rs3, .int .i64 I.rm, .int .i64 I.csr, .int .i64 I.size, .int .i64 I.imm, .bool I.ui, .bool I.un, .bool I.wo]] w (RetU (writeQ bt s I) w) := by
  go_enter Try.func22, Try.ntmps22
  go_upto_region 2 with fail
  have HI : Hid (AtI ((w.alloc (Obj.cells #[.int .u32 m, .int .u32 bt, .int .i64 k, .string s, .int .i64 sz, .bool wd, .bool un] 50)).alloc (Obj.cells #[.int .i64 I.kind, .int .i64 I.rd, .int .i64 I.rs1, .int .i64 I.rs2, .int .i64 I.rs3, .int .i64 I.rm, .int .i64 I.csr, .int .i64 I.size, .int .i64 I.imm, .bool I.ui, .bool I.un, .bool I.wo] 25)) (w.heap.size + 1) I) := atI_lit _ 25 _ I (by rw [sz_alloc])
  have HQ : Hid (AtQ ((w.alloc (Obj.cells #[.int .u32 m, .int .u32 bt, .int .i64 k, .string s, .int .i64 sz, .bool wd, .bool un] 50)).alloc (Obj.cells #[.int .i64 I.kind, .int .i64 I.rd, .int .i64 I.rs1, .int .i64 I.rs2, .int .i64 I.rs3, .int .i64 I.rm, .int .i64 I.csr, .int .i64 I.size, .int .i64 I.imm, .bool I.ui, .bool I.un, .bool I.wo] 25)) w.heap.size s) := atQ_alloc (by show _ = _; rw [World.cell?_alloc_at _ _ _ _ rfl]; rfl) (by rw [sz_alloc]; omega) _
  obtain ⟨wc, hwc⟩ : ∃ wc, wc = (w.alloc (Obj.cells #[.int .u32 m, .int .u32 bt, .int .i64 k, .string s, .int .i64 sz, .bool wd, .bool un] 50)).alloc (Obj.cells #[.int .i64 I.kind, .int .i64 I.rd, .int .i64 I.rs1, .int .i64 I.rs2, .int .i64 I.rs3, .int .i64 I.rm, .int .i64 I.csr, .int .i64 I.size, .int .i64 I.imm, .bool I.ui, .bool I.un, .bool I.wo] 25) := ⟨_, rfl⟩
  have hbc0 : Below w.heap.size w wc := by rw [hwc]; exact (by repeat (first | (with_reducible first | exact Below.refl _ _ | assumption | exact Nat.le_refl _ | refine Below.drew ?_ | refine Below.alloc ?_ ?_ _ | refine Below.setCell ?_ ?_ _ | refine le_alloc ?_ | refine le_set ?_ | refine le_drew ?_ | refine below_step (by assumption) ?_ ?_ | refine le_below (by assumption) ?_) | (dsimp only; omega)))
  have hz0 : w.heap.size + 1 < wc.heap.size := by rw [hwc]; simp only [sz_alloc]; omega
  have HQ0 : Hid (AtQ wc w.heap.size s) := by rw [hwc]; exact HQ.out
  have HI0 : Hid (AtI wc (w.heap.size + 1) I) := by rw [hwc]; exact HI.out
  rw [← hwc]
  clear hwc HI HQ
  have s1 : wc.cell? ⟨w.heap.size, 3, none⟩ = some (.string s) := HQ0.out
  go_upto_if 12 with (go_at_call 30; refine (has_c s hs 100 (by show _ < _; decide) _).mono ?_; rintro e v1 ⟨rfl, hv1⟩)
  have hvz1 := hv1.size
  have HQv1 := Lib.hid (atQ_below HQ0.out hv1 (by omega)); have HIv1 := Lib.hid (atI_below HI0.out hv1 (by omega))
  have hbv1 : Below w.heap.size w v1 := below_step hv1 hbc0 (by omega)
  clear s1
  go_cut [5] (fun s5 wx => s5 = .int .u32 ((wq1 s I bt) : Nat) ∧ AtQ wx w.heap.size s ∧ AtI wx (w.heap.size + 1) I ∧ w.heap.size + 1 < wx.heap.size ∧ Below w.heap.size w wx)
  case first =>
    have hcell : v1.cell? ⟨w.heap.size + 1, 1, none⟩ = some (.int .i64 I.rd) := HIv1.out.1 1
    go_wp2_with fail
    · have hh : hasQ s 100 = true := by assumption
      go_meet
      refine ⟨?_, HQv1.out, HIv1.out, by omega, hbv1⟩
      have hq : (wq1 s I bt) = bt ||| plN I.rd 7 5 := by unfold wq1; rw [hh]; rfl
      rw [hq]
      exact congrArg (Value.int .u32) (or_pl _ _ _ (by rw [and_low64 I.rd 5 31 32 (by decide) (by decide) (by decide)]; simp only [plN, show ((2 ^ 5 : Nat) : Int) = 32 by decide, show (2 : Nat) ^ 7 = 128 by decide]; omega) hbt.out (plN_lt _ _ _ (by decide)))
    · have hh : hasQ s 100 = false := by assumption
      go_meet
      refine ⟨?_, HQv1.out, HIv1.out, by omega, hbv1⟩
      have hq : (wq1 s I bt) = bt := by unfold wq1; rw [hh]; rfl
      rw [hq]
  case rest =>
    rename World => ww1
    obtain ⟨rfl, hQ1, hI1, hz1, hbc1⟩ := hcut
    have HQ1 := Lib.hid hQ1; have HI1 := Lib.hid hI1
    have bl1 : Hid ((wq1 s I bt) < 4294967296) := wq1_lt s I _ hbt.out
    obtain ⟨x1, hx1⟩ : ∃ x, x = (wq1 s I bt) := ⟨_, rfl⟩
    rw [← hx1]
    rw [← hx1] at bl1
    have HX1 := Lib.hid hx1
    clear hQ1 hI1 hx1 HQv1 HIv1 hv1 hbv1 hvz1
    have s2 : ww1.cell? ⟨w.heap.size, 3, none⟩ = some (.string s) := HQ1.out
    go_upto_if 22 with (go_at_call 30; refine (has_c s hs 49 (by show _ < _; decide) _).mono ?_; rintro e v2 ⟨rfl, hv2⟩)
    have hvz2 := hv2.size
    have HQv2 := Lib.hid (atQ_below HQ1.out hv2 (by omega)); have HIv2 := Lib.hid (atI_below HI1.out hv2 (by omega))
    have hbv2 : Below w.heap.size w v2 := below_step hv2 hbc1 (by omega)
    clear s2
    go_cut [5] (fun s5 wx => s5 = .int .u32 ((wq2 s I x1) : Nat) ∧ AtQ wx w.heap.size s ∧ AtI wx (w.heap.size + 1) I ∧ w.heap.size + 1 < wx.heap.size ∧ Below w.heap.size w wx)
    case first =>
      have hcell : v2.cell? ⟨w.heap.size + 1, 2, none⟩ = some (.int .i64 I.rs1) := HIv2.out.1 2
      go_wp2_with fail
      · have hh : hasQ s 49 = true := by assumption
        go_meet
        refine ⟨?_, HQv2.out, HIv2.out, by omega, hbv2⟩
        have hq : (wq2 s I x1) = x1 ||| plN I.rs1 15 5 := by unfold wq2; rw [hh]; rfl
        rw [hq]
        exact congrArg (Value.int .u32) (or_pl _ _ _ (by rw [and_low64 I.rs1 5 31 32 (by decide) (by decide) (by decide)]; simp only [plN, show ((2 ^ 5 : Nat) : Int) = 32 by decide, show (2 : Nat) ^ 15 = 32768 by decide]; omega) bl1.out (plN_lt _ _ _ (by decide)))
      · have hh : hasQ s 49 = false := by assumption
        go_meet
        refine ⟨?_, HQv2.out, HIv2.out, by omega, hbv2⟩
        have hq : (wq2 s I x1) = x1 := by unfold wq2; rw [hh]; rfl
        rw [hq]
    case rest =>
      rename World => ww2
      obtain ⟨rfl, hQ2, hI2, hz2, hbc2⟩ := hcut
      have HQ2 := Lib.hid hQ2; have HI2 := Lib.hid hI2
      have bl2 : Hid ((wq2 s I x1) < 4294967296) := wq2_lt s I _ bl1.out
      obtain ⟨x2, hx2⟩ : ∃ x, x = (wq2 s I x1) := ⟨_, rfl⟩
      rw [← hx2]
      rw [← hx2] at bl2
      have HX2 := Lib.hid hx2
      clear hQ2 hI2 hx2 HQv2 HIv2 hv2 hbv2 hvz2
      have s3 : ww2.cell? ⟨w.heap.size, 3, none⟩ = some (.string s) := HQ2.out
      go_upto_if 32 with (go_at_call 30; refine (has_c s hs 50 (by show _ < _; decide) _).mono ?_; rintro e v3 ⟨rfl, hv3⟩)
      have hvz3 := hv3.size
      have HQv3 := Lib.hid (atQ_below HQ2.out hv3 (by omega)); have HIv3 := Lib.hid (atI_below HI2.out hv3 (by omega))
      have hbv3 : Below w.heap.size w v3 := below_step hv3 hbc2 (by omega)
      clear s3
      go_cut [5] (fun s5 wx => s5 = .int .u32 ((wq3 s I x2) : Nat) ∧ AtQ wx w.heap.size s ∧ AtI wx (w.heap.size + 1) I ∧ w.heap.size + 1 < wx.heap.size ∧ Below w.heap.size w wx)
      case first =>
        have hcell : v3.cell? ⟨w.heap.size + 1, 3, none⟩ = some (.int .i64 I.rs2) := HIv3.out.1 3
        go_wp2_with fail
        · have hh : hasQ s 50 = true := by assumption
          go_meet
          refine ⟨?_, HQv3.out, HIv3.out, by omega, hbv3⟩
          have hq : (wq3 s I x2) = x2 ||| plN I.rs2 20 5 := by unfold wq3; rw [hh]; rfl
          rw [hq]
          exact congrArg (Value.int .u32) (or_pl _ _ _ (by rw [and_low64 I.rs2 5 31 32 (by decide) (by decide) (by decide)]; simp only [plN, show ((2 ^ 5 : Nat) : Int) = 32 by decide, show (2 : Nat) ^ 20 = 1048576 by decide]; omega) bl2.out (plN_lt _ _ _ (by decide)))
        · have hh : hasQ s 50 = false := by assumption
          go_meet
          refine ⟨?_, HQv3.out, HIv3.out, by omega, hbv3⟩
          have hq : (wq3 s I x2) = x2 := by unfold wq3; rw [hh]; rfl
          rw [hq]
      case rest =>
        rename World => ww3
        obtain ⟨rfl, hQ3, hI3, hz3, hbc3⟩ := hcut
        have HQ3 := Lib.hid hQ3; have HI3 := Lib.hid hI3
        have bl3 : Hid ((wq3 s I x2) < 4294967296) := wq3_lt s I _ bl2.out
        obtain ⟨x3, hx3⟩ : ∃ x, x = (wq3 s I x2) := ⟨_, rfl⟩
        rw [← hx3]
        rw [← hx3] at bl3
        have HX3 := Lib.hid hx3
        clear hQ3 hI3 hx3 HQv3 HIv3 hv3 hbv3 hvz3
        have s4 : ww3.cell? ⟨w.heap.size, 3, none⟩ = some (.string s) := HQ3.out
        go_upto_if 42 with (go_at_call 30; refine (has_c s hs 51 (by show _ < _; decide) _).mono ?_; rintro e v4 ⟨rfl, hv4⟩)
        have hvz4 := hv4.size
        have HQv4 := Lib.hid (atQ_below HQ3.out hv4 (by omega)); have HIv4 := Lib.hid (atI_below HI3.out hv4 (by omega))
        have hbv4 : Below w.heap.size w v4 := below_step hv4 hbc3 (by omega)
        clear s4
        go_cut [5] (fun s5 wx => s5 = .int .u32 ((wq4 s I x3) : Nat) ∧ AtQ wx w.heap.size s ∧ AtI wx (w.heap.size + 1) I ∧ w.heap.size + 1 < wx.heap.size ∧ Below w.heap.size w wx)
        case first =>
          have hcell : v4.cell? ⟨w.heap.size + 1, 4, none⟩ = some (.int .i64 I.rs3) := HIv4.out.1 4
          go_wp2_with fail
          · have hh : hasQ s 51 = true := by assumption
            go_meet
            refine ⟨?_, HQv4.out, HIv4.out, by omega, hbv4⟩
            have hq : (wq4 s I x3) = x3 ||| plN I.rs3 27 5 := by unfold wq4; rw [hh]; rfl
            rw [hq]
            exact congrArg (Value.int .u32) (or_pl _ _ _ (by rw [and_low64 I.rs3 5 31 32 (by decide) (by decide) (by decide)]; simp only [plN, show ((2 ^ 5 : Nat) : Int) = 32 by decide, show (2 : Nat) ^ 27 = 134217728 by decide]; omega) bl3.out (plN_lt _ _ _ (by decide)))
          · have hh : hasQ s 51 = false := by assumption
            go_meet
            refine ⟨?_, HQv4.out, HIv4.out, by omega, hbv4⟩
            have hq : (wq4 s I x3) = x3 := by unfold wq4; rw [hh]; rfl
            rw [hq]
        case rest =>
          rename World => ww4
          obtain ⟨rfl, hQ4, hI4, hz4, hbc4⟩ := hcut
          have HQ4 := Lib.hid hQ4; have HI4 := Lib.hid hI4
          have bl4 : Hid ((wq4 s I x3) < 4294967296) := wq4_lt s I _ bl3.out
          obtain ⟨x4, hx4⟩ : ∃ x, x = (wq4 s I x3) := ⟨_, rfl⟩
          rw [← hx4]
          rw [← hx4] at bl4
          have HX4 := Lib.hid hx4
          clear hQ4 hI4 hx4 HQv4 HIv4 hv4 hbv4 hvz4
          have s5 : ww4.cell? ⟨w.heap.size, 3, none⟩ = some (.string s) := HQ4.out
          go_upto_if 52 with (go_at_call 30; refine (has_c s hs 114 (by show _ < _; decide) _).mono ?_; rintro e v5 ⟨rfl, hv5⟩)
          have hvz5 := hv5.size
          have HQv5 := Lib.hid (atQ_below HQ4.out hv5 (by omega)); have HIv5 := Lib.hid (atI_below HI4.out hv5 (by omega))
          have hbv5 : Below w.heap.size w v5 := below_step hv5 hbc4 (by omega)
          clear s5
          go_cut [5] (fun s5 wx => s5 = .int .u32 ((wq5 s I x4) : Nat) ∧ AtQ wx w.heap.size s ∧ AtI wx (w.heap.size + 1) I ∧ w.heap.size + 1 < wx.heap.size ∧ Below w.heap.size w wx)
          case first =>
            have hcell : v5.cell? ⟨w.heap.size + 1, 5, none⟩ = some (.int .i64 I.rm) := HIv5.out.1 5
            go_wp2_with fail
            · have hh : hasQ s 114 = true := by assumption
              go_meet
              refine ⟨?_, HQv5.out, HIv5.out, by omega, hbv5⟩
              have hq : (wq5 s I x4) = x4 ||| plN I.rm 12 3 := by unfold wq5; rw [hh]; rfl
              rw [hq]
              exact congrArg (Value.int .u32) (or_pl _ _ _ (by rw [and_low64 I.rm 3 7 8 (by decide) (by decide) (by decide)]; simp only [plN, show ((2 ^ 3 : Nat) : Int) = 8 by decide, show (2 : Nat) ^ 12 = 4096 by decide]; omega) bl4.out (plN_lt _ _ _ (by decide)))
            · have hh : hasQ s 114 = false := by assumption
              go_meet
              refine ⟨?_, HQv5.out, HIv5.out, by omega, hbv5⟩
              have hq : (wq5 s I x4) = x4 := by unfold wq5; rw [hh]; rfl
              rw [hq]
          case rest =>
            rename World => ww5
            obtain ⟨rfl, hQ5, hI5, hz5, hbc5⟩ := hcut
            have HQ5 := Lib.hid hQ5; have HI5 := Lib.hid hI5
            have bl5 : Hid ((wq5 s I x4) < 4294967296) := wq5_lt s I _ bl4.out
            obtain ⟨x5, hx5⟩ : ∃ x, x = (wq5 s I x4) := ⟨_, rfl⟩
            rw [← hx5]
            rw [← hx5] at bl5
            have HX5 := Lib.hid hx5
            clear hQ5 hI5 hx5 HQv5 HIv5 hv5 hbv5 hvz5
            have s6 : ww5.cell? ⟨w.heap.size, 3, none⟩ = some (.string s) := HQ5.out
            go_upto_if 62 with (go_at_call 30; refine (has_c s hs 99 (by show _ < _; decide) _).mono ?_; rintro e v6 ⟨rfl, hv6⟩)
            have hvz6 := hv6.size
            have HQv6 := Lib.hid (atQ_below HQ5.out hv6 (by omega)); have HIv6 := Lib.hid (atI_below HI5.out hv6 (by omega))
            have hbv6 : Below w.heap.size w v6 := below_step hv6 hbc5 (by omega)
            clear s6
            go_cut [5] (fun s5 wx => s5 = .int .u32 ((wq6 s I x5) : Nat) ∧ AtQ wx w.heap.size s ∧ AtI wx (w.heap.size + 1) I ∧ w.heap.size + 1 < wx.heap.size ∧ Below w.heap.size w wx)
            case first =>
              have hcell : v6.cell? ⟨w.heap.size + 1, 6, none⟩ = some (.int .i64 I.csr) := HIv6.out.1 6
              go_wp2_with fail
              · have hh : hasQ s 99 = true := by assumption
                go_meet
                refine ⟨?_, HQv6.out, HIv6.out, by omega, hbv6⟩
                have hq : (wq6 s I x5) = x5 ||| plN I.csr 20 12 := by unfold wq6; rw [hh]; rfl
                rw [hq]
                exact congrArg (Value.int .u32) (or_pl _ _ _ (by rw [and_low64 I.csr 12 4095 4096 (by decide) (by decide) (by decide)]; simp only [plN, show ((2 ^ 12 : Nat) : Int) = 4096 by decide, show (2 : Nat) ^ 20 = 1048576 by decide]; omega) bl5.out (plN_lt _ _ _ (by decide)))
              · have hh : hasQ s 99 = false := by assumption
                go_meet
                refine ⟨?_, HQv6.out, HIv6.out, by omega, hbv6⟩
                have hq : (wq6 s I x5) = x5 := by unfold wq6; rw [hh]; rfl
                rw [hq]
            case rest =>
              rename World => ww6
              obtain ⟨rfl, hQ6, hI6, hz6, hbc6⟩ := hcut
              have HQ6 := Lib.hid hQ6; have HI6 := Lib.hid hI6
              have bl6 : Hid ((wq6 s I x5) < 4294967296) := wq6_lt s I _ bl5.out
              obtain ⟨x6, hx6⟩ : ∃ x, x = (wq6 s I x5) := ⟨_, rfl⟩
              rw [← hx6]
              rw [← hx6] at bl6
              have HX6 := Lib.hid hx6
              clear hQ6 hI6 hx6 HQv6 HIv6 hv6 hbv6 hvz6
              have s7 : ww6.cell? ⟨w.heap.size, 3, none⟩ = some (.string s) := HQ6.out
              go_upto_if 72 with (go_at_call 30; refine (has_c s hs 104 (by show _ < _; decide) _).mono ?_; rintro e v7 ⟨rfl, hv7⟩)
              have hvz7 := hv7.size
              have HQv7 := Lib.hid (atQ_below HQ6.out hv7 (by omega)); have HIv7 := Lib.hid (atI_below HI6.out hv7 (by omega))
              have hbv7 : Below w.heap.size w v7 := below_step hv7 hbc6 (by omega)
              clear s7
              go_cut [5] (fun s5 wx => s5 = .int .u32 ((wq7 s I x6) : Nat) ∧ AtQ wx w.heap.size s ∧ AtI wx (w.heap.size + 1) I ∧ w.heap.size + 1 < wx.heap.size ∧ Below w.heap.size w wx)
              case first =>
                have hcell : v7.cell? ⟨w.heap.size + 1, 8, none⟩ = some (.int .i64 I.imm) := HIv7.out.1 8
                go_wp2_with fail
                · have hh : hasQ s 104 = true := by assumption
                  go_meet
                  refine ⟨?_, HQv7.out, HIv7.out, by omega, hbv7⟩
                  have hq : (wq7 s I x6) = x6 ||| plN I.imm 20 6 := by unfold wq7; rw [hh]; rfl
                  rw [hq]
                  exact congrArg (Value.int .u32) (or_pl _ _ _ (by rw [and_low64 I.imm 6 63 64 (by decide) (by decide) (by decide)]; simp only [plN, show ((2 ^ 6 : Nat) : Int) = 64 by decide, show (2 : Nat) ^ 20 = 1048576 by decide]; omega) bl6.out (plN_lt _ _ _ (by decide)))
                · have hh : hasQ s 104 = false := by assumption
                  go_meet
                  refine ⟨?_, HQv7.out, HIv7.out, by omega, hbv7⟩
                  have hq : (wq7 s I x6) = x6 := by unfold wq7; rw [hh]; rfl
                  rw [hq]
              case rest =>
                rename World => ww7
                obtain ⟨rfl, hQ7, hI7, hz7, hbc7⟩ := hcut
                have HQ7 := Lib.hid hQ7; have HI7 := Lib.hid hI7
                have bl7 : Hid ((wq7 s I x6) < 4294967296) := wq7_lt s I _ bl6.out
                obtain ⟨x7, hx7⟩ : ∃ x, x = (wq7 s I x6) := ⟨_, rfl⟩
                rw [← hx7]
                rw [← hx7] at bl7
                have HX7 := Lib.hid hx7
                clear hQ7 hI7 hx7 HQv7 HIv7 hv7 hbv7 hvz7
                have s8 : ww7.cell? ⟨w.heap.size, 3, none⟩ = some (.string s) := HQ7.out
                go_upto_if 82 with (go_at_call 30; refine (has_c s hs 122 (by show _ < _; decide) _).mono ?_; rintro e v8 ⟨rfl, hv8⟩)
                have hvz8 := hv8.size
                have HQv8 := Lib.hid (atQ_below HQ7.out hv8 (by omega)); have HIv8 := Lib.hid (atI_below HI7.out hv8 (by omega))
                have hbv8 : Below w.heap.size w v8 := below_step hv8 hbc7 (by omega)
                clear s8
                go_cut [5] (fun s5 wx => s5 = .int .u32 ((wq8 s I x7) : Nat) ∧ AtQ wx w.heap.size s ∧ AtI wx (w.heap.size + 1) I ∧ w.heap.size + 1 < wx.heap.size ∧ Below w.heap.size w wx)
                case first =>
                  have hcell : v8.cell? ⟨w.heap.size + 1, 8, none⟩ = some (.int .i64 I.imm) := HIv8.out.1 8
                  go_wp2_with fail
                  · have hh : hasQ s 122 = true := by assumption
                    go_meet
                    refine ⟨?_, HQv8.out, HIv8.out, by omega, hbv8⟩
                    have hq : (wq8 s I x7) = x7 ||| plN I.imm 15 5 := by unfold wq8; rw [hh]; rfl
                    rw [hq]
                    exact congrArg (Value.int .u32) (or_pl _ _ _ (by rw [and_low64 I.imm 5 31 32 (by decide) (by decide) (by decide)]; simp only [plN, show ((2 ^ 5 : Nat) : Int) = 32 by decide, show (2 : Nat) ^ 15 = 32768 by decide]; omega) bl7.out (plN_lt _ _ _ (by decide)))
                  · have hh : hasQ s 122 = false := by assumption
                    go_meet
                    refine ⟨?_, HQv8.out, HIv8.out, by omega, hbv8⟩
                    have hq : (wq8 s I x7) = x7 := by unfold wq8; rw [hh]; rfl
                    rw [hq]
                case rest =>
                  rename World => ww8
                  obtain ⟨rfl, hQ8, hI8, hz8, hbc8⟩ := hcut
                  have HQ8 := Lib.hid hQ8; have HI8 := Lib.hid hI8
                  have bl8 : Hid ((wq8 s I x7) < 4294967296) := wq8_lt s I _ bl7.out
                  obtain ⟨x8, hx8⟩ : ∃ x, x = (wq8 s I x7) := ⟨_, rfl⟩
                  rw [← hx8]
                  rw [← hx8] at bl8
                  have HX8 := Lib.hid hx8
                  clear hQ8 hI8 hx8 HQv8 HIv8 hv8 hbv8 hvz8
                  have s9 : ww8.cell? ⟨w.heap.size, 3, none⟩ = some (.string s) := HQ8.out
                  have HV : Hid (writeQ bt s I = immW (letterQ s) I x8) := by show _ = _; unfold writeQ; rw [HX8.out, HX7.out, HX6.out, HX5.out, HX4.out, HX3.out, HX2.out, HX1.out]
                  rcases letterQ_cases s with hl | hl | hl | hl | hl | hl
                  · have HW : Hid (writeQ bt s I = iw73 I x8 1) := by show _ = _; rw [HV.out, hl]; rfl
                    have HL := Lib.hid hl
                    clear hl HV
                    go_wp2_with fail
                    refine (letter_c s hs _).mono ?_; rintro e w1 ⟨rfl, hb1⟩
                    rw [HL.out]
                    go_wp2_with fail
                    refine (pieces_73 _).mono ?_; rintro e w2 ⟨B, rfl, hB, hB1, hB2, hb2⟩
                    have hz1 := hb1.size
                    have HI9 := Lib.hid (atI_below (atI_below HI8.out hb1 (by omega)) hb2 (by omega))
                    have hb12 : Below w.heap.size w w2 := below_step hb2 (below_step hb1 hbc8 (by omega)) (by omega)
                    have hz2 := hb2.size
                    go_wp2_with fail
                    go_loopw [5, 7] (fun n i wr => ∃ k : Nat, k ≤ 1 ∧ i = .int .i64 k ∧ n = .int .u32 (iw73 I x8 k : Nat) ∧ Below w.heap.size w wr ∧ Below w2.heap.size w2 wr) (fun _ i _ => 1 - (intOf i).toNat)
                    case atStart => exact ⟨0, by omega, rfl, rfl, hb12, Below.refl _ _⟩
                    case round =>
                      obtain ⟨k, hk, rfl, rfl, hbW, hbw⟩ := hrel
                      have hN := nums_below hB hbw (by omega)
                      have hi : wr.cell? ⟨w.heap.size + 1, 8, none⟩ = some (.int .i64 I.imm) := (atI_below HI9.out hbw (by omega)).1 8
                      have hk6 : k = 0 ∨ k = 1 := by omega
                      clear hk
                      rcases hk6 with rfl | rfl
                      · have c0 : wr.cell? ⟨B, 0, none⟩ = some (.int .i64 20) := hN 0 (by decide)
                        have c1 : wr.cell? ⟨B, 1, none⟩ = some (.int .i64 12) := hN 1 (by decide)
                        have c2 : wr.cell? ⟨B, 2, none⟩ = some (.int .i64 0) := hN 2 (by decide)
                        clear hN
                        have SB : Hid (iw73 I x8 0 < 4294967296) := iw73_lt I x8 bl8.out 0
                        have SE : Hid (iw73 I x8 1 = iw73 I x8 0 ||| plN I.imm 20 12) := rfl
                        go_wp2_with fail
                        go_quiet (fail)
                        go_wp2_with fail
                        go_roundw
                        case rel => exact ⟨1, by omega, by go_num, by rw [SE.out]; exact congrArg (Value.int .u32) (or_pl _ _ _ (by rw [and_low64 I.imm 12 4095 4096 (by decide) (by decide) (by decide)]; simp only [plN, show ((2 ^ 12 : Nat) : Int) = 4096 by decide, show (2 : Nat) ^ 20 = 1048576 by decide]; omega) SB.out (plN_lt _ _ _ (by decide))), by first | exact below_drewQ hbW _ | exact below_drewQ (below_drewQ hbW _) _, by first | exact below_drewQ hbw _ | exact below_drewQ (below_drewQ hbw _) _⟩
                        case measure => simp [intOf]
                      · clear hN hi
                        go_wp2_with fail
                        go_ret
                        exact retU_mk (by rw [HW.out]) hbW
                  · have HW : Hid (writeQ bt s I = iw83 I x8 2) := by show _ = _; rw [HV.out, hl]; rfl
                    have HL := Lib.hid hl
                    clear hl HV
                    go_wp2_with fail
                    refine (letter_c s hs _).mono ?_; rintro e w1 ⟨rfl, hb1⟩
                    rw [HL.out]
                    go_wp2_with fail
                    refine (pieces_83 _).mono ?_; rintro e w2 ⟨B, rfl, hB, hB1, hB2, hb2⟩
                    have hz1 := hb1.size
                    have HI9 := Lib.hid (atI_below (atI_below HI8.out hb1 (by omega)) hb2 (by omega))
                    have hb12 : Below w.heap.size w w2 := below_step hb2 (below_step hb1 hbc8 (by omega)) (by omega)
                    have hz2 := hb2.size
                    go_wp2_with fail
                    go_loopw [5, 7] (fun n i wr => ∃ k : Nat, k ≤ 2 ∧ i = .int .i64 k ∧ n = .int .u32 (iw83 I x8 k : Nat) ∧ Below w.heap.size w wr ∧ Below w2.heap.size w2 wr) (fun _ i _ => 2 - (intOf i).toNat)
                    case atStart => exact ⟨0, by omega, rfl, rfl, hb12, Below.refl _ _⟩
                    case round =>
                      obtain ⟨k, hk, rfl, rfl, hbW, hbw⟩ := hrel
                      have hN := nums_below hB hbw (by omega)
                      have hi : wr.cell? ⟨w.heap.size + 1, 8, none⟩ = some (.int .i64 I.imm) := (atI_below HI9.out hbw (by omega)).1 8
                      have hk6 : k = 0 ∨ k = 1 ∨ k = 2 := by omega
                      clear hk
                      rcases hk6 with rfl | rfl | rfl
                      · have c0 : wr.cell? ⟨B, 0, none⟩ = some (.int .i64 7) := hN 0 (by decide)
                        have c1 : wr.cell? ⟨B, 1, none⟩ = some (.int .i64 5) := hN 1 (by decide)
                        have c2 : wr.cell? ⟨B, 2, none⟩ = some (.int .i64 0) := hN 2 (by decide)
                        clear hN
                        have SB : Hid (iw83 I x8 0 < 4294967296) := iw83_lt I x8 bl8.out 0
                        have SE : Hid (iw83 I x8 1 = iw83 I x8 0 ||| plN I.imm 7 5) := rfl
                        go_wp2_with fail
                        go_quiet (fail)
                        go_wp2_with fail
                        go_roundw
                        case rel => exact ⟨1, by omega, by go_num, by rw [SE.out]; exact congrArg (Value.int .u32) (or_pl _ _ _ (by rw [and_low64 I.imm 5 31 32 (by decide) (by decide) (by decide)]; simp only [plN, show ((2 ^ 5 : Nat) : Int) = 32 by decide, show (2 : Nat) ^ 7 = 128 by decide]; omega) SB.out (plN_lt _ _ _ (by decide))), by first | exact below_drewQ hbW _ | exact below_drewQ (below_drewQ hbW _) _, by first | exact below_drewQ hbw _ | exact below_drewQ (below_drewQ hbw _) _⟩
                        case measure => simp [intOf]
                      · have c0 : wr.cell? ⟨B, 3, none⟩ = some (.int .i64 25) := hN 3 (by decide)
                        have c1 : wr.cell? ⟨B, 4, none⟩ = some (.int .i64 7) := hN 4 (by decide)
                        have c2 : wr.cell? ⟨B, 5, none⟩ = some (.int .i64 5) := hN 5 (by decide)
                        clear hN
                        have SB : Hid (iw83 I x8 1 < 4294967296) := iw83_lt I x8 bl8.out 1
                        have SE : Hid (iw83 I x8 2 = iw83 I x8 1 ||| plN (I.imm / 32) 25 7) := rfl
                        go_wp2_with fail
                        go_quiet (fail)
                        go_wp2_with fail
                        go_roundw
                        case rel => exact ⟨2, by omega, by go_num, by rw [SE.out]; exact congrArg (Value.int .u32) (or_pl _ _ _ (by rw [and_low64 (I.imm / 32) 7 127 128 (by decide) (by decide) (by decide)]; simp only [plN, show ((2 ^ 7 : Nat) : Int) = 128 by decide, show (2 : Nat) ^ 25 = 33554432 by decide]; omega) SB.out (plN_lt _ _ _ (by decide))), by first | exact below_drewQ hbW _ | exact below_drewQ (below_drewQ hbW _) _, by first | exact below_drewQ hbw _ | exact below_drewQ (below_drewQ hbw _) _⟩
                        case measure => simp [intOf]
                      · clear hN hi
                        go_wp2_with fail
                        go_ret
                        exact retU_mk (by rw [HW.out]) hbW
                  · have HW : Hid (writeQ bt s I = iw66 I x8 4) := by show _ = _; rw [HV.out, hl]; rfl
                    have HL := Lib.hid hl
                    clear hl HV
                    go_wp2_with fail
                    refine (letter_c s hs _).mono ?_; rintro e w1 ⟨rfl, hb1⟩
                    rw [HL.out]
                    go_wp2_with fail
                    refine (pieces_66 _).mono ?_; rintro e w2 ⟨B, rfl, hB, hB1, hB2, hb2⟩
                    have hz1 := hb1.size
                    have HI9 := Lib.hid (atI_below (atI_below HI8.out hb1 (by omega)) hb2 (by omega))
                    have hb12 : Below w.heap.size w w2 := below_step hb2 (below_step hb1 hbc8 (by omega)) (by omega)
                    have hz2 := hb2.size
                    go_wp2_with fail
                    go_loopw [5, 7] (fun n i wr => ∃ k : Nat, k ≤ 4 ∧ i = .int .i64 k ∧ n = .int .u32 (iw66 I x8 k : Nat) ∧ Below w.heap.size w wr ∧ Below w2.heap.size w2 wr) (fun _ i _ => 4 - (intOf i).toNat)
                    case atStart => exact ⟨0, by omega, rfl, rfl, hb12, Below.refl _ _⟩
                    case round =>
                      obtain ⟨k, hk, rfl, rfl, hbW, hbw⟩ := hrel
                      have hN := nums_below hB hbw (by omega)
                      have hi : wr.cell? ⟨w.heap.size + 1, 8, none⟩ = some (.int .i64 I.imm) := (atI_below HI9.out hbw (by omega)).1 8
                      have hk6 : k = 0 ∨ k = 1 ∨ k = 2 ∨ k = 3 ∨ k = 4 := by omega
                      clear hk
                      rcases hk6 with rfl | rfl | rfl | rfl | rfl
                      · have c0 : wr.cell? ⟨B, 0, none⟩ = some (.int .i64 8) := hN 0 (by decide)
                        have c1 : wr.cell? ⟨B, 1, none⟩ = some (.int .i64 4) := hN 1 (by decide)
                        have c2 : wr.cell? ⟨B, 2, none⟩ = some (.int .i64 1) := hN 2 (by decide)
                        clear hN
                        have SB : Hid (iw66 I x8 0 < 4294967296) := iw66_lt I x8 bl8.out 0
                        have SE : Hid (iw66 I x8 1 = iw66 I x8 0 ||| plN (I.imm / 2) 8 4) := rfl
                        go_wp2_with fail
                        go_quiet (fail)
                        go_wp2_with fail
                        go_roundw
                        case rel => exact ⟨1, by omega, by go_num, by rw [SE.out]; exact congrArg (Value.int .u32) (or_pl _ _ _ (by rw [and_low64 (I.imm / 2) 4 15 16 (by decide) (by decide) (by decide)]; simp only [plN, show ((2 ^ 4 : Nat) : Int) = 16 by decide, show (2 : Nat) ^ 8 = 256 by decide]; omega) SB.out (plN_lt _ _ _ (by decide))), by first | exact below_drewQ hbW _ | exact below_drewQ (below_drewQ hbW _) _, by first | exact below_drewQ hbw _ | exact below_drewQ (below_drewQ hbw _) _⟩
                        case measure => simp [intOf]
                      · have c0 : wr.cell? ⟨B, 3, none⟩ = some (.int .i64 25) := hN 3 (by decide)
                        have c1 : wr.cell? ⟨B, 4, none⟩ = some (.int .i64 6) := hN 4 (by decide)
                        have c2 : wr.cell? ⟨B, 5, none⟩ = some (.int .i64 5) := hN 5 (by decide)
                        clear hN
                        have SB : Hid (iw66 I x8 1 < 4294967296) := iw66_lt I x8 bl8.out 1
                        have SE : Hid (iw66 I x8 2 = iw66 I x8 1 ||| plN (I.imm / 32) 25 6) := rfl
                        go_wp2_with fail
                        go_quiet (fail)
                        go_wp2_with fail
                        go_roundw
                        case rel => exact ⟨2, by omega, by go_num, by rw [SE.out]; exact congrArg (Value.int .u32) (or_pl _ _ _ (by rw [and_low64 (I.imm / 32) 6 63 64 (by decide) (by decide) (by decide)]; simp only [plN, show ((2 ^ 6 : Nat) : Int) = 64 by decide, show (2 : Nat) ^ 25 = 33554432 by decide]; omega) SB.out (plN_lt _ _ _ (by decide))), by first | exact below_drewQ hbW _ | exact below_drewQ (below_drewQ hbW _) _, by first | exact below_drewQ hbw _ | exact below_drewQ (below_drewQ hbw _) _⟩
                        case measure => simp [intOf]
                      · have c0 : wr.cell? ⟨B, 6, none⟩ = some (.int .i64 7) := hN 6 (by decide)
                        have c1 : wr.cell? ⟨B, 7, none⟩ = some (.int .i64 1) := hN 7 (by decide)
                        have c2 : wr.cell? ⟨B, 8, none⟩ = some (.int .i64 11) := hN 8 (by decide)
                        clear hN
                        have SB : Hid (iw66 I x8 2 < 4294967296) := iw66_lt I x8 bl8.out 2
                        have SE : Hid (iw66 I x8 3 = iw66 I x8 2 ||| plN (I.imm / 2048) 7 1) := rfl
                        go_wp2_with fail
                        go_quiet (fail)
                        go_wp2_with fail
                        go_roundw
                        case rel => exact ⟨3, by omega, by go_num, by rw [SE.out]; exact congrArg (Value.int .u32) (or_pl _ _ _ (by rw [and_low64 (I.imm / 2048) 1 1 2 (by decide) (by decide) (by decide)]; simp only [plN, show ((2 ^ 1 : Nat) : Int) = 2 by decide, show (2 : Nat) ^ 7 = 128 by decide]; omega) SB.out (plN_lt _ _ _ (by decide))), by first | exact below_drewQ hbW _ | exact below_drewQ (below_drewQ hbW _) _, by first | exact below_drewQ hbw _ | exact below_drewQ (below_drewQ hbw _) _⟩
                        case measure => simp [intOf]
                      · have c0 : wr.cell? ⟨B, 9, none⟩ = some (.int .i64 31) := hN 9 (by decide)
                        have c1 : wr.cell? ⟨B, 10, none⟩ = some (.int .i64 1) := hN 10 (by decide)
                        have c2 : wr.cell? ⟨B, 11, none⟩ = some (.int .i64 12) := hN 11 (by decide)
                        clear hN
                        have SB : Hid (iw66 I x8 3 < 4294967296) := iw66_lt I x8 bl8.out 3
                        have SE : Hid (iw66 I x8 4 = iw66 I x8 3 ||| plN (I.imm / 4096) 31 1) := rfl
                        go_wp2_with fail
                        go_quiet (fail)
                        go_wp2_with fail
                        go_roundw
                        case rel => exact ⟨4, by omega, by go_num, by rw [SE.out]; exact congrArg (Value.int .u32) (or_pl _ _ _ (by rw [and_low64 (I.imm / 4096) 1 1 2 (by decide) (by decide) (by decide)]; simp only [plN, show ((2 ^ 1 : Nat) : Int) = 2 by decide, show (2 : Nat) ^ 31 = 2147483648 by decide]; omega) SB.out (plN_lt _ _ _ (by decide))), by first | exact below_drewQ hbW _ | exact below_drewQ (below_drewQ hbW _) _, by first | exact below_drewQ hbw _ | exact below_drewQ (below_drewQ hbw _) _⟩
                        case measure => simp [intOf]
                      · clear hN hi
                        go_wp2_with fail
                        go_ret
                        exact retU_mk (by rw [HW.out]) hbW
                  · have HW : Hid (writeQ bt s I = iw85 I x8 1) := by show _ = _; rw [HV.out, hl]; rfl
                    have HL := Lib.hid hl
                    clear hl HV
                    go_wp2_with fail
                    refine (letter_c s hs _).mono ?_; rintro e w1 ⟨rfl, hb1⟩
                    rw [HL.out]
                    go_wp2_with fail
                    refine (pieces_85 _).mono ?_; rintro e w2 ⟨B, rfl, hB, hB1, hB2, hb2⟩
                    have hz1 := hb1.size
                    have HI9 := Lib.hid (atI_below (atI_below HI8.out hb1 (by omega)) hb2 (by omega))
                    have hb12 : Below w.heap.size w w2 := below_step hb2 (below_step hb1 hbc8 (by omega)) (by omega)
                    have hz2 := hb2.size
                    go_wp2_with fail
                    go_loopw [5, 7] (fun n i wr => ∃ k : Nat, k ≤ 1 ∧ i = .int .i64 k ∧ n = .int .u32 (iw85 I x8 k : Nat) ∧ Below w.heap.size w wr ∧ Below w2.heap.size w2 wr) (fun _ i _ => 1 - (intOf i).toNat)
                    case atStart => exact ⟨0, by omega, rfl, rfl, hb12, Below.refl _ _⟩
                    case round =>
                      obtain ⟨k, hk, rfl, rfl, hbW, hbw⟩ := hrel
                      have hN := nums_below hB hbw (by omega)
                      have hi : wr.cell? ⟨w.heap.size + 1, 8, none⟩ = some (.int .i64 I.imm) := (atI_below HI9.out hbw (by omega)).1 8
                      have hk6 : k = 0 ∨ k = 1 := by omega
                      clear hk
                      rcases hk6 with rfl | rfl
                      · have c0 : wr.cell? ⟨B, 0, none⟩ = some (.int .i64 12) := hN 0 (by decide)
                        have c1 : wr.cell? ⟨B, 1, none⟩ = some (.int .i64 20) := hN 1 (by decide)
                        have c2 : wr.cell? ⟨B, 2, none⟩ = some (.int .i64 12) := hN 2 (by decide)
                        clear hN
                        have SB : Hid (iw85 I x8 0 < 4294967296) := iw85_lt I x8 bl8.out 0
                        have SE : Hid (iw85 I x8 1 = iw85 I x8 0 ||| plN (I.imm / 4096) 12 20) := rfl
                        go_wp2_with fail
                        go_quiet (fail)
                        go_wp2_with fail
                        go_roundw
                        case rel => exact ⟨1, by omega, by go_num, by rw [SE.out]; exact congrArg (Value.int .u32) (or_pl _ _ _ (by rw [and_low64 (I.imm / 4096) 20 1048575 1048576 (by decide) (by decide) (by decide)]; simp only [plN, show ((2 ^ 20 : Nat) : Int) = 1048576 by decide, show (2 : Nat) ^ 12 = 4096 by decide]; omega) SB.out (plN_lt _ _ _ (by decide))), by first | exact below_drewQ hbW _ | exact below_drewQ (below_drewQ hbW _) _, by first | exact below_drewQ hbw _ | exact below_drewQ (below_drewQ hbw _) _⟩
                        case measure => simp [intOf]
                      · clear hN hi
                        go_wp2_with fail
                        go_ret
                        exact retU_mk (by rw [HW.out]) hbW
                  · have HW : Hid (writeQ bt s I = iw74 I x8 4) := by show _ = _; rw [HV.out, hl]; rfl
                    have HL := Lib.hid hl
                    clear hl HV
                    go_wp2_with fail
                    refine (letter_c s hs _).mono ?_; rintro e w1 ⟨rfl, hb1⟩
                    rw [HL.out]
                    go_wp2_with fail
                    refine (pieces_74 _).mono ?_; rintro e w2 ⟨B, rfl, hB, hB1, hB2, hb2⟩
                    have hz1 := hb1.size
                    have HI9 := Lib.hid (atI_below (atI_below HI8.out hb1 (by omega)) hb2 (by omega))
                    have hb12 : Below w.heap.size w w2 := below_step hb2 (below_step hb1 hbc8 (by omega)) (by omega)
                    have hz2 := hb2.size
                    go_wp2_with fail
                    go_loopw [5, 7] (fun n i wr => ∃ k : Nat, k ≤ 4 ∧ i = .int .i64 k ∧ n = .int .u32 (iw74 I x8 k : Nat) ∧ Below w.heap.size w wr ∧ Below w2.heap.size w2 wr) (fun _ i _ => 4 - (intOf i).toNat)
                    case atStart => exact ⟨0, by omega, rfl, rfl, hb12, Below.refl _ _⟩
                    case round =>
                      obtain ⟨k, hk, rfl, rfl, hbW, hbw⟩ := hrel
                      have hN := nums_below hB hbw (by omega)
                      have hi : wr.cell? ⟨w.heap.size + 1, 8, none⟩ = some (.int .i64 I.imm) := (atI_below HI9.out hbw (by omega)).1 8
                      have hk6 : k = 0 ∨ k = 1 ∨ k = 2 ∨ k = 3 ∨ k = 4 := by omega
                      clear hk
                      rcases hk6 with rfl | rfl | rfl | rfl | rfl
                      · have c0 : wr.cell? ⟨B, 0, none⟩ = some (.int .i64 21) := hN 0 (by decide)
                        have c1 : wr.cell? ⟨B, 1, none⟩ = some (.int .i64 10) := hN 1 (by decide)
                        have c2 : wr.cell? ⟨B, 2, none⟩ = some (.int .i64 1) := hN 2 (by decide)
                        clear hN
                        have SB : Hid (iw74 I x8 0 < 4294967296) := iw74_lt I x8 bl8.out 0
                        have SE : Hid (iw74 I x8 1 = iw74 I x8 0 ||| plN (I.imm / 2) 21 10) := rfl
                        go_wp2_with fail
                        go_quiet (fail)
                        go_wp2_with fail
                        go_roundw
                        case rel => exact ⟨1, by omega, by go_num, by rw [SE.out]; exact congrArg (Value.int .u32) (or_pl _ _ _ (by rw [and_low64 (I.imm / 2) 10 1023 1024 (by decide) (by decide) (by decide)]; simp only [plN, show ((2 ^ 10 : Nat) : Int) = 1024 by decide, show (2 : Nat) ^ 21 = 2097152 by decide]; omega) SB.out (plN_lt _ _ _ (by decide))), by first | exact below_drewQ hbW _ | exact below_drewQ (below_drewQ hbW _) _, by first | exact below_drewQ hbw _ | exact below_drewQ (below_drewQ hbw _) _⟩
                        case measure => simp [intOf]
                      · have c0 : wr.cell? ⟨B, 3, none⟩ = some (.int .i64 20) := hN 3 (by decide)
                        have c1 : wr.cell? ⟨B, 4, none⟩ = some (.int .i64 1) := hN 4 (by decide)
                        have c2 : wr.cell? ⟨B, 5, none⟩ = some (.int .i64 11) := hN 5 (by decide)
                        clear hN
                        have SB : Hid (iw74 I x8 1 < 4294967296) := iw74_lt I x8 bl8.out 1
                        have SE : Hid (iw74 I x8 2 = iw74 I x8 1 ||| plN (I.imm / 2048) 20 1) := rfl
                        go_wp2_with fail
                        go_quiet (fail)
                        go_wp2_with fail
                        go_roundw
                        case rel => exact ⟨2, by omega, by go_num, by rw [SE.out]; exact congrArg (Value.int .u32) (or_pl _ _ _ (by rw [and_low64 (I.imm / 2048) 1 1 2 (by decide) (by decide) (by decide)]; simp only [plN, show ((2 ^ 1 : Nat) : Int) = 2 by decide, show (2 : Nat) ^ 20 = 1048576 by decide]; omega) SB.out (plN_lt _ _ _ (by decide))), by first | exact below_drewQ hbW _ | exact below_drewQ (below_drewQ hbW _) _, by first | exact below_drewQ hbw _ | exact below_drewQ (below_drewQ hbw _) _⟩
                        case measure => simp [intOf]
                      · have c0 : wr.cell? ⟨B, 6, none⟩ = some (.int .i64 12) := hN 6 (by decide)
                        have c1 : wr.cell? ⟨B, 7, none⟩ = some (.int .i64 8) := hN 7 (by decide)
                        have c2 : wr.cell? ⟨B, 8, none⟩ = some (.int .i64 12) := hN 8 (by decide)
                        clear hN
                        have SB : Hid (iw74 I x8 2 < 4294967296) := iw74_lt I x8 bl8.out 2
                        have SE : Hid (iw74 I x8 3 = iw74 I x8 2 ||| plN (I.imm / 4096) 12 8) := rfl
                        go_wp2_with fail
                        go_quiet (fail)
                        go_wp2_with fail
                        go_roundw
                        case rel => exact ⟨3, by omega, by go_num, by rw [SE.out]; exact congrArg (Value.int .u32) (or_pl _ _ _ (by rw [and_low64 (I.imm / 4096) 8 255 256 (by decide) (by decide) (by decide)]; simp only [plN, show ((2 ^ 8 : Nat) : Int) = 256 by decide, show (2 : Nat) ^ 12 = 4096 by decide]; omega) SB.out (plN_lt _ _ _ (by decide))), by first | exact below_drewQ hbW _ | exact below_drewQ (below_drewQ hbW _) _, by first | exact below_drewQ hbw _ | exact below_drewQ (below_drewQ hbw _) _⟩
                        case measure => simp [intOf]
                      · have c0 : wr.cell? ⟨B, 9, none⟩ = some (.int .i64 31) := hN 9 (by decide)
                        have c1 : wr.cell? ⟨B, 10, none⟩ = some (.int .i64 1) := hN 10 (by decide)
                        have c2 : wr.cell? ⟨B, 11, none⟩ = some (.int .i64 20) := hN 11 (by decide)
                        clear hN
                        have SB : Hid (iw74 I x8 3 < 4294967296) := iw74_lt I x8 bl8.out 3
                        have SE : Hid (iw74 I x8 4 = iw74 I x8 3 ||| plN (I.imm / 1048576) 31 1) := rfl
                        go_wp2_with fail
                        go_quiet (fail)
                        go_wp2_with fail
                        go_roundw
                        case rel => exact ⟨4, by omega, by go_num, by rw [SE.out]; exact congrArg (Value.int .u32) (or_pl _ _ _ (by rw [and_low64 (I.imm / 1048576) 1 1 2 (by decide) (by decide) (by decide)]; simp only [plN, show ((2 ^ 1 : Nat) : Int) = 2 by decide, show (2 : Nat) ^ 31 = 2147483648 by decide]; omega) SB.out (plN_lt _ _ _ (by decide))), by first | exact below_drewQ hbW _ | exact below_drewQ (below_drewQ hbW _) _, by first | exact below_drewQ hbw _ | exact below_drewQ (below_drewQ hbw _) _⟩
                        case measure => simp [intOf]
                      · clear hN hi
                        go_wp2_with fail
                        go_ret
                        exact retU_mk (by rw [HW.out]) hbW
                  · have HW : Hid (writeQ bt s I = x8) := by show _ = _; rw [HV.out, hl]; rfl
                    have HL := Lib.hid hl
                    clear hl HV
                    go_wp2_with fail
                    refine (letter_c s hs _).mono ?_; rintro e w1 ⟨rfl, hb1⟩
                    rw [HL.out]
                    go_wp2_with fail
                    refine (pieces_0 _).mono ?_; rintro e w2 ⟨rfl, hb2⟩
                    go_wp2_with fail
                    go_loopw [5, 7] (fun n i wr => n = .int .u32 (x8 : Int) ∧ i = .int .i64 0 ∧ w2 = wr) (fun _ _ _ => 0)
                    case atStart => exact ⟨rfl, rfl, rfl⟩
                    case round =>
                      obtain ⟨rfl, rfl, rfl⟩ := hrel
                      go_wp2_with fail
                      go_ret
                      exact retU_mk (by rw [HW.out]) (below_step hb2 (below_step hb1 hbc8 (by have := hbc8.size; omega)) (by have := hb1.size; have := hbc8.size; omega))
end Go.Proofs.Ytlohpakcikkdmaa
