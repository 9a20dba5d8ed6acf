/- The contract of the reference's immediate. -/
import Derived.Test.YtlohpakcikkdmaaR7
import Derived.Test.YtlohpakcikkdmaaR10
import Derived.BigQuiet
import Derived.Deep.QuietTactic
namespace Go.Proofs.Ytlohpakcikkdmaa
open Go.ChangeShapes Go.WideShapes Go.ChangeAt Go.RowKit
set_option linter.unusedVariables false
set_option linter.unusedSimpArgs false
def endQ (s : ByteArray) (b : Nat) (V : Int) : Int := if hasQ s 122 then (fld b 15 5 : Int) else if hasQ s 104 then (fld b 20 6 : Int) else V
theorem fld_and (b lo c : Nat) (hb : b < 4294967296) (hc : c < 32) (L M : Nat) (hL : L = 2 ^ lo) (hM : M = 2 ^ c - 1) : bits .and .u32 ((b : Int) / (L : Int)) (M : Int) = ((fld b lo c : Nat) : Int) := by
  subst hL hM
  have e : ((b : Int) / ((2 ^ lo : Nat) : Int)) = ((b / 2 ^ lo : Nat) : Int) := by omega
  rw [e]
  exact u32_low (b / 2 ^ lo) c (Nat.lt_of_le_of_lt (Nat.div_le_self _ _) hb) hc
theorem i64_join (x y k : Nat) (hx : x < 2 ^ k) (hy : y % 2 ^ k = 0) (h : x + y < 4294967296) : bits .or .i64 (x : Int) (y : Int) = ((x + y : Nat) : Int) := by
  show IntKind.i64.wrap ((BitVec.ofInt 64 (x : Int) ||| BitVec.ofInt 64 (y : Int)).toNat : Int) = _
  rw [BitVec.toNat_or, BitVec.toNat_ofInt, BitVec.toNat_ofInt]
  have e1 : ((x : Int) % ((2 ^ 64 : Nat) : Int)).toNat = x := by omega
  have e2 : ((y : Int) % ((2 ^ 64 : Nat) : Int)).toNat = y := by omega
  rw [e1, e2, Nat.or_comm, nat_join k y x hy hx, IntWalk.i64_in _ (by omega)]; omega
theorem below_drewQ {B : Nat} {a w : World} (h : Below B a w) (n : Nat) : Below B a (w.drewN n) := ⟨h.os, h.tape, h.output, h.size, h.block⟩
theorem piece_eq (x b lo c k : Nat) (L M : Nat) (E : Int) (y : Nat) (hE : E = ((fld b lo c : Nat) : Int) * ((2 ^ k : Nat) : Int)) (hy : fld b lo c * 2 ^ k = y) (hx : x < 2 ^ k) (h : x + y < 4294967296) : bits .or .i64 (x : Int) E = ((x + y : Nat) : Int) := by
  have : E = (y : Int) := by rw [hE, ← hy]; exact (Int.natCast_mul _ _).symm
  rw [this]
  exact i64_join x y k hx (by rw [← hy]; exact Nat.mul_mod_left _ _) h
set_option maxRecDepth 100000 in
set_option maxHeartbeats 8000000 in
theorem immr_0 (s : ByteArray) (hs : s.size ≤ 100) (wo : Bool) (b : Nat) (hb : b < 4294967296) (hl : Hid (letterQ s = 0)) (w : World) : Calls Try.prog 31 #[.string s, .bool wo, .int .u32 b] w (RetI (endQ s b 0) w) := by
  have F104 : Hid (bits .and .u32 ((b : Int) / 1048576) 63 = ((fld b 20 6 : Nat) : Int)) := fld_and b 20 6 hb (by decide) 1048576 63 (by decide) (by decide)
  have F122 : Hid (bits .and .u32 ((b : Int) / 32768) 31 = ((fld b 15 5 : Nat) : Int)) := fld_and b 15 5 hb (by decide) 32768 31 (by decide) (by decide)
  go_enter Try.func31, Try.ntmps31
  go_wp2_with fail
  refine (letter_c s hs _).mono ?_; rintro e w1 ⟨rfl, hb1⟩
  rw [hl.out]
  go_wp2_with fail
  refine (pieces_0 _).mono ?_; rintro e w2 ⟨rfl, hb2⟩
  go_wp2_with fail
  have hbW : Below w.heap.size w w2 := below_step hb2 hb1 hb1.size
  go_loopw [8, 9, 10] (fun n t i wr => i = .int .i64 0 ∧ n = .int .i64 0 ∧ t = .int .i64 0 ∧ wr = w2) (fun _ _ i _ => 0)
  case atStart => exact ⟨rfl, rfl, rfl, rfl⟩
  case round =>
    obtain ⟨rfl, rfl, rfl, rfl⟩ := hrel
    cases h122 : hasQ s 122 with
    | true =>
      cases h104 : hasQ s 104 with
      | true =>
        have HE : Hid (endQ s b (0) = (fld b 15 5 : Int)) := by show _ = _; unfold endQ; rw [h122]; rfl
        have H1 := Lib.hid h104; have H2 := Lib.hid h122
        clear h104 h122
        go_wp2_with fail
        refine (has_c s hs 104 (by show _ < _; decide) _).mono ?_; rintro e w4 ⟨rfl, hb4⟩
        rw [H1.out]
        go_wp2_with fail
        refine (has_c s hs 122 (by show _ < _; decide) _).mono ?_; rintro e w5 ⟨rfl, hb5⟩
        rw [H2.out]
        go_wp2_with fail
        go_ret
        have L1 := fld_lt b 15 5; have L2 := fld_lt b 20 6
        simp only [show (2 : Nat) ^ 5 = 32 by decide, show (2 : Nat) ^ 6 = 64 by decide] at L1 L2
        refine retI_mk ?_ (below_step hb5 (below_step hb4 hbW hbW.size) (Nat.le_trans hbW.size (by have h5 := hb4.size; first | exact h5 | (simp only [sz_drew] at h5 ⊢; omega))))
        rw [HE.out]
        all_goals first | rfl | (rw [F122.out]; exact IntWalk.wrap64_in _ (by omega)) | (rw [F104.out]; exact IntWalk.wrap64_in _ (by omega)) | exact IntWalk.wrap64_in _ (by omega)
      | false =>
        have HE : Hid (endQ s b (0) = (fld b 15 5 : Int)) := by show _ = _; unfold endQ; rw [h122]; rfl
        have H1 := Lib.hid h104; have H2 := Lib.hid h122
        clear h104 h122
        go_wp2_with fail
        refine (has_c s hs 104 (by show _ < _; decide) _).mono ?_; rintro e w4 ⟨rfl, hb4⟩
        rw [H1.out]
        go_wp2_with fail
        refine (has_c s hs 122 (by show _ < _; decide) _).mono ?_; rintro e w5 ⟨rfl, hb5⟩
        rw [H2.out]
        go_wp2_with fail
        go_ret
        have L1 := fld_lt b 15 5; have L2 := fld_lt b 20 6
        simp only [show (2 : Nat) ^ 5 = 32 by decide, show (2 : Nat) ^ 6 = 64 by decide] at L1 L2
        refine retI_mk ?_ (below_step hb5 (below_step hb4 hbW hbW.size) (Nat.le_trans hbW.size (by have h5 := hb4.size; first | exact h5 | (simp only [sz_drew] at h5 ⊢; omega))))
        rw [HE.out]
        all_goals first | rfl | (rw [F122.out]; exact IntWalk.wrap64_in _ (by omega)) | (rw [F104.out]; exact IntWalk.wrap64_in _ (by omega)) | exact IntWalk.wrap64_in _ (by omega)
    | false =>
      cases h104 : hasQ s 104 with
      | true =>
        have HE : Hid (endQ s b (0) = (fld b 20 6 : Int)) := by show _ = _; unfold endQ; rw [h122, h104]; rfl
        have H1 := Lib.hid h104; have H2 := Lib.hid h122
        clear h104 h122
        go_wp2_with fail
        refine (has_c s hs 104 (by show _ < _; decide) _).mono ?_; rintro e w4 ⟨rfl, hb4⟩
        rw [H1.out]
        go_wp2_with fail
        refine (has_c s hs 122 (by show _ < _; decide) _).mono ?_; rintro e w5 ⟨rfl, hb5⟩
        rw [H2.out]
        go_wp2_with fail
        go_ret
        have L1 := fld_lt b 15 5; have L2 := fld_lt b 20 6
        simp only [show (2 : Nat) ^ 5 = 32 by decide, show (2 : Nat) ^ 6 = 64 by decide] at L1 L2
        refine retI_mk ?_ (below_step hb5 (below_step hb4 hbW hbW.size) (Nat.le_trans hbW.size (by have h5 := hb4.size; first | exact h5 | (simp only [sz_drew] at h5 ⊢; omega))))
        rw [HE.out]
        all_goals first | rfl | (rw [F122.out]; exact IntWalk.wrap64_in _ (by omega)) | (rw [F104.out]; exact IntWalk.wrap64_in _ (by omega)) | exact IntWalk.wrap64_in _ (by omega)
      | false =>
        have HE : Hid (endQ s b (0) = 0) := by show _ = _; unfold endQ; rw [h122, h104]; rfl
        have H1 := Lib.hid h104; have H2 := Lib.hid h122
        clear h104 h122
        go_wp2_with fail
        refine (has_c s hs 104 (by show _ < _; decide) _).mono ?_; rintro e w4 ⟨rfl, hb4⟩
        rw [H1.out]
        go_wp2_with fail
        refine (has_c s hs 122 (by show _ < _; decide) _).mono ?_; rintro e w5 ⟨rfl, hb5⟩
        rw [H2.out]
        go_wp2_with fail
        go_ret
        have L1 := fld_lt b 15 5; have L2 := fld_lt b 20 6
        simp only [show (2 : Nat) ^ 5 = 32 by decide, show (2 : Nat) ^ 6 = 64 by decide] at L1 L2
        refine retI_mk ?_ (below_step hb5 (below_step hb4 hbW hbW.size) (Nat.le_trans hbW.size (by have h5 := hb4.size; first | exact h5 | (simp only [sz_drew] at h5 ⊢; omega))))
        rw [HE.out]
        all_goals first | rfl | (rw [F122.out]; exact IntWalk.wrap64_in _ (by omega)) | (rw [F104.out]; exact IntWalk.wrap64_in _ (by omega)) | exact IntWalk.wrap64_in _ (by omega)
def nq73 (b : Nat) : Nat → Nat
  | 0 => 0
  | _ => 0 + fld b 20 12 * 1
def tq73 : Nat → Int
  | 0 => 0
  | _ => 12
theorem nq73_lt (b k : Nat) (hk : k ≤ 1) : nq73 b k < 2 ^ 12 := by
  have g0 := fld_lt b 20 12
  simp only [show (2 : Nat) ^ 12 = 4096 by decide] at g0
  have : k = 0 ∨ k = 1 := by omega
  rcases this with rfl | rfl <;> simp only [nq73, show (2 : Nat) ^ 12 = 4096 by decide] <;> omega
def imq73 (b : Nat) : Int := if nq73 b 1 < 2048 then (nq73 b 1 : Int) else (nq73 b 1 : Int) - 4096
theorem nq73_0 (b : Nat) (hb : b < 4294967296) : bits .or .i64 ((nq73 b 0 : Nat) : Int) (wrap64 (wrap64 (bits .and .u32 ((b : Int) / 1048576) 4095))) = ((nq73 b 1 : Nat) : Int) := by
  have g0 := fld_lt b 20 12
  simp only [show (2 : Nat) ^ 12 = 4096 by decide] at g0
  rw [show bits .and .u32 ((b : Int) / 1048576) 4095 = ((fld b 20 12 : Nat) : Int) from fld_and b 20 12 hb (by decide) 1048576 4095 (by decide) (by decide), IntWalk.wrap64_in ((fld b 20 12 : Nat) : Int) (by omega), IntWalk.wrap64_in _ (by omega)]
  exact piece_eq (nq73 b 0) b 20 12 0 1048576 4095 _ (fld b 20 12 * 1) (by rw [show ((2 ^ 0 : Nat) : Int) = 1 by decide] <;> omega) (by rw [show (2 : Nat) ^ 0 = 1 by decide]) (by simp only [nq73, show (2 : Nat) ^ 0 = 1 by decide] <;> omega) (by simp only [nq73] <;> omega)
set_option maxRecDepth 100000 in
set_option maxHeartbeats 8000000 in
theorem immr_73 (s : ByteArray) (hs : s.size ≤ 100) (wo : Bool) (b : Nat) (hb : b < 4294967296) (hl : Hid (letterQ s = 73)) (w : World) : Calls Try.prog 31 #[.string s, .bool wo, .int .u32 b] w (RetI (endQ s b (imq73 b)) w) := by
  have F104 : Hid (bits .and .u32 ((b : Int) / 1048576) 63 = ((fld b 20 6 : Nat) : Int)) := fld_and b 20 6 hb (by decide) 1048576 63 (by decide) (by decide)
  have F122 : Hid (bits .and .u32 ((b : Int) / 32768) 31 = ((fld b 15 5 : Nat) : Int)) := fld_and b 15 5 hb (by decide) 32768 31 (by decide) (by decide)
  go_enter Try.func31, Try.ntmps31
  go_wp2_with fail
  refine (letter_c s hs _).mono ?_; rintro e w1 ⟨rfl, hb1⟩
  rw [hl.out]
  go_wp2_with fail
  refine (pieces_73 _).mono ?_; rintro e w2 ⟨B, rfl, hB, hB1, hB2, hb2⟩
  have hb12 : Below w.heap.size w w2 := below_step hb2 hb1 hb1.size
  have HB := Lib.hid hb
  clear hb
  go_wp2_with fail
  go_loopw [8, 9, 10] (fun n t i wr => ∃ k : Nat, k ≤ 1 ∧ i = .int .i64 k ∧ n = .int .i64 (nq73 b k : Nat) ∧ t = .int .i64 (tq73 k) ∧ Below w.heap.size w wr ∧ Below w2.heap.size w2 wr) (fun _ _ i _ => 1 - (intOf i).toNat)
  case atStart => exact ⟨0, by omega, rfl, rfl, rfl, hb12, Below.refl _ _⟩
  case round =>
    obtain ⟨k, hk, rfl, rfl, rfl, hbW, hbw⟩ := hrel
    have hN := nums_below hB hbw (by omega)
    have hk6 : k = 0 ∨ k = 1 := by omega
    clear hk
    rcases hk6 with rfl | rfl
    · have t0 : tq73 0 = 0 := rfl
      have c0 : wr.cell? ⟨B, 0, none⟩ = some (.int .i64 20) := hN 0 (by decide)
      have c1 : wr.cell? ⟨B, 1, none⟩ = some (.int .i64 12) := hN 1 (by decide)
      have c2 : wr.cell? ⟨B, 2, none⟩ = some (.int .i64 0) := hN 2 (by decide)
      clear hN
      have SB := Lib.hid (nq73_0 b HB.out)
      go_wp2_with fail
      go_quiet (fail)
      go_wp2_with fail
      go_quiet (fail)
      go_wp2_with fail
      go_roundw
      case rel => exact ⟨1, by omega, by go_num, congrArg (Value.int .i64) SB.out, rfl, by first | exact below_drewQ hbW _ | exact below_drewQ (below_drewQ hbW _) _, by first | exact below_drewQ hbw _ | exact below_drewQ (below_drewQ hbw _) _⟩
      case measure => simp [intOf]
    · have t0 : tq73 1 = 12 := rfl
      clear hN
      have hlt := nq73_lt b 1 (by omega)
      simp only [show (2 : Nat) ^ 12 = 4096 by decide] at hlt
      by_cases hsg : nq73 b 1 < 2048
      · have HI : Hid (imq73 b = (nq73 b 1 : Int)) := by show _ = _; unfold imq73; rw [if_pos hsg]
        have SG : bits .and .i64 (((nq73 b 1 : Nat) : Int) / 2048) 1 = 0 := by
          rw [show ((nq73 b 1 : Nat) : Int) / 2048 = 0 by omega]; rfl
        cases h122 : hasQ s 122 with
        | true =>
          cases h104 : hasQ s 104 with
          | true =>
            have HE : Hid (endQ s b (imq73 b) = (fld b 15 5 : Int)) := by show _ = _; unfold endQ; rw [h122]; rfl
            have H1 := Lib.hid h104; have H2 := Lib.hid h122
            clear h104 h122
            go_wp2_with fail
            refine (has_c s hs 104 (by show _ < _; decide) _).mono ?_; rintro e w4 ⟨rfl, hb4⟩
            rw [H1.out]
            go_wp2_with fail
            refine (has_c s hs 122 (by show _ < _; decide) _).mono ?_; rintro e w5 ⟨rfl, hb5⟩
            rw [H2.out]
            go_wp2_with fail
            go_ret
            have L1 := fld_lt b 15 5; have L2 := fld_lt b 20 6
            simp only [show (2 : Nat) ^ 5 = 32 by decide, show (2 : Nat) ^ 6 = 64 by decide] at L1 L2
            refine retI_mk ?_ (below_step hb5 (below_step hb4 hbW hbW.size) (Nat.le_trans hbW.size (by have h5 := hb4.size; first | exact h5 | (simp only [sz_drew] at h5 ⊢; omega))))
            rw [HE.out]
            all_goals first | rfl | (rw [F122.out]; exact IntWalk.wrap64_in _ (by omega)) | (rw [F104.out]; exact IntWalk.wrap64_in _ (by omega)) | exact IntWalk.wrap64_in _ (by omega)
          | false =>
            have HE : Hid (endQ s b (imq73 b) = (fld b 15 5 : Int)) := by show _ = _; unfold endQ; rw [h122]; rfl
            have H1 := Lib.hid h104; have H2 := Lib.hid h122
            clear h104 h122
            go_wp2_with fail
            refine (has_c s hs 104 (by show _ < _; decide) _).mono ?_; rintro e w4 ⟨rfl, hb4⟩
            rw [H1.out]
            go_wp2_with fail
            refine (has_c s hs 122 (by show _ < _; decide) _).mono ?_; rintro e w5 ⟨rfl, hb5⟩
            rw [H2.out]
            go_wp2_with fail
            go_ret
            have L1 := fld_lt b 15 5; have L2 := fld_lt b 20 6
            simp only [show (2 : Nat) ^ 5 = 32 by decide, show (2 : Nat) ^ 6 = 64 by decide] at L1 L2
            refine retI_mk ?_ (below_step hb5 (below_step hb4 hbW hbW.size) (Nat.le_trans hbW.size (by have h5 := hb4.size; first | exact h5 | (simp only [sz_drew] at h5 ⊢; omega))))
            rw [HE.out]
            all_goals first | rfl | (rw [F122.out]; exact IntWalk.wrap64_in _ (by omega)) | (rw [F104.out]; exact IntWalk.wrap64_in _ (by omega)) | exact IntWalk.wrap64_in _ (by omega)
        | false =>
          cases h104 : hasQ s 104 with
          | true =>
            have HE : Hid (endQ s b (imq73 b) = (fld b 20 6 : Int)) := by show _ = _; unfold endQ; rw [h122, h104]; rfl
            have H1 := Lib.hid h104; have H2 := Lib.hid h122
            clear h104 h122
            go_wp2_with fail
            refine (has_c s hs 104 (by show _ < _; decide) _).mono ?_; rintro e w4 ⟨rfl, hb4⟩
            rw [H1.out]
            go_wp2_with fail
            refine (has_c s hs 122 (by show _ < _; decide) _).mono ?_; rintro e w5 ⟨rfl, hb5⟩
            rw [H2.out]
            go_wp2_with fail
            go_ret
            have L1 := fld_lt b 15 5; have L2 := fld_lt b 20 6
            simp only [show (2 : Nat) ^ 5 = 32 by decide, show (2 : Nat) ^ 6 = 64 by decide] at L1 L2
            refine retI_mk ?_ (below_step hb5 (below_step hb4 hbW hbW.size) (Nat.le_trans hbW.size (by have h5 := hb4.size; first | exact h5 | (simp only [sz_drew] at h5 ⊢; omega))))
            rw [HE.out]
            all_goals first | rfl | (rw [F122.out]; exact IntWalk.wrap64_in _ (by omega)) | (rw [F104.out]; exact IntWalk.wrap64_in _ (by omega)) | exact IntWalk.wrap64_in _ (by omega)
          | false =>
            have HE : Hid (endQ s b (imq73 b) = (nq73 b 1 : Int)) := by show _ = _; unfold endQ; rw [h122, h104]; exact Eq.trans rfl HI.out
            have H1 := Lib.hid h104; have H2 := Lib.hid h122
            clear h104 h122
            go_wp2_with fail
            refine (has_c s hs 104 (by show _ < _; decide) _).mono ?_; rintro e w4 ⟨rfl, hb4⟩
            rw [H1.out]
            go_wp2_with fail
            refine (has_c s hs 122 (by show _ < _; decide) _).mono ?_; rintro e w5 ⟨rfl, hb5⟩
            rw [H2.out]
            go_wp2_with fail
            go_ret
            have L1 := fld_lt b 15 5; have L2 := fld_lt b 20 6
            simp only [show (2 : Nat) ^ 5 = 32 by decide, show (2 : Nat) ^ 6 = 64 by decide] at L1 L2
            refine retI_mk ?_ (below_step hb5 (below_step hb4 hbW hbW.size) (Nat.le_trans hbW.size (by have h5 := hb4.size; first | exact h5 | (simp only [sz_drew] at h5 ⊢; omega))))
            rw [HE.out]
            all_goals first | rfl | (rw [F122.out]; exact IntWalk.wrap64_in _ (by omega)) | (rw [F104.out]; exact IntWalk.wrap64_in _ (by omega)) | exact IntWalk.wrap64_in _ (by omega)
      · have HI : Hid (imq73 b = (nq73 b 1 : Int) - 4096) := by show _ = _; unfold imq73; rw [if_neg hsg]
        have SG : bits .and .i64 (((nq73 b 1 : Nat) : Int) / 2048) 1 = 1 := by
          rw [show ((nq73 b 1 : Nat) : Int) / 2048 = 1 by omega]; rfl
        cases h122 : hasQ s 122 with
        | true =>
          cases h104 : hasQ s 104 with
          | true =>
            have HE : Hid (endQ s b (imq73 b) = (fld b 15 5 : Int)) := by show _ = _; unfold endQ; rw [h122]; rfl
            have H1 := Lib.hid h104; have H2 := Lib.hid h122
            clear h104 h122
            go_wp2_with fail
            refine (has_c s hs 104 (by show _ < _; decide) _).mono ?_; rintro e w4 ⟨rfl, hb4⟩
            rw [H1.out]
            go_wp2_with fail
            refine (has_c s hs 122 (by show _ < _; decide) _).mono ?_; rintro e w5 ⟨rfl, hb5⟩
            rw [H2.out]
            go_wp2_with fail
            go_ret
            have L1 := fld_lt b 15 5; have L2 := fld_lt b 20 6
            simp only [show (2 : Nat) ^ 5 = 32 by decide, show (2 : Nat) ^ 6 = 64 by decide] at L1 L2
            refine retI_mk ?_ (below_step hb5 (below_step hb4 hbW hbW.size) (Nat.le_trans hbW.size (by have h5 := hb4.size; first | exact h5 | (simp only [sz_drew] at h5 ⊢; omega))))
            rw [HE.out]
            all_goals first | rfl | (rw [F122.out]; exact IntWalk.wrap64_in _ (by omega)) | (rw [F104.out]; exact IntWalk.wrap64_in _ (by omega)) | exact IntWalk.wrap64_in _ (by omega)
          | false =>
            have HE : Hid (endQ s b (imq73 b) = (fld b 15 5 : Int)) := by show _ = _; unfold endQ; rw [h122]; rfl
            have H1 := Lib.hid h104; have H2 := Lib.hid h122
            clear h104 h122
            go_wp2_with fail
            refine (has_c s hs 104 (by show _ < _; decide) _).mono ?_; rintro e w4 ⟨rfl, hb4⟩
            rw [H1.out]
            go_wp2_with fail
            refine (has_c s hs 122 (by show _ < _; decide) _).mono ?_; rintro e w5 ⟨rfl, hb5⟩
            rw [H2.out]
            go_wp2_with fail
            go_ret
            have L1 := fld_lt b 15 5; have L2 := fld_lt b 20 6
            simp only [show (2 : Nat) ^ 5 = 32 by decide, show (2 : Nat) ^ 6 = 64 by decide] at L1 L2
            refine retI_mk ?_ (below_step hb5 (below_step hb4 hbW hbW.size) (Nat.le_trans hbW.size (by have h5 := hb4.size; first | exact h5 | (simp only [sz_drew] at h5 ⊢; omega))))
            rw [HE.out]
            all_goals first | rfl | (rw [F122.out]; exact IntWalk.wrap64_in _ (by omega)) | (rw [F104.out]; exact IntWalk.wrap64_in _ (by omega)) | exact IntWalk.wrap64_in _ (by omega)
        | false =>
          cases h104 : hasQ s 104 with
          | true =>
            have HE : Hid (endQ s b (imq73 b) = (fld b 20 6 : Int)) := by show _ = _; unfold endQ; rw [h122, h104]; rfl
            have H1 := Lib.hid h104; have H2 := Lib.hid h122
            clear h104 h122
            go_wp2_with fail
            refine (has_c s hs 104 (by show _ < _; decide) _).mono ?_; rintro e w4 ⟨rfl, hb4⟩
            rw [H1.out]
            go_wp2_with fail
            refine (has_c s hs 122 (by show _ < _; decide) _).mono ?_; rintro e w5 ⟨rfl, hb5⟩
            rw [H2.out]
            go_wp2_with fail
            go_ret
            have L1 := fld_lt b 15 5; have L2 := fld_lt b 20 6
            simp only [show (2 : Nat) ^ 5 = 32 by decide, show (2 : Nat) ^ 6 = 64 by decide] at L1 L2
            refine retI_mk ?_ (below_step hb5 (below_step hb4 hbW hbW.size) (Nat.le_trans hbW.size (by have h5 := hb4.size; first | exact h5 | (simp only [sz_drew] at h5 ⊢; omega))))
            rw [HE.out]
            all_goals first | rfl | (rw [F122.out]; exact IntWalk.wrap64_in _ (by omega)) | (rw [F104.out]; exact IntWalk.wrap64_in _ (by omega)) | exact IntWalk.wrap64_in _ (by omega)
          | false =>
            have HE : Hid (endQ s b (imq73 b) = (nq73 b 1 : Int) - 4096) := by show _ = _; unfold endQ; rw [h122, h104]; exact Eq.trans rfl HI.out
            have H1 := Lib.hid h104; have H2 := Lib.hid h122
            clear h104 h122
            go_wp2_with fail
            refine (has_c s hs 104 (by show _ < _; decide) _).mono ?_; rintro e w4 ⟨rfl, hb4⟩
            rw [H1.out]
            go_wp2_with fail
            refine (has_c s hs 122 (by show _ < _; decide) _).mono ?_; rintro e w5 ⟨rfl, hb5⟩
            rw [H2.out]
            go_wp2_with fail
            go_ret
            have L1 := fld_lt b 15 5; have L2 := fld_lt b 20 6
            simp only [show (2 : Nat) ^ 5 = 32 by decide, show (2 : Nat) ^ 6 = 64 by decide] at L1 L2
            refine retI_mk ?_ (below_step hb5 (below_step hb4 hbW hbW.size) (Nat.le_trans hbW.size (by have h5 := hb4.size; first | exact h5 | (simp only [sz_drew] at h5 ⊢; omega))))
            rw [HE.out]
            all_goals first | rfl | (rw [F122.out]; exact IntWalk.wrap64_in _ (by omega)) | (rw [F104.out]; exact IntWalk.wrap64_in _ (by omega)) | exact IntWalk.wrap64_in _ (by omega)
def nq83 (b : Nat) : Nat → Nat
  | 0 => 0
  | 1 => 0 + fld b 7 5 * 1
  | _ => 0 + fld b 7 5 * 1 + fld b 25 7 * 32
def tq83 : Nat → Int
  | 0 => 0
  | 1 => 5
  | _ => 12
theorem nq83_lt (b k : Nat) (hk : k ≤ 2) : nq83 b k < 2 ^ 12 := by
  have g0 := fld_lt b 7 5; have g1 := fld_lt b 25 7
  simp only [show (2 : Nat) ^ 5 = 32 by decide, show (2 : Nat) ^ 7 = 128 by decide] at g0 g1
  have : k = 0 ∨ k = 1 ∨ k = 2 := by omega
  rcases this with rfl | rfl | rfl <;> simp only [nq83, show (2 : Nat) ^ 12 = 4096 by decide] <;> omega
def imq83 (b : Nat) : Int := if nq83 b 2 < 2048 then (nq83 b 2 : Int) else (nq83 b 2 : Int) - 4096
theorem nq83_0 (b : Nat) (hb : b < 4294967296) : bits .or .i64 ((nq83 b 0 : Nat) : Int) (wrap64 (wrap64 (bits .and .u32 ((b : Int) / 128) 31))) = ((nq83 b 1 : Nat) : Int) := by
  have g0 := fld_lt b 7 5; have g1 := fld_lt b 25 7
  simp only [show (2 : Nat) ^ 5 = 32 by decide, show (2 : Nat) ^ 7 = 128 by decide] at g0 g1
  rw [show bits .and .u32 ((b : Int) / 128) 31 = ((fld b 7 5 : Nat) : Int) from fld_and b 7 5 hb (by decide) 128 31 (by decide) (by decide), IntWalk.wrap64_in ((fld b 7 5 : Nat) : Int) (by omega), IntWalk.wrap64_in _ (by omega)]
  exact piece_eq (nq83 b 0) b 7 5 0 128 31 _ (fld b 7 5 * 1) (by rw [show ((2 ^ 0 : Nat) : Int) = 1 by decide] <;> omega) (by rw [show (2 : Nat) ^ 0 = 1 by decide]) (by simp only [nq83, show (2 : Nat) ^ 0 = 1 by decide] <;> omega) (by simp only [nq83] <;> omega)
theorem nq83_1 (b : Nat) (hb : b < 4294967296) : bits .or .i64 ((nq83 b 1 : Nat) : Int) (wrap64 (wrap64 (bits .and .u32 ((b : Int) / 33554432) 127) * 32)) = ((nq83 b 2 : Nat) : Int) := by
  have g0 := fld_lt b 7 5; have g1 := fld_lt b 25 7
  simp only [show (2 : Nat) ^ 5 = 32 by decide, show (2 : Nat) ^ 7 = 128 by decide] at g0 g1
  rw [show bits .and .u32 ((b : Int) / 33554432) 127 = ((fld b 25 7 : Nat) : Int) from fld_and b 25 7 hb (by decide) 33554432 127 (by decide) (by decide), IntWalk.wrap64_in ((fld b 25 7 : Nat) : Int) (by omega), IntWalk.wrap64_in _ (by omega)]
  exact piece_eq (nq83 b 1) b 25 7 5 33554432 127 _ (fld b 25 7 * 32) (by rw [show ((2 ^ 5 : Nat) : Int) = 32 by decide] <;> omega) (by rw [show (2 : Nat) ^ 5 = 32 by decide]) (by simp only [nq83, show (2 : Nat) ^ 5 = 32 by decide] <;> omega) (by simp only [nq83] <;> omega)
set_option maxRecDepth 100000 in
set_option maxHeartbeats 8000000 in
theorem immr_83 (s : ByteArray) (hs : s.size ≤ 100) (wo : Bool) (b : Nat) (hb : b < 4294967296) (hl : Hid (letterQ s = 83)) (w : World) : Calls Try.prog 31 #[.string s, .bool wo, .int .u32 b] w (RetI (endQ s b (imq83 b)) w) := by
  have F104 : Hid (bits .and .u32 ((b : Int) / 1048576) 63 = ((fld b 20 6 : Nat) : Int)) := fld_and b 20 6 hb (by decide) 1048576 63 (by decide) (by decide)
  have F122 : Hid (bits .and .u32 ((b : Int) / 32768) 31 = ((fld b 15 5 : Nat) : Int)) := fld_and b 15 5 hb (by decide) 32768 31 (by decide) (by decide)
  go_enter Try.func31, Try.ntmps31
  go_wp2_with fail
  refine (letter_c s hs _).mono ?_; rintro e w1 ⟨rfl, hb1⟩
  rw [hl.out]
  go_wp2_with fail
  refine (pieces_83 _).mono ?_; rintro e w2 ⟨B, rfl, hB, hB1, hB2, hb2⟩
  have hb12 : Below w.heap.size w w2 := below_step hb2 hb1 hb1.size
  have HB := Lib.hid hb
  clear hb
  go_wp2_with fail
  go_loopw [8, 9, 10] (fun n t i wr => ∃ k : Nat, k ≤ 2 ∧ i = .int .i64 k ∧ n = .int .i64 (nq83 b k : Nat) ∧ t = .int .i64 (tq83 k) ∧ Below w.heap.size w wr ∧ Below w2.heap.size w2 wr) (fun _ _ i _ => 2 - (intOf i).toNat)
  case atStart => exact ⟨0, by omega, rfl, rfl, rfl, hb12, Below.refl _ _⟩
  case round =>
    obtain ⟨k, hk, rfl, rfl, rfl, hbW, hbw⟩ := hrel
    have hN := nums_below hB hbw (by omega)
    have hk6 : k = 0 ∨ k = 1 ∨ k = 2 := by omega
    clear hk
    rcases hk6 with rfl | rfl | rfl
    · have t0 : tq83 0 = 0 := rfl
      have c0 : wr.cell? ⟨B, 0, none⟩ = some (.int .i64 7) := hN 0 (by decide)
      have c1 : wr.cell? ⟨B, 1, none⟩ = some (.int .i64 5) := hN 1 (by decide)
      have c2 : wr.cell? ⟨B, 2, none⟩ = some (.int .i64 0) := hN 2 (by decide)
      clear hN
      have SB := Lib.hid (nq83_0 b HB.out)
      go_wp2_with fail
      go_quiet (fail)
      go_wp2_with fail
      go_quiet (fail)
      go_wp2_with fail
      go_roundw
      case rel => exact ⟨1, by omega, by go_num, congrArg (Value.int .i64) SB.out, rfl, by first | exact below_drewQ hbW _ | exact below_drewQ (below_drewQ hbW _) _, by first | exact below_drewQ hbw _ | exact below_drewQ (below_drewQ hbw _) _⟩
      case measure => simp [intOf]
    · have t0 : tq83 1 = 5 := rfl
      have c0 : wr.cell? ⟨B, 3, none⟩ = some (.int .i64 25) := hN 3 (by decide)
      have c1 : wr.cell? ⟨B, 4, none⟩ = some (.int .i64 7) := hN 4 (by decide)
      have c2 : wr.cell? ⟨B, 5, none⟩ = some (.int .i64 5) := hN 5 (by decide)
      clear hN
      have SB := Lib.hid (nq83_1 b HB.out)
      go_wp2_with fail
      go_quiet (fail)
      go_wp2_with fail
      go_quiet (fail)
      go_wp2_with fail
      go_roundw
      case rel => exact ⟨2, by omega, by go_num, congrArg (Value.int .i64) SB.out, rfl, by first | exact below_drewQ hbW _ | exact below_drewQ (below_drewQ hbW _) _, by first | exact below_drewQ hbw _ | exact below_drewQ (below_drewQ hbw _) _⟩
      case measure => simp [intOf]
    · have t0 : tq83 2 = 12 := rfl
      clear hN
      have hlt := nq83_lt b 2 (by omega)
      simp only [show (2 : Nat) ^ 12 = 4096 by decide] at hlt
      by_cases hsg : nq83 b 2 < 2048
      · have HI : Hid (imq83 b = (nq83 b 2 : Int)) := by show _ = _; unfold imq83; rw [if_pos hsg]
        have SG : bits .and .i64 (((nq83 b 2 : Nat) : Int) / 2048) 1 = 0 := by
          rw [show ((nq83 b 2 : Nat) : Int) / 2048 = 0 by omega]; rfl
        cases h122 : hasQ s 122 with
        | true =>
          cases h104 : hasQ s 104 with
          | true =>
            have HE : Hid (endQ s b (imq83 b) = (fld b 15 5 : Int)) := by show _ = _; unfold endQ; rw [h122]; rfl
            have H1 := Lib.hid h104; have H2 := Lib.hid h122
            clear h104 h122
            go_wp2_with fail
            refine (has_c s hs 104 (by show _ < _; decide) _).mono ?_; rintro e w4 ⟨rfl, hb4⟩
            rw [H1.out]
            go_wp2_with fail
            refine (has_c s hs 122 (by show _ < _; decide) _).mono ?_; rintro e w5 ⟨rfl, hb5⟩
            rw [H2.out]
            go_wp2_with fail
            go_ret
            have L1 := fld_lt b 15 5; have L2 := fld_lt b 20 6
            simp only [show (2 : Nat) ^ 5 = 32 by decide, show (2 : Nat) ^ 6 = 64 by decide] at L1 L2
            refine retI_mk ?_ (below_step hb5 (below_step hb4 hbW hbW.size) (Nat.le_trans hbW.size (by have h5 := hb4.size; first | exact h5 | (simp only [sz_drew] at h5 ⊢; omega))))
            rw [HE.out]
            all_goals first | rfl | (rw [F122.out]; exact IntWalk.wrap64_in _ (by omega)) | (rw [F104.out]; exact IntWalk.wrap64_in _ (by omega)) | exact IntWalk.wrap64_in _ (by omega)
          | false =>
            have HE : Hid (endQ s b (imq83 b) = (fld b 15 5 : Int)) := by show _ = _; unfold endQ; rw [h122]; rfl
            have H1 := Lib.hid h104; have H2 := Lib.hid h122
            clear h104 h122
            go_wp2_with fail
            refine (has_c s hs 104 (by show _ < _; decide) _).mono ?_; rintro e w4 ⟨rfl, hb4⟩
            rw [H1.out]
            go_wp2_with fail
            refine (has_c s hs 122 (by show _ < _; decide) _).mono ?_; rintro e w5 ⟨rfl, hb5⟩
            rw [H2.out]
            go_wp2_with fail
            go_ret
            have L1 := fld_lt b 15 5; have L2 := fld_lt b 20 6
            simp only [show (2 : Nat) ^ 5 = 32 by decide, show (2 : Nat) ^ 6 = 64 by decide] at L1 L2
            refine retI_mk ?_ (below_step hb5 (below_step hb4 hbW hbW.size) (Nat.le_trans hbW.size (by have h5 := hb4.size; first | exact h5 | (simp only [sz_drew] at h5 ⊢; omega))))
            rw [HE.out]
            all_goals first | rfl | (rw [F122.out]; exact IntWalk.wrap64_in _ (by omega)) | (rw [F104.out]; exact IntWalk.wrap64_in _ (by omega)) | exact IntWalk.wrap64_in _ (by omega)
        | false =>
          cases h104 : hasQ s 104 with
          | true =>
            have HE : Hid (endQ s b (imq83 b) = (fld b 20 6 : Int)) := by show _ = _; unfold endQ; rw [h122, h104]; rfl
            have H1 := Lib.hid h104; have H2 := Lib.hid h122
            clear h104 h122
            go_wp2_with fail
            refine (has_c s hs 104 (by show _ < _; decide) _).mono ?_; rintro e w4 ⟨rfl, hb4⟩
            rw [H1.out]
            go_wp2_with fail
            refine (has_c s hs 122 (by show _ < _; decide) _).mono ?_; rintro e w5 ⟨rfl, hb5⟩
            rw [H2.out]
            go_wp2_with fail
            go_ret
            have L1 := fld_lt b 15 5; have L2 := fld_lt b 20 6
            simp only [show (2 : Nat) ^ 5 = 32 by decide, show (2 : Nat) ^ 6 = 64 by decide] at L1 L2
            refine retI_mk ?_ (below_step hb5 (below_step hb4 hbW hbW.size) (Nat.le_trans hbW.size (by have h5 := hb4.size; first | exact h5 | (simp only [sz_drew] at h5 ⊢; omega))))
            rw [HE.out]
            all_goals first | rfl | (rw [F122.out]; exact IntWalk.wrap64_in _ (by omega)) | (rw [F104.out]; exact IntWalk.wrap64_in _ (by omega)) | exact IntWalk.wrap64_in _ (by omega)
          | false =>
            have HE : Hid (endQ s b (imq83 b) = (nq83 b 2 : Int)) := by show _ = _; unfold endQ; rw [h122, h104]; exact Eq.trans rfl HI.out
            have H1 := Lib.hid h104; have H2 := Lib.hid h122
            clear h104 h122
            go_wp2_with fail
            refine (has_c s hs 104 (by show _ < _; decide) _).mono ?_; rintro e w4 ⟨rfl, hb4⟩
            rw [H1.out]
            go_wp2_with fail
            refine (has_c s hs 122 (by show _ < _; decide) _).mono ?_; rintro e w5 ⟨rfl, hb5⟩
            rw [H2.out]
            go_wp2_with fail
            go_ret
            have L1 := fld_lt b 15 5; have L2 := fld_lt b 20 6
            simp only [show (2 : Nat) ^ 5 = 32 by decide, show (2 : Nat) ^ 6 = 64 by decide] at L1 L2
            refine retI_mk ?_ (below_step hb5 (below_step hb4 hbW hbW.size) (Nat.le_trans hbW.size (by have h5 := hb4.size; first | exact h5 | (simp only [sz_drew] at h5 ⊢; omega))))
            rw [HE.out]
            all_goals first | rfl | (rw [F122.out]; exact IntWalk.wrap64_in _ (by omega)) | (rw [F104.out]; exact IntWalk.wrap64_in _ (by omega)) | exact IntWalk.wrap64_in _ (by omega)
      · have HI : Hid (imq83 b = (nq83 b 2 : Int) - 4096) := by show _ = _; unfold imq83; rw [if_neg hsg]
        have SG : bits .and .i64 (((nq83 b 2 : Nat) : Int) / 2048) 1 = 1 := by
          rw [show ((nq83 b 2 : Nat) : Int) / 2048 = 1 by omega]; rfl
        cases h122 : hasQ s 122 with
        | true =>
          cases h104 : hasQ s 104 with
          | true =>
            have HE : Hid (endQ s b (imq83 b) = (fld b 15 5 : Int)) := by show _ = _; unfold endQ; rw [h122]; rfl
            have H1 := Lib.hid h104; have H2 := Lib.hid h122
            clear h104 h122
            go_wp2_with fail
            refine (has_c s hs 104 (by show _ < _; decide) _).mono ?_; rintro e w4 ⟨rfl, hb4⟩
            rw [H1.out]
            go_wp2_with fail
            refine (has_c s hs 122 (by show _ < _; decide) _).mono ?_; rintro e w5 ⟨rfl, hb5⟩
            rw [H2.out]
            go_wp2_with fail
            go_ret
            have L1 := fld_lt b 15 5; have L2 := fld_lt b 20 6
            simp only [show (2 : Nat) ^ 5 = 32 by decide, show (2 : Nat) ^ 6 = 64 by decide] at L1 L2
            refine retI_mk ?_ (below_step hb5 (below_step hb4 hbW hbW.size) (Nat.le_trans hbW.size (by have h5 := hb4.size; first | exact h5 | (simp only [sz_drew] at h5 ⊢; omega))))
            rw [HE.out]
            all_goals first | rfl | (rw [F122.out]; exact IntWalk.wrap64_in _ (by omega)) | (rw [F104.out]; exact IntWalk.wrap64_in _ (by omega)) | exact IntWalk.wrap64_in _ (by omega)
          | false =>
            have HE : Hid (endQ s b (imq83 b) = (fld b 15 5 : Int)) := by show _ = _; unfold endQ; rw [h122]; rfl
            have H1 := Lib.hid h104; have H2 := Lib.hid h122
            clear h104 h122
            go_wp2_with fail
            refine (has_c s hs 104 (by show _ < _; decide) _).mono ?_; rintro e w4 ⟨rfl, hb4⟩
            rw [H1.out]
            go_wp2_with fail
            refine (has_c s hs 122 (by show _ < _; decide) _).mono ?_; rintro e w5 ⟨rfl, hb5⟩
            rw [H2.out]
            go_wp2_with fail
            go_ret
            have L1 := fld_lt b 15 5; have L2 := fld_lt b 20 6
            simp only [show (2 : Nat) ^ 5 = 32 by decide, show (2 : Nat) ^ 6 = 64 by decide] at L1 L2
            refine retI_mk ?_ (below_step hb5 (below_step hb4 hbW hbW.size) (Nat.le_trans hbW.size (by have h5 := hb4.size; first | exact h5 | (simp only [sz_drew] at h5 ⊢; omega))))
            rw [HE.out]
            all_goals first | rfl | (rw [F122.out]; exact IntWalk.wrap64_in _ (by omega)) | (rw [F104.out]; exact IntWalk.wrap64_in _ (by omega)) | exact IntWalk.wrap64_in _ (by omega)
        | false =>
          cases h104 : hasQ s 104 with
          | true =>
            have HE : Hid (endQ s b (imq83 b) = (fld b 20 6 : Int)) := by show _ = _; unfold endQ; rw [h122, h104]; rfl
            have H1 := Lib.hid h104; have H2 := Lib.hid h122
            clear h104 h122
            go_wp2_with fail
            refine (has_c s hs 104 (by show _ < _; decide) _).mono ?_; rintro e w4 ⟨rfl, hb4⟩
            rw [H1.out]
            go_wp2_with fail
            refine (has_c s hs 122 (by show _ < _; decide) _).mono ?_; rintro e w5 ⟨rfl, hb5⟩
            rw [H2.out]
            go_wp2_with fail
            go_ret
            have L1 := fld_lt b 15 5; have L2 := fld_lt b 20 6
            simp only [show (2 : Nat) ^ 5 = 32 by decide, show (2 : Nat) ^ 6 = 64 by decide] at L1 L2
            refine retI_mk ?_ (below_step hb5 (below_step hb4 hbW hbW.size) (Nat.le_trans hbW.size (by have h5 := hb4.size; first | exact h5 | (simp only [sz_drew] at h5 ⊢; omega))))
            rw [HE.out]
            all_goals first | rfl | (rw [F122.out]; exact IntWalk.wrap64_in _ (by omega)) | (rw [F104.out]; exact IntWalk.wrap64_in _ (by omega)) | exact IntWalk.wrap64_in _ (by omega)
          | false =>
            have HE : Hid (endQ s b (imq83 b) = (nq83 b 2 : Int) - 4096) := by show _ = _; unfold endQ; rw [h122, h104]; exact Eq.trans rfl HI.out
            have H1 := Lib.hid h104; have H2 := Lib.hid h122
            clear h104 h122
            go_wp2_with fail
            refine (has_c s hs 104 (by show _ < _; decide) _).mono ?_; rintro e w4 ⟨rfl, hb4⟩
            rw [H1.out]
            go_wp2_with fail
            refine (has_c s hs 122 (by show _ < _; decide) _).mono ?_; rintro e w5 ⟨rfl, hb5⟩
            rw [H2.out]
            go_wp2_with fail
            go_ret
            have L1 := fld_lt b 15 5; have L2 := fld_lt b 20 6
            simp only [show (2 : Nat) ^ 5 = 32 by decide, show (2 : Nat) ^ 6 = 64 by decide] at L1 L2
            refine retI_mk ?_ (below_step hb5 (below_step hb4 hbW hbW.size) (Nat.le_trans hbW.size (by have h5 := hb4.size; first | exact h5 | (simp only [sz_drew] at h5 ⊢; omega))))
            rw [HE.out]
            all_goals first | rfl | (rw [F122.out]; exact IntWalk.wrap64_in _ (by omega)) | (rw [F104.out]; exact IntWalk.wrap64_in _ (by omega)) | exact IntWalk.wrap64_in _ (by omega)
def nq66 (b : Nat) : Nat → Nat
  | 0 => 0
  | 1 => 0 + fld b 8 4 * 2
  | 2 => 0 + fld b 8 4 * 2 + fld b 25 6 * 32
  | 3 => 0 + fld b 8 4 * 2 + fld b 25 6 * 32 + fld b 7 1 * 2048
  | _ => 0 + fld b 8 4 * 2 + fld b 25 6 * 32 + fld b 7 1 * 2048 + fld b 31 1 * 4096
def tq66 : Nat → Int
  | 0 => 0
  | 1 => 5
  | 2 => 11
  | 3 => 12
  | _ => 13
theorem nq66_lt (b k : Nat) (hk : k ≤ 4) : nq66 b k < 2 ^ 13 := by
  have g0 := fld_lt b 8 4; have g1 := fld_lt b 25 6; have g2 := fld_lt b 7 1; have g3 := fld_lt b 31 1
  simp only [show (2 : Nat) ^ 1 = 2 by decide, show (2 : Nat) ^ 4 = 16 by decide, show (2 : Nat) ^ 6 = 64 by decide] at g0 g1 g2 g3
  have : k = 0 ∨ k = 1 ∨ k = 2 ∨ k = 3 ∨ k = 4 := by omega
  rcases this with rfl | rfl | rfl | rfl | rfl <;> simp only [nq66, show (2 : Nat) ^ 13 = 8192 by decide] <;> omega
def imq66 (b : Nat) : Int := if nq66 b 4 < 4096 then (nq66 b 4 : Int) else (nq66 b 4 : Int) - 8192
theorem nq66_0 (b : Nat) (hb : b < 4294967296) : bits .or .i64 ((nq66 b 0 : Nat) : Int) (wrap64 (wrap64 (bits .and .u32 ((b : Int) / 256) 15) * 2)) = ((nq66 b 1 : Nat) : Int) := by
  have g0 := fld_lt b 8 4; have g1 := fld_lt b 25 6; have g2 := fld_lt b 7 1; have g3 := fld_lt b 31 1
  simp only [show (2 : Nat) ^ 1 = 2 by decide, show (2 : Nat) ^ 4 = 16 by decide, show (2 : Nat) ^ 6 = 64 by decide] at g0 g1 g2 g3
  rw [show bits .and .u32 ((b : Int) / 256) 15 = ((fld b 8 4 : Nat) : Int) from fld_and b 8 4 hb (by decide) 256 15 (by decide) (by decide), IntWalk.wrap64_in ((fld b 8 4 : Nat) : Int) (by omega), IntWalk.wrap64_in _ (by omega)]
  exact piece_eq (nq66 b 0) b 8 4 1 256 15 _ (fld b 8 4 * 2) (by rw [show ((2 ^ 1 : Nat) : Int) = 2 by decide] <;> omega) (by rw [show (2 : Nat) ^ 1 = 2 by decide]) (by simp only [nq66, show (2 : Nat) ^ 1 = 2 by decide] <;> omega) (by simp only [nq66] <;> omega)
theorem nq66_1 (b : Nat) (hb : b < 4294967296) : bits .or .i64 ((nq66 b 1 : Nat) : Int) (wrap64 (wrap64 (bits .and .u32 ((b : Int) / 33554432) 63) * 32)) = ((nq66 b 2 : Nat) : Int) := by
  have g0 := fld_lt b 8 4; have g1 := fld_lt b 25 6; have g2 := fld_lt b 7 1; have g3 := fld_lt b 31 1
  simp only [show (2 : Nat) ^ 1 = 2 by decide, show (2 : Nat) ^ 4 = 16 by decide, show (2 : Nat) ^ 6 = 64 by decide] at g0 g1 g2 g3
  rw [show bits .and .u32 ((b : Int) / 33554432) 63 = ((fld b 25 6 : Nat) : Int) from fld_and b 25 6 hb (by decide) 33554432 63 (by decide) (by decide), IntWalk.wrap64_in ((fld b 25 6 : Nat) : Int) (by omega), IntWalk.wrap64_in _ (by omega)]
  exact piece_eq (nq66 b 1) b 25 6 5 33554432 63 _ (fld b 25 6 * 32) (by rw [show ((2 ^ 5 : Nat) : Int) = 32 by decide] <;> omega) (by rw [show (2 : Nat) ^ 5 = 32 by decide]) (by simp only [nq66, show (2 : Nat) ^ 5 = 32 by decide] <;> omega) (by simp only [nq66] <;> omega)
theorem nq66_2 (b : Nat) (hb : b < 4294967296) : bits .or .i64 ((nq66 b 2 : Nat) : Int) (wrap64 (wrap64 (bits .and .u32 ((b : Int) / 128) 1) * 2048)) = ((nq66 b 3 : Nat) : Int) := by
  have g0 := fld_lt b 8 4; have g1 := fld_lt b 25 6; have g2 := fld_lt b 7 1; have g3 := fld_lt b 31 1
  simp only [show (2 : Nat) ^ 1 = 2 by decide, show (2 : Nat) ^ 4 = 16 by decide, show (2 : Nat) ^ 6 = 64 by decide] at g0 g1 g2 g3
  rw [show bits .and .u32 ((b : Int) / 128) 1 = ((fld b 7 1 : Nat) : Int) from fld_and b 7 1 hb (by decide) 128 1 (by decide) (by decide), IntWalk.wrap64_in ((fld b 7 1 : Nat) : Int) (by omega), IntWalk.wrap64_in _ (by omega)]
  exact piece_eq (nq66 b 2) b 7 1 11 128 1 _ (fld b 7 1 * 2048) (by rw [show ((2 ^ 11 : Nat) : Int) = 2048 by decide] <;> omega) (by rw [show (2 : Nat) ^ 11 = 2048 by decide]) (by simp only [nq66, show (2 : Nat) ^ 11 = 2048 by decide] <;> omega) (by simp only [nq66] <;> omega)
theorem nq66_3 (b : Nat) (hb : b < 4294967296) : bits .or .i64 ((nq66 b 3 : Nat) : Int) (wrap64 (wrap64 (bits .and .u32 ((b : Int) / 2147483648) 1) * 4096)) = ((nq66 b 4 : Nat) : Int) := by
  have g0 := fld_lt b 8 4; have g1 := fld_lt b 25 6; have g2 := fld_lt b 7 1; have g3 := fld_lt b 31 1
  simp only [show (2 : Nat) ^ 1 = 2 by decide, show (2 : Nat) ^ 4 = 16 by decide, show (2 : Nat) ^ 6 = 64 by decide] at g0 g1 g2 g3
  rw [show bits .and .u32 ((b : Int) / 2147483648) 1 = ((fld b 31 1 : Nat) : Int) from fld_and b 31 1 hb (by decide) 2147483648 1 (by decide) (by decide), IntWalk.wrap64_in ((fld b 31 1 : Nat) : Int) (by omega), IntWalk.wrap64_in _ (by omega)]
  exact piece_eq (nq66 b 3) b 31 1 12 2147483648 1 _ (fld b 31 1 * 4096) (by rw [show ((2 ^ 12 : Nat) : Int) = 4096 by decide] <;> omega) (by rw [show (2 : Nat) ^ 12 = 4096 by decide]) (by simp only [nq66, show (2 : Nat) ^ 12 = 4096 by decide] <;> omega) (by simp only [nq66] <;> omega)
set_option maxRecDepth 100000 in
set_option maxHeartbeats 8000000 in
theorem immr_66 (s : ByteArray) (hs : s.size ≤ 100) (wo : Bool) (b : Nat) (hb : b < 4294967296) (hl : Hid (letterQ s = 66)) (w : World) : Calls Try.prog 31 #[.string s, .bool wo, .int .u32 b] w (RetI (endQ s b (imq66 b)) w) := by
  have F104 : Hid (bits .and .u32 ((b : Int) / 1048576) 63 = ((fld b 20 6 : Nat) : Int)) := fld_and b 20 6 hb (by decide) 1048576 63 (by decide) (by decide)
  have F122 : Hid (bits .and .u32 ((b : Int) / 32768) 31 = ((fld b 15 5 : Nat) : Int)) := fld_and b 15 5 hb (by decide) 32768 31 (by decide) (by decide)
  go_enter Try.func31, Try.ntmps31
  go_wp2_with fail
  refine (letter_c s hs _).mono ?_; rintro e w1 ⟨rfl, hb1⟩
  rw [hl.out]
  go_wp2_with fail
  refine (pieces_66 _).mono ?_; rintro e w2 ⟨B, rfl, hB, hB1, hB2, hb2⟩
  have hb12 : Below w.heap.size w w2 := below_step hb2 hb1 hb1.size
  have HB := Lib.hid hb
  clear hb
  go_wp2_with fail
  go_loopw [8, 9, 10] (fun n t i wr => ∃ k : Nat, k ≤ 4 ∧ i = .int .i64 k ∧ n = .int .i64 (nq66 b k : Nat) ∧ t = .int .i64 (tq66 k) ∧ Below w.heap.size w wr ∧ Below w2.heap.size w2 wr) (fun _ _ i _ => 4 - (intOf i).toNat)
  case atStart => exact ⟨0, by omega, rfl, rfl, rfl, hb12, Below.refl _ _⟩
  case round =>
    obtain ⟨k, hk, rfl, rfl, rfl, hbW, hbw⟩ := hrel
    have hN := nums_below hB hbw (by omega)
    have hk6 : k = 0 ∨ k = 1 ∨ k = 2 ∨ k = 3 ∨ k = 4 := by omega
    clear hk
    rcases hk6 with rfl | rfl | rfl | rfl | rfl
    · have t0 : tq66 0 = 0 := rfl
      have c0 : wr.cell? ⟨B, 0, none⟩ = some (.int .i64 8) := hN 0 (by decide)
      have c1 : wr.cell? ⟨B, 1, none⟩ = some (.int .i64 4) := hN 1 (by decide)
      have c2 : wr.cell? ⟨B, 2, none⟩ = some (.int .i64 1) := hN 2 (by decide)
      clear hN
      have SB := Lib.hid (nq66_0 b HB.out)
      go_wp2_with fail
      go_quiet (fail)
      go_wp2_with fail
      go_quiet (fail)
      go_wp2_with fail
      go_roundw
      case rel => exact ⟨1, by omega, by go_num, congrArg (Value.int .i64) SB.out, rfl, by first | exact below_drewQ hbW _ | exact below_drewQ (below_drewQ hbW _) _, by first | exact below_drewQ hbw _ | exact below_drewQ (below_drewQ hbw _) _⟩
      case measure => simp [intOf]
    · have t0 : tq66 1 = 5 := rfl
      have c0 : wr.cell? ⟨B, 3, none⟩ = some (.int .i64 25) := hN 3 (by decide)
      have c1 : wr.cell? ⟨B, 4, none⟩ = some (.int .i64 6) := hN 4 (by decide)
      have c2 : wr.cell? ⟨B, 5, none⟩ = some (.int .i64 5) := hN 5 (by decide)
      clear hN
      have SB := Lib.hid (nq66_1 b HB.out)
      go_wp2_with fail
      go_quiet (fail)
      go_wp2_with fail
      go_quiet (fail)
      go_wp2_with fail
      go_roundw
      case rel => exact ⟨2, by omega, by go_num, congrArg (Value.int .i64) SB.out, rfl, by first | exact below_drewQ hbW _ | exact below_drewQ (below_drewQ hbW _) _, by first | exact below_drewQ hbw _ | exact below_drewQ (below_drewQ hbw _) _⟩
      case measure => simp [intOf]
    · have t0 : tq66 2 = 11 := rfl
      have c0 : wr.cell? ⟨B, 6, none⟩ = some (.int .i64 7) := hN 6 (by decide)
      have c1 : wr.cell? ⟨B, 7, none⟩ = some (.int .i64 1) := hN 7 (by decide)
      have c2 : wr.cell? ⟨B, 8, none⟩ = some (.int .i64 11) := hN 8 (by decide)
      clear hN
      have SB := Lib.hid (nq66_2 b HB.out)
      go_wp2_with fail
      go_quiet (fail)
      go_wp2_with fail
      go_quiet (fail)
      go_wp2_with fail
      go_roundw
      case rel => exact ⟨3, by omega, by go_num, congrArg (Value.int .i64) SB.out, rfl, by first | exact below_drewQ hbW _ | exact below_drewQ (below_drewQ hbW _) _, by first | exact below_drewQ hbw _ | exact below_drewQ (below_drewQ hbw _) _⟩
      case measure => simp [intOf]
    · have t0 : tq66 3 = 12 := rfl
      have c0 : wr.cell? ⟨B, 9, none⟩ = some (.int .i64 31) := hN 9 (by decide)
      have c1 : wr.cell? ⟨B, 10, none⟩ = some (.int .i64 1) := hN 10 (by decide)
      have c2 : wr.cell? ⟨B, 11, none⟩ = some (.int .i64 12) := hN 11 (by decide)
      clear hN
      have SB := Lib.hid (nq66_3 b HB.out)
      go_wp2_with fail
      go_quiet (fail)
      go_wp2_with fail
      go_quiet (fail)
      go_wp2_with fail
      go_roundw
      case rel => exact ⟨4, by omega, by go_num, congrArg (Value.int .i64) SB.out, rfl, by first | exact below_drewQ hbW _ | exact below_drewQ (below_drewQ hbW _) _, by first | exact below_drewQ hbw _ | exact below_drewQ (below_drewQ hbw _) _⟩
      case measure => simp [intOf]
    · have t0 : tq66 4 = 13 := rfl
      clear hN
      have hlt := nq66_lt b 4 (by omega)
      simp only [show (2 : Nat) ^ 13 = 8192 by decide] at hlt
      by_cases hsg : nq66 b 4 < 4096
      · have HI : Hid (imq66 b = (nq66 b 4 : Int)) := by show _ = _; unfold imq66; rw [if_pos hsg]
        have SG : bits .and .i64 (((nq66 b 4 : Nat) : Int) / 4096) 1 = 0 := by
          rw [show ((nq66 b 4 : Nat) : Int) / 4096 = 0 by omega]; rfl
        cases h122 : hasQ s 122 with
        | true =>
          cases h104 : hasQ s 104 with
          | true =>
            have HE : Hid (endQ s b (imq66 b) = (fld b 15 5 : Int)) := by show _ = _; unfold endQ; rw [h122]; rfl
            have H1 := Lib.hid h104; have H2 := Lib.hid h122
            clear h104 h122
            go_wp2_with fail
            refine (has_c s hs 104 (by show _ < _; decide) _).mono ?_; rintro e w4 ⟨rfl, hb4⟩
            rw [H1.out]
            go_wp2_with fail
            refine (has_c s hs 122 (by show _ < _; decide) _).mono ?_; rintro e w5 ⟨rfl, hb5⟩
            rw [H2.out]
            go_wp2_with fail
            go_ret
            have L1 := fld_lt b 15 5; have L2 := fld_lt b 20 6
            simp only [show (2 : Nat) ^ 5 = 32 by decide, show (2 : Nat) ^ 6 = 64 by decide] at L1 L2
            refine retI_mk ?_ (below_step hb5 (below_step hb4 hbW hbW.size) (Nat.le_trans hbW.size (by have h5 := hb4.size; first | exact h5 | (simp only [sz_drew] at h5 ⊢; omega))))
            rw [HE.out]
            all_goals first | rfl | (rw [F122.out]; exact IntWalk.wrap64_in _ (by omega)) | (rw [F104.out]; exact IntWalk.wrap64_in _ (by omega)) | exact IntWalk.wrap64_in _ (by omega)
          | false =>
            have HE : Hid (endQ s b (imq66 b) = (fld b 15 5 : Int)) := by show _ = _; unfold endQ; rw [h122]; rfl
            have H1 := Lib.hid h104; have H2 := Lib.hid h122
            clear h104 h122
            go_wp2_with fail
            refine (has_c s hs 104 (by show _ < _; decide) _).mono ?_; rintro e w4 ⟨rfl, hb4⟩
            rw [H1.out]
            go_wp2_with fail
            refine (has_c s hs 122 (by show _ < _; decide) _).mono ?_; rintro e w5 ⟨rfl, hb5⟩
            rw [H2.out]
            go_wp2_with fail
            go_ret
            have L1 := fld_lt b 15 5; have L2 := fld_lt b 20 6
            simp only [show (2 : Nat) ^ 5 = 32 by decide, show (2 : Nat) ^ 6 = 64 by decide] at L1 L2
            refine retI_mk ?_ (below_step hb5 (below_step hb4 hbW hbW.size) (Nat.le_trans hbW.size (by have h5 := hb4.size; first | exact h5 | (simp only [sz_drew] at h5 ⊢; omega))))
            rw [HE.out]
            all_goals first | rfl | (rw [F122.out]; exact IntWalk.wrap64_in _ (by omega)) | (rw [F104.out]; exact IntWalk.wrap64_in _ (by omega)) | exact IntWalk.wrap64_in _ (by omega)
        | false =>
          cases h104 : hasQ s 104 with
          | true =>
            have HE : Hid (endQ s b (imq66 b) = (fld b 20 6 : Int)) := by show _ = _; unfold endQ; rw [h122, h104]; rfl
            have H1 := Lib.hid h104; have H2 := Lib.hid h122
            clear h104 h122
            go_wp2_with fail
            refine (has_c s hs 104 (by show _ < _; decide) _).mono ?_; rintro e w4 ⟨rfl, hb4⟩
            rw [H1.out]
            go_wp2_with fail
            refine (has_c s hs 122 (by show _ < _; decide) _).mono ?_; rintro e w5 ⟨rfl, hb5⟩
            rw [H2.out]
            go_wp2_with fail
            go_ret
            have L1 := fld_lt b 15 5; have L2 := fld_lt b 20 6
            simp only [show (2 : Nat) ^ 5 = 32 by decide, show (2 : Nat) ^ 6 = 64 by decide] at L1 L2
            refine retI_mk ?_ (below_step hb5 (below_step hb4 hbW hbW.size) (Nat.le_trans hbW.size (by have h5 := hb4.size; first | exact h5 | (simp only [sz_drew] at h5 ⊢; omega))))
            rw [HE.out]
            all_goals first | rfl | (rw [F122.out]; exact IntWalk.wrap64_in _ (by omega)) | (rw [F104.out]; exact IntWalk.wrap64_in _ (by omega)) | exact IntWalk.wrap64_in _ (by omega)
          | false =>
            have HE : Hid (endQ s b (imq66 b) = (nq66 b 4 : Int)) := by show _ = _; unfold endQ; rw [h122, h104]; exact Eq.trans rfl HI.out
            have H1 := Lib.hid h104; have H2 := Lib.hid h122
            clear h104 h122
            go_wp2_with fail
            refine (has_c s hs 104 (by show _ < _; decide) _).mono ?_; rintro e w4 ⟨rfl, hb4⟩
            rw [H1.out]
            go_wp2_with fail
            refine (has_c s hs 122 (by show _ < _; decide) _).mono ?_; rintro e w5 ⟨rfl, hb5⟩
            rw [H2.out]
            go_wp2_with fail
            go_ret
            have L1 := fld_lt b 15 5; have L2 := fld_lt b 20 6
            simp only [show (2 : Nat) ^ 5 = 32 by decide, show (2 : Nat) ^ 6 = 64 by decide] at L1 L2
            refine retI_mk ?_ (below_step hb5 (below_step hb4 hbW hbW.size) (Nat.le_trans hbW.size (by have h5 := hb4.size; first | exact h5 | (simp only [sz_drew] at h5 ⊢; omega))))
            rw [HE.out]
            all_goals first | rfl | (rw [F122.out]; exact IntWalk.wrap64_in _ (by omega)) | (rw [F104.out]; exact IntWalk.wrap64_in _ (by omega)) | exact IntWalk.wrap64_in _ (by omega)
      · have HI : Hid (imq66 b = (nq66 b 4 : Int) - 8192) := by show _ = _; unfold imq66; rw [if_neg hsg]
        have SG : bits .and .i64 (((nq66 b 4 : Nat) : Int) / 4096) 1 = 1 := by
          rw [show ((nq66 b 4 : Nat) : Int) / 4096 = 1 by omega]; rfl
        cases h122 : hasQ s 122 with
        | true =>
          cases h104 : hasQ s 104 with
          | true =>
            have HE : Hid (endQ s b (imq66 b) = (fld b 15 5 : Int)) := by show _ = _; unfold endQ; rw [h122]; rfl
            have H1 := Lib.hid h104; have H2 := Lib.hid h122
            clear h104 h122
            go_wp2_with fail
            refine (has_c s hs 104 (by show _ < _; decide) _).mono ?_; rintro e w4 ⟨rfl, hb4⟩
            rw [H1.out]
            go_wp2_with fail
            refine (has_c s hs 122 (by show _ < _; decide) _).mono ?_; rintro e w5 ⟨rfl, hb5⟩
            rw [H2.out]
            go_wp2_with fail
            go_ret
            have L1 := fld_lt b 15 5; have L2 := fld_lt b 20 6
            simp only [show (2 : Nat) ^ 5 = 32 by decide, show (2 : Nat) ^ 6 = 64 by decide] at L1 L2
            refine retI_mk ?_ (below_step hb5 (below_step hb4 hbW hbW.size) (Nat.le_trans hbW.size (by have h5 := hb4.size; first | exact h5 | (simp only [sz_drew] at h5 ⊢; omega))))
            rw [HE.out]
            all_goals first | rfl | (rw [F122.out]; exact IntWalk.wrap64_in _ (by omega)) | (rw [F104.out]; exact IntWalk.wrap64_in _ (by omega)) | exact IntWalk.wrap64_in _ (by omega)
          | false =>
            have HE : Hid (endQ s b (imq66 b) = (fld b 15 5 : Int)) := by show _ = _; unfold endQ; rw [h122]; rfl
            have H1 := Lib.hid h104; have H2 := Lib.hid h122
            clear h104 h122
            go_wp2_with fail
            refine (has_c s hs 104 (by show _ < _; decide) _).mono ?_; rintro e w4 ⟨rfl, hb4⟩
            rw [H1.out]
            go_wp2_with fail
            refine (has_c s hs 122 (by show _ < _; decide) _).mono ?_; rintro e w5 ⟨rfl, hb5⟩
            rw [H2.out]
            go_wp2_with fail
            go_ret
            have L1 := fld_lt b 15 5; have L2 := fld_lt b 20 6
            simp only [show (2 : Nat) ^ 5 = 32 by decide, show (2 : Nat) ^ 6 = 64 by decide] at L1 L2
            refine retI_mk ?_ (below_step hb5 (below_step hb4 hbW hbW.size) (Nat.le_trans hbW.size (by have h5 := hb4.size; first | exact h5 | (simp only [sz_drew] at h5 ⊢; omega))))
            rw [HE.out]
            all_goals first | rfl | (rw [F122.out]; exact IntWalk.wrap64_in _ (by omega)) | (rw [F104.out]; exact IntWalk.wrap64_in _ (by omega)) | exact IntWalk.wrap64_in _ (by omega)
        | false =>
          cases h104 : hasQ s 104 with
          | true =>
            have HE : Hid (endQ s b (imq66 b) = (fld b 20 6 : Int)) := by show _ = _; unfold endQ; rw [h122, h104]; rfl
            have H1 := Lib.hid h104; have H2 := Lib.hid h122
            clear h104 h122
            go_wp2_with fail
            refine (has_c s hs 104 (by show _ < _; decide) _).mono ?_; rintro e w4 ⟨rfl, hb4⟩
            rw [H1.out]
            go_wp2_with fail
            refine (has_c s hs 122 (by show _ < _; decide) _).mono ?_; rintro e w5 ⟨rfl, hb5⟩
            rw [H2.out]
            go_wp2_with fail
            go_ret
            have L1 := fld_lt b 15 5; have L2 := fld_lt b 20 6
            simp only [show (2 : Nat) ^ 5 = 32 by decide, show (2 : Nat) ^ 6 = 64 by decide] at L1 L2
            refine retI_mk ?_ (below_step hb5 (below_step hb4 hbW hbW.size) (Nat.le_trans hbW.size (by have h5 := hb4.size; first | exact h5 | (simp only [sz_drew] at h5 ⊢; omega))))
            rw [HE.out]
            all_goals first | rfl | (rw [F122.out]; exact IntWalk.wrap64_in _ (by omega)) | (rw [F104.out]; exact IntWalk.wrap64_in _ (by omega)) | exact IntWalk.wrap64_in _ (by omega)
          | false =>
            have HE : Hid (endQ s b (imq66 b) = (nq66 b 4 : Int) - 8192) := by show _ = _; unfold endQ; rw [h122, h104]; exact Eq.trans rfl HI.out
            have H1 := Lib.hid h104; have H2 := Lib.hid h122
            clear h104 h122
            go_wp2_with fail
            refine (has_c s hs 104 (by show _ < _; decide) _).mono ?_; rintro e w4 ⟨rfl, hb4⟩
            rw [H1.out]
            go_wp2_with fail
            refine (has_c s hs 122 (by show _ < _; decide) _).mono ?_; rintro e w5 ⟨rfl, hb5⟩
            rw [H2.out]
            go_wp2_with fail
            go_ret
            have L1 := fld_lt b 15 5; have L2 := fld_lt b 20 6
            simp only [show (2 : Nat) ^ 5 = 32 by decide, show (2 : Nat) ^ 6 = 64 by decide] at L1 L2
            refine retI_mk ?_ (below_step hb5 (below_step hb4 hbW hbW.size) (Nat.le_trans hbW.size (by have h5 := hb4.size; first | exact h5 | (simp only [sz_drew] at h5 ⊢; omega))))
            rw [HE.out]
            all_goals first | rfl | (rw [F122.out]; exact IntWalk.wrap64_in _ (by omega)) | (rw [F104.out]; exact IntWalk.wrap64_in _ (by omega)) | exact IntWalk.wrap64_in _ (by omega)
def nq85 (b : Nat) : Nat → Nat
  | 0 => 0
  | _ => 0 + fld b 12 20 * 4096
def tq85 : Nat → Int
  | 0 => 0
  | _ => 32
theorem nq85_lt (b k : Nat) (hk : k ≤ 1) : nq85 b k < 2 ^ 32 := by
  have g0 := fld_lt b 12 20
  simp only [show (2 : Nat) ^ 20 = 1048576 by decide] at g0
  have : k = 0 ∨ k = 1 := by omega
  rcases this with rfl | rfl <;> simp only [nq85, show (2 : Nat) ^ 32 = 4294967296 by decide] <;> omega
def imq85 (b : Nat) : Int := if nq85 b 1 < 2147483648 then (nq85 b 1 : Int) else (nq85 b 1 : Int) - 4294967296
theorem nq85_0 (b : Nat) (hb : b < 4294967296) : bits .or .i64 ((nq85 b 0 : Nat) : Int) (wrap64 (wrap64 (bits .and .u32 ((b : Int) / 4096) 1048575) * 4096)) = ((nq85 b 1 : Nat) : Int) := by
  have g0 := fld_lt b 12 20
  simp only [show (2 : Nat) ^ 20 = 1048576 by decide] at g0
  rw [show bits .and .u32 ((b : Int) / 4096) 1048575 = ((fld b 12 20 : Nat) : Int) from fld_and b 12 20 hb (by decide) 4096 1048575 (by decide) (by decide), IntWalk.wrap64_in ((fld b 12 20 : Nat) : Int) (by omega), IntWalk.wrap64_in _ (by omega)]
  exact piece_eq (nq85 b 0) b 12 20 12 4096 1048575 _ (fld b 12 20 * 4096) (by rw [show ((2 ^ 12 : Nat) : Int) = 4096 by decide] <;> omega) (by rw [show (2 : Nat) ^ 12 = 4096 by decide]) (by simp only [nq85, show (2 : Nat) ^ 12 = 4096 by decide] <;> omega) (by simp only [nq85] <;> omega)
set_option maxRecDepth 100000 in
set_option maxHeartbeats 8000000 in
theorem immr_85 (s : ByteArray) (hs : s.size ≤ 100) (wo : Bool) (b : Nat) (hb : b < 4294967296) (hl : Hid (letterQ s = 85)) (w : World) : Calls Try.prog 31 #[.string s, .bool wo, .int .u32 b] w (RetI (endQ s b (imq85 b)) w) := by
  have F104 : Hid (bits .and .u32 ((b : Int) / 1048576) 63 = ((fld b 20 6 : Nat) : Int)) := fld_and b 20 6 hb (by decide) 1048576 63 (by decide) (by decide)
  have F122 : Hid (bits .and .u32 ((b : Int) / 32768) 31 = ((fld b 15 5 : Nat) : Int)) := fld_and b 15 5 hb (by decide) 32768 31 (by decide) (by decide)
  go_enter Try.func31, Try.ntmps31
  go_wp2_with fail
  refine (letter_c s hs _).mono ?_; rintro e w1 ⟨rfl, hb1⟩
  rw [hl.out]
  go_wp2_with fail
  refine (pieces_85 _).mono ?_; rintro e w2 ⟨B, rfl, hB, hB1, hB2, hb2⟩
  have hb12 : Below w.heap.size w w2 := below_step hb2 hb1 hb1.size
  have HB := Lib.hid hb
  clear hb
  go_wp2_with fail
  go_loopw [8, 9, 10] (fun n t i wr => ∃ k : Nat, k ≤ 1 ∧ i = .int .i64 k ∧ n = .int .i64 (nq85 b k : Nat) ∧ t = .int .i64 (tq85 k) ∧ Below w.heap.size w wr ∧ Below w2.heap.size w2 wr) (fun _ _ i _ => 1 - (intOf i).toNat)
  case atStart => exact ⟨0, by omega, rfl, rfl, rfl, hb12, Below.refl _ _⟩
  case round =>
    obtain ⟨k, hk, rfl, rfl, rfl, hbW, hbw⟩ := hrel
    have hN := nums_below hB hbw (by omega)
    have hk6 : k = 0 ∨ k = 1 := by omega
    clear hk
    rcases hk6 with rfl | rfl
    · have t0 : tq85 0 = 0 := rfl
      have c0 : wr.cell? ⟨B, 0, none⟩ = some (.int .i64 12) := hN 0 (by decide)
      have c1 : wr.cell? ⟨B, 1, none⟩ = some (.int .i64 20) := hN 1 (by decide)
      have c2 : wr.cell? ⟨B, 2, none⟩ = some (.int .i64 12) := hN 2 (by decide)
      clear hN
      have SB := Lib.hid (nq85_0 b HB.out)
      go_wp2_with fail
      go_quiet (fail)
      go_wp2_with fail
      go_quiet (fail)
      go_wp2_with fail
      go_roundw
      case rel => exact ⟨1, by omega, by go_num, congrArg (Value.int .i64) SB.out, rfl, by first | exact below_drewQ hbW _ | exact below_drewQ (below_drewQ hbW _) _, by first | exact below_drewQ hbw _ | exact below_drewQ (below_drewQ hbw _) _⟩
      case measure => simp [intOf]
    · have t0 : tq85 1 = 32 := rfl
      clear hN
      have hlt := nq85_lt b 1 (by omega)
      simp only [show (2 : Nat) ^ 32 = 4294967296 by decide] at hlt
      by_cases hsg : nq85 b 1 < 2147483648
      · have HI : Hid (imq85 b = (nq85 b 1 : Int)) := by show _ = _; unfold imq85; rw [if_pos hsg]
        have SG : bits .and .i64 (((nq85 b 1 : Nat) : Int) / 2147483648) 1 = 0 := by
          rw [show ((nq85 b 1 : Nat) : Int) / 2147483648 = 0 by omega]; rfl
        cases h122 : hasQ s 122 with
        | true =>
          cases h104 : hasQ s 104 with
          | true =>
            have HE : Hid (endQ s b (imq85 b) = (fld b 15 5 : Int)) := by show _ = _; unfold endQ; rw [h122]; rfl
            have H1 := Lib.hid h104; have H2 := Lib.hid h122
            clear h104 h122
            go_wp2_with fail
            refine (has_c s hs 104 (by show _ < _; decide) _).mono ?_; rintro e w4 ⟨rfl, hb4⟩
            rw [H1.out]
            go_wp2_with fail
            refine (has_c s hs 122 (by show _ < _; decide) _).mono ?_; rintro e w5 ⟨rfl, hb5⟩
            rw [H2.out]
            go_wp2_with fail
            go_ret
            have L1 := fld_lt b 15 5; have L2 := fld_lt b 20 6
            simp only [show (2 : Nat) ^ 5 = 32 by decide, show (2 : Nat) ^ 6 = 64 by decide] at L1 L2
            refine retI_mk ?_ (below_step hb5 (below_step hb4 hbW hbW.size) (Nat.le_trans hbW.size (by have h5 := hb4.size; first | exact h5 | (simp only [sz_drew] at h5 ⊢; omega))))
            rw [HE.out]
            all_goals first | rfl | (rw [F122.out]; exact IntWalk.wrap64_in _ (by omega)) | (rw [F104.out]; exact IntWalk.wrap64_in _ (by omega)) | exact IntWalk.wrap64_in _ (by omega)
          | false =>
            have HE : Hid (endQ s b (imq85 b) = (fld b 15 5 : Int)) := by show _ = _; unfold endQ; rw [h122]; rfl
            have H1 := Lib.hid h104; have H2 := Lib.hid h122
            clear h104 h122
            go_wp2_with fail
            refine (has_c s hs 104 (by show _ < _; decide) _).mono ?_; rintro e w4 ⟨rfl, hb4⟩
            rw [H1.out]
            go_wp2_with fail
            refine (has_c s hs 122 (by show _ < _; decide) _).mono ?_; rintro e w5 ⟨rfl, hb5⟩
            rw [H2.out]
            go_wp2_with fail
            go_ret
            have L1 := fld_lt b 15 5; have L2 := fld_lt b 20 6
            simp only [show (2 : Nat) ^ 5 = 32 by decide, show (2 : Nat) ^ 6 = 64 by decide] at L1 L2
            refine retI_mk ?_ (below_step hb5 (below_step hb4 hbW hbW.size) (Nat.le_trans hbW.size (by have h5 := hb4.size; first | exact h5 | (simp only [sz_drew] at h5 ⊢; omega))))
            rw [HE.out]
            all_goals first | rfl | (rw [F122.out]; exact IntWalk.wrap64_in _ (by omega)) | (rw [F104.out]; exact IntWalk.wrap64_in _ (by omega)) | exact IntWalk.wrap64_in _ (by omega)
        | false =>
          cases h104 : hasQ s 104 with
          | true =>
            have HE : Hid (endQ s b (imq85 b) = (fld b 20 6 : Int)) := by show _ = _; unfold endQ; rw [h122, h104]; rfl
            have H1 := Lib.hid h104; have H2 := Lib.hid h122
            clear h104 h122
            go_wp2_with fail
            refine (has_c s hs 104 (by show _ < _; decide) _).mono ?_; rintro e w4 ⟨rfl, hb4⟩
            rw [H1.out]
            go_wp2_with fail
            refine (has_c s hs 122 (by show _ < _; decide) _).mono ?_; rintro e w5 ⟨rfl, hb5⟩
            rw [H2.out]
            go_wp2_with fail
            go_ret
            have L1 := fld_lt b 15 5; have L2 := fld_lt b 20 6
            simp only [show (2 : Nat) ^ 5 = 32 by decide, show (2 : Nat) ^ 6 = 64 by decide] at L1 L2
            refine retI_mk ?_ (below_step hb5 (below_step hb4 hbW hbW.size) (Nat.le_trans hbW.size (by have h5 := hb4.size; first | exact h5 | (simp only [sz_drew] at h5 ⊢; omega))))
            rw [HE.out]
            all_goals first | rfl | (rw [F122.out]; exact IntWalk.wrap64_in _ (by omega)) | (rw [F104.out]; exact IntWalk.wrap64_in _ (by omega)) | exact IntWalk.wrap64_in _ (by omega)
          | false =>
            have HE : Hid (endQ s b (imq85 b) = (nq85 b 1 : Int)) := by show _ = _; unfold endQ; rw [h122, h104]; exact Eq.trans rfl HI.out
            have H1 := Lib.hid h104; have H2 := Lib.hid h122
            clear h104 h122
            go_wp2_with fail
            refine (has_c s hs 104 (by show _ < _; decide) _).mono ?_; rintro e w4 ⟨rfl, hb4⟩
            rw [H1.out]
            go_wp2_with fail
            refine (has_c s hs 122 (by show _ < _; decide) _).mono ?_; rintro e w5 ⟨rfl, hb5⟩
            rw [H2.out]
            go_wp2_with fail
            go_ret
            have L1 := fld_lt b 15 5; have L2 := fld_lt b 20 6
            simp only [show (2 : Nat) ^ 5 = 32 by decide, show (2 : Nat) ^ 6 = 64 by decide] at L1 L2
            refine retI_mk ?_ (below_step hb5 (below_step hb4 hbW hbW.size) (Nat.le_trans hbW.size (by have h5 := hb4.size; first | exact h5 | (simp only [sz_drew] at h5 ⊢; omega))))
            rw [HE.out]
            all_goals first | rfl | (rw [F122.out]; exact IntWalk.wrap64_in _ (by omega)) | (rw [F104.out]; exact IntWalk.wrap64_in _ (by omega)) | exact IntWalk.wrap64_in _ (by omega)
      · have HI : Hid (imq85 b = (nq85 b 1 : Int) - 4294967296) := by show _ = _; unfold imq85; rw [if_neg hsg]
        have SG : bits .and .i64 (((nq85 b 1 : Nat) : Int) / 2147483648) 1 = 1 := by
          rw [show ((nq85 b 1 : Nat) : Int) / 2147483648 = 1 by omega]; rfl
        cases h122 : hasQ s 122 with
        | true =>
          cases h104 : hasQ s 104 with
          | true =>
            have HE : Hid (endQ s b (imq85 b) = (fld b 15 5 : Int)) := by show _ = _; unfold endQ; rw [h122]; rfl
            have H1 := Lib.hid h104; have H2 := Lib.hid h122
            clear h104 h122
            go_wp2_with fail
            refine (has_c s hs 104 (by show _ < _; decide) _).mono ?_; rintro e w4 ⟨rfl, hb4⟩
            rw [H1.out]
            go_wp2_with fail
            refine (has_c s hs 122 (by show _ < _; decide) _).mono ?_; rintro e w5 ⟨rfl, hb5⟩
            rw [H2.out]
            go_wp2_with fail
            go_ret
            have L1 := fld_lt b 15 5; have L2 := fld_lt b 20 6
            simp only [show (2 : Nat) ^ 5 = 32 by decide, show (2 : Nat) ^ 6 = 64 by decide] at L1 L2
            refine retI_mk ?_ (below_step hb5 (below_step hb4 hbW hbW.size) (Nat.le_trans hbW.size (by have h5 := hb4.size; first | exact h5 | (simp only [sz_drew] at h5 ⊢; omega))))
            rw [HE.out]
            all_goals first | rfl | (rw [F122.out]; exact IntWalk.wrap64_in _ (by omega)) | (rw [F104.out]; exact IntWalk.wrap64_in _ (by omega)) | exact IntWalk.wrap64_in _ (by omega)
          | false =>
            have HE : Hid (endQ s b (imq85 b) = (fld b 15 5 : Int)) := by show _ = _; unfold endQ; rw [h122]; rfl
            have H1 := Lib.hid h104; have H2 := Lib.hid h122
            clear h104 h122
            go_wp2_with fail
            refine (has_c s hs 104 (by show _ < _; decide) _).mono ?_; rintro e w4 ⟨rfl, hb4⟩
            rw [H1.out]
            go_wp2_with fail
            refine (has_c s hs 122 (by show _ < _; decide) _).mono ?_; rintro e w5 ⟨rfl, hb5⟩
            rw [H2.out]
            go_wp2_with fail
            go_ret
            have L1 := fld_lt b 15 5; have L2 := fld_lt b 20 6
            simp only [show (2 : Nat) ^ 5 = 32 by decide, show (2 : Nat) ^ 6 = 64 by decide] at L1 L2
            refine retI_mk ?_ (below_step hb5 (below_step hb4 hbW hbW.size) (Nat.le_trans hbW.size (by have h5 := hb4.size; first | exact h5 | (simp only [sz_drew] at h5 ⊢; omega))))
            rw [HE.out]
            all_goals first | rfl | (rw [F122.out]; exact IntWalk.wrap64_in _ (by omega)) | (rw [F104.out]; exact IntWalk.wrap64_in _ (by omega)) | exact IntWalk.wrap64_in _ (by omega)
        | false =>
          cases h104 : hasQ s 104 with
          | true =>
            have HE : Hid (endQ s b (imq85 b) = (fld b 20 6 : Int)) := by show _ = _; unfold endQ; rw [h122, h104]; rfl
            have H1 := Lib.hid h104; have H2 := Lib.hid h122
            clear h104 h122
            go_wp2_with fail
            refine (has_c s hs 104 (by show _ < _; decide) _).mono ?_; rintro e w4 ⟨rfl, hb4⟩
            rw [H1.out]
            go_wp2_with fail
            refine (has_c s hs 122 (by show _ < _; decide) _).mono ?_; rintro e w5 ⟨rfl, hb5⟩
            rw [H2.out]
            go_wp2_with fail
            go_ret
            have L1 := fld_lt b 15 5; have L2 := fld_lt b 20 6
            simp only [show (2 : Nat) ^ 5 = 32 by decide, show (2 : Nat) ^ 6 = 64 by decide] at L1 L2
            refine retI_mk ?_ (below_step hb5 (below_step hb4 hbW hbW.size) (Nat.le_trans hbW.size (by have h5 := hb4.size; first | exact h5 | (simp only [sz_drew] at h5 ⊢; omega))))
            rw [HE.out]
            all_goals first | rfl | (rw [F122.out]; exact IntWalk.wrap64_in _ (by omega)) | (rw [F104.out]; exact IntWalk.wrap64_in _ (by omega)) | exact IntWalk.wrap64_in _ (by omega)
          | false =>
            have HE : Hid (endQ s b (imq85 b) = (nq85 b 1 : Int) - 4294967296) := by show _ = _; unfold endQ; rw [h122, h104]; exact Eq.trans rfl HI.out
            have H1 := Lib.hid h104; have H2 := Lib.hid h122
            clear h104 h122
            go_wp2_with fail
            refine (has_c s hs 104 (by show _ < _; decide) _).mono ?_; rintro e w4 ⟨rfl, hb4⟩
            rw [H1.out]
            go_wp2_with fail
            refine (has_c s hs 122 (by show _ < _; decide) _).mono ?_; rintro e w5 ⟨rfl, hb5⟩
            rw [H2.out]
            go_wp2_with fail
            go_ret
            have L1 := fld_lt b 15 5; have L2 := fld_lt b 20 6
            simp only [show (2 : Nat) ^ 5 = 32 by decide, show (2 : Nat) ^ 6 = 64 by decide] at L1 L2
            refine retI_mk ?_ (below_step hb5 (below_step hb4 hbW hbW.size) (Nat.le_trans hbW.size (by have h5 := hb4.size; first | exact h5 | (simp only [sz_drew] at h5 ⊢; omega))))
            rw [HE.out]
            all_goals first | rfl | (rw [F122.out]; exact IntWalk.wrap64_in _ (by omega)) | (rw [F104.out]; exact IntWalk.wrap64_in _ (by omega)) | exact IntWalk.wrap64_in _ (by omega)
def nq74 (b : Nat) : Nat → Nat
  | 0 => 0
  | 1 => 0 + fld b 21 10 * 2
  | 2 => 0 + fld b 21 10 * 2 + fld b 20 1 * 2048
  | 3 => 0 + fld b 21 10 * 2 + fld b 20 1 * 2048 + fld b 12 8 * 4096
  | _ => 0 + fld b 21 10 * 2 + fld b 20 1 * 2048 + fld b 12 8 * 4096 + fld b 31 1 * 1048576
def tq74 : Nat → Int
  | 0 => 0
  | 1 => 11
  | 2 => 12
  | 3 => 20
  | _ => 21
theorem nq74_lt (b k : Nat) (hk : k ≤ 4) : nq74 b k < 2 ^ 21 := by
  have g0 := fld_lt b 21 10; have g1 := fld_lt b 20 1; have g2 := fld_lt b 12 8; have g3 := fld_lt b 31 1
  simp only [show (2 : Nat) ^ 1 = 2 by decide, show (2 : Nat) ^ 8 = 256 by decide, show (2 : Nat) ^ 10 = 1024 by decide] at g0 g1 g2 g3
  have : k = 0 ∨ k = 1 ∨ k = 2 ∨ k = 3 ∨ k = 4 := by omega
  rcases this with rfl | rfl | rfl | rfl | rfl <;> simp only [nq74, show (2 : Nat) ^ 21 = 2097152 by decide] <;> omega
def imq74 (b : Nat) : Int := if nq74 b 4 < 1048576 then (nq74 b 4 : Int) else (nq74 b 4 : Int) - 2097152
theorem nq74_0 (b : Nat) (hb : b < 4294967296) : bits .or .i64 ((nq74 b 0 : Nat) : Int) (wrap64 (wrap64 (bits .and .u32 ((b : Int) / 2097152) 1023) * 2)) = ((nq74 b 1 : Nat) : Int) := by
  have g0 := fld_lt b 21 10; have g1 := fld_lt b 20 1; have g2 := fld_lt b 12 8; have g3 := fld_lt b 31 1
  simp only [show (2 : Nat) ^ 1 = 2 by decide, show (2 : Nat) ^ 8 = 256 by decide, show (2 : Nat) ^ 10 = 1024 by decide] at g0 g1 g2 g3
  rw [show bits .and .u32 ((b : Int) / 2097152) 1023 = ((fld b 21 10 : Nat) : Int) from fld_and b 21 10 hb (by decide) 2097152 1023 (by decide) (by decide), IntWalk.wrap64_in ((fld b 21 10 : Nat) : Int) (by omega), IntWalk.wrap64_in _ (by omega)]
  exact piece_eq (nq74 b 0) b 21 10 1 2097152 1023 _ (fld b 21 10 * 2) (by rw [show ((2 ^ 1 : Nat) : Int) = 2 by decide] <;> omega) (by rw [show (2 : Nat) ^ 1 = 2 by decide]) (by simp only [nq74, show (2 : Nat) ^ 1 = 2 by decide] <;> omega) (by simp only [nq74] <;> omega)
theorem nq74_1 (b : Nat) (hb : b < 4294967296) : bits .or .i64 ((nq74 b 1 : Nat) : Int) (wrap64 (wrap64 (bits .and .u32 ((b : Int) / 1048576) 1) * 2048)) = ((nq74 b 2 : Nat) : Int) := by
  have g0 := fld_lt b 21 10; have g1 := fld_lt b 20 1; have g2 := fld_lt b 12 8; have g3 := fld_lt b 31 1
  simp only [show (2 : Nat) ^ 1 = 2 by decide, show (2 : Nat) ^ 8 = 256 by decide, show (2 : Nat) ^ 10 = 1024 by decide] at g0 g1 g2 g3
  rw [show bits .and .u32 ((b : Int) / 1048576) 1 = ((fld b 20 1 : Nat) : Int) from fld_and b 20 1 hb (by decide) 1048576 1 (by decide) (by decide), IntWalk.wrap64_in ((fld b 20 1 : Nat) : Int) (by omega), IntWalk.wrap64_in _ (by omega)]
  exact piece_eq (nq74 b 1) b 20 1 11 1048576 1 _ (fld b 20 1 * 2048) (by rw [show ((2 ^ 11 : Nat) : Int) = 2048 by decide] <;> omega) (by rw [show (2 : Nat) ^ 11 = 2048 by decide]) (by simp only [nq74, show (2 : Nat) ^ 11 = 2048 by decide] <;> omega) (by simp only [nq74] <;> omega)
theorem nq74_2 (b : Nat) (hb : b < 4294967296) : bits .or .i64 ((nq74 b 2 : Nat) : Int) (wrap64 (wrap64 (bits .and .u32 ((b : Int) / 4096) 255) * 4096)) = ((nq74 b 3 : Nat) : Int) := by
  have g0 := fld_lt b 21 10; have g1 := fld_lt b 20 1; have g2 := fld_lt b 12 8; have g3 := fld_lt b 31 1
  simp only [show (2 : Nat) ^ 1 = 2 by decide, show (2 : Nat) ^ 8 = 256 by decide, show (2 : Nat) ^ 10 = 1024 by decide] at g0 g1 g2 g3
  rw [show bits .and .u32 ((b : Int) / 4096) 255 = ((fld b 12 8 : Nat) : Int) from fld_and b 12 8 hb (by decide) 4096 255 (by decide) (by decide), IntWalk.wrap64_in ((fld b 12 8 : Nat) : Int) (by omega), IntWalk.wrap64_in _ (by omega)]
  exact piece_eq (nq74 b 2) b 12 8 12 4096 255 _ (fld b 12 8 * 4096) (by rw [show ((2 ^ 12 : Nat) : Int) = 4096 by decide] <;> omega) (by rw [show (2 : Nat) ^ 12 = 4096 by decide]) (by simp only [nq74, show (2 : Nat) ^ 12 = 4096 by decide] <;> omega) (by simp only [nq74] <;> omega)
theorem nq74_3 (b : Nat) (hb : b < 4294967296) : bits .or .i64 ((nq74 b 3 : Nat) : Int) (wrap64 (wrap64 (bits .and .u32 ((b : Int) / 2147483648) 1) * 1048576)) = ((nq74 b 4 : Nat) : Int) := by
  have g0 := fld_lt b 21 10; have g1 := fld_lt b 20 1; have g2 := fld_lt b 12 8; have g3 := fld_lt b 31 1
  simp only [show (2 : Nat) ^ 1 = 2 by decide, show (2 : Nat) ^ 8 = 256 by decide, show (2 : Nat) ^ 10 = 1024 by decide] at g0 g1 g2 g3
  rw [show bits .and .u32 ((b : Int) / 2147483648) 1 = ((fld b 31 1 : Nat) : Int) from fld_and b 31 1 hb (by decide) 2147483648 1 (by decide) (by decide), IntWalk.wrap64_in ((fld b 31 1 : Nat) : Int) (by omega), IntWalk.wrap64_in _ (by omega)]
  exact piece_eq (nq74 b 3) b 31 1 20 2147483648 1 _ (fld b 31 1 * 1048576) (by rw [show ((2 ^ 20 : Nat) : Int) = 1048576 by decide] <;> omega) (by rw [show (2 : Nat) ^ 20 = 1048576 by decide]) (by simp only [nq74, show (2 : Nat) ^ 20 = 1048576 by decide] <;> omega) (by simp only [nq74] <;> omega)
set_option maxRecDepth 100000 in
set_option maxHeartbeats 8000000 in
theorem immr_74 (s : ByteArray) (hs : s.size ≤ 100) (wo : Bool) (b : Nat) (hb : b < 4294967296) (hl : Hid (letterQ s = 74)) (w : World) : Calls Try.prog 31 #[.string s, .bool wo, .int .u32 b] w (RetI (endQ s b (imq74 b)) w) := by
  have F104 : Hid (bits .and .u32 ((b : Int) / 1048576) 63 = ((fld b 20 6 : Nat) : Int)) := fld_and b 20 6 hb (by decide) 1048576 63 (by decide) (by decide)
  have F122 : Hid (bits .and .u32 ((b : Int) / 32768) 31 = ((fld b 15 5 : Nat) : Int)) := fld_and b 15 5 hb (by decide) 32768 31 (by decide) (by decide)
  go_enter Try.func31, Try.ntmps31
  go_wp2_with fail
  refine (letter_c s hs _).mono ?_; rintro e w1 ⟨rfl, hb1⟩
  rw [hl.out]
  go_wp2_with fail
  refine (pieces_74 _).mono ?_; rintro e w2 ⟨B, rfl, hB, hB1, hB2, hb2⟩
  have hb12 : Below w.heap.size w w2 := below_step hb2 hb1 hb1.size
  have HB := Lib.hid hb
  clear hb
  go_wp2_with fail
  go_loopw [8, 9, 10] (fun n t i wr => ∃ k : Nat, k ≤ 4 ∧ i = .int .i64 k ∧ n = .int .i64 (nq74 b k : Nat) ∧ t = .int .i64 (tq74 k) ∧ Below w.heap.size w wr ∧ Below w2.heap.size w2 wr) (fun _ _ i _ => 4 - (intOf i).toNat)
  case atStart => exact ⟨0, by omega, rfl, rfl, rfl, hb12, Below.refl _ _⟩
  case round =>
    obtain ⟨k, hk, rfl, rfl, rfl, hbW, hbw⟩ := hrel
    have hN := nums_below hB hbw (by omega)
    have hk6 : k = 0 ∨ k = 1 ∨ k = 2 ∨ k = 3 ∨ k = 4 := by omega
    clear hk
    rcases hk6 with rfl | rfl | rfl | rfl | rfl
    · have t0 : tq74 0 = 0 := rfl
      have c0 : wr.cell? ⟨B, 0, none⟩ = some (.int .i64 21) := hN 0 (by decide)
      have c1 : wr.cell? ⟨B, 1, none⟩ = some (.int .i64 10) := hN 1 (by decide)
      have c2 : wr.cell? ⟨B, 2, none⟩ = some (.int .i64 1) := hN 2 (by decide)
      clear hN
      have SB := Lib.hid (nq74_0 b HB.out)
      go_wp2_with fail
      go_quiet (fail)
      go_wp2_with fail
      go_quiet (fail)
      go_wp2_with fail
      go_roundw
      case rel => exact ⟨1, by omega, by go_num, congrArg (Value.int .i64) SB.out, rfl, by first | exact below_drewQ hbW _ | exact below_drewQ (below_drewQ hbW _) _, by first | exact below_drewQ hbw _ | exact below_drewQ (below_drewQ hbw _) _⟩
      case measure => simp [intOf]
    · have t0 : tq74 1 = 11 := rfl
      have c0 : wr.cell? ⟨B, 3, none⟩ = some (.int .i64 20) := hN 3 (by decide)
      have c1 : wr.cell? ⟨B, 4, none⟩ = some (.int .i64 1) := hN 4 (by decide)
      have c2 : wr.cell? ⟨B, 5, none⟩ = some (.int .i64 11) := hN 5 (by decide)
      clear hN
      have SB := Lib.hid (nq74_1 b HB.out)
      go_wp2_with fail
      go_quiet (fail)
      go_wp2_with fail
      go_quiet (fail)
      go_wp2_with fail
      go_roundw
      case rel => exact ⟨2, by omega, by go_num, congrArg (Value.int .i64) SB.out, rfl, by first | exact below_drewQ hbW _ | exact below_drewQ (below_drewQ hbW _) _, by first | exact below_drewQ hbw _ | exact below_drewQ (below_drewQ hbw _) _⟩
      case measure => simp [intOf]
    · have t0 : tq74 2 = 12 := rfl
      have c0 : wr.cell? ⟨B, 6, none⟩ = some (.int .i64 12) := hN 6 (by decide)
      have c1 : wr.cell? ⟨B, 7, none⟩ = some (.int .i64 8) := hN 7 (by decide)
      have c2 : wr.cell? ⟨B, 8, none⟩ = some (.int .i64 12) := hN 8 (by decide)
      clear hN
      have SB := Lib.hid (nq74_2 b HB.out)
      go_wp2_with fail
      go_quiet (fail)
      go_wp2_with fail
      go_quiet (fail)
      go_wp2_with fail
      go_roundw
      case rel => exact ⟨3, by omega, by go_num, congrArg (Value.int .i64) SB.out, rfl, by first | exact below_drewQ hbW _ | exact below_drewQ (below_drewQ hbW _) _, by first | exact below_drewQ hbw _ | exact below_drewQ (below_drewQ hbw _) _⟩
      case measure => simp [intOf]
    · have t0 : tq74 3 = 20 := rfl
      have c0 : wr.cell? ⟨B, 9, none⟩ = some (.int .i64 31) := hN 9 (by decide)
      have c1 : wr.cell? ⟨B, 10, none⟩ = some (.int .i64 1) := hN 10 (by decide)
      have c2 : wr.cell? ⟨B, 11, none⟩ = some (.int .i64 20) := hN 11 (by decide)
      clear hN
      have SB := Lib.hid (nq74_3 b HB.out)
      go_wp2_with fail
      go_quiet (fail)
      go_wp2_with fail
      go_quiet (fail)
      go_wp2_with fail
      go_roundw
      case rel => exact ⟨4, by omega, by go_num, congrArg (Value.int .i64) SB.out, rfl, by first | exact below_drewQ hbW _ | exact below_drewQ (below_drewQ hbW _) _, by first | exact below_drewQ hbw _ | exact below_drewQ (below_drewQ hbw _) _⟩
      case measure => simp [intOf]
    · have t0 : tq74 4 = 21 := rfl
      clear hN
      have hlt := nq74_lt b 4 (by omega)
      simp only [show (2 : Nat) ^ 21 = 2097152 by decide] at hlt
      by_cases hsg : nq74 b 4 < 1048576
      · have HI : Hid (imq74 b = (nq74 b 4 : Int)) := by show _ = _; unfold imq74; rw [if_pos hsg]
        have SG : bits .and .i64 (((nq74 b 4 : Nat) : Int) / 1048576) 1 = 0 := by
          rw [show ((nq74 b 4 : Nat) : Int) / 1048576 = 0 by omega]; rfl
        cases h122 : hasQ s 122 with
        | true =>
          cases h104 : hasQ s 104 with
          | true =>
            have HE : Hid (endQ s b (imq74 b) = (fld b 15 5 : Int)) := by show _ = _; unfold endQ; rw [h122]; rfl
            have H1 := Lib.hid h104; have H2 := Lib.hid h122
            clear h104 h122
            go_wp2_with fail
            refine (has_c s hs 104 (by show _ < _; decide) _).mono ?_; rintro e w4 ⟨rfl, hb4⟩
            rw [H1.out]
            go_wp2_with fail
            refine (has_c s hs 122 (by show _ < _; decide) _).mono ?_; rintro e w5 ⟨rfl, hb5⟩
            rw [H2.out]
            go_wp2_with fail
            go_ret
            have L1 := fld_lt b 15 5; have L2 := fld_lt b 20 6
            simp only [show (2 : Nat) ^ 5 = 32 by decide, show (2 : Nat) ^ 6 = 64 by decide] at L1 L2
            refine retI_mk ?_ (below_step hb5 (below_step hb4 hbW hbW.size) (Nat.le_trans hbW.size (by have h5 := hb4.size; first | exact h5 | (simp only [sz_drew] at h5 ⊢; omega))))
            rw [HE.out]
            all_goals first | rfl | (rw [F122.out]; exact IntWalk.wrap64_in _ (by omega)) | (rw [F104.out]; exact IntWalk.wrap64_in _ (by omega)) | exact IntWalk.wrap64_in _ (by omega)
          | false =>
            have HE : Hid (endQ s b (imq74 b) = (fld b 15 5 : Int)) := by show _ = _; unfold endQ; rw [h122]; rfl
            have H1 := Lib.hid h104; have H2 := Lib.hid h122
            clear h104 h122
            go_wp2_with fail
            refine (has_c s hs 104 (by show _ < _; decide) _).mono ?_; rintro e w4 ⟨rfl, hb4⟩
            rw [H1.out]
            go_wp2_with fail
            refine (has_c s hs 122 (by show _ < _; decide) _).mono ?_; rintro e w5 ⟨rfl, hb5⟩
            rw [H2.out]
            go_wp2_with fail
            go_ret
            have L1 := fld_lt b 15 5; have L2 := fld_lt b 20 6
            simp only [show (2 : Nat) ^ 5 = 32 by decide, show (2 : Nat) ^ 6 = 64 by decide] at L1 L2
            refine retI_mk ?_ (below_step hb5 (below_step hb4 hbW hbW.size) (Nat.le_trans hbW.size (by have h5 := hb4.size; first | exact h5 | (simp only [sz_drew] at h5 ⊢; omega))))
            rw [HE.out]
            all_goals first | rfl | (rw [F122.out]; exact IntWalk.wrap64_in _ (by omega)) | (rw [F104.out]; exact IntWalk.wrap64_in _ (by omega)) | exact IntWalk.wrap64_in _ (by omega)
        | false =>
          cases h104 : hasQ s 104 with
          | true =>
            have HE : Hid (endQ s b (imq74 b) = (fld b 20 6 : Int)) := by show _ = _; unfold endQ; rw [h122, h104]; rfl
            have H1 := Lib.hid h104; have H2 := Lib.hid h122
            clear h104 h122
            go_wp2_with fail
            refine (has_c s hs 104 (by show _ < _; decide) _).mono ?_; rintro e w4 ⟨rfl, hb4⟩
            rw [H1.out]
            go_wp2_with fail
            refine (has_c s hs 122 (by show _ < _; decide) _).mono ?_; rintro e w5 ⟨rfl, hb5⟩
            rw [H2.out]
            go_wp2_with fail
            go_ret
            have L1 := fld_lt b 15 5; have L2 := fld_lt b 20 6
            simp only [show (2 : Nat) ^ 5 = 32 by decide, show (2 : Nat) ^ 6 = 64 by decide] at L1 L2
            refine retI_mk ?_ (below_step hb5 (below_step hb4 hbW hbW.size) (Nat.le_trans hbW.size (by have h5 := hb4.size; first | exact h5 | (simp only [sz_drew] at h5 ⊢; omega))))
            rw [HE.out]
            all_goals first | rfl | (rw [F122.out]; exact IntWalk.wrap64_in _ (by omega)) | (rw [F104.out]; exact IntWalk.wrap64_in _ (by omega)) | exact IntWalk.wrap64_in _ (by omega)
          | false =>
            have HE : Hid (endQ s b (imq74 b) = (nq74 b 4 : Int)) := by show _ = _; unfold endQ; rw [h122, h104]; exact Eq.trans rfl HI.out
            have H1 := Lib.hid h104; have H2 := Lib.hid h122
            clear h104 h122
            go_wp2_with fail
            refine (has_c s hs 104 (by show _ < _; decide) _).mono ?_; rintro e w4 ⟨rfl, hb4⟩
            rw [H1.out]
            go_wp2_with fail
            refine (has_c s hs 122 (by show _ < _; decide) _).mono ?_; rintro e w5 ⟨rfl, hb5⟩
            rw [H2.out]
            go_wp2_with fail
            go_ret
            have L1 := fld_lt b 15 5; have L2 := fld_lt b 20 6
            simp only [show (2 : Nat) ^ 5 = 32 by decide, show (2 : Nat) ^ 6 = 64 by decide] at L1 L2
            refine retI_mk ?_ (below_step hb5 (below_step hb4 hbW hbW.size) (Nat.le_trans hbW.size (by have h5 := hb4.size; first | exact h5 | (simp only [sz_drew] at h5 ⊢; omega))))
            rw [HE.out]
            all_goals first | rfl | (rw [F122.out]; exact IntWalk.wrap64_in _ (by omega)) | (rw [F104.out]; exact IntWalk.wrap64_in _ (by omega)) | exact IntWalk.wrap64_in _ (by omega)
      · have HI : Hid (imq74 b = (nq74 b 4 : Int) - 2097152) := by show _ = _; unfold imq74; rw [if_neg hsg]
        have SG : bits .and .i64 (((nq74 b 4 : Nat) : Int) / 1048576) 1 = 1 := by
          rw [show ((nq74 b 4 : Nat) : Int) / 1048576 = 1 by omega]; rfl
        cases h122 : hasQ s 122 with
        | true =>
          cases h104 : hasQ s 104 with
          | true =>
            have HE : Hid (endQ s b (imq74 b) = (fld b 15 5 : Int)) := by show _ = _; unfold endQ; rw [h122]; rfl
            have H1 := Lib.hid h104; have H2 := Lib.hid h122
            clear h104 h122
            go_wp2_with fail
            refine (has_c s hs 104 (by show _ < _; decide) _).mono ?_; rintro e w4 ⟨rfl, hb4⟩
            rw [H1.out]
            go_wp2_with fail
            refine (has_c s hs 122 (by show _ < _; decide) _).mono ?_; rintro e w5 ⟨rfl, hb5⟩
            rw [H2.out]
            go_wp2_with fail
            go_ret
            have L1 := fld_lt b 15 5; have L2 := fld_lt b 20 6
            simp only [show (2 : Nat) ^ 5 = 32 by decide, show (2 : Nat) ^ 6 = 64 by decide] at L1 L2
            refine retI_mk ?_ (below_step hb5 (below_step hb4 hbW hbW.size) (Nat.le_trans hbW.size (by have h5 := hb4.size; first | exact h5 | (simp only [sz_drew] at h5 ⊢; omega))))
            rw [HE.out]
            all_goals first | rfl | (rw [F122.out]; exact IntWalk.wrap64_in _ (by omega)) | (rw [F104.out]; exact IntWalk.wrap64_in _ (by omega)) | exact IntWalk.wrap64_in _ (by omega)
          | false =>
            have HE : Hid (endQ s b (imq74 b) = (fld b 15 5 : Int)) := by show _ = _; unfold endQ; rw [h122]; rfl
            have H1 := Lib.hid h104; have H2 := Lib.hid h122
            clear h104 h122
            go_wp2_with fail
            refine (has_c s hs 104 (by show _ < _; decide) _).mono ?_; rintro e w4 ⟨rfl, hb4⟩
            rw [H1.out]
            go_wp2_with fail
            refine (has_c s hs 122 (by show _ < _; decide) _).mono ?_; rintro e w5 ⟨rfl, hb5⟩
            rw [H2.out]
            go_wp2_with fail
            go_ret
            have L1 := fld_lt b 15 5; have L2 := fld_lt b 20 6
            simp only [show (2 : Nat) ^ 5 = 32 by decide, show (2 : Nat) ^ 6 = 64 by decide] at L1 L2
            refine retI_mk ?_ (below_step hb5 (below_step hb4 hbW hbW.size) (Nat.le_trans hbW.size (by have h5 := hb4.size; first | exact h5 | (simp only [sz_drew] at h5 ⊢; omega))))
            rw [HE.out]
            all_goals first | rfl | (rw [F122.out]; exact IntWalk.wrap64_in _ (by omega)) | (rw [F104.out]; exact IntWalk.wrap64_in _ (by omega)) | exact IntWalk.wrap64_in _ (by omega)
        | false =>
          cases h104 : hasQ s 104 with
          | true =>
            have HE : Hid (endQ s b (imq74 b) = (fld b 20 6 : Int)) := by show _ = _; unfold endQ; rw [h122, h104]; rfl
            have H1 := Lib.hid h104; have H2 := Lib.hid h122
            clear h104 h122
            go_wp2_with fail
            refine (has_c s hs 104 (by show _ < _; decide) _).mono ?_; rintro e w4 ⟨rfl, hb4⟩
            rw [H1.out]
            go_wp2_with fail
            refine (has_c s hs 122 (by show _ < _; decide) _).mono ?_; rintro e w5 ⟨rfl, hb5⟩
            rw [H2.out]
            go_wp2_with fail
            go_ret
            have L1 := fld_lt b 15 5; have L2 := fld_lt b 20 6
            simp only [show (2 : Nat) ^ 5 = 32 by decide, show (2 : Nat) ^ 6 = 64 by decide] at L1 L2
            refine retI_mk ?_ (below_step hb5 (below_step hb4 hbW hbW.size) (Nat.le_trans hbW.size (by have h5 := hb4.size; first | exact h5 | (simp only [sz_drew] at h5 ⊢; omega))))
            rw [HE.out]
            all_goals first | rfl | (rw [F122.out]; exact IntWalk.wrap64_in _ (by omega)) | (rw [F104.out]; exact IntWalk.wrap64_in _ (by omega)) | exact IntWalk.wrap64_in _ (by omega)
          | false =>
            have HE : Hid (endQ s b (imq74 b) = (nq74 b 4 : Int) - 2097152) := by show _ = _; unfold endQ; rw [h122, h104]; exact Eq.trans rfl HI.out
            have H1 := Lib.hid h104; have H2 := Lib.hid h122
            clear h104 h122
            go_wp2_with fail
            refine (has_c s hs 104 (by show _ < _; decide) _).mono ?_; rintro e w4 ⟨rfl, hb4⟩
            rw [H1.out]
            go_wp2_with fail
            refine (has_c s hs 122 (by show _ < _; decide) _).mono ?_; rintro e w5 ⟨rfl, hb5⟩
            rw [H2.out]
            go_wp2_with fail
            go_ret
            have L1 := fld_lt b 15 5; have L2 := fld_lt b 20 6
            simp only [show (2 : Nat) ^ 5 = 32 by decide, show (2 : Nat) ^ 6 = 64 by decide] at L1 L2
            refine retI_mk ?_ (below_step hb5 (below_step hb4 hbW hbW.size) (Nat.le_trans hbW.size (by have h5 := hb4.size; first | exact h5 | (simp only [sz_drew] at h5 ⊢; omega))))
            rw [HE.out]
            all_goals first | rfl | (rw [F122.out]; exact IntWalk.wrap64_in _ (by omega)) | (rw [F104.out]; exact IntWalk.wrap64_in _ (by omega)) | exact IntWalk.wrap64_in _ (by omega)
end Go.Proofs.Ytlohpakcikkdmaa
