/- Taken from other texts: what is needed of them. -/
import Derived.Test.YteinjalnkhfecaaQM
import Derived.Test.YteinjalnkhfecaaQK3
import Derived.BigQuiet
namespace Go.Proofs.Yteinjalnkhfecaa.Q
open Go.ChangeShapes Go.WideShapes Go.ChangeAt Go.RowKit
set_option linter.unusedVariables false
set_option linter.unusedSimpArgs false
theorem own_store {w : World} {base g n cap : Nat} {L : List Nat} (h : OwnU w base (.slice (some ⟨g, 0, none⟩) n cap) L) (j v : Nat) (hb : base ≤ w.heap.size) :
    OwnU (w.setCell ⟨g, j, none⟩ (.int .u32 v)) base (.slice (some ⟨g, 0, none⟩) n cap) (L.set j v) ∧ Below base w (w.setCell ⟨g, j, none⟩ (.int .u32 v)) := by
  obtain ⟨g', cap', he, hc⟩ := own_form h
  have hn : n = L.length := by cases he; rfl
  subst hn
  have hlt := own_lt h g rfl
  have hs := World.ownsRow.stored (w := w) h.1 j (.int .u32 (v : Int))
  refine ⟨⟨?_, by simp⟩, Below.grown (Below.refl _ _) hs.2 hb (fun k hk => by cases hk; exact hlt.1)⟩
  have e : cells32 (L.set j v) = (cells32 L).set j (.int .u32 (v : Int)) := by unfold cells32; rw [List.map_set]
  rw [List.length_set, e]; exact hs.1
theorem own_cell {w : World} {base g cap n O : Nat} (h : OwnU w base (.slice (some ⟨g, 0, none⟩) n cap) (digs n O)) (j : Nat) (hj : j < n) : w.cell? ⟨g, j, none⟩ = some (.int .u32 (dg O j : Nat)) := by
  have h1 := h.1
  rw [digs_len] at h1
  rw [World.ownsRow.cellAt (w := w) h1 j (by omega)]
  simp [cells32, digs, hj]
theorem own_frozen {w : World} {base g cap n O : Nat} (h : OwnU w base (.slice (some ⟨g, 0, none⟩) n cap) (digs n O)) (j : Nat) : w.frozen? ⟨g, j, none⟩ = false := by
  have h1 := h.1
  rw [digs_len] at h1
  exact World.ownsRow.frozenAt (w := w) h1 j
/-- One digit exchanged. -/
def setD (O p v : Nat) : Nat := O + v * 2 ^ (32 * p) - dg O p * 2 ^ (32 * p)
theorem split3 (O p : Nat) : O = shd O (p + 1) * 2 ^ (32 * (p + 1)) + dg O p * 2 ^ (32 * p) + O % 2 ^ (32 * p) := by
  have h1 := Nat.div_add_mod O (2 ^ (32 * p))
  have h2 := shd_dg O p
  rw [show shd O p = O / 2 ^ (32 * p) from rfl] at h2
  rw [h2, Nat.mul_add, show 2 ^ (32 * p) * (4294967296 * shd O (p + 1)) = shd O (p + 1) * 2 ^ (32 * (p + 1)) by
    rw [show 32 * (p + 1) = 32 * p + 32 by omega, Nat.pow_add]; rw [show (4294967296 : Nat) = 2 ^ 32 from rfl]; ac_rfl, Nat.mul_comm (2 ^ (32 * p)) (dg O p)] at h1
  exact h1.symm
theorem setD_form (O p v : Nat) : setD O p v = shd O (p + 1) * 2 ^ (32 * (p + 1)) + v * 2 ^ (32 * p) + O % 2 ^ (32 * p) := by
  have h := split3 O p
  unfold setD
  generalize dg O p * 2 ^ (32 * p) = x at *
  generalize v * 2 ^ (32 * p) = y at *
  generalize shd O (p + 1) * 2 ^ (32 * (p + 1)) = z at *
  generalize O % 2 ^ (32 * p) = u at *
  omega
theorem setD_add (O p v : Nat) : setD O p v + dg O p * 2 ^ (32 * p) = O + v * 2 ^ (32 * p) := by
  have h := split3 O p
  have h2 := setD_form O p v
  omega
theorem shd_form {H v L p : Nat} (hv : v < 4294967296) (hL : L < 2 ^ (32 * p)) : shd (H * 2 ^ (32 * (p + 1)) + v * 2 ^ (32 * p) + L) p = H * 4294967296 + v ∧ shd (H * 2 ^ (32 * (p + 1)) + v * 2 ^ (32 * p) + L) (p + 1) = H := by
  have e : shd (H * 2 ^ (32 * (p + 1)) + v * 2 ^ (32 * p) + L) p = H * 4294967296 + v := by
    unfold shd
    rw [show 32 * (p + 1) = 32 + 32 * p by omega, Nat.pow_add, ← Nat.mul_assoc, ← Nat.add_mul, Nat.add_comm _ L, Nat.add_mul_div_right _ _ (Nat.two_pow_pos _), Nat.div_eq_of_lt hL, Nat.zero_add]
  exact ⟨e, by rw [shd_succ, e]; omega⟩
theorem shd_more (A n k : Nat) : shd A (n + k) = shd (shd A n) k := by
  unfold shd; rw [Nat.div_div_eq_div_mul, ← Nat.pow_add]; congr 2; omega
theorem dg_low {X Y j p : Nat} (h : X % 2 ^ (32 * p) = Y % 2 ^ (32 * p)) (hj : j < p) : dg X j = dg Y j := by
  unfold dg shd
  rw [show (4294967296 : Nat) = 2 ^ 32 from rfl, ← Nat.mod_mul_right_div_self, ← Nat.mod_mul_right_div_self, ← Nat.pow_add, ← Nat.mod_mod_of_dvd X (Nat.pow_dvd_pow 2 (show 32 * j + 32 ≤ 32 * p by omega)), h, Nat.mod_mod_of_dvd Y (Nat.pow_dvd_pow 2 (show 32 * j + 32 ≤ 32 * p by omega))]
theorem setD_dg {O p v : Nat} (hv : v < 4294967296) (j : Nat) : dg (setD O p v) j = if j = p then v else dg O j := by
  rw [setD_form]
  have hl : O % 2 ^ (32 * p) < 2 ^ (32 * p) := Nat.mod_lt _ (Nat.two_pow_pos _)
  have hf := shd_form (H := shd O (p + 1)) hv hl
  by_cases h1 : j = p
  · subst h1; rw [if_pos rfl]; unfold dg; rw [hf.1]; omega
  · rw [if_neg h1]
    rcases Nat.lt_or_gt_of_ne h1 with h | h
    · refine dg_low ?_ h
      rw [show 32 * (p + 1) = 32 + 32 * p by omega, Nat.pow_add, ← Nat.mul_assoc, ← Nat.add_mul, Nat.add_comm _ (O % _), Nat.add_mul_mod_self_right, Nat.mod_mod]
    · obtain ⟨k, rfl⟩ : ∃ k, j = p + 1 + k := ⟨j - (p + 1), by omega⟩
      unfold dg; rw [shd_more _ (p + 1) k, hf.2, ← shd_more]
theorem set_digs (n O p v : Nat) (hp : p < n) (hv : v < 4294967296) : (digs n O).set p v = digs n (setD O p v) := by
  apply List.ext_getElem
  · simp [digs]
  · intro i h1 h2
    have hi : i < n := by simpa [digs] using h1
    rw [List.getElem_set]
    simp only [digs, List.getElem_map, List.getElem_range]
    rw [setD_dg hv]
    by_cases h : p = i
    · subst h; simp
    · rw [if_neg h, if_neg (fun e => h e.symm)]
theorem low_succ (B k : Nat) : B % 2 ^ (32 * (k + 1)) = B % 2 ^ (32 * k) + dg B k * 2 ^ (32 * k) := by
  rw [show 32 * (k + 1) = 32 * k + 32 by omega, Nat.pow_add, Nat.mod_mul, Nat.mul_comm (2 ^ (32 * k))]; rfl
theorem bit_cases (A j : Nat) : bitN A j = 0 ∨ bitN A j = 1 := by unfold bitN; omega
theorem mod_succ (A j : Nat) : A % 2 ^ (j + 1) = bitN A j * 2 ^ j + A % 2 ^ j := by
  unfold bitN; rw [Nat.pow_succ, Nat.mod_mul, Nat.mul_comm, Nat.add_comm]
theorem bit_top {A j : Nat} (h : A < 2 ^ (j + 1)) : A = bitN A j * 2 ^ j + A % 2 ^ j := by
  have := mod_succ A j; rw [Nat.mod_eq_of_lt h] at this; exact this
set_option maxHeartbeats 1000000 in
theorem len_c (g n cap A : Nat) (w : World) (h : Hid (IsRaw w g n cap A)) (hn : n ≤ 1000) :
    Calls Try.prog 98 #[.slice (some ⟨g, 0, none⟩) n cap] w (RetI0 (blen A) w) := by
  have hA : Hid (A < 2 ^ (32 * n)) := shd_eq_zero.1 h.out.2.2.2
  have e32 : 32 * (n : Int) = ((32 * n : Nat) : Int) := by omega
  have hN : 32 * n ≤ 32000 := by omega
  obtain ⟨nb, hnb⟩ : ∃ nb, nb = 32 * n := ⟨_, rfl⟩
  rw [← hnb] at e32 hA hN
  clear hnb
  go_enter Try.func98, Try.ntmps98
  go_wp2_with fail
  go_loopw [3] (fun i wr => ∃ k : Nat, k ≤ nb ∧ i = .int .i64 k ∧ Hid (A < 2 ^ k) ∧ w = wr) (fun i _ => (intOf i).toNat)
  case atStart => exact ⟨nb, Nat.le_refl _, by first | rfl | (congr 1; omega), hA, rfl⟩
  case round =>
    obtain ⟨k, hk, rfl, hs, rfl⟩ := hrel
    by_cases h0 : k = 0
    · subst h0
      have HB : Hid (blen A = 0) := by
        show _ = _
        have := hs.out; rw [Nat.pow_zero] at this
        rw [show A = 0 by omega]; rfl
      go_wp2_with fail
      go_ret
      exact retI0_mk (by simp [HB.out])
    · obtain ⟨j, rfl⟩ : ∃ j, k = j + 1 := ⟨k - 1, by omega⟩
      have e1 : (((j + 1 : Nat) : Int)) = (j : Int) + 1 := by omega
      rw [e1] at *
      have e2 : (j : Int) + 1 - 1 = (j : Int) := by omega
      have hb := bit_top hs.out
      have ha := bit_cases A j
      obtain ⟨b, hbb⟩ : ∃ b, b = bitN A j := ⟨_, rfl⟩
      have HBB := Lib.hid hbb
      rw [← hbb] at ha hb
      clear hbb
      by_cases hd : b = 0
      · have HZ : Hid (A < 2 ^ j) := by
          show _ < _; have := Nat.mod_lt A (Nat.two_pow_pos j); rw [hd] at hb; omega
        clear hb ha e1
        go_wp2_with (go_at_call 91; refine (bit_c g n cap A j _ h (by omega) (by omega)).mono ?_; rintro e w' ⟨rfl, rfl⟩; rw [← HBB.out, hd])
        go_roundw
        case rel => exact ⟨j, by omega, by first | rfl | (congr 1; omega), HZ, by trivial⟩
        case measure => first | (simp [intOf]; done) | (simp [intOf]; omega)
      · have hd1 : b = 1 := by omega
        have HL : Hid (blen A = j + 1) := by
          show _ = _
          have hp := Nat.two_pow_pos j
          rw [hd1, Nat.one_mul] at hb
          exact blen_of A j (by omega) (by omega) hs.out
        clear hb ha hd
        go_wp2_with (go_at_call 91; refine (bit_c g n cap A j _ h (by omega) (by omega)).mono ?_; rintro e w' ⟨rfl, rfl⟩; rw [← HBB.out, hd1])
        go_ret
        exact retI0_mk (by rw [HL.out]; omega)
def RetU0 (n : Nat) (W : World) (e : Ending) (w' : World) : Prop := e = .returned (.int .u64 n) ∧ w' = W
theorem retU0_mk {a : Int} {b : Nat} {W : World} (h : a = b) : RetU0 b W (.returned (.int .u64 a)) W := ⟨by rw [h], rfl⟩
set_option maxHeartbeats 1000000 in
theorem low_c (g n cap A : Nat) (w : World) (h : Hid (IsRaw w g n cap A)) (hn : n ≤ 100000) :
    Calls Try.prog 89 #[.slice (some ⟨g, 0, none⟩) n cap] w (RetU0 (A % 18446744073709551616) w) := by
  go_enter Try.func89, Try.ntmps89
  go_wp2_with fail
  go_loopw [3, 4] (fun y i wr => ∃ k x : Nat, k ≤ 2 ∧ k ≤ n ∧ i = .int .i64 k ∧ y = .int .u64 x ∧ Hid (x = A % 2 ^ (32 * k)) ∧ w = wr) (fun _ i _ => 2 - (intOf i).toNat)
  case atStart => exact ⟨0, 0, by decide, Nat.zero_le _, rfl, rfl, by show _ = _; rw [Nat.mul_zero, Nat.pow_zero, Nat.mod_one], rfl⟩
  case round =>
    obtain ⟨k, x, hk, hkn, rfl, rfl, hx, rfl⟩ := hrel
    by_cases h1 : k < n
    · have h1' : (k : Int) < (n : Int) := by omega
      by_cases h2 : k = 2
      · subst h2
        have HE : Hid (x = A % 18446744073709551616) := hx.out
        go_wp2_with fail
        go_ret
        exact retU0_mk (by rw [HE.out])
      · have ca := h.out.2.2.1 k h1
        have la := dg_lt A k
        have HX := low_succ A k
        rw [← hx.out] at HX
        have hxl : x < 2 ^ (32 * k) := by rw [hx.out]; exact Nat.mod_lt _ (Nat.two_pow_pos _)
        have HO := or_eq_add x (dg A k) (32 * k) hxl
        rw [← HO] at HX
        have HX' := Lib.hid HX; have HXL := Lib.hid hxl
        clear HX HO hxl
        generalize dg A k = da at *
        have hkk : k = 0 ∨ k = 1 := by omega
        rcases hkk with rfl | rfl
        · have HV : Hid (x < 1) := HXL.out
          have hxb : x < 18446744073709551616 := by have := HV.out; omega
          go_wp2_with fail
          go_roundw
          case rel => exact ⟨1, x ||| da * 2 ^ (32 * 0), by decide, by omega, rfl, by congr 1; rw [bits_or_u64_nat _ _ hxb (by omega)]; simp, HX'.out.symm, by trivial⟩
          case measure => first | (simp [intOf]; done) | (simp [intOf]; omega)
        · have HV : Hid (x < 4294967296) := HXL.out
          have hxb : x < 18446744073709551616 := by have := HV.out; omega
          go_wp2_with fail
          go_roundw
          case rel => exact ⟨2, x ||| da * 2 ^ (32 * 1), by decide, by omega, rfl, by congr 1; rw [show (da : Int) * 4294967296 = ((da * 4294967296 : Nat) : Int) by omega, bits_or_u64_nat _ _ hxb (by omega)], HX'.out.symm, by trivial⟩
          case measure => first | (simp [intOf]; done) | (simp [intOf]; omega)
    · obtain rfl : k = n := by omega
      have h1' : ¬ (k : Int) < (k : Int) := by omega
      have HE : Hid (x = A % 18446744073709551616) := by
        show _ = _
        have h3 := shd_eq_zero.1 h.out.2.2.2
        have h4 : A < 2 ^ (32 * 2) := Nat.lt_of_lt_of_le h3 (Nat.pow_le_pow_right (by decide) (by omega))
        rw [hx.out, Nat.mod_eq_of_lt h3, Nat.mod_eq_of_lt h4]
      go_wp2_with fail
      go_ret
      exact retU0_mk (by rw [HE.out])
end Go.Proofs.Yteinjalnkhfecaa.Q
