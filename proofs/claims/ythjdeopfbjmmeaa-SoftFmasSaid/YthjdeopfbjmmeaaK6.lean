/- The reference's Times. -/
import Derived.Test.YthjdeopfbjmmeaaK5
import Derived.BigQuiet
namespace Go.Proofs.Ythjdeopfbjmmeaa
open Go.ChangeShapes Go.WideShapes Go.ChangeAt Go.RowKit
set_option linter.unusedVariables false
set_option linter.unusedSimpArgs false
theorem own_store {w : World} {base g n cap : Nat} {L : List Nat} (h : OwnU w base (.slice (some ⟨g, 0, none⟩) n cap) L) (j v : Nat) (hb : base ≤ w.heap.size) :
    OwnU (w.setCell ⟨g, j, none⟩ (.int .u32 v)) base (.slice (some ⟨g, 0, none⟩) n cap) (L.set j v) ∧ Below base w (w.setCell ⟨g, j, none⟩ (.int .u32 v)) := by
  obtain ⟨g', cap', he, hc⟩ := own_form h
  have hn : n = L.length := by cases he; rfl
  subst hn
  have hlt := own_lt h g rfl
  have hs := World.ownsRow.stored (w := w) h.1 j (.int .u32 (v : Int))
  refine ⟨⟨?_, by simp⟩, Below.grown (Below.refl _ _) hs.2 hb (fun k hk => by cases hk; exact hlt.1)⟩
  have e : cells32 (L.set j v) = (cells32 L).set j (.int .u32 (v : Int)) := by unfold cells32; rw [List.map_set]
  rw [List.length_set, e]; exact hs.1
theorem own_cell {w : World} {base g cap n O : Nat} (h : OwnU w base (.slice (some ⟨g, 0, none⟩) n cap) (digs n O)) (j : Nat) (hj : j < n) : w.cell? ⟨g, j, none⟩ = some (.int .u32 (dg O j : Nat)) := by
  have h1 := h.1
  rw [digs_len] at h1
  rw [World.ownsRow.cellAt (w := w) h1 j (by omega)]
  simp [cells32, digs, hj]
theorem own_frozen {w : World} {base g cap n O : Nat} (h : OwnU w base (.slice (some ⟨g, 0, none⟩) n cap) (digs n O)) (j : Nat) : w.frozen? ⟨g, j, none⟩ = false := by
  have h1 := h.1
  rw [digs_len] at h1
  exact World.ownsRow.frozenAt (w := w) h1 j
/-- One digit exchanged. -/
def setD (O p v : Nat) : Nat := O + v * 2 ^ (32 * p) - dg O p * 2 ^ (32 * p)
theorem split3 (O p : Nat) : O = shd O (p + 1) * 2 ^ (32 * (p + 1)) + dg O p * 2 ^ (32 * p) + O % 2 ^ (32 * p) := by
  have h1 := Nat.div_add_mod O (2 ^ (32 * p))
  have h2 := shd_dg O p
  rw [show shd O p = O / 2 ^ (32 * p) from rfl] at h2
  rw [h2, Nat.mul_add, show 2 ^ (32 * p) * (4294967296 * shd O (p + 1)) = shd O (p + 1) * 2 ^ (32 * (p + 1)) by
    rw [show 32 * (p + 1) = 32 * p + 32 by omega, Nat.pow_add]; rw [show (4294967296 : Nat) = 2 ^ 32 from rfl]; ac_rfl, Nat.mul_comm (2 ^ (32 * p)) (dg O p)] at h1
  exact h1.symm
theorem setD_form (O p v : Nat) : setD O p v = shd O (p + 1) * 2 ^ (32 * (p + 1)) + v * 2 ^ (32 * p) + O % 2 ^ (32 * p) := by
  have h := split3 O p
  unfold setD
  generalize dg O p * 2 ^ (32 * p) = x at *
  generalize v * 2 ^ (32 * p) = y at *
  generalize shd O (p + 1) * 2 ^ (32 * (p + 1)) = z at *
  generalize O % 2 ^ (32 * p) = u at *
  omega
theorem setD_add (O p v : Nat) : setD O p v + dg O p * 2 ^ (32 * p) = O + v * 2 ^ (32 * p) := by
  have h := split3 O p
  have h2 := setD_form O p v
  omega
theorem shd_form {H v L p : Nat} (hv : v < 4294967296) (hL : L < 2 ^ (32 * p)) : shd (H * 2 ^ (32 * (p + 1)) + v * 2 ^ (32 * p) + L) p = H * 4294967296 + v ∧ shd (H * 2 ^ (32 * (p + 1)) + v * 2 ^ (32 * p) + L) (p + 1) = H := by
  have e : shd (H * 2 ^ (32 * (p + 1)) + v * 2 ^ (32 * p) + L) p = H * 4294967296 + v := by
    unfold shd
    rw [show 32 * (p + 1) = 32 + 32 * p by omega, Nat.pow_add, ← Nat.mul_assoc, ← Nat.add_mul, Nat.add_comm _ L, Nat.add_mul_div_right _ _ (Nat.two_pow_pos _), Nat.div_eq_of_lt hL, Nat.zero_add]
  exact ⟨e, by rw [shd_succ, e]; omega⟩
theorem shd_more (A n k : Nat) : shd A (n + k) = shd (shd A n) k := by
  unfold shd; rw [Nat.div_div_eq_div_mul, ← Nat.pow_add]; congr 2; omega
theorem dg_low {X Y j p : Nat} (h : X % 2 ^ (32 * p) = Y % 2 ^ (32 * p)) (hj : j < p) : dg X j = dg Y j := by
  unfold dg shd
  rw [show (4294967296 : Nat) = 2 ^ 32 from rfl, ← Nat.mod_mul_right_div_self, ← Nat.mod_mul_right_div_self, ← Nat.pow_add, ← Nat.mod_mod_of_dvd X (Nat.pow_dvd_pow 2 (show 32 * j + 32 ≤ 32 * p by omega)), h, Nat.mod_mod_of_dvd Y (Nat.pow_dvd_pow 2 (show 32 * j + 32 ≤ 32 * p by omega))]
theorem setD_dg {O p v : Nat} (hv : v < 4294967296) (j : Nat) : dg (setD O p v) j = if j = p then v else dg O j := by
  rw [setD_form]
  have hl : O % 2 ^ (32 * p) < 2 ^ (32 * p) := Nat.mod_lt _ (Nat.two_pow_pos _)
  have hf := shd_form (H := shd O (p + 1)) hv hl
  by_cases h1 : j = p
  · subst h1; rw [if_pos rfl]; unfold dg; rw [hf.1]; omega
  · rw [if_neg h1]
    rcases Nat.lt_or_gt_of_ne h1 with h | h
    · refine dg_low ?_ h
      rw [show 32 * (p + 1) = 32 + 32 * p by omega, Nat.pow_add, ← Nat.mul_assoc, ← Nat.add_mul, Nat.add_comm _ (O % _), Nat.add_mul_mod_self_right, Nat.mod_mod]
    · obtain ⟨k, rfl⟩ : ∃ k, j = p + 1 + k := ⟨j - (p + 1), by omega⟩
      unfold dg; rw [shd_more _ (p + 1) k, hf.2, ← shd_more]
theorem set_digs (n O p v : Nat) (hp : p < n) (hv : v < 4294967296) : (digs n O).set p v = digs n (setD O p v) := by
  apply List.ext_getElem
  · simp [digs]
  · intro i h1 h2
    have hi : i < n := by simpa [digs] using h1
    rw [List.getElem_set]
    simp only [digs, List.getElem_map, List.getElem_range]
    rw [setD_dg hv]
    by_cases h : p = i
    · subst h; simp
    · rw [if_neg h, if_neg (fun e => h e.symm)]
/-- What stands in the product's row within a round. -/
def TInv (A B i k c O : Nat) : Prop := O + c * 2 ^ (32 * (i + k)) = A % 2 ^ (32 * i) * B + dg A i * (B % 2 ^ (32 * k)) * 2 ^ (32 * i) ∧ c < 4294967296
theorem low_succ (B k : Nat) : B % 2 ^ (32 * (k + 1)) = B % 2 ^ (32 * k) + dg B k * 2 ^ (32 * k) := by
  rw [show 32 * (k + 1) = 32 * k + 32 by omega, Nat.pow_add, Nat.mod_mul, Nat.mul_comm (2 ^ (32 * k))]; rfl
theorem times_step {A B i k c O nb : Nat} (h : TInv A B i k c O) (hB : B < 2 ^ (32 * nb)) :
    (dg O (i + k) + c + dg A i * dg B k) % 4294967296 < 4294967296 ∧ TInv A B i (k + 1) ((dg O (i + k) + c + dg A i * dg B k) / 4294967296) (setD O (i + k) ((dg O (i + k) + c + dg A i * dg B k) % 4294967296)) := by
  obtain ⟨h1, h2⟩ := h
  have l1 := dg_lt O (i + k); have l2 := dg_lt A i; have l3 := dg_lt B k
  have l4 : dg A i * dg B k ≤ 4294967295 * 4294967295 := Nat.mul_le_mul (by omega) (by omega)
  have hs := setD_add O (i + k) ((dg O (i + k) + c + dg A i * dg B k) % 4294967296)
  refine ⟨Nat.mod_lt _ (by decide), ?_, by omega⟩
  have e1 : dg A i * (dg B k * 2 ^ (32 * k)) * 2 ^ (32 * i) = dg A i * dg B k * 2 ^ (32 * (i + k)) := by
    rw [show 32 * (i + k) = 32 * k + 32 * i by omega, Nat.pow_add]; ac_rfl
  rw [low_succ, Nat.mul_add (dg A i) (B % 2 ^ (32 * k)) _, Nat.add_mul (dg A i * (B % 2 ^ (32 * k))) _ _, ← Nat.add_assoc (A % 2 ^ (32 * i) * B), ← h1, e1]
  generalize dg O (i + k) = d at *
  generalize dg A i * dg B k = x at *
  have e2 : 2 ^ (32 * (i + (k + 1))) = 4294967296 * 2 ^ (32 * (i + k)) := by
    rw [show 32 * (i + (k + 1)) = 32 + 32 * (i + k) by omega, Nat.pow_add]
  rw [e2]
  generalize 2 ^ (32 * (i + k)) = P at *
  have e3 : (d + c + x) / 4294967296 * (4294967296 * P) + (d + c + x) % 4294967296 * P = (d + c + x) * P := by
    rw [← Nat.mul_assoc, ← Nat.add_mul, Nat.mul_comm _ 4294967296, Nat.div_add_mod]
  rw [Nat.add_mul, Nat.add_mul] at e3
  omega
theorem wrap_in (n : Nat) (h : n < 18446744073709551616) : IntKind.u64.wrap (n : Int) = (n : Int) := by rw [wrapN, Nat.mod_eq_of_lt h]
theorem times_num {A B i k c O nb : Nat} (h : TInv A B i k c O) (hB : B < 2 ^ (32 * nb)) :
    ∃ s m n : Nat, (dg O (i + k) : Int) + (c : Int) = (s : Int) ∧ IntKind.u64.wrap (s : Int) = (s : Int) ∧ (dg A i : Int) * (dg B k : Int) = (m : Int) ∧ IntKind.u64.wrap (m : Int) = (m : Int) ∧
      (s : Int) + (m : Int) = (n : Int) ∧ IntKind.u64.wrap (n : Int) = (n : Int) ∧ n < 18446744073709551616 ∧ TInv A B i (k + 1) (n / 4294967296) (setD O (i + k) (n % 4294967296)) := by
  have l1 := dg_lt O (i + k); have l2 := dg_lt A i; have l3 := dg_lt B k; have l5 := h.2
  have l4 : dg A i * dg B k ≤ 4294967295 * 4294967295 := Nat.mul_le_mul (by omega) (by omega)
  have hs := (times_step h hB).2
  refine ⟨dg O (i + k) + c, dg A i * dg B k, dg O (i + k) + c + dg A i * dg B k, by omega, wrap_in _ (by omega), by simp, wrap_in _ (by omega), by omega, wrap_in _ (by omega), by omega, hs⟩
theorem times_end {A B i k O nb : Nat} (h : TInv A B i k 0 O) (hB : B < 2 ^ (32 * nb)) (hk : nb ≤ k) : O = A % 2 ^ (32 * (i + 1)) * B := by
  obtain ⟨h1, -⟩ := h
  rw [Nat.mod_eq_of_lt (Nat.lt_of_lt_of_le hB (Nat.pow_le_pow_right (by decide) (by omega)))] at h1
  rw [low_succ, Nat.add_mul]
  rw [Nat.zero_mul, Nat.add_zero] at h1
  rw [h1]; congr 1; ac_rfl
theorem times_room {A B i k c O nb : Nat} (h : TInv A B i k c O) (hB : B < 2 ^ (32 * nb)) (hc : c ≠ 0) (hk : nb ≤ k) : k = nb := by
  obtain ⟨h1, -⟩ := h
  rw [Nat.mod_eq_of_lt (Nat.lt_of_lt_of_le hB (Nat.pow_le_pow_right (by decide) (by omega)))] at h1
  have e : A % 2 ^ (32 * i) * B + dg A i * B * 2 ^ (32 * i) = A % 2 ^ (32 * (i + 1)) * B := by rw [low_succ, Nat.add_mul]; congr 1; ac_rfl
  rw [e] at h1
  apply Classical.byContradiction
  intro hne
  have h3 : A % 2 ^ (32 * (i + 1)) < 2 ^ (32 * (i + 1)) := Nat.mod_lt _ (Nat.two_pow_pos _)
  have h4 : A % 2 ^ (32 * (i + 1)) * B < 2 ^ (32 * (i + 1)) * 2 ^ (32 * nb) := Nat.mul_lt_mul'' h3 hB
  rw [← Nat.pow_add] at h4
  have h5 : 2 ^ (32 * (i + 1) + 32 * nb) ≤ 2 ^ (32 * (i + k)) := Nat.pow_le_pow_right (by decide) (by omega)
  have h6 : 2 ^ (32 * (i + k)) ≤ c * 2 ^ (32 * (i + k)) := Nat.le_mul_of_pos_left _ (by omega)
  omega
set_option maxHeartbeats 4000000 in
theorem times_c (ga na pa A gb nb pb B : Nat) (w : World) (ha : Hid (IsRaw w ga na pa A)) (hb : Hid (IsRaw w gb nb pb B)) (hna : na ≤ 400) (hnb : nb ≤ 400) :
    Calls Try.prog 50 #[.slice (some ⟨ga, 0, none⟩) na pa, .slice (some ⟨gb, 0, none⟩) nb pb] w (RetG (A * B) w) := by
  obtain ⟨nn, hnn⟩ : ∃ nn, nn = na + nb := ⟨_, rfl⟩
  have hnni : (na : Int) + (nb : Int) = (nn : Int) := by omega
  have hn8 : nn ≤ 800 := by omega
  have HNN := Lib.hid hnn; clear hnn
  have hB : Hid (B < 2 ^ (32 * nb)) := shd_eq_zero.1 hb.out.2.2.2
  have hA : Hid (A < 2 ^ (32 * na)) := shd_eq_zero.1 ha.out.2.2.2
  go_enter Try.func50, Try.ntmps50
  go_wp2_with (refine make_u rfl (.tmp 14) (.tmp 14) rfl w.heap.size nn _ _ rfl rfl (by first | rfl | omega) (by first | rfl | omega) (by omega) (Nat.le_refl _) ?_; intro w1 q1 q2 q3)
  have Q0 : Hid (OwnU w1 w.heap.size (.slice (some ⟨w.heap.size, 0, none⟩) nn nn) (digs nn 0)) := by show OwnU _ _ _ _; rw [← zeros_digs (q := nn) (A := 0) (by simp)]; exact q1
  clear q1
  go_wp2_with fail
  go_loopw [6] (fun i wr => ∃ k : Nat, k ≤ na ∧ i = .int .i64 k ∧ Hid (OwnU wr w.heap.size (.slice (some ⟨w.heap.size, 0, none⟩) nn nn) (digs nn (A % 2 ^ (32 * k) * B))) ∧ Below w.heap.size w wr) (fun i _ => na - (intOf i).toNat)
  case atStart => exact ⟨0, Nat.zero_le _, rfl, by show OwnU _ _ _ _; rw [Nat.mul_zero, Nat.pow_zero, Nat.mod_one, Nat.zero_mul]; exact Q0.out, q2⟩
  case round =>
    clear q2 q3 Q0
    obtain ⟨i, hi, rfl, hL0, hbw0⟩ := hrel
    by_cases hlt : i < na
    · have hlt' : (i : Int) < (na : Int) := by omega
      go_wp2_with fail
      go_loopw [7, 8] (fun y j wr => ∃ k c O : Nat, k ≤ nb + 1 ∧ j = .int .i64 k ∧ y = .int .u64 c ∧ Hid (TInv A B i k c O) ∧ Hid (OwnU wr w.heap.size (.slice (some ⟨w.heap.size, 0, none⟩) nn nn) (digs nn O)) ∧ Below w.heap.size w wr) (fun _ j _ => nb + 1 - (intOf j).toNat)
      case atStart => exact ⟨0, 0, _, Nat.zero_le _, rfl, rfl, ⟨by rw [Nat.zero_mul, Nat.mul_zero, Nat.pow_zero, Nat.mod_one, Nat.mul_zero, Nat.zero_mul], by decide⟩, hL0, hbw0⟩
      case round =>
        clear hL0 hbw0
        obtain ⟨k, c, O, hk, rfl, rfl, hc, hL, hbw⟩ := hrel
        by_cases hkb : k < nb
        · skip
          have m1 : wrap64 ((k : Int) + 1) = (k : Int) + 1 := IntWalk.wrap64_in _ (by omega)
          have hp8 : i + k ≤ 800 := by omega
          have m3 : wrap64 ((i + k : Nat) : Int) = ((i + k : Nat) : Int) := IntWalk.wrap64_in _ (by omega)
          have htb : (k : Int) < (nb : Int) := by omega
          have hp : (i : Int) + (k : Int) = ((i + k : Nat) : Int) := by omega
          have hpn : ((i + k : Nat) : Int) < (nn : Int) := by omega
          have ho := own_cell hL.out (i + k) (by omega)
          have hfz := own_frozen hL.out (i + k)
          have ca := (raw_below ha.out hbw (Nat.le_refl _)).2.2.1 i (by omega)
          have cb := (raw_below hb.out hbw (Nat.le_refl _)).2.2.1 k (by omega)
          have hz := hbw.size
          have HN := times_num hc.out hB.out
          obtain ⟨s, mm, n, e1, e2, e3, e4, e5, e6, e7, HI⟩ := HN
          have HI' := Lib.hid HI; have HE7 := Lib.hid e7
          have d1 := wrap_in (dg O (i + k)) (by have := dg_lt O (i + k); omega)
          have d2 := wrap_in (dg A i) (by have := dg_lt A i; omega); have d3 := wrap_in (dg B k) (by have := dg_lt B k; omega)
          have HV : Hid (IntKind.u64.wrap (IntKind.u64.wrap (IntKind.u64.wrap (dg O (i + k) : Int) + (c : Int)) + IntKind.u64.wrap (IntKind.u64.wrap (dg A i : Int) * IntKind.u64.wrap (dg B k : Int))) = (n : Int)) := by show _ = _; rw [d1, d2, d3, e1, e2, e3, e4, e5, e6]
          clear d2 d3 e3 e4 e5
          clear HI e7 e1 e2 e6 d1
          generalize dg O (i + k) = dd at *
          generalize dg A i = da at *
          generalize dg B k = db at *
          generalize i + k = p at *
          clear hlt hkb hp8
          go_wp2_with fail
          go_quiet (fail)
          have hbq := below_drewN hbw nq
          have ho2 : (wr.drewN nq).cell? ⟨w.heap.size, p, none⟩ = some (.int .u32 dd) := ho
          have hfz2 : (wr.drewN nq).frozen? ⟨w.heap.size, p, none⟩ = false := hfz
          have hL2 : Hid (OwnU (wr.drewN nq) w.heap.size (.slice (some ⟨w.heap.size, 0, none⟩) nn nn) (digs nn O)) := hL.out
          have hz2 : w.heap.size ≤ (wr.drewN nq).heap.size := hz
          generalize wr.drewN nq = wq at *
          go_wp2_with fail
          rw [HV.out]
          have HW := own_store hL2.out p (n % 4294967296) hz2
          have Q0 := HW.1
          rw [set_digs _ _ _ _ (by omega) (Nat.mod_lt _ (by decide))] at Q0
          have Q1 := Lib.hid Q0; clear Q0
          have r1 := below_step HW.2 hbq (Nat.le_refl _)
          clear HW
          go_roundw
          case rel => exact ⟨k + 1, n / 4294967296, setD O p (n % 4294967296), by omega, by first | rfl | (congr 1; omega), by first | rfl | (congr 1; omega) | simp, HI'.out, Q1, r1⟩
          case measure => first | (simp [intOf]; done) | (simp [intOf]; omega)
        · by_cases hc0 : c = 0
          · subst hc0
            have htb : ¬ (k : Int) < (nb : Int) := by omega
            have HE : Hid (O = A % 2 ^ (32 * (i + 1)) * B) := times_end hc.out hB.out (by omega)
            have m2 : wrap64 ((i : Int) + 1) = (i : Int) + 1 := IntWalk.wrap64_in _ (by omega)
            have Q1 : Hid (OwnU wr w.heap.size (.slice (some ⟨w.heap.size, 0, none⟩) nn nn) (digs nn (A % 2 ^ (32 * (i + 1)) * B))) := by show OwnU _ _ _ _; rw [← HE.out]; exact hL.out
            clear hL hc hkb
            go_wp2_with fail
            go_roundw
            case rel => exact ⟨i + 1, by omega, by first | rfl | (congr 1; omega), Q1, hbw⟩
            case measure => first | (simp [intOf]; done) | (simp [intOf]; omega)
          · have hkk : k ≤ nb := by have := times_room hc.out hB.out hc0 (by omega); omega
            have hcp : (0 : Int) < (c : Int) := by omega
            have m1 : wrap64 ((k : Int) + 1) = (k : Int) + 1 := IntWalk.wrap64_in _ (by omega)
            have hp8 : i + k ≤ 800 := by omega
            have m3 : wrap64 ((i + k : Nat) : Int) = ((i + k : Nat) : Int) := IntWalk.wrap64_in _ (by omega)
            have htb : ¬ (k : Int) < (nb : Int) := by omega
            have hp : (i : Int) + (k : Int) = ((i + k : Nat) : Int) := by omega
            have hpn : ((i + k : Nat) : Int) < (nn : Int) := by omega
            have ho := own_cell hL.out (i + k) (by omega)
            have hfz := own_frozen hL.out (i + k)
            have hz := hbw.size
            have HN := times_num hc.out hB.out
            rw [dg_zero (shd_mono0 hb.out.2.2.2 (show nb ≤ k by omega))] at HN
            obtain ⟨s, mm, n, e1, e2, e3, e4, e5, e6, e7, HI⟩ := HN
            obtain rfl : mm = 0 := by have e9 := e3; simp at e9; omega
            obtain rfl : n = s := by omega
            have HI' := Lib.hid HI; have HE7 := Lib.hid e7
            have d1 := wrap_in (dg O (i + k)) (by have := dg_lt O (i + k); omega)
            have HV : Hid (IntKind.u64.wrap (IntKind.u64.wrap (dg O (i + k) : Int) + (c : Int)) = (n : Int)) := by show _ = _; rw [d1, e1, e2]
            clear e3 e4 e5
            clear HI e7 e1 e2 e6 d1
            generalize dg O (i + k) = dd at *
            generalize i + k = p at *
            have hbq := hbw; have hL2 := hL; have hz2 := hz
            clear hlt hp8
            go_wp2_with fail
            rw [HV.out]
            have HW := own_store hL2.out p (n % 4294967296) hz2
            have Q0 := HW.1
            rw [set_digs _ _ _ _ (by omega) (Nat.mod_lt _ (by decide))] at Q0
            have Q1 := Lib.hid Q0; clear Q0
            have r1 := below_step HW.2 hbq (Nat.le_refl _)
            clear HW
            go_roundw
            case rel => exact ⟨k + 1, n / 4294967296, setD O p (n % 4294967296), by omega, by first | rfl | (congr 1; omega), by first | rfl | (congr 1; omega) | simp, HI'.out, Q1, r1⟩
            case measure => first | (simp [intOf]; done) | (simp [intOf]; omega)
    · obtain rfl : i = na := by omega
      have hlt' : ¬ (i : Int) < (i : Int) := by omega
      have HM : Hid (A % 2 ^ (32 * i) * B = A * B) := by show _ = _; rw [Nat.mod_eq_of_lt hA.out]
      have HZ : shd (A * B) nn = 0 := by
        rw [shd_eq_zero, HNN.out, Nat.mul_add, Nat.pow_add]; exact Nat.mul_lt_mul'' hA.out hB.out
      rw [HM.out] at hL0
      obtain ⟨g2, cap2, hv, hR⟩ := own_raw hL0.out HZ
      have hg2 : w.heap.size = g2 ∧ nn = cap2 := by cases hv; exact ⟨rfl, rfl⟩
      rw [← hg2.1, ← hg2.2] at hR
      have HR := Lib.hid hR
      clear hR hv hg2 HZ hlt
      go_wp2_with fail
      refine (trim_c w.heap.size nn nn (A * B) _ HR (by omega)).mono ?_
      rintro e w2 ⟨⟨g1, n1, p1, rfl, hB1, hb1⟩, rfl⟩
      go_wp2_with fail
      go_ret
      exact ⟨g1, n1, p1, rfl, hB1, hbw0⟩
end Go.Proofs.Ythjdeopfbjmmeaa
