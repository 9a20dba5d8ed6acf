/- Taken from other texts: what is needed of them. -/
import Derived.Test.YteinjalnkhfecaaQA
import Derived.Test.YteinjalnkhfecaaQB
import Derived.Test.YteinjalnkhfecaaQK3
import Derived.Test.YteinjalnkhfecaaQK6
import Derived.StillTailTactics
import Derived.Deep.DeepCutAuto
namespace Go.Proofs.Yteinjalnkhfecaa.Q
open Go.ChangeShapes Go.WideShapes Go.ChangeAt Go.RowKit
set_option linter.unusedVariables false
set_option linter.unusedSimpArgs false
def RetGB (A : Nat) (b : Bool) (W : World) (e : Ending) (w' : World) : Prop := ∃ g n cap : Nat, e = .returned (.tuple #[.slice (some ⟨g, 0, none⟩) n cap, .bool b]) ∧ Hid (IsBig w' g n cap A) ∧ Below W.heap.size W w'
theorem cell_far {w : World} {b o b' o' : Nat} {v : Value} (h : b ≠ b') : (w.setCell ⟨b, o, none⟩ v).cell? ⟨b', o', none⟩ = w.cell? ⟨b', o', none⟩ :=
  World.cell?_setCell_other _ _ _ _ (by intro e; cases e; exact h rfl)
/-- The first j bits of a quotient, in as many digits as they take. -/
def lows (Q j : Nat) : List Nat := digs ((j + 31) / 32) (Q % 2 ^ j)
theorem lows_mk {w : World} {base : Nat} {v : Value} {Q j L : Nat} (hL : L = (j + 31) / 32) (h : OwnU w base v (digs L (Q % 2 ^ j))) : OwnU w base v (lows Q j) := by
  unfold lows; rw [← hL]; exact h
theorem zero_step (A k : Nat) (z : Bool) (hz : z = decide (A % 2 ^ k = 0)) : (z && decide (bitN A k = 0)) = decide (A % 2 ^ (k + 1) = 0) := by
  subst hz
  rw [mod_succ]
  have hp := Nat.two_pow_pos k
  have hb : bitN A k = 0 ∨ bitN A k = 1 := bit_cases A k
  rw [Bool.eq_iff_iff]
  simp only [Bool.and_eq_true, decide_eq_true_eq]
  rcases hb with h | h <;> rw [h] <;> omega
theorem wrapI_in (x : Int) (h1 : 0 ≤ x) (h2 : x < 9223372036854775808) : IntKind.i64.wrap x = x := by rw [IntKind.wrap_i64]; omega
theorem or32 {c b r : Nat} (hr : r < 32) (hc : c < 2 ^ r) (hb : b ≤ 1) : bits .or .u32 (c : Int) ((b : Int) * 2 ^ r % 4294967296) = ((c + b * 2 ^ r : Nat) : Int) := by
  have h1 : 2 ^ r ≤ 2 ^ 31 := Nat.pow_le_pow_right (by decide) (by omega)
  have h2 : b * 2 ^ r ≤ 1 * 2 ^ r := Nat.mul_le_mul_right _ hb
  have e : (b : Int) * 2 ^ r % 4294967296 = ((b * 2 ^ r : Nat) : Int) := by
    rw [show (b : Int) * 2 ^ r = ((b * 2 ^ r : Nat) : Int) by simp]; omega
  rw [e, u32_or_nat _ _ (by omega) (by omega), or_eq_add _ _ _ hc]
theorem low_bit {Q q r : Nat} (hr : r < 32) : dg (Q % 2 ^ (32 * q + r)) q < 2 ^ r ∧ setD (Q % 2 ^ (32 * q + r)) q (dg (Q % 2 ^ (32 * q + r)) q + bitN Q (32 * q + r) * 2 ^ r) = Q % 2 ^ (32 * q + r + 1) := by
  have hlt : Q % 2 ^ (32 * q + r) < 2 ^ (32 * q + r) := Nat.mod_lt _ (Nat.two_pow_pos _)
  refine ⟨?_, ?_⟩
  · unfold dg shd
    refine Nat.lt_of_le_of_lt (Nat.mod_le _ _) ?_
    rw [Nat.div_lt_iff_lt_mul (Nat.two_pow_pos _), ← Nat.pow_add, Nat.add_comm r]; exact hlt
  · have h1 := setD_add (Q % 2 ^ (32 * q + r)) q (dg (Q % 2 ^ (32 * q + r)) q + bitN Q (32 * q + r) * 2 ^ r)
    rw [mod_succ Q (32 * q + r)]
    rw [Nat.add_mul, Nat.mul_assoc, ← Nat.pow_add, Nat.add_comm r (32 * q)] at h1
    omega
theorem low_sum {r d b : Nat} (hr : r < 32) (hd : d < 2 ^ r) (hb : b ≤ 1) : d + b * 2 ^ r < 4294967296 := by
  have h1 : 2 ^ r ≤ 2 ^ 31 := Nat.pow_le_pow_right (by decide) (by omega)
  have h2 : b * 2 ^ r ≤ 1 * 2 ^ r := Nat.mul_le_mul_right _ hb
  omega
theorem bit_down (A s j : Nat) : bitN A (s + j) = bitN (A / 2 ^ s) j := by unfold bitN; rw [Nat.div_div_eq_div_mul, ← Nat.pow_add]
set_option maxRecDepth 100000 in
set_option maxHeartbeats 4000000 in
theorem down_c (ga na pa A s : Nat) (w : World) (ha : Hid (IsRaw w ga na pa A)) (hna : na ≤ 300) (hs : s ≤ 20000) :
    Calls Try.prog 90 #[.slice (some ⟨ga, 0, none⟩) na pa, .int .i64 s] w (RetGB (A / 2 ^ s) (decide (A % 2 ^ s = 0)) w) := by
  have hA : Hid (A < 2 ^ (32 * na)) := shd_eq_zero.1 ha.out.2.2.2
  have e32 : 32 * (na : Int) = ((32 * na : Nat) : Int) := by omega
  have hN : 32 * na ≤ 9600 := by omega
  obtain ⟨nb, hnb⟩ : ∃ nb, nb = 32 * na := ⟨_, rfl⟩
  rw [← hnb] at e32 hA hN
  have HNB := Lib.hid hnb
  clear hnb
  go_enter Try.func90, Try.ntmps90
  go_wp2_with fail
  go_loopw [6, 7] (fun y i wr => ∃ (k : Nat) (z : Bool), k ≤ s ∧ (k ≤ nb ∨ k = 0) ∧ i = .int .i64 k ∧ y = .bool z ∧ Hid (z = decide (A % 2 ^ k = 0)) ∧ w = wr) (fun _ i _ => s - (intOf i).toNat)
  case atStart => exact ⟨0, true, Nat.zero_le _, .inr rfl, rfl, rfl, by show _ = _; rw [Nat.pow_zero, Nat.mod_one]; rfl, rfl⟩
  case round =>
    obtain ⟨k, z, hks, hkn, rfl, rfl, hz, rfl⟩ := hrel
    by_cases h1 : k < s ∧ k < nb
    · have t1 : (k : Int) < (s : Int) := by omega
      have t2 : (k : Int) < (nb : Int) := by omega
      have m1 : wrap64 ((k : Int) + 1) = (k : Int) + 1 := IntWalk.wrap64_in _ (by omega)
      have hk2 : k ≤ 20000 := by omega
      have HZ := zero_step A k z hz.out
      have hb := bit_cases A k
      obtain ⟨b, hbb⟩ : ∃ b, b = bitN A k := ⟨_, rfl⟩
      have HBB := Lib.hid hbb
      rw [← hbb] at HZ hb
      have HZ' := Lib.hid HZ
      clear HZ hbb
      have hks' : k + 1 ≤ s := by omega
      have hkn' : k + 1 ≤ nb := by omega
      clear h1 hkn
      cases z
      · go_wp2_with fail
        go_roundw
        case rel => exact ⟨k + 1, false, hks', .inl hkn', by first | rfl | (congr 1; omega), rfl, HZ'.out, by trivial⟩
        case measure => first | (simp [intOf]; done) | (simp [intOf]; omega)
      · rcases hb with rfl | rfl
        · go_wp2_with (go_at_call 91; refine (bit_c ga na pa A k _ ha (by omega) (by omega)).mono ?_; rintro e w' ⟨rfl, rfl⟩; rw [← HBB.out])
          go_roundw
          case rel => exact ⟨k + 1, true, hks', .inl hkn', by first | rfl | (congr 1; omega), rfl, HZ'.out, by trivial⟩
          case measure => first | (simp [intOf]; done) | (simp [intOf]; omega)
        · go_wp2_with (go_at_call 91; refine (bit_c ga na pa A k _ ha (by omega) (by omega)).mono ?_; rintro e w' ⟨rfl, rfl⟩; rw [← HBB.out])
          go_roundw
          case rel => exact ⟨k + 1, false, hks', .inl hkn', by first | rfl | (congr 1; omega), rfl, HZ'.out, by trivial⟩
          case measure => first | (simp [intOf]; done) | (simp [intOf]; omega)
    · have HE : Hid (z = decide (A % 2 ^ s = 0)) := by
        show _ = _
        rw [hz.out]
        by_cases h2 : k = s
        · rw [h2]
        · have h3 : nb ≤ k := by omega
          have e1 : A < 2 ^ k := Nat.lt_of_lt_of_le hA.out (Nat.pow_le_pow_right (by decide) h3)
          have e2 : A < 2 ^ s := Nat.lt_of_lt_of_le e1 (Nat.pow_le_pow_right (by decide) hks)
          rw [Nat.mod_eq_of_lt e1, Nat.mod_eq_of_lt e2]
      by_cases h2 : k = s
      · have hout : ¬ (k : Int) < (s : Int) := by omega
        clear hz hkn h1 h2
        go_wp2_with fail
        go_loopw [8, 9] (fun o i wr => ∃ m j : Nat, Hid (m = s + j) ∧ (m ≤ nb ∨ j = 0) ∧ m ≤ 40000 ∧ i = .int .i64 m ∧ Hid (OwnU wr w.heap.size o (lows (A / 2 ^ s) j)) ∧ Below w.heap.size w wr) (fun _ i _ => nb - (intOf i).toNat)
        case atStart => exact ⟨s, 0, rfl, .inr rfl, by omega, rfl, own_built w w.heap.size 0 _ [] (Nat.le_refl _) rfl (by decide) rfl, (by repeat (first | (with_reducible first | exact Below.refl _ _ | assumption | exact Nat.le_refl _ | refine Below.drew ?_ | refine Below.alloc ?_ ?_ _ | refine Below.setCell ?_ ?_ _ | refine le_alloc ?_ | refine le_set ?_ | refine le_drew ?_ | refine below_step (by assumption) ?_ ?_ | refine le_below (by assumption) ?_) | (dsimp only; omega)))⟩
        case round =>
          obtain ⟨m, j, hm, hmn, hm4, rfl, hL, hbw⟩ := hrel
          have hz := hbw.size
          by_cases h3 : m < nb
          · have t3 : (m : Int) < (nb : Int) := by omega
            obtain ⟨q, r, hjq, hr⟩ : ∃ q r, j = 32 * q + r ∧ r < 32 := ⟨j / 32, j % 32, by omega, by omega⟩
            have hj : (m : Int) - (s : Int) = (j : Int) := by have := hm.out; omega
            have M1 : Hid (wrap64 ((m : Int) + 1) = (m : Int) + 1) := IntWalk.wrap64_in _ (by omega)
            obtain ⟨e1, e2, e3, e4⟩ := quo32 j q r hjq hr
            have E4 := Lib.hid e4; have E2 := Lib.hid e2; clear e1 e2 e3 e4
            have hq8 : q ≤ 300 := by have := hm.out; omega
            have HR : Hid (r < 32) := hr
            obtain ⟨L, hLd⟩ : ∃ L, L = q + 1 := ⟨_, rfl⟩
            have HLD := Lib.hid hLd
            have hL1 : (L : Int) - 1 = (q : Int) := by omega
            have hL2 : (q : Int) < (L : Int) := by omega
            have hL8 : L ≤ 301 := by omega
            clear hLd
            have hr1 : (r : Int) < 32 := by omega
            have HJ : Hid (j = 32 * q + r) := hjq
            obtain ⟨O, hO⟩ : ∃ O, O = A / 2 ^ s % 2 ^ j := ⟨_, rfl⟩
            have HO : Hid (O = A / 2 ^ s % 2 ^ j) := hO
            clear hO
            have hb1 : bitN A m ≤ 1 := by have := bit_cases A m; omega
            have hbq : bitN A m = bitN (A / 2 ^ s) j := by rw [hm.out]; exact bit_down A s j
            obtain ⟨b, hbb⟩ : ∃ b, b = bitN A m := ⟨_, rfl⟩
            have HBB : Hid (b = bitN A m) := hbb
            rw [← hbb] at hb1 hbq
            clear hbb
            have HBQ : Hid (b = bitN (A / 2 ^ s) j) := hbq
            clear hbq
            have wb : IntKind.u32.wrap (b : Int) = (b : Int) := by rw [IntKind.wrap_u32]; omega
            have wb2 : (b : Int) % 4294967296 = (b : Int) := by omega
            have hroom : Hid (m + 1 ≤ nb ∨ j + 1 = 0) := .inl (by omega)
            have hlen1 : r = 0 → (j + 31) / 32 = q := by omega
            have hlen2 : r ≠ 0 → (j + 31) / 32 = q + 1 := by omega
            have hlen3 : (j + 1 + 31) / 32 = q + 1 := by omega
            have HL1 := Lib.hid hlen1; have HL2 := Lib.hid hlen2; have HL3 := Lib.hid hlen3
            clear hlen1 hlen2 hlen3 hjq hr h3 hmn
            by_cases hr0 : r = 0
            · have hr00 : ((r : Int) == 0) = true := by rw [beq_iff_eq]; omega
              have hE : lows (A / 2 ^ s) j = digs q O := by unfold lows; rw [HL1.out hr0, HO.out]
              have hO0 : dg O q = 0 := by rw [HO.out, HJ.out, hr0, Nat.add_zero]; exact dg_zero (shd_eq_zero.2 (Nat.mod_lt _ (Nat.two_pow_pos _)))
              have HOD := Lib.hid hO0; clear hO0
              rw [hE] at hL; clear hE hr0
              have e4 := E4.out
              go_upto_region 12 with (at_builtin; go_loud (refine append_u rfl (.tmp 43) (.tmp 44) rfl w.heap.size u8 (digs q O) (by simp [Act.eval, Act.put]) (own_alloc hL.out _) (by rw [digs_len]; omega) 0 wr.heap.size (by simp [Act.eval, Act.put]) (by rw [World.cell?_alloc_at _ _ _ _ rfl]; rfl) (by rw [sz_alloc]; omega) ?_; intro v' w' q1 q2; have r1 := grow_u hbw ((Below.refl wr.heap.size wr).alloc (Nat.le_refl _) _) hL.out q2; rw [← HOD.out, ← digs_succ, ← HLD.out] at q1; obtain ⟨g2, cap2, hv2, hcap2⟩ := own_form q1; rw [digs_len] at hv2 hcap2; subst hv2; have Own2 := Lib.hid q1; have hb2 := r1; clear q1 q2 r1; generalize w' = w2 at *))
              clear e4
              have hg2 := own_lt Own2.out g2 rfl
              have c2 := own_cell Own2.out q (by omega)
              have f2 := own_frozen Own2.out q
              have HR2 : Hid (IsRaw w2 ga na pa A) := raw_below ha.out hb2 (Nat.le_refl _)
              have hne : g2 ≠ ga := by have := ha.out.1; omega
              have HLB := low_bit (Q := A / 2 ^ s) (q := q) (r := r) HR.out
              rw [← HJ.out, ← HO.out] at HLB
              have HVV := or32 (b := b) HR.out HLB.1 hb1
              have HW2 := HLB.2
              rw [← HBQ.out] at HW2
              have H3 := Lib.hid HW2; have HV := Lib.hid HVV; have HVL : Hid (dg O q + b * 2 ^ r < 4294967296) := low_sum HR.out HLB.1 hb1
              have HJ1 : Hid (A / 2 ^ s % 2 ^ (32 * q + r + 1) = A / 2 ^ s % 2 ^ (j + 1)) := by show _ = _; rw [HJ.out]
              clear HVV HW2 HLB
              generalize dg O q = dd at *
              have c3 : w2.drew.cell? ⟨g2, q, none⟩ = some (.int .u32 dd) := c2
              have f3 : w2.drew.frozen? ⟨g2, q, none⟩ = false := f2
              have HR3 : Hid (IsRaw w2.drew ga na pa A) := HR2.out
              have Own3 : Hid (OwnU w2.drew w.heap.size (.slice (some ⟨g2, 0, none⟩) L cap2) (digs L O)) := Own2.out
              have hb3 : Below w.heap.size w w2.drew := hb2.drew
              have hz3 : w.heap.size ≤ w2.drew.heap.size := hb2.size
              have e4 := E4.out
              refine wp_region_still_tail 17 (by kernel_rfl) (by kernel_rfl) ?_
              simp only [List.take_succ_cons, List.take_zero, List.drop_succ_cons, List.drop_zero]
              change wpStill _ _ w2.drew (fun a' => wpList _ _ _ _ a' w2.drew) _ _
              generalize w2.drew = wq at *
              clear c2 f2 HR2 Own2 hb2 hg2 hne hb1 hz
              have HZ3 := Lib.hid hz3; clear hz3
              have hwq : IntKind.i64.wrap (q : Int) = (q : Int) := wrapI_in _ (by omega) (by omega)
              have hwj : IntKind.i64.wrap (j : Int) = (j : Int) := wrapI_in _ (by omega) (by have := HJ.out; omega)
              have e2 := E2.out
              have HBC := bit_c ga na pa A m wq HR3 (by omega) (by omega)
              rw [← HBB.out] at HBC
              repeat (first | still_step | still_call HBC)
              refine wpStill_nil ?_
              go_wp2_with fail
              rw [HV.out]
              have HW := own_store Own3.out q (dd + b * 2 ^ r) HZ3.out
              have Q0 := HW.1
              rw [set_digs _ _ _ _ (by omega) HVL.out, H3.out] at Q0
              have Q1 := Lib.hid (lows_mk (HLD.out.trans HL3.out.symm) Q0)
              have r2 := below_step HW.2 hb3 (Nat.le_refl _)
              clear HW Q0
              go_roundw
              case rel => exact ⟨m + 1, j + 1, by show _ = _; have := hm.out; omega, hroom.out, by omega, by first | rfl | (congr 1; omega), Q1, r2⟩
              case measure => first | (simp [intOf]; done) | (simp [intOf]; omega)
            · have hr00 : ((r : Int) == 0) = false := by rw [beq_eq_false_iff_ne]; omega
              have hE : lows (A / 2 ^ s) j = digs L O := by unfold lows; rw [HL2.out hr0, HO.out, HLD.out]
              rw [hE] at hL; clear hE hr0
              obtain ⟨g2, cap2, hv2, hcap2⟩ := own_form hL.out; rw [digs_len] at hv2 hcap2; subst hv2; have Own2 := hL; have hb2 := hbw; obtain ⟨w2, hw2⟩ : ∃ w2, w2 = wr := ⟨_, rfl⟩; subst hw2
              have e4 := E4.out
              go_upto_region 12 with fail
              clear e4
              have hg2 := own_lt Own2.out g2 rfl
              have c2 := own_cell Own2.out q (by omega)
              have f2 := own_frozen Own2.out q
              have HR2 : Hid (IsRaw w2 ga na pa A) := raw_below ha.out hb2 (Nat.le_refl _)
              have hne : g2 ≠ ga := by have := ha.out.1; omega
              have HLB := low_bit (Q := A / 2 ^ s) (q := q) (r := r) HR.out
              rw [← HJ.out, ← HO.out] at HLB
              have HVV := or32 (b := b) HR.out HLB.1 hb1
              have HW2 := HLB.2
              rw [← HBQ.out] at HW2
              have H3 := Lib.hid HW2; have HV := Lib.hid HVV; have HVL : Hid (dg O q + b * 2 ^ r < 4294967296) := low_sum HR.out HLB.1 hb1
              have HJ1 : Hid (A / 2 ^ s % 2 ^ (32 * q + r + 1) = A / 2 ^ s % 2 ^ (j + 1)) := by show _ = _; rw [HJ.out]
              clear HVV HW2 HLB
              generalize dg O q = dd at *
              have c3 : w2.drew.cell? ⟨g2, q, none⟩ = some (.int .u32 dd) := c2
              have f3 : w2.drew.frozen? ⟨g2, q, none⟩ = false := f2
              have HR3 : Hid (IsRaw w2.drew ga na pa A) := HR2.out
              have Own3 : Hid (OwnU w2.drew w.heap.size (.slice (some ⟨g2, 0, none⟩) L cap2) (digs L O)) := Own2.out
              have hb3 : Below w.heap.size w w2.drew := hb2.drew
              have hz3 : w.heap.size ≤ w2.drew.heap.size := hb2.size
              have e4 := E4.out
              refine wp_region_still_tail 17 (by kernel_rfl) (by kernel_rfl) ?_
              simp only [List.take_succ_cons, List.take_zero, List.drop_succ_cons, List.drop_zero]
              change wpStill _ _ w2.drew (fun a' => wpList _ _ _ _ a' w2.drew) _ _
              generalize w2.drew = wq at *
              clear c2 f2 HR2 Own2 hb2 hg2 hne hb1 hz
              have HZ3 := Lib.hid hz3; clear hz3
              have hwq : IntKind.i64.wrap (q : Int) = (q : Int) := wrapI_in _ (by omega) (by omega)
              have hwj : IntKind.i64.wrap (j : Int) = (j : Int) := wrapI_in _ (by omega) (by have := HJ.out; omega)
              have e2 := E2.out
              have HBC := bit_c ga na pa A m wq HR3 (by omega) (by omega)
              rw [← HBB.out] at HBC
              repeat (first | still_step | still_call HBC)
              refine wpStill_nil ?_
              go_wp2_with fail
              rw [HV.out]
              have HW := own_store Own3.out q (dd + b * 2 ^ r) HZ3.out
              have Q0 := HW.1
              rw [set_digs _ _ _ _ (by omega) HVL.out, H3.out] at Q0
              have Q1 := Lib.hid (lows_mk (HLD.out.trans HL3.out.symm) Q0)
              have r2 := below_step HW.2 hb3 (Nat.le_refl _)
              clear HW Q0
              go_roundw
              case rel => exact ⟨m + 1, j + 1, by show _ = _; have := hm.out; omega, hroom.out, by omega, by first | rfl | (congr 1; omega), Q1, r2⟩
              case measure => first | (simp [intOf]; done) | (simp [intOf]; omega)
          · have t3 : ¬ (m : Int) < (nb : Int) := by omega
            have hQ0 : A / 2 ^ s / 2 ^ j = 0 := by rw [Nat.div_div_eq_div_mul, ← Nat.pow_add, ← hm.out]; exact Nat.div_eq_of_lt (Nat.lt_of_lt_of_le hA.out (Nat.pow_le_pow_right (by decide) (by omega)))
            have hQl : A / 2 ^ s < 2 ^ j := by have := Nat.div_add_mod (A / 2 ^ s) (2 ^ j); rw [hQ0, Nat.mul_zero, Nat.zero_add] at this; have h5 := Nat.mod_lt (A / 2 ^ s) (Nat.two_pow_pos j); omega
            have hE : lows (A / 2 ^ s) j = digs ((j + 31) / 32) (A / 2 ^ s) := by unfold lows; rw [Nat.mod_eq_of_lt hQl]
            have HZ : shd (A / 2 ^ s) ((j + 31) / 32) = 0 := shd_eq_zero.2 (Nat.lt_of_lt_of_le hQl (Nat.pow_le_pow_right (by decide) (by omega)))
            have hjl : (j + 31) / 32 ≤ 1000 := by have := hm.out; omega
            rw [hE] at hL
            obtain ⟨g2, cap2, hv, hR⟩ := own_raw hL.out HZ
            subst hv
            have HRw := Lib.hid hR; clear hR hE HZ hQl hQ0 h3 hmn hL
            go_wp2_with (go_at_call 97; refine (trim_c g2 ((j + 31) / 32) cap2 (A / 2 ^ s) _ HRw hjl).mono ?_; rintro e w2 ⟨⟨g1, n1, p1, rfl, hB1, hb1⟩, rfl⟩)
            go_ret2
            exact ⟨g1, n1, p1, by rw [HE.out]; rfl, hB1, hbw⟩
      · have hin : (k : Int) < (s : Int) := by omega
        have hout : ¬ (k : Int) < (nb : Int) := by omega
        clear hz hkn h1 h2
        go_wp2_with fail
        go_loopw [8, 9] (fun o i wr => ∃ m j : Nat, Hid (m = s + j) ∧ (m ≤ nb ∨ j = 0) ∧ m ≤ 40000 ∧ i = .int .i64 m ∧ Hid (OwnU wr w.heap.size o (lows (A / 2 ^ s) j)) ∧ Below w.heap.size w wr) (fun _ i _ => nb - (intOf i).toNat)
        case atStart => exact ⟨s, 0, rfl, .inr rfl, by omega, rfl, own_built w w.heap.size 0 _ [] (Nat.le_refl _) rfl (by decide) rfl, (by repeat (first | (with_reducible first | exact Below.refl _ _ | assumption | exact Nat.le_refl _ | refine Below.drew ?_ | refine Below.alloc ?_ ?_ _ | refine Below.setCell ?_ ?_ _ | refine le_alloc ?_ | refine le_set ?_ | refine le_drew ?_ | refine below_step (by assumption) ?_ ?_ | refine le_below (by assumption) ?_) | (dsimp only; omega)))⟩
        case round =>
          obtain ⟨m, j, hm, hmn, hm4, rfl, hL, hbw⟩ := hrel
          have hz := hbw.size
          by_cases h3 : m < nb
          · exfalso; have := hm.out; omega
          · have t3 : ¬ (m : Int) < (nb : Int) := by omega
            have hQ0 : A / 2 ^ s / 2 ^ j = 0 := by rw [Nat.div_div_eq_div_mul, ← Nat.pow_add, ← hm.out]; exact Nat.div_eq_of_lt (Nat.lt_of_lt_of_le hA.out (Nat.pow_le_pow_right (by decide) (by omega)))
            have hQl : A / 2 ^ s < 2 ^ j := by have := Nat.div_add_mod (A / 2 ^ s) (2 ^ j); rw [hQ0, Nat.mul_zero, Nat.zero_add] at this; have h5 := Nat.mod_lt (A / 2 ^ s) (Nat.two_pow_pos j); omega
            have hE : lows (A / 2 ^ s) j = digs ((j + 31) / 32) (A / 2 ^ s) := by unfold lows; rw [Nat.mod_eq_of_lt hQl]
            have HZ : shd (A / 2 ^ s) ((j + 31) / 32) = 0 := shd_eq_zero.2 (Nat.lt_of_lt_of_le hQl (Nat.pow_le_pow_right (by decide) (by omega)))
            have hjl : (j + 31) / 32 ≤ 1000 := by have := hm.out; omega
            rw [hE] at hL
            obtain ⟨g2, cap2, hv, hR⟩ := own_raw hL.out HZ
            subst hv
            have HRw := Lib.hid hR; clear hR hE HZ hQl hQ0 h3 hmn hL
            go_wp2_with (go_at_call 97; refine (trim_c g2 ((j + 31) / 32) cap2 (A / 2 ^ s) _ HRw hjl).mono ?_; rintro e w2 ⟨⟨g1, n1, p1, rfl, hB1, hb1⟩, rfl⟩)
            go_ret2
            exact ⟨g1, n1, p1, by rw [HE.out]; rfl, hB1, hbw⟩
end Go.Proofs.Yteinjalnkhfecaa.Q
