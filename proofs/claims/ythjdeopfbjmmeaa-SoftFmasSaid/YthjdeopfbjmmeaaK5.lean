/- The reference's Bit. -/
import Derived.Test.YthjdeopfbjmmeaaK3
import Derived.Deep.DeepCutAuto
namespace Go.Proofs.Ythjdeopfbjmmeaa
open Go.ChangeShapes Go.WideShapes Go.ChangeAt Go.RowKit
set_option linter.unusedVariables false
set_option linter.unusedSimpArgs false
theorem or_eq_add (a b r : Nat) (h : a < 2 ^ r) : a ||| b * 2 ^ r = a + b * 2 ^ r := by
  rw [Nat.or_comm, Nat.mul_comm b, ← Nat.two_pow_add_eq_or_of_lt h, Nat.add_comm]
theorem shd_bit (A q r : Nat) (hr : r < 32) : A / 2 ^ (32 * q + r) % 2 = dg A q / 2 ^ r % 2 := by
  unfold dg shd
  rw [Nat.pow_add, ← Nat.div_div_eq_div_mul]
  generalize A / 2 ^ (32 * q) = X
  rw [show (4294967296 : Nat) = 2 ^ 32 from rfl]
  have h := Nat.testBit_mod_two_pow X 32 r
  rw [Nat.testBit_eq_decide_div_mod_eq, Nat.testBit_eq_decide_div_mod_eq] at h
  have h1 := Nat.mod_two_eq_zero_or_one (X / 2 ^ r)
  have h2 := Nat.mod_two_eq_zero_or_one (X % 2 ^ 32 / 2 ^ r)
  simp only [hr, decide_true, Bool.true_and, decide_eq_decide] at h
  omega
theorem quo32 (n q r : Nat) (h : n = 32 * q + r) (hr : r < 32) : (n : Int).tdiv 32 = (q : Int) ∧ (n : Int).tmod 32 = (r : Int) ∧ (n : Int) / 32 = (q : Int) ∧ (n : Int) % 32 = (r : Int) := by
  refine ⟨?_, ?_, by omega, by omega⟩
  · rw [Int.tdiv_eq_ediv_of_nonneg (by omega)]; omega
  · rw [Int.tmod_eq_emod_of_nonneg (by omega)]; omega
theorem bit_num {d r : Nat} (hd : d < 4294967296) : wrap64 (bits BinOp.and IntKind.u32 ((d : Int) / 2 ^ r) 1) = ((d / 2 ^ r % 2 : Nat) : Int) := by
  have h : d / 2 ^ r < 4294967296 := Nat.lt_of_le_of_lt (Nat.div_le_self _ _) hd
  rw [div_shr, show (1 : Int) = ((1 : Nat) : Int) from rfl, u32_and_nat _ _ h (by decide), nat_mask1]
  exact IntWalk.wrap64_in _ (by omega)
def bitN (A b : Nat) : Nat := A / 2 ^ b % 2
def RetI0 (n : Int) (W : World) (e : Ending) (w' : World) : Prop := e = .returned (.int .i64 n) ∧ w' = W
theorem retI0_mk {a b : Int} {W : World} (h : a = b) : RetI0 b W (.returned (.int .i64 a)) W := ⟨by rw [h], rfl⟩
set_option maxHeartbeats 1000000 in
theorem bit_c (g n cap A : Nat) (b : Nat) (w : World) (h : Hid (IsRaw w g n cap A)) (hb : b ≤ 1000000) (hn : n ≤ 100000) :
    Calls Try.prog 85 #[.slice (some ⟨g, 0, none⟩) n cap, .int .i64 b] w (RetI0 (bitN A b) w) := by
  obtain ⟨q, r, hqr, hr⟩ : ∃ q r, b = 32 * q + r ∧ r < 32 := ⟨b / 32, b % 32, by omega, by omega⟩
  obtain ⟨e1, e2, e3, e4⟩ := quo32 b q r hqr hr
  have HB : Hid (bitN A b = dg A q / 2 ^ r % 2) := by show _ = _; rw [hqr]; exact shd_bit A q r hr
  have hnn : ¬ (b : Int) < 0 := by omega
  by_cases hq : n ≤ q
  · have hq' : (n : Int) ≤ (q : Int) := by omega
    have HZ : Hid (bitN A b = 0) := by show _ = _; rw [HB.out, dg_zero (shd_mono0 h.out.2.2.2 hq)]; simp
    clear hqr hq HB
    go_enter Try.func85, Try.ntmps85
    go_wp2_with fail
    go_ret
    exact retI0_mk (by rw [HZ.out]; rfl)
  · have hq' : ¬ (n : Int) ≤ (q : Int) := by omega
    have hq2 : (q : Int) < (n : Int) := by omega
    have c1 := h.out.2.2.1 q (by omega)
    have hr' : (r : Int) < 32 := by omega
    have hr2 : (r : Int) ≤ 32 := by omega
    have ld := dg_lt A q
    generalize dg A q = d at *
    clear hqr hq
    go_enter Try.func85, Try.ntmps85
    go_wp2_with fail
    go_ret
    exact retI0_mk (by rw [HB.out]; exact bit_num ld)
theorem bit_neg (g n cap : Nat) (b : Int) (w : World) (hb : b < 0) :
    Calls Try.prog 85 #[.slice (some ⟨g, 0, none⟩) n cap, .int .i64 b] w (RetI0 0 w) := by
  go_enter Try.func85, Try.ntmps85
  go_wp2_with fail
  go_ret
  exact retI0_mk rfl
end Go.Proofs.Ythjdeopfbjmmeaa
namespace Go.Proofs.Ythjdeopfbjmmeaa
open Go.ChangeShapes Go.WideShapes Go.ChangeAt Go.RowKit
set_option linter.unusedVariables false
set_option linter.unusedSimpArgs false
theorem make_u {ops : Array Oper} {rest : List Oper} {o : Oper} {a : Act} {w : World} {Q : Exit → Act → World → Prop} (hgd : o.guard = none) (l c : Operand)
    (ho : o.op = Op.makeSlice 55 l c) (base n : Nat) (L C : Int) (hl : a.eval l = .int .i64 L) (hc : a.eval c = .int .i64 C) (hL : L = (n : Int)) (hC : C = (n : Int)) (hn : n ≤ 1000) (hb : base ≤ w.heap.size)
    (h : ∀ w', OwnU w' base (.slice (some ⟨w.heap.size, 0, none⟩) n n) (List.replicate n 0) → Below base w w' → w.heap.size < w'.heap.size → wpList Try.prog ops Q rest (a.put o.dst (.slice (some ⟨w.heap.size, 0, none⟩) n n)) w') : wpList Try.prog ops Q (o :: rest) a w := by
  obtain ⟨i, hi, h1, h2, h3⟩ := i32
  refine wpList_make_full w hgd l c 55 ho base 90 i _ 1 Try.underlying55 hi h3 h1 .i64 .i64 L C n hl hc hL hC (by rw [h2]; omega) (by simp only [maxLen]; omega) hb ?_
  intro w' q1 q2
  have e : (madeCells (Value.int .u32 0).cells (n * 1)).toList = cells32 (List.replicate n 0) := by
    rw [Nat.mul_one]
    show (madeCells #[Value.int .u32 0] n).toList = _
    rw [toList_madeCells_one, cells32, List.map_replicate]; rfl
  rw [e] at q1
  have hg := q1.lt
  have hO : OwnU w' base (.slice (some ⟨w.heap.size, 0, none⟩) n n) (List.replicate n 0) := ⟨by rw [List.length_replicate]; exact q1, by simp⟩
  exact h w' hO (Below.grown (Below.refl _ _) q2 hb (fun k hk => by simp at hk)) (hg w.heap.size rfl).2
theorem zeros_digs {A q : Nat} (h : A % 2 ^ (32 * q) = 0) : List.replicate q 0 = digs q A := by
  apply List.ext_getElem
  · simp [digs]
  · intro i h1 h2
    have hi : i < q := by simpa using h1
    simp only [List.getElem_replicate, digs, List.getElem_map, List.getElem_range]
    unfold dg shd
    rw [show (4294967296 : Nat) = 2 ^ 32 from rfl, ← Nat.mod_mul_right_div_self, ← Nat.pow_add, ← Nat.mod_mod_of_dvd A (Nat.pow_dvd_pow 2 (show 32 * i + 32 ≤ 32 * q by omega)), h]; simp
/-- The carry of a shift. -/
def UpC (A r k c : Nat) : Prop := shd (A * 2 ^ r) k = shd A k * 2 ^ r + c ∧ c < 2 ^ r
theorem up_step {A r k c : Nat} (hr : r < 32) (h : UpC A r k c) : dg (A * 2 ^ r) k = (c + dg A k * 2 ^ r) % 4294967296 ∧ UpC A r (k + 1) ((c + dg A k * 2 ^ r) / 4294967296) := by
  obtain ⟨h1, h2⟩ := h
  have e1 : shd (A * 2 ^ r) k = 4294967296 * (shd A (k + 1) * 2 ^ r) + (c + dg A k * 2 ^ r) := by
    rw [h1, shd_dg A k, Nat.add_mul, Nat.mul_assoc]; omega
  have hd := dg_lt A k
  have e2 : dg A k * 2 ^ r + 2 ^ r ≤ 4294967296 * 2 ^ r := by
    have := Nat.mul_le_mul_right (2 ^ r) (show dg A k + 1 ≤ 4294967296 by omega)
    rw [Nat.add_mul, Nat.one_mul] at this; exact this
  unfold UpC
  refine ⟨?_, ?_, ?_⟩
  · unfold dg at e1 ⊢; rw [e1, Nat.mul_add_mod]
  · rw [shd_succ, e1]; omega
  · rw [Nat.div_lt_iff_lt_mul (by decide)]; omega
theorem up_place (A q r k : Nat) : dg (A * 2 ^ (32 * q + r)) (q + k) = dg (A * 2 ^ r) k ∧ shd (A * 2 ^ (32 * q + r)) (q + k) = shd (A * 2 ^ r) k := by
  have : shd (A * 2 ^ (32 * q + r)) (q + k) = shd (A * 2 ^ r) k := by
    unfold shd
    rw [Nat.pow_add, Nat.mul_comm (2 ^ (32 * q)), ← Nat.mul_assoc, show 32 * (q + k) = 32 * k + 32 * q by omega, Nat.pow_add, Nat.mul_div_mul_right _ _ (Nat.two_pow_pos _)]
  exact ⟨by unfold dg; rw [this], this⟩
theorem big_zero' {w : World} {g cap A : Nat} (h : IsRaw w g 0 cap A) : A = 0 := by have := h.2.2.2; rwa [shd_zero] at this
theorem up_or {c d r : Nat} (h : c < 2 ^ r) : c ||| (d * 2 ^ r) = c + d * 2 ^ r := or_eq_add c d r h
theorem up_num {c d r : Nat} (hr : r < 32) (hc : c < 2 ^ r) (hd : d < 4294967296) : bits .or .u64 (c : Int) (IntKind.u64.wrap ((d : Int) * 2 ^ r)) = ((c + d * 2 ^ r : Nat) : Int) := by
  have h1 : 2 ^ r ≤ 2 ^ 31 := Nat.pow_le_pow_right (by decide) (by omega)
  have h2 : d * 2 ^ r ≤ 4294967296 * 2 ^ 31 := Nat.mul_le_mul (by omega) h1
  rw [wrap_shl, Nat.mod_eq_of_lt (by omega), bits_or_u64_nat _ _ (by omega) (by omega), up_or hc]
set_option maxHeartbeats 4000000 in
theorem up_c (g n cap A s : Nat) (w : World) (h : Hid (IsRaw w g n cap A)) (hs : s ≤ 20000) (hn : n ≤ 200) :
    Calls Try.prog 56 #[.slice (some ⟨g, 0, none⟩) n cap, .int .i64 s] w (RetG (A * 2 ^ s) w) := by
  by_cases h0 : n = 0
  · subst h0
    have hA : Hid (A * 2 ^ s = 0) := by show _ = _; rw [big_zero' h.out]; simp
    go_enter Try.func56, Try.ntmps56
    go_wp2_with fail
    go_ret
    exact retG_mk (by rw [hA.out]; have := big_zero' h.out; subst this; exact ⟨h.out, .inl rfl⟩) (by repeat (first | (with_reducible first | exact Below.refl _ _ | assumption | exact Nat.le_refl _ | refine Below.drew ?_ | refine Below.alloc ?_ ?_ _ | refine Below.setCell ?_ ?_ _ | refine le_alloc ?_ | refine le_set ?_ | refine le_drew ?_ | refine below_step (by assumption) ?_ ?_ | refine le_below (by assumption) ?_) | (dsimp only; omega)))
  · obtain ⟨q, r, hqr, hr⟩ : ∃ q r, s = 32 * q + r ∧ r < 32 := ⟨s / 32, s % 32, by omega, by omega⟩
    obtain ⟨e1, e2, e3, e4⟩ := quo32 s q r hqr hr
    have hn0 : ((n : Int) == 0) = false := by rw [beq_eq_false_iff_ne]; omega
    have hr1 : (r : Int) < 32 := by omega
    have HR : Hid (r < 32) := hr
    have hq : q ≤ 625 := by omega
    have HS : Hid (A * 2 ^ s = A * 2 ^ (32 * q + r)) := by show _ = _; rw [hqr]
    have HZ : Hid (List.replicate q 0 = digs (q + 0) (A * 2 ^ (32 * q + r))) := zeros_digs (by rw [Nat.pow_add, Nat.mul_comm (2 ^ (32 * q)), ← Nat.mul_assoc]; exact Nat.mul_mod_left _ _)
    clear h0 hqr hr
    go_enter Try.func56, Try.ntmps56
    go_wp2_with (refine make_u rfl (.tmp 13) (.tmp 13) rfl w.heap.size q _ _ rfl rfl (by first | rfl | omega) (by first | rfl | omega) (by omega) (Nat.le_refl _) ?_; intro w1 q1 q2 q3)
    have Q0 : Hid (OwnU w1 w.heap.size (.slice (some ⟨w.heap.size, 0, none⟩) q q) (digs (q + 0) (A * 2 ^ (32 * q + r)))) := by show OwnU _ _ _ _; rw [← HZ.out]; exact q1
    clear q1
    go_wp2_with fail
    go_loopw [5, 6, 7] (fun o y i wr => ∃ k c : Nat, k ≤ n ∧ i = .int .i64 k ∧ y = .int .u64 c ∧ Hid (UpC A r k c) ∧ Hid (OwnU wr w.heap.size o (digs (q + k) (A * 2 ^ (32 * q + r)))) ∧ Below w.heap.size w wr) (fun _ _ i _ => n - (intOf i).toNat)
    case atStart => exact ⟨0, 0, Nat.zero_le _, rfl, rfl, ⟨by simp [shd_zero], Nat.two_pow_pos r⟩, Q0, q2⟩
    case round =>
      clear q2 q3 Q0
      obtain ⟨k, c, hk, rfl, rfl, hc, hL, hbw⟩ := hrel
      have hz := hbw.size
      by_cases hkn : k < n
      · have hkn' : (k : Int) < (n : Int) := by omega
        have ca := (raw_below h.out hbw (Nat.le_refl _)).2.2.1 k hkn
        have la := dg_lt A k
        have HN := up_step HR.out hc.out
        have HU := up_num HR.out hc.out.2 la
        have HP := up_place A q r k
        rw [HN.1] at HP
        have HS1 := Lib.hid HP.1; have HC := Lib.hid HN.2; have HU' := Lib.hid HU
        generalize dg A k = da at *
        obtain ⟨t, ht⟩ : ∃ t, t = c + da * 2 ^ r := ⟨_, rfl⟩
        rw [← ht] at HS1 HC HU'
        clear ht
        have m1 : wrap64 ((k : Int) + 1) = (k : Int) + 1 := IntWalk.wrap64_in _ (by omega)
        clear HN HP HU hkn
        go_upto_region 9 with fail
        rw [HU'.out]
        clear HU' e1 e2 e3 e4 hr1 ca la
        go_wp2_with (at_builtin; refine append_u rfl (.tmp 31) (.tmp 34) rfl w.heap.size u5 (digs (q + k) (A * 2 ^ (32 * q + r))) (by simp [Act.eval, Act.put]) (own_alloc hL.out _) (by rw [digs_len]; omega) (dg (A * 2 ^ (32 * q + r)) (q + k)) wr.heap.size (by simp [Act.eval, Act.put]) (by rw [World.cell?_alloc_at _ _ _ _ rfl]; rw [HS1.out]; first | (simp; done) | (simp; omega)) (by rw [sz_alloc]; omega) ?_; intro v' w' q1 q2)
        have r1 := grow_u hbw ((Below.refl wr.heap.size wr).alloc (Nat.le_refl _) _) hL.out q2
        have Q1 : Hid (OwnU w' w.heap.size v' (digs (q + (k + 1)) (A * 2 ^ (32 * q + r)))) := by show OwnU _ _ _ _; rw [← Nat.add_assoc, digs_succ]; exact q1
        clear q1 q2
        go_wp2_with fail
        go_roundw
        case rel => exact ⟨k + 1, t / 4294967296, by omega, by first | rfl | (congr 1; omega), by first | rfl | (congr 1; omega) | simp, HC, Q1, r1⟩
        case measure => first | (simp [intOf]; done) | (simp [intOf]; omega)
      · obtain rfl : k = n := by omega
        have hkn' : ¬ (k : Int) < (k : Int) := by omega
        have HP := up_place A q r k
        have hz1 := h.out.2.2.2
        have HE : shd (A * 2 ^ r) k = c := by have := hc.out.1; rw [hz1, Nat.zero_mul, Nat.zero_add] at this; exact this
        have hcl : c < 4294967296 := Nat.lt_of_lt_of_le hc.out.2 (Nat.le_trans (Nat.pow_le_pow_right (by decide) (Nat.le_of_lt HR.out)) (by decide : 2 ^ 32 ≤ 4294967296))
        have HD : Hid (dg (A * 2 ^ (32 * q + r)) (q + k) = c) := by show _ = _; rw [HP.1]; unfold dg; rw [HE, Nat.mod_eq_of_lt hcl]
        have HZ1 : Hid (shd (A * 2 ^ (32 * q + r)) (q + k + 1) = 0) := by show _ = _; rw [shd_succ, HP.2, HE, Nat.div_eq_of_lt hcl]
        clear HE HP hz1 hkn
        go_wp2_with (at_builtin; refine append_u rfl (.tmp 38) (.tmp 41) rfl w.heap.size u5 (digs (q + k) (A * 2 ^ (32 * q + r))) (by simp [Act.eval, Act.put]) (own_alloc hL.out _) (by rw [digs_len]; omega) (dg (A * 2 ^ (32 * q + r)) (q + k)) wr.heap.size (by simp [Act.eval, Act.put]) (by rw [World.cell?_alloc_at _ _ _ _ rfl]; rw [HD.out]; first | (simp; done) | (simp; omega)) (by rw [sz_alloc]; omega) ?_; intro v' w' q1 q2)
        have r1 := grow_u hbw ((Below.refl wr.heap.size wr).alloc (Nat.le_refl _) _) hL.out q2
        rw [← digs_succ] at q1
        obtain ⟨g2, cap2, hv, hR⟩ := own_raw q1 HZ1.out
        subst hv
        have HRw := Lib.hid hR; clear hR q1 q2
        go_wp2_with fail
        refine (trim_c g2 (q + k + 1) cap2 (A * 2 ^ (32 * q + r)) _ HRw (by omega)).mono ?_
        rintro e w2 ⟨⟨g1, n1, p1, rfl, hB1, hb1⟩, rfl⟩
        go_wp2_with fail
        go_ret
        exact ⟨g1, n1, p1, rfl, by rw [HS.out]; exact hB1, r1⟩
end Go.Proofs.Ythjdeopfbjmmeaa
