/- The reference's small words of floats, of either size. -/
import Derived.Test.YthjdeopfbjmmeaaK13
import Derived.Test.YthjdeopfbjmmeaaK14
import Derived.Test.YthjdeopfbjmmeaaI1
import Derived.Test.YthjdeopfbjmmeaaL6
namespace Go.Proofs.Ythjdeopfbjmmeaa
open Go.ChangeShapes Go.WideShapes Go.ChangeAt Go.RowKit
set_option linter.unusedVariables false
set_option linter.unusedSimpArgs false
def Sz (sz : Int) (d : Bool) : Prop := sz = if d then 8 else 4
theorem minused_4 (a : Nat) (ha : Hid (a < 18446744073709551616)) (w : World) : Calls Try.prog 38 #[.int .i64 4, .int .u64 a] w (RetB (decide (a / signB false % 2 = 1)) w) := by
  go_enter Try.func38, Try.ntmps38
  go_wp2_with fail
  refine (parts_4 a ha _).mono ?_; rintro e w2 ⟨rfl, hb2⟩
  go_wp2_with fail
  go_ret
  exact retB_mk rfl (by repeat (first | (with_reducible first | exact Below.refl _ _ | assumption | exact Nat.le_refl _ | refine Below.drew ?_ | refine Below.alloc ?_ ?_ _ | refine Below.setCell ?_ ?_ _ | refine le_alloc ?_ | refine le_set ?_ | refine le_drew ?_ | refine below_step (by assumption) ?_ ?_ | refine le_below (by assumption) ?_) | (dsimp only; omega)))
theorem quietR_4 (w : World) : Calls Try.prog 66 #[.int .i64 4] w (RetU (quietB false) w) := by
  go_enter Try.func66, Try.ntmps66
  go_wp2_with fail
  go_ret
  exact retU_mk rfl (by repeat (first | (with_reducible first | exact Below.refl _ _ | assumption | exact Nat.le_refl _ | refine Below.drew ?_ | refine Below.alloc ?_ ?_ _ | refine Below.setCell ?_ ?_ _ | refine le_alloc ?_ | refine le_set ?_ | refine le_drew ?_ | refine below_step (by assumption) ?_ ?_ | refine le_below (by assumption) ?_) | (dsimp only; omega)))
theorem sigb_4 (a : Nat) (ha : Hid (a < 18446744073709551616)) (w : World) : Calls Try.prog 65 #[.int .i64 4, .int .u64 a] w (RetB (sigB false a) w) := by
  go_enter Try.func65, Try.ntmps65
  go_wp2_with fail
  refine (shape_4 _).mono ?_; rintro e w1 ⟨rfl, hb1⟩
  go_wp2_with fail
  refine (parts_4 a ha _).mono ?_; rintro e w2 ⟨rfl, hb2⟩
  have HN : Hid (sigB false a = (nanB false a && decide (a % fracT false / 4194304 = 0))) := rfl
  generalize a % fracT false = m at *
  obtain ⟨nb, hnb⟩ : ∃ nb, nb = nanB false a := ⟨_, rfl⟩
  rw [← hnb] at HN
  have HNB := Lib.hid hnb; clear hnb
  have hm : ((m : Int) / 4194304 == 0) = decide (m / 4194304 = 0) := by rw [Bool.eq_iff_iff, beq_iff_eq, decide_eq_true_eq]; omega
  have hb := Lib.hid (below_step hb2 hb1 hb1.size)
  cases nb
  · go_wp2_with (go_at_call 27; refine (nanb_4 a ha _).mono ?_; rintro e w3 ⟨rfl, hb3⟩; rw [← HNB.out])
    go_ret
    exact retB_mk HN.out.symm (by repeat (first | (with_reducible first | exact Below.refl _ _ | assumption | exact Nat.le_refl _ | refine Below.drew ?_ | refine Below.alloc ?_ ?_ _ | refine Below.setCell ?_ ?_ _ | refine le_alloc ?_ | refine le_set ?_ | refine le_drew ?_ | refine below_step (by assumption) ?_ ?_ | refine le_below (by assumption) ?_) | (dsimp only; omega)))
  · go_wp2_with (go_at_call 27; refine (nanb_4 a ha _).mono ?_; rintro e w3 ⟨rfl, hb3⟩; rw [← HNB.out])
    go_ret
    exact retB_mk (by rw [HN.out]; first | exact hm | simp) (by repeat (first | (with_reducible first | exact Below.refl _ _ | assumption | exact Nat.le_refl _ | refine Below.drew ?_ | refine Below.alloc ?_ ?_ _ | refine Below.setCell ?_ ?_ _ | refine le_alloc ?_ | refine le_set ?_ | refine le_drew ?_ | refine below_step (by assumption) ?_ ?_ | refine le_below (by assumption) ?_) | (dsimp only; omega)))
theorem minused_8 (a : Nat) (ha : Hid (a < 18446744073709551616)) (w : World) : Calls Try.prog 38 #[.int .i64 8, .int .u64 a] w (RetB (decide (a / signB true % 2 = 1)) w) := by
  go_enter Try.func38, Try.ntmps38
  go_wp2_with fail
  refine (parts_8 a ha _).mono ?_; rintro e w2 ⟨rfl, hb2⟩
  go_wp2_with fail
  go_ret
  exact retB_mk rfl (by repeat (first | (with_reducible first | exact Below.refl _ _ | assumption | exact Nat.le_refl _ | refine Below.drew ?_ | refine Below.alloc ?_ ?_ _ | refine Below.setCell ?_ ?_ _ | refine le_alloc ?_ | refine le_set ?_ | refine le_drew ?_ | refine below_step (by assumption) ?_ ?_ | refine le_below (by assumption) ?_) | (dsimp only; omega)))
theorem quietR_8 (w : World) : Calls Try.prog 66 #[.int .i64 8] w (RetU (quietB true) w) := by
  go_enter Try.func66, Try.ntmps66
  go_wp2_with fail
  go_ret
  exact retU_mk rfl (by repeat (first | (with_reducible first | exact Below.refl _ _ | assumption | exact Nat.le_refl _ | refine Below.drew ?_ | refine Below.alloc ?_ ?_ _ | refine Below.setCell ?_ ?_ _ | refine le_alloc ?_ | refine le_set ?_ | refine le_drew ?_ | refine below_step (by assumption) ?_ ?_ | refine le_below (by assumption) ?_) | (dsimp only; omega)))
theorem sigb_8 (a : Nat) (ha : Hid (a < 18446744073709551616)) (w : World) : Calls Try.prog 65 #[.int .i64 8, .int .u64 a] w (RetB (sigB true a) w) := by
  go_enter Try.func65, Try.ntmps65
  go_wp2_with fail
  refine (shape_8 _).mono ?_; rintro e w1 ⟨rfl, hb1⟩
  go_wp2_with fail
  refine (parts_8 a ha _).mono ?_; rintro e w2 ⟨rfl, hb2⟩
  have HN : Hid (sigB true a = (nanB true a && decide (a % fracT true / 2251799813685248 = 0))) := rfl
  generalize a % fracT true = m at *
  obtain ⟨nb, hnb⟩ : ∃ nb, nb = nanB true a := ⟨_, rfl⟩
  rw [← hnb] at HN
  have HNB := Lib.hid hnb; clear hnb
  have hm : ((m : Int) / 2251799813685248 == 0) = decide (m / 2251799813685248 = 0) := by rw [Bool.eq_iff_iff, beq_iff_eq, decide_eq_true_eq]; omega
  have hb := Lib.hid (below_step hb2 hb1 hb1.size)
  cases nb
  · go_wp2_with (go_at_call 27; refine (nanb_8 a ha _).mono ?_; rintro e w3 ⟨rfl, hb3⟩; rw [← HNB.out])
    go_ret
    exact retB_mk HN.out.symm (by repeat (first | (with_reducible first | exact Below.refl _ _ | assumption | exact Nat.le_refl _ | refine Below.drew ?_ | refine Below.alloc ?_ ?_ _ | refine Below.setCell ?_ ?_ _ | refine le_alloc ?_ | refine le_set ?_ | refine le_drew ?_ | refine below_step (by assumption) ?_ ?_ | refine le_below (by assumption) ?_) | (dsimp only; omega)))
  · go_wp2_with (go_at_call 27; refine (nanb_8 a ha _).mono ?_; rintro e w3 ⟨rfl, hb3⟩; rw [← HNB.out])
    go_ret
    exact retB_mk (by rw [HN.out]; first | exact hm | simp) (by repeat (first | (with_reducible first | exact Below.refl _ _ | assumption | exact Nat.le_refl _ | refine Below.drew ?_ | refine Below.alloc ?_ ?_ _ | refine Below.setCell ?_ ?_ _ | refine le_alloc ?_ | refine le_set ?_ | refine le_drew ?_ | refine below_step (by assumption) ?_ ?_ | refine le_below (by assumption) ?_) | (dsimp only; omega)))
theorem nan_s (sz : Int) (d : Bool) (hs : Hid (Sz sz d)) (a : Nat) (ha : Hid (a < 18446744073709551616)) (w : World) : Calls Try.prog 27 #[.int .i64 sz, .int .u64 a] w (RetB (nanB d a) w) := by
  have h := hs.out
  cases d
  · have e : sz = 4 := h
    rw [e]; exact nanb_4 a ha w
  · have e : sz = 8 := h
    rw [e]; exact nanb_8 a ha w
theorem inf_s (sz : Int) (d : Bool) (hs : Hid (Sz sz d)) (a : Nat) (ha : Hid (a < 18446744073709551616)) (w : World) : Calls Try.prog 30 #[.int .i64 sz, .int .u64 a] w (RetB (isInf d a) w) := by
  have h := hs.out
  cases d
  · have e : sz = 4 := h
    rw [e]; exact infb_4 a ha w
  · have e : sz = 8 := h
    rw [e]; exact infb_8 a ha w
theorem zero_s (sz : Int) (d : Bool) (hs : Hid (Sz sz d)) (a : Nat) (ha : Hid (a < 18446744073709551616)) (w : World) : Calls Try.prog 31 #[.int .i64 sz, .int .u64 a] w (RetB (isZero d a) w) := by
  have h := hs.out
  cases d
  · have e : sz = 4 := h
    rw [e]; exact zerob_4 a ha w
  · have e : sz = 8 := h
    rw [e]; exact zerob_8 a ha w
theorem sig_s (sz : Int) (d : Bool) (hs : Hid (Sz sz d)) (a : Nat) (ha : Hid (a < 18446744073709551616)) (w : World) : Calls Try.prog 65 #[.int .i64 sz, .int .u64 a] w (RetB (sigB d a) w) := by
  have h := hs.out
  cases d
  · have e : sz = 4 := h
    rw [e]; exact sigb_4 a ha w
  · have e : sz = 8 := h
    rw [e]; exact sigb_8 a ha w
theorem minused_s (sz : Int) (d : Bool) (hs : Hid (Sz sz d)) (a : Nat) (ha : Hid (a < 18446744073709551616)) (w : World) : Calls Try.prog 38 #[.int .i64 sz, .int .u64 a] w (RetB (decide (a / signB d % 2 = 1)) w) := by
  have h := hs.out
  cases d
  · have e : sz = 4 := h
    rw [e]; exact minused_4 a ha w
  · have e : sz = 8 := h
    rw [e]; exact minused_8 a ha w
theorem quiet_s (sz : Int) (d : Bool) (hs : Hid (Sz sz d))  (w : World) : Calls Try.prog 66 #[.int .i64 sz] w (RetU (quietB d) w) := by
  have h := hs.out
  cases d
  · have e : sz = 4 := h
    rw [e]; exact quietR_4 w
  · have e : sz = 8 := h
    rw [e]; exact quietR_8 w
theorem nought_s (sz : Int) (d : Bool) (hs : Hid (Sz sz d)) (m : Bool) (w : World) : Calls Try.prog 42 #[.int .i64 sz, .bool m] w (RetU0 (noughtV d m) w) := by
  have h := hs.out
  cases d
  · have e : sz = 4 := h
    rw [e]; exact noughtR_4 m w
  · have e : sz = 8 := h
    rw [e]; exact noughtR_8 m w
theorem infinity_s (sz : Int) (d : Bool) (hs : Hid (Sz sz d)) (m : Bool) (w : World) : Calls Try.prog 48 #[.int .i64 sz, .bool m] w (RetU (infV d m) w) := by
  have h := hs.out
  cases d
  · have e : sz = 4 := h
    rw [e]; exact infinityR_4 m w
  · have e : sz = 8 := h
    rw [e]; exact infinityR_8 m w
theorem mask_s (sz : Int) (d : Bool) (hs : Hid (Sz sz d)) (a : Nat) (ha : Hid (a < 18446744073709551616)) (w : World) : Calls Try.prog 29 #[.int .i64 sz, .int .u64 a] w (RetU (maskB d a) w) := by
  have h := hs.out
  cases d
  · have e : sz = 4 := h
    rw [e]; exact mask_4 a ha w
  · have e : sz = 8 := h
    rw [e]; exact mask_8 a ha w
theorem round_s (w : World) (sz : Int) (d : Bool) (hs : Hid (Sz sz d)) (rm : Int) (m : Bool) (g n p M : Nat) (E : Int) (more : Bool) (hB : Hid (IsBig w g n p M)) (hn : n ≤ 200) (h0 : Hid (M ≠ 0)) (hm : Hid (more = true → fb d + 2 ≤ blen M)) (e1 : -5000 ≤ E) (e2 : E ≤ 5000) : Calls Try.prog 49 #[.int .i64 sz, .int .i64 rm, .agg #[.bool m, .slice (some ⟨g, 0, none⟩) n p, .int .i64 E], .bool more] w (RetP (roundR d rm m M E more) w) := by
  have h := hs.out
  cases d
  · have e : sz = 4 := h
    rw [e]; exact round_4 w rm m g n p M E more hB hn h0 hm e1 e2
  · have e : sz = 8 := h
    rw [e]; exact round_8 w rm m g n p M E more hB hn h0 hm e1 e2
theorem right_s (sz : Int) (d : Bool) (hs : Hid (Sz sz d)) (rm : Int) (h5 : 0 ≤ rm) (h3 : rm < 5) (w : World) : Calls Try.prog 36 #[.int .i64 sz, .int .i64 rm] w (RetB true w) := by
  have h := hs.out
  have h6 : rm ≤ 4 := by omega
  cases d
  · have e : sz = 4 := h
    subst e; clear h hs
    go_enter Try.func36, Try.ntmps36
    go_wp2_with fail
    go_ret
    exact retB_mk rfl (by repeat (first | (with_reducible first | exact Below.refl _ _ | assumption | exact Nat.le_refl _ | refine Below.drew ?_ | refine Below.alloc ?_ ?_ _ | refine Below.setCell ?_ ?_ _ | refine le_alloc ?_ | refine le_set ?_ | refine le_drew ?_ | refine below_step (by assumption) ?_ ?_ | refine le_below (by assumption) ?_) | (dsimp only; omega)))
  · have e : sz = 8 := h
    subst e; clear h hs
    go_enter Try.func36, Try.ntmps36
    go_wp2_with fail
    go_ret
    exact retB_mk rfl (by repeat (first | (with_reducible first | exact Below.refl _ _ | assumption | exact Nat.le_refl _ | refine Below.drew ?_ | refine Below.alloc ?_ ?_ _ | refine Below.setCell ?_ ?_ _ | refine le_alloc ?_ | refine le_set ?_ | refine le_drew ?_ | refine below_step (by assumption) ?_ ?_ | refine le_below (by assumption) ?_) | (dsimp only; omega)))
theorem right_no (sz rm : Int) (h : ¬ ((sz = 4 ∨ sz = 8) ∧ 0 ≤ rm ∧ rm ≤ 4)) (w : World) : Calls Try.prog 36 #[.int .i64 sz, .int .i64 rm] w (RetB false w) := by
  by_cases h4 : sz = 4
  · have g4 : (sz == 4) = true := by rw [beq_iff_eq]; exact h4
    by_cases h0 : 0 ≤ rm
    · have h5 : ¬ rm ≤ 4 := by omega
      clear h h4
      go_enter Try.func36, Try.ntmps36
      go_wp2_with fail
      go_ret
      exact retB_mk rfl (by repeat (first | (with_reducible first | exact Below.refl _ _ | assumption | exact Nat.le_refl _ | refine Below.drew ?_ | refine Below.alloc ?_ ?_ _ | refine Below.setCell ?_ ?_ _ | refine le_alloc ?_ | refine le_set ?_ | refine le_drew ?_ | refine below_step (by assumption) ?_ ?_ | refine le_below (by assumption) ?_) | (dsimp only; omega)))
    · clear h h4
      go_enter Try.func36, Try.ntmps36
      go_wp2_with fail
      go_ret
      exact retB_mk rfl (by repeat (first | (with_reducible first | exact Below.refl _ _ | assumption | exact Nat.le_refl _ | refine Below.drew ?_ | refine Below.alloc ?_ ?_ _ | refine Below.setCell ?_ ?_ _ | refine le_alloc ?_ | refine le_set ?_ | refine le_drew ?_ | refine below_step (by assumption) ?_ ?_ | refine le_below (by assumption) ?_) | (dsimp only; omega)))
  · have g4 : (sz == 4) = false := by rw [beq_eq_false_iff_ne]; exact h4
    by_cases h8 : sz = 8
    · have g8 : (sz == 8) = true := by rw [beq_iff_eq]; exact h8
      by_cases h0 : 0 ≤ rm
      · have h5 : ¬ rm ≤ 4 := by omega
        clear h h4 h8
        go_enter Try.func36, Try.ntmps36
        go_wp2_with fail
        go_ret
        exact retB_mk rfl (by repeat (first | (with_reducible first | exact Below.refl _ _ | assumption | exact Nat.le_refl _ | refine Below.drew ?_ | refine Below.alloc ?_ ?_ _ | refine Below.setCell ?_ ?_ _ | refine le_alloc ?_ | refine le_set ?_ | refine le_drew ?_ | refine below_step (by assumption) ?_ ?_ | refine le_below (by assumption) ?_) | (dsimp only; omega)))
      · clear h h4 h8
        go_enter Try.func36, Try.ntmps36
        go_wp2_with fail
        go_ret
        exact retB_mk rfl (by repeat (first | (with_reducible first | exact Below.refl _ _ | assumption | exact Nat.le_refl _ | refine Below.drew ?_ | refine Below.alloc ?_ ?_ _ | refine Below.setCell ?_ ?_ _ | refine le_alloc ?_ | refine le_set ?_ | refine le_drew ?_ | refine below_step (by assumption) ?_ ?_ | refine le_below (by assumption) ?_) | (dsimp only; omega)))
    · have g8 : (sz == 8) = false := by rw [beq_eq_false_iff_ne]; exact h8
      clear h h4 h8
      go_enter Try.func36, Try.ntmps36
      go_wp2_with fail
      go_ret
      exact retB_mk rfl (by repeat (first | (with_reducible first | exact Below.refl _ _ | assumption | exact Nat.le_refl _ | refine Below.drew ?_ | refine Below.alloc ?_ ?_ _ | refine Below.setCell ?_ ?_ _ | refine le_alloc ?_ | refine le_set ?_ | refine le_drew ?_ | refine below_step (by assumption) ?_ ?_ | refine le_below (by assumption) ?_) | (dsimp only; omega)))
/-- Is one of the first k a float of a kind? -/
def anyB (f : Nat → Bool) (L : List Nat) (k : Nat) : Bool := (L.take k).any f
theorem any_succ (f : Nat → Bool) (L : List Nat) (k : Nat) (h : k < L.length) : anyB f L (k + 1) = (anyB f L k || f (L.getD k 0)) := by
  unfold anyB
  rw [List.take_add_one, List.any_append, List.getElem?_eq_getElem h]
  simp [List.getD_eq_getElem?_getD, List.getElem?_eq_getElem h]
theorem any_all (f : Nat → Bool) (L : List Nat) : anyB f L L.length = L.any f := by unfold anyB; rw [List.take_length]
def RetO (r : Nat × Int × Bool) (W : World) (e : Ending) (w' : World) : Prop := e = .returned (.tuple #[.int .u64 r.1, .int .i64 r.2.1, .bool r.2.2]) ∧ Below W.heap.size W w'
set_option maxHeartbeats 4000000 in
theorem odd_s (sz : Int) (d : Bool) (hs : Hid (Sz sz d)) (g cap : Nat) (L : List Nat) (inv : Bool) (w : World) (hg : g < w.heap.size) (hL : L.length ≤ 10) (hcap : L.length ≤ cap)
    (hc : Hid (∀ o, o < L.length → w.cell? ⟨g, o, none⟩ = some (.int .u64 (L.getD o 0 : Nat)))) (hl : Hid (∀ o, o < L.length → L.getD o 0 < 18446744073709551616)) :
    Calls Try.prog 37 #[.int .i64 sz, .slice (some ⟨g, 0, none⟩) L.length cap, .bool inv] w (RetO (oddV d L inv) w) := by
  have HV : Hid (oddV d L inv = if inv || L.any (sigB d) then (quietB d, 16, true) else (quietB d, 0, L.any (nanB d))) := rfl
  have HA1 := Lib.hid (any_all (nanB d) L); have HA2 := Lib.hid (any_all (sigB d) L)
  obtain ⟨len, hlen⟩ : ∃ len, len = L.length := ⟨_, rfl⟩
  rw [← hlen] at HA1 HA2 hL hcap hc hl ⊢
  have HL := Lib.hid hlen; clear hlen
  go_enter Try.func37, Try.ntmps37
  go_wp2_with fail
  go_loopw [2, 9, 10] (fun v y i wr => ∃ (k : Nat) (z u : Bool), k ≤ len ∧ i = .int .i64 k ∧ y = .bool z ∧ v = .bool u ∧ Hid (z = anyB (nanB d) L k) ∧ Hid (u = (inv || anyB (sigB d) L k)) ∧ Below w.heap.size w wr) (fun _ _ i _ => len - (intOf i).toNat)
  case atStart => exact ⟨0, false, inv, Nat.zero_le _, rfl, rfl, rfl, by show _ = _; simp [anyB], by show _ = _; simp [anyB], (by repeat (first | (with_reducible first | exact Below.refl _ _ | assumption | exact Nat.le_refl _ | refine Below.drew ?_ | refine Below.alloc ?_ ?_ _ | refine Below.setCell ?_ ?_ _ | refine le_alloc ?_ | refine le_set ?_ | refine le_drew ?_ | refine below_step (by assumption) ?_ ?_ | refine le_below (by assumption) ?_) | (dsimp only; omega)))⟩
  case round =>
    obtain ⟨k, z, u, hk, rfl, rfl, rfl, hz, hu, hbw⟩ := hrel
    by_cases hlt : k < len
    · have hlt' : (k : Int) < (len : Int) := by omega
      have ck : wr.cell? ⟨g, k, none⟩ = some (.int .u64 (L.getD k 0 : Nat)) := by rw [hbw.cell (p := ⟨g, k, none⟩) hg]; exact hc.out k hlt
      have HX : Hid (L.getD k 0 < 18446744073709551616) := hl.out k hlt
      have HZ := any_succ (nanB d) L k (by rw [← HL.out]; exact hlt)
      have HS := any_succ (sigB d) L k (by rw [← HL.out]; exact hlt)
      rw [← hz.out] at HZ
      generalize L.getD k 0 = x at *
      obtain ⟨n1, hn1⟩ : ∃ n1, n1 = nanB d x := ⟨_, rfl⟩
      obtain ⟨s1, hs1⟩ : ∃ s1, s1 = sigB d x := ⟨_, rfl⟩
      rw [← hn1] at HZ; rw [← hs1] at HS
      have HN1 := Lib.hid hn1; have HS1 := Lib.hid hs1
      have HZ' := Lib.hid HZ
      have HU' : Hid ((u || s1) = (inv || anyB (sigB d) L (k + 1))) := by show _ = _; rw [HS, hu.out, Bool.or_assoc]
      have m1 : wrap64 ((k : Int) + 1) = (k : Int) + 1 := IntWalk.wrap64_in _ (by omega)
      clear hn1 hs1 HZ HS hz hu hlt
      cases z <;> cases u
      all_goals (go_wp2_with (first | (go_at_call 27; refine (nan_s sz d hs x HX _).mono ?_; rintro e w1 ⟨rfl, b1⟩; rw [← HN1.out]; have ck1 : w1.cell? ⟨g, k, none⟩ = some (.int .u64 (x : Nat)) := (by rw [b1.cell (p := ⟨g, k, none⟩) (Nat.lt_of_lt_of_le hg hbw.size)]; exact ck); clear ck; have hbw := hbw.trans (b1.mono hbw.size)) | (go_at_call 65; refine (sig_s sz d hs x HX _).mono ?_; rintro e w2 ⟨rfl, b2⟩; rw [← HS1.out]; have hbw := hbw.trans (b2.mono hbw.size))))
      all_goals go_roundw
      case rel => exact ⟨k + 1, _, _, by omega, by first | rfl | (congr 1; omega), rfl, rfl, HZ'.out.symm, HU'.out, hbw⟩
      case measure => first | (simp [intOf]; done) | (simp [intOf]; omega)
      case rel => exact ⟨k + 1, _, _, by omega, by first | rfl | (congr 1; omega), rfl, rfl, HZ'.out.symm, HU'.out, hbw⟩
      case measure => first | (simp [intOf]; done) | (simp [intOf]; omega)
      case rel => exact ⟨k + 1, _, _, by omega, by first | rfl | (congr 1; omega), rfl, rfl, HZ'.out.symm, HU'.out, hbw⟩
      case measure => first | (simp [intOf]; done) | (simp [intOf]; omega)
      case rel => exact ⟨k + 1, _, _, by omega, by first | rfl | (congr 1; omega), rfl, rfl, HZ'.out.symm, HU'.out, hbw⟩
      case measure => first | (simp [intOf]; done) | (simp [intOf]; omega)
    · obtain rfl : k = len := by omega
      have hlt' : ¬ (k : Int) < (k : Int) := by omega
      have HU' : Hid (u = (inv || L.any (sigB d))) := by show _ = _; rw [hu.out, HA2.out]
      have HZ' : Hid (z = L.any (nanB d)) := by show _ = _; rw [hz.out, HA1.out]
      clear hu hz hlt
      cases u
      · have E : Hid (oddV d L inv = (quietB d, 0, z)) := by show _ = _; rw [HV.out, ← HU'.out, HZ'.out]; rfl
        go_wp2_with (go_at_call 66; refine (quiet_s sz d hs _).mono ?_; rintro e w1 ⟨rfl, b1⟩; have hbw := hbw.trans (b1.mono hbw.size))
        go_ret3
        exact ⟨by rw [E.out]; rfl, hbw⟩
      · have E : Hid (oddV d L inv = (quietB d, 16, true)) := by show _ = _; rw [HV.out, ← HU'.out]; rfl
        go_wp2_with (go_at_call 66; refine (quiet_s sz d hs _).mono ?_; rintro e w1 ⟨rfl, b1⟩; have hbw := hbw.trans (b1.mono hbw.size))
        go_ret3
        exact ⟨by rw [E.out]; rfl, hbw⟩
end Go.Proofs.Ythjdeopfbjmmeaa
