/- What follows for every half and every instruction. -/
import Derived.Test.YtcfeeookjgdkmaaDoorB10
import Derived.Test.YtcfeeookjgdkmaaDoorM10
import Derived.Test.YtcfeeookjgdkmaaDoorM11
import Derived.Test.YtcfeeookjgdkmaaDoorM12
import Derived.Test.YtcfeeookjgdkmaaDoorM13
import Derived.Test.YtcfeeookjgdkmaaDoorM14
import Derived.Test.YtcfeeookjgdkmaaDoorM15
import Derived.Test.YtcfeeookjgdkmaaDoorM16
import Derived.Test.YtcfeeookjgdkmaaDoorM17
namespace Go.Proofs.YtcfeeookjgdkmaaDoor
open Go.ChangeShapes Go.WideShapes Go.ChangeAt Go.RowKit
set_option linter.unusedVariables false
set_option linter.unusedSimpArgs false

theorem parts (k : Nat) (hk : k < 64) : allB okB 10 k = true := by
  have h : k = 0 ∨ k = 1 ∨ k = 2 ∨ k = 3 ∨ k = 4 ∨ k = 5 ∨ k = 6 ∨ k = 7 ∨ k = 8 ∨ k = 9 ∨ k = 10 ∨ k = 11 ∨ k = 12 ∨ k = 13 ∨ k = 14 ∨ k = 15 ∨ k = 16 ∨ k = 17 ∨ k = 18 ∨ k = 19 ∨ k = 20 ∨ k = 21 ∨ k = 22 ∨ k = 23 ∨ k = 24 ∨ k = 25 ∨ k = 26 ∨ k = 27 ∨ k = 28 ∨ k = 29 ∨ k = 30 ∨ k = 31 ∨ k = 32 ∨ k = 33 ∨ k = 34 ∨ k = 35 ∨ k = 36 ∨ k = 37 ∨ k = 38 ∨ k = 39 ∨ k = 40 ∨ k = 41 ∨ k = 42 ∨ k = 43 ∨ k = 44 ∨ k = 45 ∨ k = 46 ∨ k = 47 ∨ k = 48 ∨ k = 49 ∨ k = 50 ∨ k = 51 ∨ k = 52 ∨ k = 53 ∨ k = 54 ∨ k = 55 ∨ k = 56 ∨ k = 57 ∨ k = 58 ∨ k = 59 ∨ k = 60 ∨ k = 61 ∨ k = 62 ∨ k = 63 := by omega
  rcases h with rfl | rfl | rfl | rfl | rfl | rfl | rfl | rfl | rfl | rfl | rfl | rfl | rfl | rfl | rfl | rfl | rfl | rfl | rfl | rfl | rfl | rfl | rfl | rfl | rfl | rfl | rfl | rfl | rfl | rfl | rfl | rfl | rfl | rfl | rfl | rfl | rfl | rfl | rfl | rfl | rfl | rfl | rfl | rfl | rfl | rfl | rfl | rfl | rfl | rfl | rfl | rfl | rfl | rfl | rfl | rfl | rfl | rfl | rfl | rfl | rfl | rfl | rfl | rfl
  · exact part_0
  · exact part_1
  · exact part_2
  · exact part_3
  · exact part_4
  · exact part_5
  · exact part_6
  · exact part_7
  · exact part_8
  · exact part_9
  · exact part_10
  · exact part_11
  · exact part_12
  · exact part_13
  · exact part_14
  · exact part_15
  · exact part_16
  · exact part_17
  · exact part_18
  · exact part_19
  · exact part_20
  · exact part_21
  · exact part_22
  · exact part_23
  · exact part_24
  · exact part_25
  · exact part_26
  · exact part_27
  · exact part_28
  · exact part_29
  · exact part_30
  · exact part_31
  · exact part_32
  · exact part_33
  · exact part_34
  · exact part_35
  · exact part_36
  · exact part_37
  · exact part_38
  · exact part_39
  · exact part_40
  · exact part_41
  · exact part_42
  · exact part_43
  · exact part_44
  · exact part_45
  · exact part_46
  · exact part_47
  · exact part_48
  · exact part_49
  · exact part_50
  · exact part_51
  · exact part_52
  · exact part_53
  · exact part_54
  · exact part_55
  · exact part_56
  · exact part_57
  · exact part_58
  · exact part_59
  · exact part_60
  · exact part_61
  · exact part_62
  · exact part_63
theorem ok_all (h : Nat) (hh : h < 65536) : okB h = true := allB_at (k := 10) (parts (h / 1024) (by omega)) rfl
theorem ex_none {h y : Nat} (hh : h < 65536) (e : expandF h = (y, false)) : y = 0 ∧ expandD h = 0 ∧ memB h = false := by
  have hk := ok_all h hh
  unfold expandF at e
  unfold okB at hk
  cases hf : rowsL.find? (holdsB · h) with
  | some r => rw [hf] at e; cases e
  | none =>
    rw [hf] at e hk
    cases e
    rw [Bool.and_eq_true] at hk
    exact ⟨rfl, Nat.eq_of_beq_eq_true hk.1, by simpa using hk.2⟩
theorem ble_of {a b : Nat} (h : Nat.blt a b = true) : a < b := Nat.le_of_ble_eq_true h
theorem ex_some {h y : Nat} (hh : h < 65536) (e : expandF h = (y, true)) :
    (∃ r ∈ rowsL, attF r y = (h, true)) ∧ y < 4294967296 ∧ 0 < y ∧ y % 4 = 3 ∧ h % 4 < 3 ∧ y = expandD h ∧ (memB h = true → regsB h y = true) := by
  have hk := ok_all h hh
  have e0 := e
  unfold expandF at e
  unfold okB at hk
  cases hf : rowsL.find? (holdsB · h) with
  | none => rw [hf] at e; cases e
  | some r =>
    rw [hf] at e hk
    obtain ⟨rfl, _⟩ := Prod.mk.inj e
    simp only [Bool.and_eq_true, Bool.or_eq_true, Bool.not_eq_true'] at hk
    obtain ⟨⟨⟨⟨⟨⟨⟨h1, h2⟩, h3⟩, h4⟩, h5⟩, h6⟩, h7⟩, h8⟩ := hk
    have k4 : readF r (writeF r h) = h := Nat.eq_of_beq_eq_true h4
    have k5 : writeF r h &&& 127 = r.base &&& 127 := Nat.eq_of_beq_eq_true h5
    refine ⟨⟨r, List.mem_of_find?_eq_some hf, ?_⟩, ble_of h3, ble_of h2, Nat.eq_of_beq_eq_true h6, ble_of h7, Nat.eq_of_beq_eq_true h1, ?_⟩
    · rw [att_yes k5, k4, e0]; simp
    · intro hm; rcases h8 with h8 | h8
      · rw [hm] at h8; cases h8
      · exact h8
theorem att_some {r : SRow} (hr : r ∈ rowsL) {x h : Nat} (e : attF r x = (h, true)) : expandF h = (x, true) ∧ h < 65536 := by
  by_cases hc : x &&& 127 = r.base &&& 127
  · rw [att_yes hc] at e
    obtain ⟨rfl, e2⟩ := Prod.mk.inj e
    rw [Bool.and_eq_true, beq_iff_eq] at e2
    exact ⟨Prod.ext e2.2 e2.1, readF_lt r (ok_rows r hr) x⟩
  · rw [att_no hc] at e; cases e
theorem att_zero {r : SRow} {x h : Nat} (e : attF r x = (h, true)) : (attF r x).2 = true ∧ (attF r x).1 = h := by rw [e]; exact ⟨rfl, rfl⟩
theorem fold_inv (x : Nat) (L : List SRow) : ∀ (a : Nat × Bool), ((L.foldl (stepS x) a).2 = true → (a.2 = true ∧ (L.foldl (stepS x) a).1 = a.1) ∨ ∃ r ∈ L, attF r x = ((L.foldl (stepS x) a).1, true)) ∧
    (a.2 = true → (L.foldl (stepS x) a).2 = true ∧ (L.foldl (stepS x) a).1 ≤ a.1) ∧ (∀ r ∈ L, ∀ h, attF r x = (h, true) → (L.foldl (stepS x) a).2 = true ∧ (L.foldl (stepS x) a).1 ≤ h) ∧
    ((L.foldl (stepS x) a).2 = false → (L.foldl (stepS x) a).1 = a.1) := by
  induction L with
  | nil => intro a; exact ⟨fun h => .inl ⟨h, rfl⟩, fun h => ⟨h, Nat.le_refl _⟩, fun r hr => by simp at hr, fun _ => rfl⟩
  | cons q L ih =>
    intro a
    obtain ⟨i1, i2, i3, i4⟩ := ih (stepS x a q)
    rw [List.foldl_cons]
    by_cases hc : ((attF q x).2 && (!a.2 || decide ((attF q x).1 < a.1))) = true
    · have hs : stepS x a q = ((attF q x).1, true) := by unfold stepS; rw [if_pos hc]
      rw [hs] at i1 i2 i3 i4 ⊢
      simp only [Bool.and_eq_true, Bool.or_eq_true, Bool.not_eq_true', decide_eq_true_eq] at hc
      have ha : attF q x = ((attF q x).1, true) := Prod.ext rfl hc.1
      refine ⟨fun h => ?_, fun h => ?_, fun r hr h e => ?_, fun h => ?_⟩
      · rcases i1 h with ⟨_, e⟩ | ⟨r, hr, e⟩
        · exact .inr ⟨q, List.mem_cons_self, by rw [e]; exact ha⟩
        · exact .inr ⟨r, List.mem_cons_of_mem _ hr, e⟩
      · have hj := i2 rfl
        refine ⟨hj.1, Nat.le_trans hj.2 ?_⟩
        rcases hc.2 with g | g
        · rw [h] at g; cases g
        · exact Nat.le_of_lt g
      · rcases List.mem_cons.1 hr with rfl | hr
        · have hj := i2 rfl
          have hq : (attF r x).1 = h := by rw [e]
          exact ⟨hj.1, Nat.le_trans hj.2 (Nat.le_of_eq hq)⟩
        · exact i3 r hr h e
      · rw [(i2 rfl).1] at h; cases h
    · have hs : stepS x a q = a := by unfold stepS; rw [if_neg hc]
      rw [hs] at i1 i2 i3 i4 ⊢
      refine ⟨fun h => ?_, i2, fun r hr h e => ?_, i4⟩
      · rcases i1 h with e | ⟨r, hr, e⟩
        · exact .inl e
        · exact .inr ⟨r, List.mem_cons_of_mem _ hr, e⟩
      · rcases List.mem_cons.1 hr with rfl | hr
        · rw [e] at hc
          simp only [Bool.and_eq_true, Bool.or_eq_true, Bool.not_eq_true', decide_eq_true_eq, true_and, not_or, Bool.not_eq_false] at hc
          have hj := i2 hc.1
          exact ⟨hj.1, by omega⟩
        · exact i3 r hr h e
theorem shrink_some {x l : Nat} (e : shrinkF x = (l, true)) : expandF l = (x, true) ∧ l < 65536 := by
  obtain ⟨i1, _, _, _⟩ := fold_inv x rowsL (0, false)
  have e' : rowsL.foldl (stepS x) (0, false) = (l, true) := e
  rw [e'] at i1
  rcases i1 rfl with ⟨h, _⟩ | ⟨r, hr, h⟩
  · cases h
  · exact att_some hr h
theorem shrink_none {x l : Nat} (e : shrinkF x = (l, false)) : l = 0 := by
  obtain ⟨_, _, _, i4⟩ := fold_inv x rowsL (0, false)
  have e' : rowsL.foldl (stepS x) (0, false) = (l, false) := e
  rw [e'] at i4; exact i4 rfl
theorem shrink_least {x h : Nat} (hh : h < 65536) (e : expandF h = (x, true)) : ∃ l, shrinkF x = (l, true) ∧ l ≤ h := by
  obtain ⟨⟨r, hr, ha⟩, _⟩ := ex_some hh e
  obtain ⟨_, _, i3, _⟩ := fold_inv x rowsL (0, false)
  have hj := i3 r hr h ha
  exact ⟨(shrinkF x).1, Prod.ext rfl hj.1, hj.2⟩
theorem expand_eq {h : Nat} (hh : h < 65536) : expandF h = (expandD h, expandD h != 0) := by
  obtain ⟨p, hp⟩ : ∃ p, p = expandF h := ⟨_, rfl⟩
  obtain ⟨y, b⟩ := p
  cases b with
  | true =>
    obtain ⟨_, _, h0, _, _, hd, _⟩ := ex_some hh hp.symm
    rw [← hp, ← hd]; simp; omega
  | false =>
    obtain ⟨h0, hd, _⟩ := ex_none hh hp.symm
    rw [← hp, hd, h0]; rfl
/-- The least half that stands for it, below n. -/
def leastD (x : Nat) : Nat → Nat × Bool
  | 0 => (0, false)
  | n + 1 => if (leastD x n).2 then leastD x n else if expandD n != 0 && expandD n == x then (n, true) else (0, false)
end Go.Proofs.YtcfeeookjgdkmaaDoor
