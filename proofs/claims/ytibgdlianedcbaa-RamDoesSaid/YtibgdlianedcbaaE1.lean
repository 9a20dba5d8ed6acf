/- What RamEqual's tests come to. -/
import Derived.Test.YtibgdlianedcbaaN3
namespace Go.Proofs.Ytibgdlianedcbaa
set_option linter.unusedVariables false
set_option linter.unusedSimpArgs false
theorem has_nat {a : Nat} {z : Int} (h : hasV a z = true) : ∃ n : Nat, z = n ∧ (n = 1 ∨ n = 2 ∨ n = 4 ∨ n = 8) ∧ 2147483648 ≤ a ∧ a + n ≤ 2148532224 := by
  unfold hasV at h
  have := of_decide_eq_true h
  exact ⟨z.toNat, by omega, by omega, by omega, by omega⟩
theorem has_one {a : Nat} {z : Int} (h : hasV a z = true) : hasV a 1 = true := by
  obtain ⟨n, rfl, h1, h2, h3⟩ := has_nat h
  unfold hasV
  exact decide_eq_true (by omega)
theorem wr_read {F : Nat → Nat} (hF : ∀ i, F i < 256) {a : Nat} {z : Int} (h : hasV a z = true) : wrF F a z (readV F a z) = F := by
  obtain ⟨n, rfl, h1, h2, h3⟩ := has_nat h
  funext x
  by_cases c : a ≤ x ∧ x < a + n
  · rw [wrF_in F a n _ x h c.1 c.2, readV_yes F a n h, numR_digit _ (fun i => hF _) (x - a) n (by omega), show a + (x - a) = x by omega]
  · exact wrF_out F a n _ x (by omega)
theorem wr_one {F : Nat → Nat} {a : Nat} (h : hasV a 1 = true) (v : Nat) (hv : v < 256) (x : Nat) : wrF F a 1 v x = if x = a then v else F x := by
  have h' : hasV a ((1 : Nat) : Int) = true := h
  by_cases c : x = a
  · subst c
    rw [if_pos rfl]
    have e : wrF F x ((1 : Nat) : Int) v x = v / 256 ^ (x - x) % 256 := wrF_in F x 1 v x h' (Nat.le_refl _) (by omega)
    rw [Nat.sub_self, Nat.pow_zero, Nat.div_one, Nat.mod_eq_of_lt hv] at e
    exact e
  · rw [if_neg c]
    exact wrF_out F a 1 v x (by omega)
theorem wr_back {F : Nat → Nat} {a : Nat} (hF : ∀ i, F i < 256) (h : hasV a 1 = true) (v : Nat) (hv : v < 256) : wrF (wrF F a 1 v) a 1 (F a) = F := by
  funext x
  rw [wr_one h _ (hF a), wr_one h v hv]
  by_cases c : x = a
  · rw [if_pos c, c]
  · rw [if_neg c, if_neg c]
theorem same_one {F : Nat → Nat} {a : Nat} (hF : ∀ i, F i < 256) (h : hasV a 1 = true) (v : Nat) (hv : v < 256) : sameV F (wrF F a 1 v) = decide (F a = v) ∧ sameV (wrF F a 1 v) F = decide (F a = v) := by
  obtain ⟨n, hn, h1, h2, h3⟩ := has_nat h
  by_cases c : F a = v
  · have e : wrF F a 1 v = F := by
      funext x
      rw [wr_one h v hv]
      by_cases d : x = a
      · rw [if_pos d, d, c]
      · rw [if_neg d]
    rw [e, decide_eq_true c]
    have := (sameV_true F F).2 (fun _ _ _ => rfl)
    exact ⟨this, this⟩
  · rw [decide_eq_false c]
    have e : wrF F a 1 v a = v := by rw [wr_one h v hv, if_pos rfl]
    exact ⟨sameV_false ⟨a, h2, by omega, by rw [e]; exact c⟩, sameV_false ⟨a, h2, by omega, by rw [e]; exact fun q => c q.symm⟩⟩
theorem pages_none : pagesL (fun _ => 0) = [] := by
  refine List.eq_nil_iff_forall_not_mem.2 (fun s hs => ?_)
  rw [pages_mem] at hs
  have h5 : eqPg (fun i => (fun _ => 0) (s + i)) (fun _ => 0) = !true := hs.2
  obtain ⟨i, hi, hne⟩ := ne_gen h5
  exact hne rfl
theorem lay_lt {R : Nat → Nat} (hR : ∀ i, R i < 256) (a n : Nat) : ∀ i, layF (fun _ => 0) a n R i < 256 := by
  intro i
  unfold layF
  by_cases c : a ≤ i ∧ i < a + n
  · rw [if_pos c]; exact hR _
  · rw [if_neg c]; show (0 : Nat) < 256; decide
end Go.Proofs.Ytibgdlianedcbaa
