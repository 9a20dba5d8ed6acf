/- The plain mathematics of SoftModes: of what sums, products, quotients, roots are by each mode. -/
import Derived.Test.YthjdeopfbjmmeaaG1
import Derived.Test.YthjdeopfbjmmeaaG3
namespace Go.Proofs.Ythjdeopfbjmmeaa
set_option linter.unusedVariables false
set_option linter.unusedSimpArgs false
/-- A float by the order, as a whole number. -/
def keyI (d : Bool) (r : Nat) : Int := if r / signB d % 2 = 1 then -((r % signB d : Nat) : Int) else ((r % signB d : Nat) : Int)
def Fine (d : Bool) (r : Nat) : Prop := r < 18446744073709551616 ∧ nanB d r = false
/-- No number, or exact, or between two neighbours. -/
def ModesOk (d : Bool) (F : Int → Nat × Int) : Prop :=
  (∃ fl : Int, ∀ rm, F rm = (quietB d, fl)) ∨
  (∃ v : Int, ∀ rm, Fine d (F rm).1 ∧ keyI d (F rm).1 = v ∧ ((F rm).2 = 0 ∨ (F rm).2 = 8)) ∨
  (∃ v : Int, ∀ rm, Fine d (F rm).1 ∧ ((F rm).2 = 1 ∨ (F rm).2 = 3 ∨ (F rm).2 = 5) ∧ (keyI d (F rm).1 = v ∨ keyI d (F rm).1 = v + 1) ∧
    (rm = 1 → keyI d (F rm).1 = if 0 ≤ v then v else v + 1) ∧ (rm = 2 → keyI d (F rm).1 = v) ∧ (rm = 3 → keyI d (F rm).1 = v + 1))
theorem key_shape (d m : Bool) (j : Nat) (h : j ≤ infB d) : Fine d (noughtV d m + j) ∧ keyI d (noughtV d m + j) = if m then -(j : Int) else j := by
  have hI : infB d < signB d := by cases d <;> decide
  have hS : 0 < signB d := by cases d <;> decide
  have e1 : (noughtV d m + j) % signB d = j := by
    cases m
    · show (0 + j) % signB d = j; rw [Nat.zero_add]; exact Nat.mod_eq_of_lt (by omega)
    · show (signB d + j) % signB d = j; rw [Nat.add_mod_left]; exact Nat.mod_eq_of_lt (by omega)
  have e2 : (noughtV d m + j) / signB d % 2 = if m then 1 else 0 := by
    cases m
    · show (0 + j) / signB d % 2 = 0; rw [Nat.zero_add, Nat.div_eq_of_lt (by omega)]
    · show (signB d + j) / signB d % 2 = 1; rw [Nat.add_comm, Nat.add_div_right _ hS, Nat.div_eq_of_lt (by omega)]
  refine ⟨⟨shape_lt h, ?_⟩, ?_⟩
  · unfold nanB
    apply decide_eq_false
    cases d
    · have h' : j ≤ 2139095040 := h
      cases m
      · show ¬ ((0 + j) / 8388608 % 256 = 255 ∧ (0 + j) % 8388608 ≠ 0); omega
      · show ¬ ((2147483648 + j) / 8388608 % 256 = 255 ∧ (2147483648 + j) % 8388608 ≠ 0); omega
    · have h' : j ≤ 9218868437227405312 := h
      cases m
      · show ¬ ((0 + j) / 4503599627370496 % 2048 = 2047 ∧ (0 + j) % 4503599627370496 ≠ 0); omega
      · show ¬ ((9223372036854775808 + j) / 4503599627370496 % 2048 = 2047 ∧ (9223372036854775808 + j) % 4503599627370496 ≠ 0); omega
  · unfold keyI
    rw [e1, e2]
    cases m <;> simp
theorem modes_of_R {d m : Bool} {F : Int → Nat × Int} (h : ModesR d m F) : ModesOk d F := by
  obtain ⟨j, ex, hj, hr⟩ := h
  cases ex
  · refine .inr (.inr ⟨if m then -((j : Int) + 1) else j, fun rm => ?_⟩)
    obtain ⟨u, ⟨hu, -, h3⟩, h4, h5⟩ := hr rm
    obtain ⟨a1, a2, a3⟩ := h3 rfl
    obtain ⟨k1, k2⟩ := key_shape d m (j + u) (by omega)
    rw [h4, k2]
    refine ⟨k1, h5.elim (fun h => absurd h.2 (by decide)) (·.1), ?_, fun h => ?_, fun h => ?_, fun h => ?_⟩
    · cases m <;> simp <;> omega
    · have := a1 h; subst this; cases m <;> simp <;> omega
    · have := a2 h; subst this; cases m <;> simp <;> omega
    · have := a3 h; subst this; cases m <;> simp <;> omega
  · refine .inr (.inl ⟨if m then -(j : Int) else j, fun rm => ?_⟩)
    obtain ⟨u, ⟨hu, h2, -⟩, h4, h5⟩ := hr rm
    have hu0 := h2 rfl
    subst hu0
    rw [h4]
    obtain ⟨k1, k2⟩ := key_shape d m j (by omega)
    exact ⟨k1, k2, .inl (h5.elim (·.1) (fun h => absurd h.2 (by decide)))⟩
theorem modes_const {d : Bool} {m : Bool} {j : Nat} {fl : Int} {F : Int → Nat × Int} (hj : j ≤ infB d) (hf : fl = 0 ∨ fl = 8) (h : ∀ rm, F rm = (noughtV d m + j, fl)) : ModesOk d F := by
  refine .inr (.inl ⟨if m then -(j : Int) else j, fun rm => ?_⟩)
  rw [h rm]
  obtain ⟨k1, k2⟩ := key_shape d m j hj
  exact ⟨k1, k2, hf⟩
theorem modes_nan {d : Bool} {fl : Int} {F : Int → Nat × Int} (h : ∀ rm, F rm = (quietB d, fl)) : ModesOk d F := .inl ⟨fl, h⟩
theorem modes_round' (d : Bool) (N : Num) (h : FinC N) {F : Int → Nat × Int} (hF : ∀ rm, F rm = roundF d rm N) : ModesOk d F := by
  have := modes_of_R (modes_round d N h.1 h.2.1)
  have e : F = fun rm => roundF d rm N := funext hF
  rw [e]; exact this
theorem modes_write (d : Bool) (N : Num) (h : N.cls ≠ 0 → N.cls ≠ 2 → FinC N) {F : Int → Nat × Int} (hF : ∀ rm, F rm = writeF d rm N) : ModesOk d F := by
  unfold writeF at hF
  by_cases h0 : N.cls = 0
  · simp only [if_pos h0] at hF
    exact modes_const (j := 0) (Nat.zero_le _) (.inl rfl) hF
  · simp only [if_neg h0] at hF
    by_cases h2 : N.cls = 2
    · simp only [if_pos h2] at hF
      exact modes_const (j := infB d) (Nat.le_refl _) (.inl rfl) hF
    · simp only [if_neg h2] at hF
      exact modes_round' d N (h h0 h2) hF
theorem modes_sum (d : Bool) (M N : Num) (c1 : M.cls ≤ 4) (c2 : N.cls ≤ 4) (b1 : M.cls = 1 → FinB M) (b2 : N.cls = 1 → FinB N) : ModesOk d (fun rm => sumF d rm M N) := by
  unfold sumF
  by_cases hs : someV M.cls N.cls = true
  · simp only [if_pos hs]; exact modes_nan fun _ => rfl
  · simp only [if_neg hs]
    have hlo : M.cls ≤ 2 ∧ N.cls ≤ 2 := by
      have := mt (someV_dec M.cls N.cls).2 hs; omega
    by_cases h1 : M.cls = 2 ∧ N.cls = 2 ∧ M.minus ≠ N.minus
    · simp only [if_pos h1]; exact modes_nan fun _ => rfl
    · simp only [if_neg h1]
      by_cases h2 : M.cls = 2
      · simp only [if_pos h2]; exact modes_const (j := infB d) (m := M.minus) (Nat.le_refl _) (.inl rfl) fun _ => rfl
      · simp only [if_neg h2]
        by_cases h3 : N.cls = 2
        · simp only [if_pos h3]; exact modes_const (j := infB d) (m := N.minus) (Nat.le_refl _) (.inl rfl) fun _ => rfl
        · simp only [if_neg h3]
          by_cases h4 : M.cls = 0 ∧ N.cls = 0 ∧ M.minus = N.minus
          · simp only [if_pos h4]; exact modes_const (j := 0) (m := M.minus) (Nat.zero_le _) (.inl rfl) fun _ => rfl
          · simp only [if_neg h4]
            have hok := totalN_ok (M := M) (N := N) (by omega) (by omega) b1 b2
            by_cases h5 : (totalN M N).cls = 0
            · simp only [if_pos h5]
              refine .inr (.inl ⟨0, fun rm => ?_⟩)
              obtain ⟨k1, k2⟩ := key_shape d (decide (rm = 2)) 0 (Nat.zero_le _)
              refine ⟨k1, ?_, .inl rfl⟩
              show keyI d (noughtV d (decide (rm = 2)) + 0) = 0
              rw [k2]; split <;> rfl
            · simp only [if_neg h5]
              exact modes_write d _ (fun k _ => hok.elim (fun h => absurd h k) (·.2)) fun _ => rfl
theorem modes_add (d : Bool) (a b : Nat) : ModesOk d (fun rm => sumF d rm (readN d a) (readN d b)) := modes_sum d _ _ (readN_cls d a) (readN_cls d b) (readN_finB d a) (readN_finB d b)
theorem modes_fma (d : Bool) (a b c : Nat) : ModesOk d (fun rm => fmaF d rm (readN d a) (readN d b) (readN d c)) := by
  unfold fmaF
  by_cases h : (readN d a).cls = 0 ∧ (readN d b).cls = 2 ∨ (readN d a).cls = 2 ∧ (readN d b).cls = 0
  · simp only [if_pos h]; exact modes_nan fun _ => rfl
  · simp only [if_neg h]
    exact modes_sum d _ _ (productN_cls (readN_cls d a) (readN_cls d b)) (readN_cls d c) (productN_finB d a b) (readN_finB d c)
theorem modes_mul (d : Bool) (a b : Nat) : ModesOk d (fun rm => mulF d rm (readN d a) (readN d b)) := by
  unfold mulF
  by_cases h : (readN d a).cls = 0 ∧ (readN d b).cls = 2 ∨ (readN d a).cls = 2 ∧ (readN d b).cls = 0
  · simp only [if_pos h]; exact modes_nan fun _ => rfl
  · simp only [if_neg h]
    by_cases hs : someV (productN (readN d a) (readN d b)).cls 0 = true
    · simp only [if_pos hs]; exact modes_nan fun _ => rfl
    · simp only [if_neg hs]
      refine modes_write d _ (fun k1 k2 => ?_) fun _ => rfl
      have hc := productN_cls (readN_cls d a) (readN_cls d b)
      refine productN_fin (readN_finB d a) (readN_finB d b) (readN_all d a).1 (readN_all d b).1 ?_
      have := mt (someV_dec (productN (readN d a) (readN d b)).cls 0).2 hs
      omega
theorem modes_div (d : Bool) (a b : Nat) : ModesOk d (fun rm => divF d rm (readN d a) (readN d b)) := by
  have c1 := readN_cls d a
  have c2 := readN_cls d b
  have f1 := readN_finR d a
  have f2 := readN_finR d b
  unfold divF
  generalize readN d a = M at *
  generalize readN d b = N at *
  by_cases hs : someV M.cls N.cls = true
  · simp only [if_pos hs]; exact modes_nan fun _ => rfl
  · simp only [if_neg hs]
    have hlo : M.cls ≤ 2 ∧ N.cls ≤ 2 := by
      have := mt (someV_dec M.cls N.cls).2 hs; omega
    by_cases h1 : M.cls = N.cls ∧ M.cls ≠ 1
    · simp only [if_pos h1]; exact modes_nan fun _ => rfl
    · simp only [if_neg h1]
      by_cases h2 : M.cls = 2
      · simp only [if_pos h2]; exact modes_const (j := infB d) (m := M.minus != N.minus) (Nat.le_refl _) (.inl rfl) fun _ => rfl
      · simp only [if_neg h2]
        by_cases h3 : M.cls = 0 ∨ N.cls = 2
        · simp only [if_pos h3]; exact modes_const (j := 0) (m := M.minus != N.minus) (Nat.zero_le _) (.inl rfl) fun _ => rfl
        · simp only [if_neg h3]
          by_cases h4 : N.cls = 0
          · simp only [if_pos h4]; exact modes_const (j := infB d) (m := M.minus != N.minus) (Nat.le_refl _) (.inr rfl) fun _ => rfl
          · simp only [if_neg h4]
            exact modes_round' d _ (quotN_fin (f1 (by omega)) (f2 (by omega))) fun _ => rfl
theorem modes_sqrt (d : Bool) (a : Nat) : ModesOk d (fun rm => sqrtF d rm (readN d a)) := by
  have c1 := readN_cls d a
  have f1 := readN_finR d a
  unfold sqrtF
  generalize readN d a = M at *
  by_cases hs : someV M.cls 0 = true
  · simp only [if_pos hs]; exact modes_nan fun _ => rfl
  · simp only [if_neg hs]
    have hlo : M.cls ≤ 2 := by
      have := mt (someV_dec M.cls 0).2 hs; omega
    by_cases h1 : M.cls = 0
    · simp only [if_pos h1]; exact modes_const (j := 0) (m := M.minus) (Nat.zero_le _) (.inl rfl) fun _ => rfl
    · simp only [if_neg h1]
      by_cases h2 : M.minus = true
      · simp only [if_pos h2]; exact modes_nan fun _ => rfl
      · simp only [if_neg h2]
        by_cases h3 : M.cls = 2
        · simp only [if_pos h3]; exact modes_const (j := infB d) (m := false) (Nat.le_refl _) (.inl rfl) fun _ => rfl
        · simp only [if_neg h3]
          exact modes_round' d _ (rootN_fin (f1 (by omega))) fun _ => rfl
end Go.Proofs.Ythjdeopfbjmmeaa
