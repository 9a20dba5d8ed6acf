/- What kind of float, by its bits; the code's answers put as the document puts them. -/
import Derived.Test.YthjdeopfbjmmeaaL4
import Derived.Test.YthjdeopfbjmmeaaG9
namespace Go.Proofs.Ythjdeopfbjmmeaa
set_option linter.unusedVariables false
set_option linter.unusedSimpArgs false
def sigB (d : Bool) (a : Nat) : Bool := nanB d a && decide (a % fracT d / (fracT d / 2) = 0)
def ofM (d : Bool) (a : Nat) : Nat := if a / fracT d % expT d = 0 then a % fracT d else a % fracT d + fracT d
def ofE (d : Bool) (a : Nat) : Int := (if a / fracT d % expT d = 0 then 1 else ((a / fracT d % expT d : Nat) : Int)) - bias d - fb d
def maskB (d : Bool) (a : Nat) : Nat := if d then a else a % 4294967296
theorem class_cases (d : Bool) (a : Nat) :
    ((readN d a).cls = 2 ∧ nanB d a = false ∧ isInf d a = true ∧ isZero d a = false ∧ sigB d a = false ∨
     (readN d a).cls = 3 ∧ nanB d a = true ∧ isInf d a = false ∧ isZero d a = false ∧ sigB d a = false ∨
     (readN d a).cls = 4 ∧ nanB d a = true ∧ isInf d a = false ∧ isZero d a = false ∧ sigB d a = true ∨
     (readN d a).cls = 1 ∧ nanB d a = false ∧ isInf d a = false ∧ isZero d a = false ∧ sigB d a = false ∧ (readN d a).mag = ofM d a ∧ (readN d a).exp = ofE d a ∨
     (readN d a).cls = 0 ∧ nanB d a = false ∧ isInf d a = false ∧ isZero d a = true ∧ sigB d a = false ∧ (readN d a).mag = 0 ∧ ofM d a = 0) ∧ (readN d a).minus = decide (a / signB d % 2 = 1) := by
  have he : expT d - 1 ≠ 0 := by cases d <;> decide
  unfold readN nanB isInf isZero sigB ofM ofE classV nanB
  simp only
  generalize a / fracT d % expT d = x
  generalize a % fracT d = m
  by_cases h1 : x = expT d - 1
  · subst h1
    rw [if_pos rfl]
    refine ⟨?_, rfl⟩
    by_cases h2 : m = 0
    · left; simp [h2, he]
    · by_cases h3 : m / (fracT d / 2) = 0
      · right; right; left; simp [h2, h3, he]
      · right; left; simp [h2, h3, he]
  · rw [if_neg h1]
    by_cases h2 : x = 0
    · subst h2
      simp only [ne_eq, not_true_eq_false, if_false, if_true]
      by_cases h3 : m = 0
      · simp only [h3, not_true_eq_false, if_false]
        refine ⟨?_, trivial⟩
        right; right; right; right
        simp [h1]
      · simp only [h3, not_false_eq_true, if_true]
        refine ⟨?_, trivial⟩
        right; right; right; left
        simp [h1, h3]
    · simp only [h2, ne_eq, not_false_eq_true, if_true, if_false]
      refine ⟨?_, trivial⟩
      right; right; right; left
      simp [h1, h2]
theorem mask_inf (d : Bool) (a : Nat) (ha : a < 18446744073709551616) (h : isInf d a = true) : maskB d a = infV d (decide (a / signB d % 2 = 1)) := by
  unfold isInf at h
  have h' := of_decide_eq_true h
  obtain ⟨h1, h2⟩ := h'
  cases d
  · simp only [fracT, expT, Bool.false_eq_true, if_false] at h1 h2
    simp only [maskB, infV, noughtV, signB, infB, Bool.false_eq_true, if_false]
    by_cases hs : a / 2147483648 % 2 = 1
    · simp only [hs, decide_true, if_true]; omega
    · simp only [hs, decide_false, Bool.false_eq_true, if_false]; omega
  · simp only [fracT, expT, if_true] at h1 h2
    simp only [maskB, infV, noughtV, signB, infB, if_true]
    by_cases hs : a / 9223372036854775808 % 2 = 1
    · simp only [hs, decide_true, if_true]; omega
    · simp only [hs, decide_false, Bool.false_eq_true, if_false]; omega
/-- A finite float as the document takes it apart. -/
def ofN (d : Bool) (a : Nat) : Num := ⟨if ofM d a = 0 then 0 else 1, decide (a / signB d % 2 = 1), ofE d a, ofM d a⟩
theorem sumF_exp0 (d : Bool) (rm : Int) (M N : Num) (e : Int) (h : M.cls = 0) : sumF d rm ⟨0, M.minus, e, M.mag⟩ N = sumF d rm M N := by
  unfold sumF totalN; rw [h]; simp
theorem sumF_exp1 (d : Bool) (rm : Int) (M N : Num) (e : Int) (h : N.cls = 0) : sumF d rm M ⟨0, N.minus, e, N.mag⟩ = sumF d rm M N := by
  unfold sumF totalN
  rw [h]
  by_cases hm : M.cls = 0
  · simp [hm, h]
  · simp [hm]
theorem ofN_read (d : Bool) (a : Nat) (h : (readN d a).cls ≤ 1) : ofN d a = readN d a ∧ (readN d a).cls = 1 ∨ (readN d a).cls = 0 ∧ ofN d a = ⟨0, (readN d a).minus, ofE d a, (readN d a).mag⟩ := by
  obtain ⟨hc, hm⟩ := class_cases d a
  rcases hc with hc | hc | hc | hc | hc
  · omega
  · omega
  · omega
  · left
    obtain ⟨h0, -, -, -, -, h1, h2⟩ := hc
    have := (readN_fin d a h0).1
    refine ⟨?_, h0⟩
    unfold ofN
    rw [← h1, if_neg this, ← h2, ← hm, ← h0]
  · right
    obtain ⟨h0, -, -, -, -, h1, h2⟩ := hc
    refine ⟨h0, ?_⟩
    unfold ofN
    rw [h2, if_pos rfl, ← hm, h1]
theorem ofN_finQ (d : Bool) (a : Nat) (h : (readN d a).cls ≤ 1) : FinQ (ofN d a) ∧ ofM d a < 2 ^ 53 ∧ -1074 ≤ ofE d a ∧ ofE d a ≤ 971 := by
  have hfr : a % fracT d < fracT d := Nat.mod_lt _ (by cases d <;> decide)
  have hT : 2 * fracT d ≤ 2 ^ 53 := by cases d <;> decide
  have hM : ofM d a < 2 ^ 53 := by unfold ofM; split <;> omega
  have hE : -1074 ≤ ofE d a := by
    unfold ofE
    have : bias d + fb d ≤ 1075 := by cases d <;> decide
    split <;> omega
  have hE2 : ofE d a ≤ 971 := by
    rcases ofN_read d a h with ⟨h1, h2⟩ | ⟨h1, h2⟩
    · have := (readN_fin d a h2).2.2.2
      rw [← h1] at this; exact this
    · have hz : (a / fracT d % expT d = 0) := by
        apply Classical.byContradiction
        intro hc
        have h0 : ofM d a = 0 := by
          obtain ⟨hcc, -⟩ := class_cases d a
          rcases hcc with hcc | hcc | hcc | hcc | hcc
          all_goals (first | (exact hcc.2.2.2.2.2.2) | omega)
        unfold ofM at h0; rw [if_neg hc] at h0
        have : 0 < fracT d := by cases d <;> decide
        omega
      unfold ofE; rw [if_pos hz]
      have : 1 - bias d - fb d ≤ 971 := by cases d <;> decide
      exact this
  refine ⟨?_, hM, hE, hE2⟩
  unfold FinQ ofN
  by_cases h0 : ofM d a = 0
  · right; simp [h0]
  · left
    refine ⟨by simp [h0], h0, ?_⟩
    have := blen_le (ofM d a) 53 hM
    show blen (ofM d a) ≤ 107; omega
theorem sumF_of (d : Bool) (rm : Int) (a b : Nat) (ha : (readN d a).cls ≤ 1) (hb : (readN d b).cls ≤ 1) : sumF d rm (readN d a) (readN d b) = sumR d rm (ofN d a) (ofN d b) := by
  rw [← sumF_sumR d rm _ _ (ofN_finQ d a ha).1 (ofN_finQ d b hb).1]
  rcases ofN_read d a ha with ⟨h1, h2⟩ | ⟨h1, h2⟩ <;> rcases ofN_read d b hb with ⟨h3, h4⟩ | ⟨h3, h4⟩
  · rw [h1, h3]
  · rw [h1, h4, sumF_exp1 d rm _ _ _ h3]
  · rw [h2, h3, sumF_exp0 d rm _ _ _ h1]
  · rw [h2, h4, sumF_exp0 d rm _ _ _ h1, sumF_exp1 d rm _ _ _ h3]
def oddV (d : Bool) (L : List Nat) (inv : Bool) : Nat × Int × Bool := if inv || L.any (sigB d) then (quietB d, 16, true) else (quietB d, 0, L.any (nanB d))
def sgB (d : Bool) (a : Nat) : Bool := decide (a / signB d % 2 = 1)
/-- The code's sum, as the document puts it. -/
theorem add_ref (d : Bool) (rm : Int) (a b : Nat) (ha : a < 18446744073709551616) (hb : b < 18446744073709551616) :
    sumF d rm (readN d a) (readN d b) = (let o := oddV d [a, b] (isInf d a && (isInf d b && (sgB d a != sgB d b))); if o.2.2 then (o.1, o.2.1) else if isInf d a then (maskB d a, 0) else if isInf d b then (maskB d b, 0) else sumR d rm (ofN d a) (ofN d b)) := by
  obtain ⟨ca, sa⟩ := class_cases d a
  obtain ⟨cb, sb⟩ := class_cases d b
  have Ia := mask_inf d a ha
  have Ib := mask_inf d b hb
  have hf := sumF_of d rm a b
  unfold oddV sgB
  rw [← sa, ← sb]
  rw [← sa] at Ia; rw [← sb] at Ib
  simp only [List.any_cons, List.any_nil, Bool.or_false]
  rcases ca with ⟨c1, n1, i1, z1, s1⟩ | ⟨c1, n1, i1, z1, s1⟩ | ⟨c1, n1, i1, z1, s1⟩ | ⟨c1, n1, i1, z1, s1, -, -⟩ | ⟨c1, n1, i1, z1, s1, -, -⟩ <;>
    rcases cb with ⟨c2, n2, i2, z2, s2⟩ | ⟨c2, n2, i2, z2, s2⟩ | ⟨c2, n2, i2, z2, s2⟩ | ⟨c2, n2, i2, z2, s2, -, -⟩ | ⟨c2, n2, i2, z2, s2, -, -⟩ <;>
    simp only [n1, i1, s1, n2, i2, s2] <;>
    first
    | (rw [hf (by omega) (by omega)]; rfl)
    | (unfold sumF someV flagV
       rw [c1, c2]
       try rw [Ia i1]
       try rw [Ib i2]
       cases (readN d a).minus <;> cases (readN d b).minus <;> simp)
end Go.Proofs.Ythjdeopfbjmmeaa
namespace Go.Proofs.Ythjdeopfbjmmeaa
set_option linter.unusedVariables false
set_option linter.unusedSimpArgs false
theorem mask_zero (d : Bool) (a : Nat) (ha : a < 18446744073709551616) (h : isZero d a = true) : maskB d a = noughtV d (decide (a / signB d % 2 = 1)) := by
  unfold isZero at h
  obtain ⟨h1, h2⟩ := of_decide_eq_true h
  cases d
  · simp only [fracT, expT, Bool.false_eq_true, if_false] at h1 h2
    simp only [maskB, noughtV, signB, Bool.false_eq_true, if_false]
    by_cases hs : a / 2147483648 % 2 = 1
    · simp only [hs, decide_true, if_true]; omega
    · simp only [hs, decide_false, Bool.false_eq_true, if_false]; omega
  · simp only [fracT, expT, if_true] at h1 h2
    simp only [maskB, noughtV, signB, if_true]
    by_cases hs : a / 9223372036854775808 % 2 = 1
    · simp only [hs, decide_true, if_true]; omega
    · simp only [hs, decide_false, Bool.false_eq_true, if_false]; omega
theorem mag53 (d : Bool) (a : Nat) (h : (readN d a).cls = 1) : (readN d a).mag ≠ 0 ∧ (readN d a).mag < 2 ^ 53 := by
  have := readN_fin d a h
  have hT : 2 * fracT d ≤ 2 ^ 53 := by cases d <;> decide
  exact ⟨this.1, by omega⟩
theorem mul_fin (d : Bool) (rm : Int) (hr : 0 ≤ rm ∧ rm ≤ 4) (a b : Nat) (h1 : (readN d a).cls = 1) (h2 : (readN d b).cls = 1) :
    roundF d rm ⟨1, (readN d a).minus != (readN d b).minus, (readN d a).exp + (readN d b).exp, (readN d a).mag * (readN d b).mag⟩ = roundR d rm ((readN d a).minus != (readN d b).minus) ((readN d a).mag * (readN d b).mag) ((readN d a).exp + (readN d b).exp) false := by
  obtain ⟨a1, a2⟩ := mag53 d a h1
  obtain ⟨b1, b2⟩ := mag53 d b h2
  have h0 := Nat.mul_ne_zero a1 b1
  have hl := Nat.mul_lt_mul'' a2 b2
  rw [roundF_rnd d rm _ h0 (by show _ * _ < _; rw [← Nat.pow_add] at hl; exact Nat.lt_of_lt_of_le hl (Nat.pow_le_pow_right (by decide) (by decide))), roundR_rnd d rm _ _ _ false _ _ (.inl ⟨rfl, rfl, rfl⟩) h0 (fun h => by cases h) hr]
theorem mul_ref (d : Bool) (rm : Int) (hr : 0 ≤ rm ∧ rm ≤ 4) (a b : Nat) :
    mulF d rm (readN d a) (readN d b) = (let o := oddV d [a, b] ((isInf d a && isZero d b) || (isZero d a && isInf d b)); if o.2.2 then (o.1, o.2.1) else if isInf d a || isInf d b then (infV d (sgB d a != sgB d b), 0) else if isZero d a || isZero d b then (noughtV d (sgB d a != sgB d b), 0) else roundR d rm (sgB d a != sgB d b) (ofM d a * ofM d b) (ofE d a + ofE d b) false) := by
  obtain ⟨ca, sa⟩ := class_cases d a
  obtain ⟨cb, sb⟩ := class_cases d b
  have hf := mul_fin d rm hr a b
  unfold oddV sgB
  rw [← sa, ← sb]
  simp only [List.any_cons, List.any_nil, Bool.or_false]
  rcases ca with ⟨c1, n1, i1, z1, s1⟩ | ⟨c1, n1, i1, z1, s1⟩ | ⟨c1, n1, i1, z1, s1⟩ | ⟨c1, n1, i1, z1, s1, m1, e1⟩ | ⟨c1, n1, i1, z1, s1, -, -⟩ <;>
    rcases cb with ⟨c2, n2, i2, z2, s2⟩ | ⟨c2, n2, i2, z2, s2⟩ | ⟨c2, n2, i2, z2, s2⟩ | ⟨c2, n2, i2, z2, s2, m2, e2⟩ | ⟨c2, n2, i2, z2, s2, -, -⟩ <;>
    simp only [n1, i1, z1, s1, n2, i2, z2, s2] <;>
    first
    | (rw [m1, m2, e1, e2] at hf
       unfold mulF productN someV flagV writeF
       rw [c1, c2]
       simp only [m1, m2, e1, e2]
       exact hf c1 c2)
    | (unfold mulF productN someV flagV writeF
       rw [c1, c2]
       simp)
theorem finR_of (d : Bool) (a : Nat) (h : (readN d a).cls = 1) : FinR (readN d a) := readN_finR d a h
theorem div_ref (d : Bool) (rm : Int) (hr : 0 ≤ rm ∧ rm ≤ 4) (a b : Nat) :
    divF d rm (readN d a) (readN d b) = (let o := oddV d [a, b] ((isInf d a && isInf d b) || (isZero d a && isZero d b)); if o.2.2 then (o.1, o.2.1) else if isInf d a then (infV d (sgB d a != sgB d b), 0) else if isInf d b || isZero d a then (noughtV d (sgB d a != sgB d b), 0) else if isZero d b then (infV d (sgB d a != sgB d b), 8) else
      roundR d rm (sgB d a != sgB d b) (ofM d a * 2 ^ 130 / ofM d b) (ofE d a - ofE d b - 130) (decide (ofM d a * 2 ^ 130 % ofM d b ≠ 0))) := by
  obtain ⟨ca, sa⟩ := class_cases d a
  obtain ⟨cb, sb⟩ := class_cases d b
  have hf := fun h1 h2 => (div_rnd d rm (readN d a) (readN d b) (finR_of d a h1) (finR_of d b h2) hr).1
  unfold oddV sgB
  rw [← sa, ← sb]
  simp only [List.any_cons, List.any_nil, Bool.or_false]
  rcases ca with ⟨c1, n1, i1, z1, s1⟩ | ⟨c1, n1, i1, z1, s1⟩ | ⟨c1, n1, i1, z1, s1⟩ | ⟨c1, n1, i1, z1, s1, m1, e1⟩ | ⟨c1, n1, i1, z1, s1, -, -⟩ <;>
    rcases cb with ⟨c2, n2, i2, z2, s2⟩ | ⟨c2, n2, i2, z2, s2⟩ | ⟨c2, n2, i2, z2, s2⟩ | ⟨c2, n2, i2, z2, s2, m2, e2⟩ | ⟨c2, n2, i2, z2, s2, -, -⟩ <;>
    simp only [n1, i1, z1, s1, n2, i2, z2, s2] <;>
    first
    | (rw [m1, m2, e1, e2] at hf
       unfold divF someV flagV
       rw [c1, c2]
       exact hf c1 c2)
    | (unfold divF someV flagV
       rw [c1, c2]
       simp)
theorem sqrt_ref (d : Bool) (rm : Int) (hr : 0 ≤ rm ∧ rm ≤ 4) (a : Nat) (ha : a < 18446744073709551616) (R : Nat) (hR : isZero d a = false → isInf d a = false → nanB d a = false → R * R ≤ ofM d a * 2 ^ rootP (ofE d a) ∧ ofM d a * 2 ^ rootP (ofE d a) < (R + 1) * (R + 1)) :
    sqrtF d rm (readN d a) = (let o := oddV d [a] (!nanB d a && (sgB d a && !isZero d a)); if o.2.2 then (o.1, o.2.1) else if isInf d a || isZero d a then (maskB d a, 0) else
      roundR d rm false R ((ofE d a - rootP (ofE d a)) / 2) (decide (R * R < ofM d a * 2 ^ rootP (ofE d a)))) := by
  obtain ⟨ca, sa⟩ := class_cases d a
  have Ia := mask_inf d a ha
  have Za := mask_zero d a ha
  have hf := fun h1 => root_rnd d rm (readN d a) (finR_of d a h1) hr R
  unfold oddV sgB
  rw [← sa]
  rw [← sa] at Ia Za
  simp only [List.any_cons, List.any_nil, Bool.or_false]
  rcases ca with ⟨c1, n1, i1, z1, s1⟩ | ⟨c1, n1, i1, z1, s1⟩ | ⟨c1, n1, i1, z1, s1⟩ | ⟨c1, n1, i1, z1, s1, m1, e1⟩ | ⟨c1, n1, i1, z1, s1, -, -⟩ <;>
    simp only [n1, i1, z1, s1] <;>
    first
    | (rw [m1, e1] at hf
       have hg := (hf c1 (hR z1 i1 n1)).1
       unfold sqrtF someV flagV
       rw [c1]
       cases (readN d a).minus
       · simp; simpa using hg
       · simp)
    | (unfold sqrtF someV flagV
       rw [c1]
       try rw [Ia i1]
       try rw [Za z1]
       cases (readN d a).minus <;> simp)
/-- A product as the document takes it on. -/
def prN (d : Bool) (a b : Nat) : Num := ⟨if ofM d a * ofM d b = 0 then 0 else 1, sgB d a != sgB d b, ofE d a + ofE d b, ofM d a * ofM d b⟩
theorem prN_finQ (d : Bool) (a b : Nat) (ha : (readN d a).cls ≤ 1) (hb : (readN d b).cls ≤ 1) : FinQ (prN d a b) := by
  have h1 := (ofN_finQ d a ha).2.1
  have h2 := (ofN_finQ d b hb).2.1
  unfold FinQ prN
  by_cases h0 : ofM d a * ofM d b = 0
  · right; simp [h0]
  · left
    refine ⟨by simp [h0], h0, ?_⟩
    have := Nat.mul_lt_mul'' h1 h2
    rw [← Nat.pow_add] at this
    have := blen_le _ _ this
    show blen (ofM d a * ofM d b) ≤ 107
    omega
theorem sumF_pr (d : Bool) (rm : Int) (a b c : Nat) (ha : (readN d a).cls ≤ 1) (hb : (readN d b).cls ≤ 1) (hc : (readN d c).cls ≤ 1) : sumF d rm (productN (readN d a) (readN d b)) (readN d c) = sumR d rm (prN d a b) (ofN d c) := by
  rw [← sumF_sumR d rm _ _ (prN_finQ d a b ha hb) (ofN_finQ d c hc).1]
  have e1 : sumF d rm (prN d a b) (ofN d c) = sumF d rm (prN d a b) (readN d c) := by
    rcases ofN_read d c hc with ⟨h3, h4⟩ | ⟨h3, h4⟩
    · rw [h3]
    · rw [h4, sumF_exp1 d rm _ _ _ h3]
  rw [e1]
  obtain ⟨ca, sa⟩ := class_cases d a
  obtain ⟨cb, sb⟩ := class_cases d b
  have key : prN d a b = productN (readN d a) (readN d b) ∨ (productN (readN d a) (readN d b)).cls = 0 ∧ prN d a b = ⟨0, (productN (readN d a) (readN d b)).minus, ofE d a + ofE d b, (productN (readN d a) (readN d b)).mag⟩ := by
    unfold prN productN sgB
    rw [← sa, ← sb]
    rcases ca with ⟨c1, -⟩ | ⟨c1, -⟩ | ⟨c1, -⟩ | ⟨c1, -, -, -, -, m1, e1⟩ | ⟨c1, -, -, -, -, -, m1⟩ <;>
      rcases cb with ⟨c2, -⟩ | ⟨c2, -⟩ | ⟨c2, -⟩ | ⟨c2, -, -, -, -, m2, e2⟩ | ⟨c2, -, -, -, -, -, m2⟩ <;>
      first
      | (exfalso; omega)
      | (left
         have k1 := (readN_fin d a c1).1
         have k2 := (readN_fin d b c2).1
         rw [c1, c2, ← m1, ← m2, ← e1, ← e2, if_neg (Nat.mul_ne_zero k1 k2)]
         rfl)
      | (right
         rw [c1, c2]
         simp [m1]
         done)
      | (right
         rw [c1, c2]
         simp [m2])
  rcases key with h | ⟨h1, h2⟩
  · rw [h]
  · rw [h2, sumF_exp0 d rm _ _ _ h1]
set_option maxHeartbeats 4000000 in
theorem fma_ref (d : Bool) (rm : Int) (a b c : Nat) (hc : c < 18446744073709551616) :
    fmaF d rm (readN d a) (readN d b) (readN d c) = (let none := (isInf d a && isZero d b) || (isZero d a && isInf d b); let far := (isInf d a || isInf d b) && (!nanB d a && !nanB d b); let m := sgB d a != sgB d b;
      let o := oddV d [a, b, c] (none || (far && (isInf d c && (sgB d c != m)))); if o.2.2 then (o.1, o.2.1) else if far then (infV d m, 0) else if isInf d c then (maskB d c, 0) else sumR d rm (prN d a b) (ofN d c)) := by
  obtain ⟨ca, sa⟩ := class_cases d a
  obtain ⟨cb, sb⟩ := class_cases d b
  obtain ⟨cc, sc⟩ := class_cases d c
  have Ic := mask_inf d c hc
  have hf := sumF_pr d rm a b c
  unfold oddV sgB
  rw [← sa, ← sb, ← sc]
  rw [← sc] at Ic
  simp only [List.any_cons, List.any_nil, Bool.or_false]
  rcases ca with ⟨c1, n1, i1, z1, s1⟩ | ⟨c1, n1, i1, z1, s1⟩ | ⟨c1, n1, i1, z1, s1⟩ | ⟨c1, n1, i1, z1, s1, m1, e1⟩ | ⟨c1, n1, i1, z1, s1, -, -⟩ <;>
    rcases cb with ⟨c2, n2, i2, z2, s2⟩ | ⟨c2, n2, i2, z2, s2⟩ | ⟨c2, n2, i2, z2, s2⟩ | ⟨c2, n2, i2, z2, s2, m2, e2⟩ | ⟨c2, n2, i2, z2, s2, -, -⟩ <;>
    rcases cc with ⟨c3, n3, i3, z3, s3⟩ | ⟨c3, n3, i3, z3, s3⟩ | ⟨c3, n3, i3, z3, s3⟩ | ⟨c3, n3, i3, z3, s3, m3, e3⟩ | ⟨c3, n3, i3, z3, s3, -, -⟩ <;>
    simp only [n1, i1, z1, s1, n2, i2, z2, s2, n3, i3, z3, s3] <;>
    first
    | (have hg := hf (by omega) (by omega) (by omega)
       unfold fmaF
       rw [if_neg (by omega), hg]
       rfl)
    | (unfold fmaF sumF productN someV flagV
       rw [c1, c2, c3]
       try rw [Ic i3]
       cases (readN d a).minus <;> cases (readN d b).minus <;> cases (readN d c).minus <;> simp)
end Go.Proofs.Ythjdeopfbjmmeaa
