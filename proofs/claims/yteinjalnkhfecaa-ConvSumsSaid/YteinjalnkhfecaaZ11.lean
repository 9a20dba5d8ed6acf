/- Small whole numbers as floats: their sums, differences, products, order. -/
import Derived.Test.YteinjalnkhfecaaZS
import Derived.Test.YteinjalnkhfecaaQW5
namespace Go.Proofs.Yteinjalnkhfecaa
open Go.ChangeShapes Go.WideShapes Go.ChangeAt Go.RowKit
set_option linter.unusedVariables false
set_option linter.unusedSimpArgs false
def wV (d : Bool) (r : Int) (p : Int) : Nat × Int := roundV d r (decide (p < 0)) 0 p.natAbs
def UU : Nat := 2 ^ ((0 : Int) + 20000).toNat
theorem UU_eq : UU = 2 ^ ((0 : Int) + 20000).toNat := by delta UU; exact Eq.refl _
theorem UU_pos : 0 < UU := Nat.two_pow_pos _
theorem wr (d : Bool) (r : Int) (hr : 0 ≤ r ∧ r ≤ 4) (p : Int) (h0 : p ≠ 0) (hp : p.natAbs ≤ 4194304) :
    ∃ C, Q.Flt d (wV d r p).1 C ∧ (wV d r p).2 = 0 ∧ C.minus = decide (p < 0) ∧ Q.val C = p.natAbs * UU := by
  have hl : p.natAbs < 18446744073709551616 := by omega
  have hn : p.natAbs ≠ 0 := by omega
  have h2 := Q.blen_le p.natAbs 23 (by omega)
  have h3 := (Q.blen_bounds _ hn).1
  have e : blen p.natAbs = Q.blen p.natAbs := rfl
  have hx : (roundV d r (decide (p < 0)) 0 p.natAbs).2 = 0 := by
    cases d
    · have b1 : bias false = 127 := rfl
      have b2 : fb false = 23 := rfl
      exact small_exact false r _ 0 _ hn hl hr (by rw [e, b2]; omega) (by rw [e, b1]; omega) (by rw [e, b1]; omega)
    · have b1 : bias true = 1023 := rfl
      have b2 : fb true = 52 := rfl
      exact small_exact true r _ 0 _ hn hl hr (by rw [e, b2]; omega) (by rw [e, b1]; omega) (by rw [e, b1]; omega)
  have hF := roundV_F d r (decide (p < 0)) 0 p.natAbs hn hl hr
  rw [hF] at hx
  obtain ⟨C, c1, c2, c3, c4⟩ := Q.round_exact d r ⟨1, decide (p < 0), 0, p.natAbs⟩ hn (Nat.lt_trans hl (by decide)) (by show -10000 ≤ (0 : Int); decide) hx
  refine ⟨C, ?_, ?_, c3, c4⟩
  · unfold wV; rw [hF]; exact c1
  · unfold wV; rw [hF]; exact hx
theorem wzero (d : Bool) (r : Int) : wV d r 0 = (Q.noughtV d false, 0) := rfl
theorem read_minus (d m : Bool) (F : Nat) (h : F < Q.infB d) : (Q.readN d (Q.noughtV d m + F)).minus = m := by rw [Q.read_sign d m F h]
theorem read_val (d m : Bool) (F : Nat) (h : F < Q.infB d) : Q.val (Q.readN d (Q.noughtV d m + F)) = Q.val (Q.readN d (Q.noughtV d false + F)) := by rw [Q.read_sign d m F h]; rfl
theorem wshape (d : Bool) (r : Int) (hr : 0 ≤ r ∧ r ≤ 4) (p : Int) (hp : p.natAbs ≤ 4194304) :
    ∃ F, (wV d r p).1 = Q.noughtV d (decide (p < 0)) + F ∧ F < Q.infB d ∧ (F = 0 ↔ p = 0) ∧ Q.val (Q.readN d (Q.noughtV d (decide (p < 0)) + F)) = p.natAbs * UU := by
  by_cases h0 : p = 0
  · subst h0
    refine ⟨0, rfl, by cases d <;> decide, by simp, ?_⟩
    have z : ∀ m, Q.val ⟨0, m, 0, 0⟩ = 0 := fun m => Nat.zero_mul _
    rw [Nat.add_zero, Q.readN_zeroB, z, show (0 : Int).natAbs = 0 from rfl, Nat.zero_mul]
  · obtain ⟨C, ⟨F, f1, f2, f3, f4⟩, c2, c3, c4⟩ := wr d r hr p h0 hp
    rw [c3] at f1
    refine ⟨F, f1, f3, ⟨fun h => by omega, fun h => absurd h h0⟩, ?_⟩
    rw [← f1, f4, c4]
theorem sval_of (M : Q.Num) (p : Int) (hm : M.minus = decide (p < 0)) (hv : Q.val M = p.natAbs * UU) : Q.sval M = p * (UU : Int) := by
  unfold Q.sval
  rw [hv, hm, Int.natCast_mul]
  generalize (UU : Int) = U
  by_cases h : p < 0
  · rw [decide_eq_true h, if_pos rfl, show ((p.natAbs : Nat) : Int) = -p by omega, Int.neg_mul, Int.neg_neg]
  · rw [decide_eq_false h, if_neg (by decide), show ((p.natAbs : Nat) : Int) = p by omega]
theorem sum_gen (d : Bool) (r : Int) (hr : 0 ≤ r ∧ r ≤ 4) (M N : Q.Num) (hM : Q.Fin2 M) (hN : Q.Fin2 N) (p q : Int) (hp : Q.sval M = p * (UU : Int)) (hq : Q.sval N = q * (UU : Int)) (hb : (p + q).natAbs ≤ 4194304) :
    (p + q ≠ 0 → Q.sumF d r M N = ((wV d r (p + q)).1, 0)) ∧ (p + q = 0 → ∃ m, Q.sumF d r M N = (Q.noughtV d m, 0)) := by
  have hadd : Q.sval M + Q.sval N = (p + q) * (UU : Int) := by rw [hp, hq, Int.add_mul]
  refine ⟨fun h0 => ?_, fun h0 => ?_⟩
  · obtain ⟨C, c1, c2, c3, c4⟩ := wr d r hr (p + q) h0 hb
    exact Q.sum_back d r M N C _ hM hN c1 (by rw [hadd]; exact sval_of C (p + q) c3 c4)
  · rw [h0, Int.zero_mul] at hadd
    rw [Q.sumF_fin d r M N hM hN]
    split
    · exact ⟨_, rfl⟩
    · have hc : (Q.totalN M N).cls = 0 := by
        have pos : ∀ T : Q.Num, T.mag ≠ 0 → Q.sval T ≠ 0 := fun T h => by
          have := Q.val_pos h
          unfold Q.sval; split <;> omega
        rcases hM with hM | hM
        · rcases hN with hN | hN
          · rcases Q.total_cases M N hM hN with t | t | t
            · exact t.1
            · exact absurd (t.2.2.2.2.trans hadd) (pos _ t.2.1)
            · exact absurd ((Q.sval_zero (M := ⟨0, false, 0, 0⟩) rfl).trans hadd.symm) (t.2 ⟨0, false, 0, 0⟩ (Nat.two_pow_pos 53) (by show -10000 ≤ (0 : Int); decide))
          · rw [Q.sval_zero hN.2, Int.add_zero] at hadd
            exact absurd hadd (pos _ hM.2.1)
        · have e : Q.totalN M N = N := by unfold Q.totalN; rw [if_pos hM.1]
          rw [e]
          rw [Q.sval_zero hM.2, Int.zero_add] at hadd
          rcases hN with hN | hN
          · exact absurd hadd (pos _ hN.2.1)
          · exact hN.1
      rw [if_pos hc]
      exact ⟨_, rfl⟩
theorem sign_mul (p q : Int) (hp : p ≠ 0) (hq : q ≠ 0) : (decide (p < 0) != decide (q < 0)) = decide (p * q < 0) := by
  by_cases a : p < 0
  · by_cases b : q < 0
    · have := Int.mul_pos_of_neg_of_neg a b
      rw [decide_eq_true a, decide_eq_true b, decide_eq_false (by omega)]; rfl
    · have := Int.mul_neg_of_neg_of_pos a (show 0 < q by omega)
      rw [decide_eq_true a, decide_eq_false b, decide_eq_true this]; rfl
  · by_cases b : q < 0
    · have := Int.mul_neg_of_pos_of_neg (show 0 < p by omega) b
      rw [decide_eq_false a, decide_eq_true b, decide_eq_true this]; rfl
    · have := Int.mul_pos (show 0 < p by omega) (show 0 < q by omega)
      rw [decide_eq_false a, decide_eq_false b, decide_eq_false (by omega)]; rfl
theorem val_prod (M N : Q.Num) (hM : Q.FinF M) (hN : Q.FinF N) : Q.val (Q.prodN M N) * UU = Q.val M * Q.val N := by
  obtain ⟨K, hK⟩ : ∃ K : Nat, ((0 : Int) + 20000).toNat = K := ⟨_, rfl⟩
  have hK2 : (K : Int) = 20000 := by omega
  have hU : UU = 2 ^ K := by clear hK2; subst hK; exact UU_eq
  obtain ⟨-, -, -, m4, m5⟩ := hM
  obtain ⟨-, -, -, n4, n5⟩ := hN
  have e : 2 ^ (M.exp + N.exp + 20000).toNat * 2 ^ K = 2 ^ (M.exp + 20000).toNat * 2 ^ (N.exp + 20000).toNat := by
    rw [← Nat.pow_add, ← Nat.pow_add, show (M.exp + N.exp + 20000).toNat + K = (M.exp + 20000).toNat + (N.exp + 20000).toNat by omega]
  rw [hU]
  show M.mag * N.mag * 2 ^ (M.exp + N.exp + 20000).toNat * 2 ^ K = (M.mag * 2 ^ (M.exp + 20000).toNat) * (N.mag * 2 ^ (N.exp + 20000).toNat)
  rw [Nat.mul_assoc, e]
  generalize 2 ^ (M.exp + 20000).toNat = a
  generalize 2 ^ (N.exp + 20000).toNat = b
  simp only [Nat.mul_assoc, Nat.mul_left_comm]
theorem mul_gen (d : Bool) (r : Int) (hr : 0 ≤ r ∧ r ≤ 4) (M N : Q.Num) (hM : Q.Fin2 M) (hN : Q.Fin2 N) (p q : Int) (mp : M.minus = decide (p < 0)) (vp : Q.val M = p.natAbs * UU) (mq : N.minus = decide (q < 0)) (vq : Q.val N = q.natAbs * UU) (hb : (p * q).natAbs ≤ 4194304) :
    (p * q ≠ 0 → Q.mulF d r M N = ((wV d r (p * q)).1, 0)) ∧ (p * q = 0 → ∃ m, Q.mulF d r M N = (Q.noughtV d m, 0)) := by
  have hU := UU_pos
  have zero : ∀ (T : Q.Num) (t : Int), Q.Fin2 T → Q.val T = t.natAbs * UU → (t = 0 → T.cls = 0) ∧ (t ≠ 0 → Q.FinF T) := fun T t hT hv => by
    rcases hT with hT | hT
    · refine ⟨fun h => ?_, fun _ => hT⟩
      rw [h] at hv
      have h1 := Q.val_pos hT.2.1
      rw [hv] at h1
      simp at h1
    · refine ⟨fun _ => hT.1, fun h => ?_⟩
      unfold Q.val at hv
      rw [hT.2, Nat.zero_mul] at hv
      have := Nat.mul_pos (show 0 < t.natAbs by omega) hU
      omega
  obtain ⟨zM, fM⟩ := zero M p hM vp
  obtain ⟨zN, fN⟩ := zero N q hN vq
  refine ⟨fun h0 => ?_, fun h0 => ?_⟩
  · have p0 : p ≠ 0 := fun h => h0 (by rw [h, Int.zero_mul])
    have q0 : q ≠ 0 := fun h => h0 (by rw [h, Int.mul_zero])
    obtain ⟨C, c1, c2, c3, c4⟩ := wr d r hr (p * q) h0 hb
    obtain ⟨k1, k2, k3, k4⟩ := Q.mulF_fin d r M N (fM p0) (fN q0)
    rw [k1]
    refine Q.round_val d r (Q.prodN M N) C _ k2 k3 k4 c1 (Q.finF_ok (Q.flt_fin c1 (Q.flt_cls c1))) ?_ ?_
    · have hv := val_prod M N (fM p0) (fN q0)
      rw [vp, vq] at hv
      apply Nat.eq_of_mul_eq_mul_right hU
      rw [hv, c4, Int.natAbs_mul]
      generalize UU = U
      simp only [Nat.mul_assoc, Nat.mul_left_comm]
    · show (M.minus != N.minus) = C.minus
      rw [mp, mq, c3]
      exact sign_mul p q p0 q0
  · have hc : (Q.productN M N).cls = 0 ∧ ¬ (M.cls = 0 ∧ N.cls = 2 ∨ M.cls = 2 ∧ N.cls = 0) := by
      have c1 : M.cls = 0 ∨ M.cls = 1 := by rcases hM with h | h; exact .inr h.1; exact .inl h.1
      have c2 : N.cls = 0 ∨ N.cls = 1 := by rcases hN with h | h; exact .inr h.1; exact .inl h.1
      have c3 : M.cls = 0 ∨ N.cls = 0 := by
        rcases Int.mul_eq_zero.1 h0 with h | h
        · exact .inl (zM h)
        · exact .inr (zN h)
      refine ⟨?_, by omega⟩
      unfold Q.productN
      rw [if_neg (by omega), if_neg (by omega)]
    unfold Q.mulF
    rw [if_neg hc.2, hc.1, if_neg (by decide)]
    unfold Q.writeF
    rw [if_pos hc.1]
    exact ⟨_, rfl⟩
/-- What a float counts rises with it. -/
def vf (T k F : Nat) : Nat := if F / T = 0 then F * 2 ^ (1 + k) else (F % T + T) * 2 ^ (F / T + k)
theorem vf_step (T k F : Nat) (hT : 0 < T) : vf T k F < vf T k (F + 1) := by
  have h1 := Nat.div_add_mod F T
  have h2 := Nat.mod_lt F hT
  obtain ⟨e, he⟩ : ∃ e, F / T = e := ⟨_, rfl⟩
  obtain ⟨f, hf⟩ : ∃ f, F % T = f := ⟨_, rfl⟩
  rw [he, hf] at h1
  rw [hf] at h2
  have e1 : F + 1 = T * e + (f + 1) := by omega
  have d1 : (F + 1) / T = e + (f + 1) / T := by rw [e1, Nat.mul_add_div hT]
  have d2 : (F + 1) % T = (f + 1) % T := by rw [e1, Nat.mul_add_mod]
  have hpow := Nat.two_pow_pos (e + k)
  have hpow1 := Nat.two_pow_pos (1 + k)
  unfold vf
  rw [d1, d2, he, hf]
  by_cases c : f + 1 < T
  · rw [Nat.div_eq_of_lt c, Nat.mod_eq_of_lt c, Nat.add_zero]
    by_cases e0 : e = 0
    · rw [if_pos e0, if_pos e0]
      exact Nat.mul_lt_mul_of_pos_right (by omega) hpow1
    · rw [if_neg e0, if_neg e0]
      exact Nat.mul_lt_mul_of_pos_right (by omega) hpow
  · have c' : f + 1 = T := by omega
    rw [c', Nat.div_self hT, Nat.mod_self, Nat.zero_add, if_neg (show ¬ e + 1 = 0 by omega)]
    by_cases e0 : e = 0
    · subst e0
      rw [if_pos rfl, Nat.zero_add]
      rw [Nat.mul_zero, Nat.zero_add] at h1
      exact Nat.mul_lt_mul_of_pos_right (by omega) hpow1
    · rw [if_neg e0, show e + 1 + k = (e + k) + 1 by omega, Nat.pow_succ, Nat.mul_comm (2 ^ (e + k)) 2, ← Nat.mul_assoc]
      exact Nat.mul_lt_mul_of_pos_right (by omega) hpow
theorem vf_mono (T k : Nat) (hT : 0 < T) (F n : Nat) : vf T k F < vf T k (F + (n + 1)) := by
  induction n with
  | zero => exact vf_step T k F hT
  | succ n ih => exact Nat.lt_trans ih (vf_step T k _ hT)
theorem vf_lt (T k : Nat) (hT : 0 < T) (F G : Nat) : (vf T k F < vf T k G ↔ F < G) := by
  have mono : ∀ F G, F < G → vf T k F < vf T k G := fun F G h => by
    have := vf_mono T k hT F (G - F - 1)
    rwa [show F + (G - F - 1 + 1) = G by omega] at this
  refine ⟨fun h => ?_, mono F G⟩
  by_cases c : F < G
  · exact c
  · exfalso
    by_cases e : F = G
    · subst e; omega
    · have := mono G F (by omega); omega
theorem val_vf (d : Bool) : ∃ T k : Nat, 0 < T ∧ ∀ F, F < Q.infB d → Q.val (Q.readN d (Q.noughtV d false + F)) = vf T k F := by
  have hb : Q.bias d + Q.fb d ≤ 1075 ∧ 0 ≤ Q.bias d + Q.fb d := by cases d <;> decide
  have hT : 0 < Q.fracT d := by cases d <;> decide
  obtain ⟨k, hk⟩ : ∃ k : Nat, (k : Int) = 20000 - Q.bias d - Q.fb d := ⟨(20000 - Q.bias d - Q.fb d).toNat, by omega⟩
  refine ⟨Q.fracT d, k, hT, fun F hF => ?_⟩
  rw [Q.read_shape d false F hF]
  unfold vf
  by_cases c : F / Q.fracT d = 0
  · rw [if_neg (by omega), if_pos c]
    by_cases f0 : F = 0
    · rw [if_neg (by omega), f0, Nat.zero_mul]
      unfold Q.val
      rw [Nat.zero_mul]
    · rw [if_pos f0]
      unfold Q.val
      rw [show (1 - Q.bias d - (Q.fb d : Int) + 20000).toNat = 1 + k by omega]
  · rw [if_pos c, if_neg c]
    unfold Q.val
    generalize F / Q.fracT d = e at *
    rw [show (((e : Nat) : Int) - Q.bias d - (Q.fb d : Int) + 20000).toNat = e + k by omega]
theorem far_order (d : Bool) (F G p q : Nat) (hF : F < Q.infB d) (hG : G < Q.infB d) (vF : Q.val (Q.readN d (Q.noughtV d false + F)) = p * UU) (vG : Q.val (Q.readN d (Q.noughtV d false + G)) = q * UU) : (F < G ↔ p < q) := by
  obtain ⟨T, k, hT, hv⟩ := val_vf d
  rw [hv F hF] at vF
  rw [hv G hG] at vG
  rw [← vf_lt T k hT, vF, vG]
  exact ⟨fun h => Nat.lt_of_mul_lt_mul_right h, fun h => Nat.mul_lt_mul_of_pos_right h UU_pos⟩
theorem cmp_small (d : Bool) (r : Int) (hr : 0 ≤ r ∧ r ≤ 4) (p q : Int) (hp : p.natAbs ≤ 4194304) (hq : q.natAbs ≤ 4194304) : cmpV 70 d (wV d r p).1 (wV d r q).1 = if p < q then 1 else 0 := by
  obtain ⟨F, f1, f2, f3, f4⟩ := wshape d r hr p hp
  obtain ⟨G, g1, g2, g3, g4⟩ := wshape d r hr q hq
  rw [read_val d _ F f2] at f4
  rw [read_val d _ G g2] at g4
  have o1 := far_order d F G _ _ f2 g2 f4 g4
  have o2 := far_order d G F _ _ g2 f2 g4 f4
  have part : ∀ (m : Bool) (F : Nat), F < Q.infB d → farN d (Q.noughtV d m + F) = F ∧ minusN d (Q.noughtV d m + F) = m := fun m F h => by
    constructor
    · unfold farN
      cases d <;> cases m <;> simp [Q.noughtV, Q.signB, Q.infB, signB] at * <;> omega
    · unfold minusN
      cases d <;> cases m <;> simp [Q.noughtV, Q.signB, Q.infB, signB] at * <;> omega
  have none : ∀ (m : Bool) (F : Nat), F < Q.infB d → noneV d (Q.noughtV d m + F) = false := fun m F h => by
    have hi : Q.infB d = infB d := rfl
    have hq : infB d < quietB d := by cases d <;> decide
    unfold noneV clsV
    rw [(part m F h).1, (part m F h).2]
    unfold clsX
    rw [if_neg (by omega), if_neg (by omega)]
    apply decide_eq_false
    split <;> (repeat' split) <;> omega
  rw [f1, g1]
  unfold cmpV belowV sameV rankV
  rw [none _ F f2, none _ G g2, (part _ F f2).1, (part _ F f2).2, (part _ G g2).1, (part _ G g2).2]
  by_cases a : p < 0
  · rw [decide_eq_true a]
    by_cases b : q < 0
    · rw [decide_eq_true b]
      simp only [Bool.false_eq_true, or_self, if_false, if_true]
      by_cases c : p < q
      · rw [if_pos c, if_pos]; simp; omega
      · rw [if_neg c, if_neg]; simp; omega
    · rw [decide_eq_false b]
      simp only [Bool.false_eq_true, or_self, if_false, if_true]
      by_cases c : p < q
      · rw [if_pos c, if_pos]; simp; omega
      · rw [if_neg c, if_neg]; simp; omega
  · rw [decide_eq_false a]
    by_cases b : q < 0
    · rw [decide_eq_true b]
      simp only [Bool.false_eq_true, or_self, if_false, if_true]
      by_cases c : p < q
      · rw [if_pos c, if_pos]; simp; omega
      · rw [if_neg c, if_neg]; simp; omega
    · rw [decide_eq_false b]
      simp only [Bool.false_eq_true, or_self, if_false, if_true]
      by_cases c : p < q
      · rw [if_pos c, if_pos]; simp; omega
      · rw [if_neg c, if_neg]; simp; omega
end Go.Proofs.Yteinjalnkhfecaa
