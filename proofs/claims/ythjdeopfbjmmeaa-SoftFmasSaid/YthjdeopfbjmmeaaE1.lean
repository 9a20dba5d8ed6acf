/- The contract of the library's division of two words by one, where the divisor's highest bit is 1. -/
import Derived.Test.YthjdeopfbjmmeaaA
import Derived.Test.YthjdeopfbjmmeaaM2
import Derived.Deep.DeepCutAuto
import Derived.Deep.CutBlock
namespace Go.Proofs.Ythjdeopfbjmmeaa
open Go.ChangeShapes Go.WideShapes Go.ChangeAt Go.RowKit
set_option linter.unusedVariables false
set_option linter.unusedSimpArgs false
def mq (v : Value) : Nat := (intOf v).toNat
def KRel (h u1 y1 y0 : Nat) (a b : Value) : Prop := ∃ q r : Nat, a = .int .u64 q ∧ b = .int .u64 r ∧ Hid (KInv h u1 y1 y0 q r)
theorem kround {h u1 y1 y0 q r : Nat} (S : 1 ≤ q ∧ (q - 1) * y1 + (r + y1) = h ∧ (h * 4294967296 + u1) / (y1 * 4294967296 + y0) ≤ q - 1 ∧ (4294967296 ≤ r + y1 → q - 1 = (h * 4294967296 + u1) / (y1 * 4294967296 + y0)) ∧ (r + y1 < 4294967296 → KInv h u1 y1 y0 (q - 1) (r + y1)))
    (hb : r + y1 < 4294967296) : KRel h u1 y1 y0 (.int .u64 ((q : Int) - 1)) (.int .u64 ((r : Int) + (y1 : Int))) ∧ mq (.int .u64 ((q : Int) - 1)) < mq (.int .u64 (q : Int)) := by
  obtain ⟨s1, -, -, -, s5⟩ := S
  refine ⟨⟨q - 1, r + y1, ?_, ?_, s5 hb⟩, ?_⟩
  · rw [show ((q : Int) - 1) = ((q - 1 : Nat) : Int) by omega]
  · rw [Int.natCast_add]
  · show ((q : Int) - 1).toNat < ((q : Int)).toNat
    omega
def divQ (h l y : Nat) : Nat := (h * 18446744073709551616 + l) / y
def divR (h l y : Nat) : Nat := (h * 18446744073709551616 + l) % y
def RetD (a b : Nat) (W : World) (e : Ending) (w' : World) : Prop := e = .returned (.tuple #[.int .u64 a, .int .u64 b]) ∧ Below W.heap.size W w'
theorem retD_fin {h l y u1 u0 Q1 R1 Q0 : Nat} {A : Int} {W w' : World} (KA : ∀ Q1 R1 Q0 R0 : Nat, Q1 = (h * 4294967296 + u1) / y → R1 = (h * 4294967296 + u1) % y → Q0 = (R1 * 4294967296 + u0) / y → R0 = (R1 * 4294967296 + u0) % y →
      (h * 18446744073709551616 + l) / y = Q1 * 4294967296 + Q0 ∧ (h * 18446744073709551616 + l) % y = R0 ∧ (h < y → Q1 < 4294967296) ∧ Q0 < 4294967296)
    (hh : h < y) (hy : y < 18446744073709551616) (h1 : Q1 = (h * 4294967296 + u1) / y) (h2 : R1 = (h * 4294967296 + u1) % y) (h3 : Q0 = (R1 * 4294967296 + u0) / y) (hA : A = Q0) (hb : Below W.heap.size W w') :
    RetD (divQ h l y) (divR h l y) W (.returned (.tuple #[.int .u64 (IntKind.u64.wrap (IntKind.u64.wrap ((Q1 : Int) * 4294967296) + A)), .int .u64 (IntKind.u64.wrap (IntKind.u64.wrap (IntKind.u64.wrap ((R1 : Int) * 4294967296) + (u0 : Int)) - IntKind.u64.wrap (A * (y : Int))))])) w' := by
  obtain ⟨a, b, c, d⟩ := KA Q1 R1 Q0 _ h1 h2 h3 rfl
  have c := c hh
  refine ⟨?_, hb⟩
  subst hA
  rw [knuth_rest h3 hy (by omega)]
  have e1 : IntKind.u64.wrap (IntKind.u64.wrap ((Q1 : Int) * 4294967296) + (Q0 : Int)) = (divQ h l y : Int) := by
    unfold divQ; rw [a]; clear a b h1 h2 h3 KA
    simp only [IntKind.wrap_u64]; omega
  have e2 : (((R1 * 4294967296 + u0) % y : Nat) : Int) = (divR h l y : Int) := by unfold divR; rw [b]
  rw [e1, e2]
theorem mask32 (x : Nat) (hx : x < 18446744073709551616) : bits .and .u64 (x : Int) 4294967295 = ((x % 4294967296 : Nat) : Int) := by
  rw [show (4294967295 : Int) = ((2 ^ 32 - 1 : Nat) : Int) by decide, u64_and_nat _ _ hx (by decide), Nat.and_two_pow_sub_one_eq_mod]
set_option maxRecDepth 100000 in
set_option maxHeartbeats 4000000 in
theorem Div64_1 (h l y : Nat) (hy : Hid (9223372036854775808 ≤ y ∧ y < 18446744073709551616)) (hh : h < y) (hl : Hid (l < 18446744073709551616)) (h0 : 1 ≤ h) (w : World) :
    Calls Try.prog 82 #[.int .u64 h, .int .u64 l, .int .u64 y] w (RetD (divQ h l y) (divR h l y) w) := by
  have hb1 : ((h : Int) == 0) = false := by rw [beq_eq_false_iff_ne]; omega
  have hb2 : ((y : Int) == 0) = false := by rw [beq_eq_false_iff_ne]; omega
  go_enter Try.func82, Try.ntmps82
  go_wp2_with fail
  refine (Try.bits_LeadingZeros64 _ _ (by omega) (by have := hy.out; omega)).mono ?_
  rintro e w' ⟨rfl, rfl⟩
  rw [show (64 : Int) - (Lib.bitLen (Int.toNat (y : Int)) : Int) = 0 by
    rw [bits_of y hy.out.2, blen_of y 63 (by have := hy.out; omega) (by have := hy.out; omega) (by have := hy.out; omega)]; rfl]
  go_upto_region 15 with fail
  have wy : IntKind.u64.wrap (y : Int) = y := by rw [wrapN, Nat.mod_eq_of_lt hy.out.2]
  have wl : IntKind.u64.wrap (l : Int) = l := by rw [wrapN, Nat.mod_eq_of_lt hl.out]
  have wh : IntKind.u64.wrap (h : Int) = h := by rw [wrapN, Nat.mod_eq_of_lt (Nat.lt_trans hh hy.out.2)]
  have dy : (y : Int) / 4294967296 = ((y / 4294967296 : Nat) : Int) := by omega
  have dl : (l : Int) / 4294967296 = ((l / 4294967296 : Nat) : Int) := by omega
  have ay : bits .and .u64 (y : Int) 4294967295 = ((y % 4294967296 : Nat) : Int) := mask32 y hy.out.2
  have al : bits .and .u64 (l : Int) 4294967295 = ((l % 4294967296 : Nat) : Int) := mask32 l hl.out
  have uh : bits .or .u64 (h : Int) ((l : Int) / 18446744073709551616) = (h : Int) := by
    rw [show (l : Int) / 18446744073709551616 = ((0 : Nat) : Int) by have := hl.out; omega, u64_or_nat _ _ (Nat.lt_trans hh hy.out.2) (by decide), Nat.or_zero]
  rw [wy, wl, wh, dy, dl, ay, al, uh]
  clear wy wl wh dy dl ay al uh
  have EV : Hid (KEnv h (l / 4294967296) (y / 4294967296) (y % 4294967296)) := by
    have h1 := hy.out; have h2 := hl.out; show _ ∧ _; omega
  have YY : Hid (y = y / 4294967296 * 4294967296 + y % 4294967296) := by show _ = _; omega
  have LL : Hid (l / 4294967296 < 4294967296 ∧ l % 4294967296 < 4294967296) := by have h2 := hl.out; show _ ∧ _; omega
  have Y1 : 2147483648 ≤ y / 4294967296 := by have := hy.out; omega
  have KA := Lib.hid (fun Q1 R1 Q0 R0 a b c d => knuth_all (h := h) (l := l) (y := y) (by have := hy.out; omega) hl.out Q1 R1 Q0 R0 a b c d)
  revert EV YY LL Y1 KA
  generalize y / 4294967296 = y1
  generalize y % 4294967296 = y0
  generalize l / 4294967296 = u1
  generalize l % 4294967296 = u0
  intro EV YY LL Y1 KA
  go_upto_block 0 with fail
  have KS := knuth_start EV.out
  have q1 : IntKind.u64.wrap ((h : Int) / (y1 : Int)) = ((h / y1 : Nat) : Int) := by
    rw [← Int.natCast_ediv, wrapN, Nat.mod_eq_of_lt (Nat.lt_of_le_of_lt (Nat.div_le_self _ _) (Nat.lt_trans hh hy.out.2))]
  have q2 : IntKind.u64.wrap ((h : Int) - IntKind.u64.wrap (((h / y1 : Nat) : Int) * (y1 : Int))) = ((h - h / y1 * y1 : Nat) : Int) := by
    have hle : h / y1 * y1 ≤ h := Nat.div_mul_le_self _ _
    have h64 := Nat.lt_trans hh hy.out.2
    rw [← Int.natCast_mul, wrapN, Nat.mod_eq_of_lt (by omega), ← Int.natCast_sub hle, wrapN, Nat.mod_eq_of_lt (by omega)]
  rw [q1, q2]
  clear q1 q2
  revert KS
  generalize h / y1 = qq
  generalize h - qq * y1 = rr
  intro KS
  have KSS := Lib.hid KS; clear KS
  have hd := LL.out.1
  go_cut [15, 16] (fun a b wx => a = .int .u64 ((h * 4294967296 + u1) / (y1 * 4294967296 + y0) : Nat) ∧ wx = w')
  case first =>
    go_wp2_with fail
    go_loop [15, 16] (fun a b => KRel h u1 y1 y0 a b) (fun a _ => mq a)
    case atStart => exact ⟨qq, rr, rfl, rfl, KSS⟩
    case round =>
      obtain ⟨q, r, rfl, rfl, hK⟩ := hrel
      have hr := hK.out.2.2.2
      have hq := hK.out.2.2.1
      have hy0 : Hid (y0 < 4294967296) := EV.out.2.2.2.1
      have e1 : IntKind.u64.wrap ((q : Int) * (y0 : Int)) = (q : Int) * (y0 : Int) := by
        have := Nat.mul_le_mul hq (show y0 ≤ 4294967295 by have := hy0.out; omega)
        rw [← Int.natCast_mul, wrapN, Nat.mod_eq_of_lt (by omega)]
      have hq2 : (q : Int) < 4294967298 := by omega
      clear hq
      have hy1 : (y1 : Int) < 4294967296 := by have := EV.out.2.2.1; omega
      have hr2 : (r : Int) < 4294967296 := by omega
      by_cases tt : 4294967296 ≤ q ∨ 4294967296 * r + u1 < q * y0
      · have ST := knuth_step EV.out hK.out tt
        have hq1 : (1 : Int) ≤ (q : Int) := by have := ST.1; omega
        have SS := Lib.hid ST; clear ST
        by_cases t4 : 4294967296 ≤ r + y1
        all_goals
          have T4 := Lib.hid t4
          have g4 : (4294967296 : Int) ≤ (r : Int) + (y1 : Int) ∨ (r : Int) + (y1 : Int) < 4294967296 := by omega
          rcases g4 with g4 | g4 <;> first | (exfalso; omega) | skip
          have g5 : (¬ (4294967296 : Int) ≤ (r : Int) + (y1 : Int)) ∨ ¬ ((r : Int) + (y1 : Int) < 4294967296) := by omega
          rcases g5 with g5 | g5 <;> first | (exfalso; omega) | skip
          clear t4
          rcases tt with t1 | t2
          · have g1 : ¬ ((q : Int) < 4294967296) := by omega
            have g2 : (4294967296 : Int) ≤ (q : Int) := by omega
            clear t1
            go_wp2_with fail
            first
              | exact kround SS.out (by omega)
              | (go_meet; exact ⟨by rw [show ((q : Int) - 1) = ((q - 1 : Nat) : Int) by have := SS.out.1; omega, SS.out.2.2.2.1 (by omega)], rfl⟩)
          · by_cases t1 : 4294967296 ≤ q
            · have g1 : ¬ ((q : Int) < 4294967296) := by omega
              have g2 : (4294967296 : Int) ≤ (q : Int) := by omega
              clear t1 t2
              go_wp2_with fail
              first
                | exact kround SS.out (by omega)
                | (go_meet; exact ⟨by rw [show ((q : Int) - 1) = ((q - 1 : Nat) : Int) by have := SS.out.1; omega, SS.out.2.2.2.1 (by omega)], rfl⟩)
            · have g1 : (q : Int) < 4294967296 := by omega
              have g2 : ¬ (4294967296 : Int) ≤ (q : Int) := by omega
              have t3 : 4294967296 * (r : Int) + (u1 : Int) < (q : Int) * (y0 : Int) := by rw [← Int.natCast_mul]; omega
              clear t1 t2
              go_wp2_with fail
              first
                | exact kround SS.out (by omega)
                | (go_meet; exact ⟨by rw [show ((q : Int) - 1) = ((q - 1 : Nat) : Int) by have := SS.out.1; omega, SS.out.2.2.2.1 (by omega)], rfl⟩)
      · have g1 : (q : Int) < 4294967296 := by omega
        have g2 : ¬ (4294967296 : Int) ≤ (q : Int) := by omega
        have t3 : ¬ (4294967296 * (r : Int) + (u1 : Int) < (q : Int) * (y0 : Int)) := by rw [← Int.natCast_mul]; omega
        have HQ : Hid (q = (h * 4294967296 + u1) / (y1 * 4294967296 + y0)) := knuth_exit EV.out hK.out (by omega)
        clear tt
        go_wp2_with fail
        (go_meet; exact ⟨by rw [HQ.out], rfl⟩)
  case rest =>
    obtain ⟨rfl, rfl⟩ := hcut
    generalize hQQ : (h * 4294967296 + u1) / (y1 * 4294967296 + y0) = Q1
    have HQQ := Lib.hid hQQ; clear hQQ
    have HQ1 := knuth_rest (u := h) (d := u1) (y := y) (Q := Q1) (by rw [← HQQ.out, ← YY.out]) hy.out.2 (by omega)
    have hR : (h * 4294967296 + u1) % y < y := Nat.mod_lt _ (by omega)
    have HK1 := Lib.hid HQ1; clear HQ1
    go_upto_region 22 with fail
    rw [HK1.out]
    revert hR
    generalize hRR : (h * 4294967296 + u1) % y = R1
    intro hR
    have HRR := Lib.hid hRR; clear hRR
    have EV2 : Hid (KEnv R1 u0 y1 y0) := by
      have h1 := EV.out; have h2 := LL.out; have h3 := YY.out; show _ ∧ _; obtain ⟨_, g2, g3, g4, _⟩ := h1; omega
    go_upto_region 24 with fail
    have KS := knuth_start EV2.out
    have q1 : IntKind.u64.wrap ((R1 : Int) / (y1 : Int)) = ((R1 / y1 : Nat) : Int) := by
      rw [← Int.natCast_ediv, wrapN, Nat.mod_eq_of_lt (Nat.lt_of_le_of_lt (Nat.div_le_self _ _) (Nat.lt_trans hR hy.out.2))]
    have q2 : IntKind.u64.wrap ((R1 : Int) - IntKind.u64.wrap (((R1 / y1 : Nat) : Int) * (y1 : Int))) = ((R1 - R1 / y1 * y1 : Nat) : Int) := by
      have hle : R1 / y1 * y1 ≤ R1 := Nat.div_mul_le_self _ _
      have h64 := Nat.lt_trans hR hy.out.2
      rw [← Int.natCast_mul, wrapN, Nat.mod_eq_of_lt (by omega), ← Int.natCast_sub hle, wrapN, Nat.mod_eq_of_lt (by omega)]
    rw [q1, q2]
    clear q1 q2
    revert KS
    generalize R1 / y1 = qq
    generalize R1 - qq * y1 = rr
    intro KS
    have KSS := Lib.hid KS; clear KS hd
    have hd := LL.out.2
    go_loop [18, 16] (fun a b => KRel R1 u0 y1 y0 a b) (fun a _ => mq a)
    case atStart => exact ⟨qq, rr, rfl, rfl, KSS⟩
    case round =>
      obtain ⟨q, r, rfl, rfl, hK⟩ := hrel
      have hr := hK.out.2.2.2
      have hq := hK.out.2.2.1
      have hy0 : Hid (y0 < 4294967296) := EV2.out.2.2.2.1
      have e1 : IntKind.u64.wrap ((q : Int) * (y0 : Int)) = (q : Int) * (y0 : Int) := by
        have := Nat.mul_le_mul hq (show y0 ≤ 4294967295 by have := hy0.out; omega)
        rw [← Int.natCast_mul, wrapN, Nat.mod_eq_of_lt (by omega)]
      have hq2 : (q : Int) < 4294967298 := by omega
      clear hq
      have hy1 : (y1 : Int) < 4294967296 := by have := EV2.out.2.2.1; omega
      have hr2 : (r : Int) < 4294967296 := by omega
      by_cases tt : 4294967296 ≤ q ∨ 4294967296 * r + u0 < q * y0
      · have ST := knuth_step EV2.out hK.out tt
        have hq1 : (1 : Int) ≤ (q : Int) := by have := ST.1; omega
        have SS := Lib.hid ST; clear ST
        by_cases t4 : 4294967296 ≤ r + y1
        all_goals
          have T4 := Lib.hid t4
          have g4 : (4294967296 : Int) ≤ (r : Int) + (y1 : Int) ∨ (r : Int) + (y1 : Int) < 4294967296 := by omega
          rcases g4 with g4 | g4 <;> first | (exfalso; omega) | skip
          have g5 : (¬ (4294967296 : Int) ≤ (r : Int) + (y1 : Int)) ∨ ¬ ((r : Int) + (y1 : Int) < 4294967296) := by omega
          rcases g5 with g5 | g5 <;> first | (exfalso; omega) | skip
          clear t4
          rcases tt with t1 | t2
          · have g1 : ¬ ((q : Int) < 4294967296) := by omega
            have g2 : (4294967296 : Int) ≤ (q : Int) := by omega
            clear t1
            go_wp2_with fail
            first
              | exact kround SS.out (by omega)
              | (go_ret2; exact retD_fin KA.out hh hy.out.2 (by rw [← HQQ.out, ← YY.out]) HRR.out.symm (Q0 := q - 1) (by rw [SS.out.2.2.2.1 (by omega), ← YY.out]) (by have := SS.out.1; omega) (Below.refl _ _))
          · by_cases t1 : 4294967296 ≤ q
            · have g1 : ¬ ((q : Int) < 4294967296) := by omega
              have g2 : (4294967296 : Int) ≤ (q : Int) := by omega
              clear t1 t2
              go_wp2_with fail
              first
                | exact kround SS.out (by omega)
                | (go_ret2; exact retD_fin KA.out hh hy.out.2 (by rw [← HQQ.out, ← YY.out]) HRR.out.symm (Q0 := q - 1) (by rw [SS.out.2.2.2.1 (by omega), ← YY.out]) (by have := SS.out.1; omega) (Below.refl _ _))
            · have g1 : (q : Int) < 4294967296 := by omega
              have g2 : ¬ (4294967296 : Int) ≤ (q : Int) := by omega
              have t3 : 4294967296 * (r : Int) + (u0 : Int) < (q : Int) * (y0 : Int) := by rw [← Int.natCast_mul]; omega
              clear t1 t2
              go_wp2_with fail
              first
                | exact kround SS.out (by omega)
                | (go_ret2; exact retD_fin KA.out hh hy.out.2 (by rw [← HQQ.out, ← YY.out]) HRR.out.symm (Q0 := q - 1) (by rw [SS.out.2.2.2.1 (by omega), ← YY.out]) (by have := SS.out.1; omega) (Below.refl _ _))
      · have g1 : (q : Int) < 4294967296 := by omega
        have g2 : ¬ (4294967296 : Int) ≤ (q : Int) := by omega
        have t3 : ¬ (4294967296 * (r : Int) + (u0 : Int) < (q : Int) * (y0 : Int)) := by rw [← Int.natCast_mul]; omega
        have HQ : Hid (q = (R1 * 4294967296 + u0) / (y1 * 4294967296 + y0)) := knuth_exit EV2.out hK.out (by omega)
        clear tt
        go_wp2_with fail
        (go_ret2; exact retD_fin KA.out hh hy.out.2 (by rw [← HQQ.out, ← YY.out]) HRR.out.symm (Q0 := q) (by rw [HQ.out, ← YY.out]) (rfl) (Below.refl _ _))
theorem retD_mk {a b : Nat} {x z : Int} {W w' : World} (hx : x = a) (hz : z = b) (h : Below W.heap.size W w') : RetD a b W (.returned (.tuple #[.int .u64 x, .int .u64 z])) w' := ⟨by rw [hx, hz], h⟩
theorem Div64_0 (l y : Nat) (hy : Hid (9223372036854775808 ≤ y ∧ y < 18446744073709551616)) (hl : Hid (l < 18446744073709551616)) (w : World) :
    Calls Try.prog 82 #[.int .u64 0, .int .u64 l, .int .u64 y] w (RetD (divQ 0 l y) (divR 0 l y) w) := by
  have hb2 : ((y : Int) == 0) = false := by have := hy.out; rw [beq_eq_false_iff_ne]; omega
  have hy1 : 1 ≤ y := by have := hy.out; omega
  have hy2 : ¬ (y : Int) ≤ 0 := by omega
  have hy3 : (0 : Int) < (y : Int) := by omega
  go_enter Try.func82, Try.ntmps82
  go_wp2_with fail
  go_region
  all_goals go_wp2_with fail
  all_goals go_ret2
  all_goals
    have e0 : divQ 0 l y = l / y := by unfold divQ; rw [Nat.zero_mul, Nat.zero_add]
    have e4 : divR 0 l y = l % y := by unfold divR; rw [Nat.zero_mul, Nat.zero_add]
    have e1 : IntKind.u64.wrap ((l : Int) / (y : Int)) = (divQ 0 l y : Int) := by
      rw [e0, ← Int.natCast_ediv, wrapN, Nat.mod_eq_of_lt (Nat.lt_of_le_of_lt (Nat.div_le_self _ _) hl.out)]
    have e2 : (l : Int) % (y : Int) = (divR 0 l y : Int) := by rw [e4, Int.natCast_emod]
    have e3 : IntKind.u64.wrap ((l : Int) % (y : Int)) = (divR 0 l y : Int) := by
      rw [e4, ← Int.natCast_emod, wrapN, Nat.mod_eq_of_lt (Nat.lt_of_le_of_lt (Nat.mod_le _ _) hl.out)]
    first
      | exact retD_mk e1 e2 (by repeat (first | (with_reducible first | exact Below.refl _ _ | assumption | exact Nat.le_refl _ | refine Below.drew ?_ | refine Below.alloc ?_ ?_ _ | refine Below.setCell ?_ ?_ _ | refine le_alloc ?_ | refine le_set ?_ | refine le_drew ?_ | refine below_step (by assumption) ?_ ?_ | refine le_below (by assumption) ?_) | (dsimp only; omega)))
      | exact retD_mk e1 e3 (by repeat (first | (with_reducible first | exact Below.refl _ _ | assumption | exact Nat.le_refl _ | refine Below.drew ?_ | refine Below.alloc ?_ ?_ _ | refine Below.setCell ?_ ?_ _ | refine le_alloc ?_ | refine le_set ?_ | refine le_drew ?_ | refine below_step (by assumption) ?_ ?_ | refine le_below (by assumption) ?_) | (dsimp only; omega)))
end Go.Proofs.Ythjdeopfbjmmeaa
