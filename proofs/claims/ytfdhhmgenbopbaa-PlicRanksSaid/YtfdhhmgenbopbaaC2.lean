/- The walk of PlicRanks. -/
import Derived.Test.YtfdhhmgenbopbaaC1
import Derived.Test.YtfdhhmgenbopbaaM1
namespace Go.Proofs.Ytfdhhmgenbopbaa
open Go.ChangeShapes Go.WideShapes Go.ChangeAt Go.RowKit
set_option linter.unusedVariables false
set_option linter.unusedSimpArgs false
def rkF (ranks n : Nat) : Nat := ranks / 2 ^ (3 * n) % 8
def bitF (x n : Nat) : Bool := x / 2 ^ n % 2 == 1
def leftF (ranks lines on k : Nat) : Bool := decide (1 ≤ k) && (bitF lines k && (bitF on k && decide (0 < rkF ranks k)))
theorem OkS.G {B : St} (h : OkS B) (ln : Nat → Bool) (ranks : Nat) : ∀ n, OkS (G B ln (rkF ranks) n)
  | 0 => h
  | n + 1 => by
    by_cases e : n = 0
    · subst e; exact h
    · rw [G_succ _ _ _ n (by omega)]
      have i := OkS.G h ln ranks n
      have hr : rkF ranks n < 8 := Nat.mod_lt _ (by decide)
      unfold stepG
      cases ln n
      · exact i.setPr n _ hr
      · exact ((i.setPr n _ hr).setUp n true).come n
theorem shr7 (x n : Nat) (hx : x < 18446744073709551616) : bits .and .u64 ((x : Int) / 2 ^ n) 7 = ((x / 2 ^ n % 8 : Nat) : Int) := by
  have h := and7 (x / 2 ^ n) (Nat.lt_of_le_of_lt (Nat.div_le_self _ _) hx)
  rw [← h]
  congr 1
theorem cnt_yes (f : Nat → Bool) (n : Nat) (h : f n = true) : cntN f (n + 1) = cntN f n + 1 := by
  show cntN f n + (bif f n then 1 else 0) = _
  rw [h]; rfl
theorem cnt_no (f : Nat → Bool) (n : Nat) (h : f n = false) : cntN f (n + 1) = cntN f n := by
  show cntN f n + (bif f n then 1 else 0) = _
  rw [h]; rfl
theorem left_eq {ranks lines on n : Nat} {a b c : Bool} (hn : 1 ≤ n) (h1 : bitF lines n = a) (h2 : bitF on n = b) (h3 : decide (0 < rkF ranks n) = c) : leftF ranks lines on n = (a && (b && c)) := by
  unfold leftF; rw [h1, h2, h3, decide_eq_true hn]; rfl
theorem bit510 (on k : Nat) (h1 : 1 ≤ k) (h9 : k < 9) : bitF (on &&& 510) k = bitF on k := by
  have e : ∀ x, bitF x k = x.testBit k := fun x => by
    unfold bitF
    rw [Nat.testBit_eq_decide_div_mod_eq, Bool.eq_iff_iff]; simp
  rw [e, e, Nat.testBit_and]
  have : Nat.testBit 510 k = true := by
    have : k = 1 ∨ k = 2 ∨ k = 3 ∨ k = 4 ∨ k = 5 ∨ k = 6 ∨ k = 7 ∨ k = 8 := by omega
    rcases this with rfl | rfl | rfl | rfl | rfl | rfl | rfl | rfl <;> rfl
  rw [this, Bool.and_true]
/-- What holds when all is set up. -/
theorem inv_start (ranks lines on c d q : Nat) (B : St) (hB : Base B) (OB : OkS B) (hth : B.th c = q) (hen : B.en c = on &&& 510) (hd : B.en d = 0) :
    InvR (G B (bitF lines) (rkF ranks) 9) c d q (bitF lines) (bitF on) (rkF ranks) (cntN (leftF ranks lines on) 9) 8 0 := by
  obtain ⟨h1, h2, h3, h4⟩ := G_facts B hB (bitF lines) (rkF ranks) 9
  have ht : ∀ k, 1 ≤ k → k < 9 → takeB (G B (bitF lines) (rkF ranks) 9) c k = bitF on k := fun k a b => by
    unfold takeB; rw [h3, hen]; exact bit510 on k a b
  refine ⟨fun k a b => by rw [h1 k, if_pos ⟨a, b⟩], by rw [h1 0, if_neg (by omega)], by rw [h2 0, if_neg (by omega)], by rw [h4]; exact hth, by rw [h3]; exact hd, OkS.G OB _ _ 9, ?_, ?_, ?_, ht⟩
  · refine cntN_congr 9 (fun k hk => ?_)
    unfold cand
    by_cases k0 : k = 0
    · subst k0
      rw [h2 0, if_neg (by omega)]; rfl
    · rw [ht k (by omega) hk, h1 k, h2 k, if_pos (show 1 ≤ k ∧ k < 9 by omega)]
      unfold leftF
      rw [decide_eq_true (show 1 ≤ k by omega)]
      cases hl : bitF lines k
      · rw [if_neg (by simp)]; rfl
      · rw [if_pos ⟨by omega, hk, rfl⟩]; rfl
  · intro k hk hc
    obtain ⟨-, h⟩ := cand_hit hc
    have : rkF ranks k < 8 := Nat.mod_lt _ (by decide)
    left
    rw [h1 k]
    split <;> omega
  · intro k hk
    rw [h2 k] at hk
    by_cases c : 1 ≤ k ∧ k < 9 ∧ bitF lines k = true
    · exact c.2.2
    · rw [if_neg c] at hk; cases hk
theorem pend_two {T : St} {x y : Bool} (h0 : aboveB T 0 = x) (h1 : aboveB T 1 = y) : pendF T = (bif x then 2048 else 0) + (bif y then 512 else 0) := by
  unfold pendF; rw [h0, h1]
set_option maxRecDepth 100000 in
set_option maxHeartbeats 4000000 in
theorem ranks_0 (ranks lines on bar C : Nat) (hr : Hid (ranks < 18446744073709551616)) (hl : Hid (lines < 18446744073709551616)) (ho : Hid (on < 18446744073709551616)) (hb : Hid (bar < 18446744073709551616)) (hC : Hid ((C : Int) % 2 = 0)) (w : World) : Calls Try.prog 4 #[.int .u64 ranks, .int .u64 lines, .int .u64 on, .int .u64 bar, .int .u64 C] w (RetB true w) := by
  have c2 := hC.out
  have c2' : (C : Int).tmod 2 = 0 := by rw [Int.tmod_eq_emod_of_nonneg (by omega)]; exact c2
  obtain ⟨q, hq⟩ : ∃ q, bar % 8 = q := ⟨_, rfl⟩
  obtain ⟨m, hm⟩ : ∃ m, on &&& 510 = m := ⟨_, rfl⟩
  have q8 : Hid (q < 8) := by show _ < _; omega
  have q64 : Hid (q < 18446744073709551616) := by show _ < _; omega
  have qq : Hid (q % 8 = q) := by show _ = _; omega
  have m512 : Hid (m < 512) := by show _ < _; rw [← hm]; exact Nat.lt_of_le_of_lt Nat.and_le_right (by decide)
  have E7 : bits .and .u64 (bar : Int) 7 = (q : Int) := by rw [and7 bar hb.out, hq]
  have HM := Lib.hid hm
  clear hq hm
  obtain ⟨B, hB⟩ : ∃ B, B = (S0.setEn 0 m).setTh 0 q := ⟨_, rfl⟩
  obtain ⟨S1, hS1⟩ : ∃ S1, S1 = S0.setEn 0 m := ⟨_, rfl⟩
  have OB : Hid (OkS B) := by rw [hB]; exact (ok0.setEn 0 m m512.out).setTh 0 q q8.out
  have IB : Hid (InvR (G B (bitF lines) (rkF ranks) 9) 0 1 q (bitF lines) (bitF on) (rkF ranks) (cntN (leftF ranks lines on) 9) 8 0) := by
    refine inv_start ranks lines on 0 1 q B ?_ OB.out ?_ ?_ ?_
    · rw [hB]; exact ⟨fun _ => rfl, fun _ => rfl, fun _ => rfl⟩
    · rw [hB]; rfl
    · rw [hB, HM.out]; rfl
    · rw [hB]; rfl
  have HS1 := Lib.hid hS1; have HS2 := Lib.hid hB
  clear hS1 hB
  go_enter Try.func4, Try.ntmps4
  go_wp2_with fail
  refine (fixed_c _).mono ?_; rintro e0 w1 ⟨rfl, bq⟩
  have HB := Lib.hid bq; clear bq
  go_wp2_with fail
  refine (new_c _).mono ?_; rintro e0 w2 ⟨p, rfl, gc, hc, bq⟩
  have Gp : Hid (w.heap.size ≤ p) := Nat.le_trans HB.out.size gc
  have Hp := Lib.hid hc; clear gc hc
  replace HB := Lib.hid (HB.out.trans (bq.mono HB.out.size)); clear bq
  go_wp2_with fail
  refine ((write_en p 0 on 8192 S0 _ Hp ho (by show _ < _; decide) (by show _ = _; decide)).mono (fun _ _ h => retL_to (S' := S1) (by rw [HM.out]; exact HS1.out.symm) h)).mono ?_; rintro e0 w3 ⟨rfl, h1, hg⟩
  replace Hp : Hid (IsP w3 p S1) := h1; clear h1
  replace HB := Lib.hid (HB.out.grown hg HB.out.size (fun k hk => by cases hk; exact Gp.out)); clear hg
  go_wp2_with fail
  refine ((write_th p 0 q 2097152 S1 _ Hp q64 (by show _ < _; decide) (by show _ = _; decide)).mono (fun _ _ h => retL_to (S' := B) (by rw [qq.out, HS2.out, HS1.out]) h)).mono ?_; rintro e0 w4 ⟨rfl, h1, hg⟩
  replace Hp : Hid (IsP w4 p B) := h1; clear h1
  replace HB := Lib.hid (HB.out.grown hg HB.out.size (fun k hk => by cases hk; exact Gp.out)); clear hg
  go_wp2_with fail
  go_loopw [12, 13] (fun s12 s13 wr => ∃ n g : Nat, 1 ≤ n ∧ n ≤ 9 ∧ s13 = .int .i64 n ∧ s12 = .int .i64 g ∧ Hid (cntN (leftF ranks lines on) n = g) ∧ Hid (IsP wr p (G B (bitF lines) (rkF ranks) n)) ∧ Hid (Below w.heap.size w wr)) (fun _ i _ => 9 - (intOf i).toNat)
  case atStart => exact ⟨1, 0, by omega, by omega, rfl, rfl, rfl, by rw [show G B (bitF lines) (rkF ranks) 1 = B from rfl]; exact Hp, HB⟩
  case round =>
    clear Hp HB
    obtain ⟨n, g, hn1, hn9, rfl, rfl, HG, Hp, HB⟩ := hrel
    by_cases hlt : n < 9
    · have h8 : (n : Int) ≤ 8 := by omega
      have h1 : (1 : Int) ≤ n := by omega
      have g9 : (g : Int) ≤ 9 := by have := cntN_le (leftF ranks lines on) n; rw [HG.out] at this; omega
      have HN : Hid (1 ≤ n ∧ n < 9) := ⟨hn1, hlt⟩
      obtain ⟨r, hrk⟩ : ∃ r, rkF ranks n = r := ⟨_, rfl⟩
      obtain ⟨l, hll⟩ : ∃ l, lines / 2 ^ n % 2 = l := ⟨_, rfl⟩
      obtain ⟨u, huu⟩ : ∃ u, on / 2 ^ n % 2 = u := ⟨_, rfl⟩
      have r8 : Hid (r < 8) := by rw [← hrk]; exact Nat.mod_lt _ (by decide)
      have r64 : Hid (r < 18446744073709551616) := Nat.lt_trans r8.out (by decide)
      have rr : Hid (r % 8 = r) := Nat.mod_eq_of_lt r8.out
      have ER : bits .and .u64 ((ranks : Int) / 2 ^ (3 * n)) 7 = (r : Int) := by rw [shr7 ranks (3 * n) hr.out, ← hrk]; rfl
      have EL : bits .and .u64 ((lines : Int) / 2 ^ n) 1 = (l : Int) := by rw [shr1 lines n hl.out, hll]
      have EO : bits .and .u64 ((on : Int) / 2 ^ n) 1 = (u : Int) := by rw [shr1 on n ho.out, huu]
      have HR := Lib.hid hrk
      have BL : Hid (bitF lines n = (l == 1)) := by show _ = _; rw [← hll]; rfl
      have BO : Hid (bitF on n = (u == 1)) := by show _ = _; rw [← huu]; rfl
      clear hrk hll huu
      obtain ⟨X, hX⟩ : ∃ X, (G B (bitF lines) (rkF ranks) n).setPr n r = X := ⟨_, rfl⟩
      have HX := Lib.hid hX
      clear hX
      have HS : Hid (G B (bitF lines) (rkF ranks) (n + 1) = stepG (G B (bitF lines) (rkF ranks) n) (l == 1) r n) := by show _ = _; rw [G_succ _ _ _ n hn1, BL.out, HR.out]
      have HW := fun a ha => (write_pr p n r a (G B (bitF lines) (rkF ranks) n) wr Hp r64 HN ha).mono (fun _ _ h => retL_to (S' := X) (by rw [rr.out]; exact HX.out) h)
      cases hl1 : (l == 1)
      · have el : ((l : Int) == 1) = false := (cast_beq l 1).trans hl1
        have HL := Lib.hid hl1
        clear hl1
        go_wp2_with fail
        refine (HW _ (by show _ = _; rfl)).mono ?_; rintro e0 w5 ⟨rfl, h1, hg⟩
        have Hq : Hid (IsP w5 p X) := h1
        have HB5 := Lib.hid (HB.out.grown hg HB.out.size (fun k hk => by cases hk; exact Gp.out)); clear hg h1
        go_wp2_with fail
        go_roundw
        case rel => exact ⟨n + 1, g, by omega, by omega, by go_num, rfl, by show _ = _; rw [cnt_no _ _ (left_eq HN.out.1 (BL.out.trans HL.out) rfl rfl)]; exact HG.out, by rw [HS.out, HL.out]; show IsP _ _ (bif false then _ else _); rw [cond_false, HX.out]; exact Hq.out, HB5⟩
        case measure => simp [intOf]; omega
      · have el : ((l : Int) == 1) = true := (cast_beq l 1).trans hl1
        have HL := Lib.hid hl1
        clear hl1
        have HS' : Hid (G B (bitF lines) (rkF ranks) (n + 1) = comeF (X.setUp n true) n) := by show _ = _; rw [HS.out, HL.out]; show (bif true then _ else _) = _; rw [cond_true, HX.out]
        cases hu1 : (u == 1)
        · have eu : ((u : Int) == 1) = false := (cast_beq u 1).trans hu1
          have HU := Lib.hid hu1
          clear hu1
          go_wp2_with fail
          refine (HW _ (by show _ = _; rfl)).mono ?_; rintro e0 w5 ⟨rfl, h1, hg⟩
          have Hq : Hid (IsP w5 p X) := h1
          have HB5 := Lib.hid (HB.out.grown hg HB.out.size (fun k hk => by cases hk; exact Gp.out)); clear hg h1
          go_wp2_with fail
          refine (line_c p n true X _ Hq HN).mono ?_; rintro e0 w6 ⟨rfl, h1, hg⟩
          have Hq6 : Hid (IsP w6 p (comeF (X.setUp n true) n)) := h1
          have HB6 := Lib.hid (HB5.out.grown hg HB5.out.size (fun k hk => by cases hk; exact Gp.out)); clear hg h1
          go_wp2_with fail
          go_roundw
          case rel => exact ⟨n + 1, g, by omega, by omega, by go_num, rfl, by show _ = _; rw [cnt_no _ _ (left_eq HN.out.1 (BL.out.trans HL.out) (BO.out.trans HU.out) rfl)]; exact HG.out, by rw [HS'.out]; exact Hq6, HB6⟩
          case measure => simp [intOf]; omega
        · have eu : ((u : Int) == 1) = true := (cast_beq u 1).trans hu1
          have HU := Lib.hid hu1
          clear hu1
          by_cases r0 : 0 < r
          · have r0' : (0 : Int) < r := by omega
            have HZ : Hid (decide (0 < rkF ranks n) = true) := by rw [HR.out]; exact decide_eq_true r0
            clear r0
            go_wp2_with fail
            refine (HW _ (by show _ = _; rfl)).mono ?_; rintro e0 w5 ⟨rfl, h1, hg⟩
            have Hq : Hid (IsP w5 p X) := h1
            have HB5 := Lib.hid (HB.out.grown hg HB.out.size (fun k hk => by cases hk; exact Gp.out)); clear hg h1
            go_wp2_with fail
            refine (line_c p n true X _ Hq HN).mono ?_; rintro e0 w6 ⟨rfl, h1, hg⟩
            have Hq6 : Hid (IsP w6 p (comeF (X.setUp n true) n)) := h1
            have HB6 := Lib.hid (HB5.out.grown hg HB5.out.size (fun k hk => by cases hk; exact Gp.out)); clear hg h1
            go_wp2_with fail
            go_roundw
            case rel => exact ⟨n + 1, g + 1, by omega, by omega, by go_num, by go_num, by show _ = _; rw [cnt_yes _ _ (left_eq HN.out.1 (BL.out.trans HL.out) (BO.out.trans HU.out) HZ.out)]; rw [HG.out], by rw [HS'.out]; exact Hq6, HB6⟩
            case measure => simp [intOf]; omega
          · obtain rfl : r = 0 := by omega
            have HZ : Hid (decide (0 < rkF ranks n) = false) := by rw [HR.out]; rfl
            clear r0
            go_wp2_with fail
            refine (HW _ (by show _ = _; rfl)).mono ?_; rintro e0 w5 ⟨rfl, h1, hg⟩
            have Hq : Hid (IsP w5 p X) := h1
            have HB5 := Lib.hid (HB.out.grown hg HB.out.size (fun k hk => by cases hk; exact Gp.out)); clear hg h1
            go_wp2_with fail
            refine (line_c p n true X _ Hq HN).mono ?_; rintro e0 w6 ⟨rfl, h1, hg⟩
            have Hq6 : Hid (IsP w6 p (comeF (X.setUp n true) n)) := h1
            have HB6 := Lib.hid (HB5.out.grown hg HB5.out.size (fun k hk => by cases hk; exact Gp.out)); clear hg h1
            go_wp2_with fail
            go_roundw
            case rel => exact ⟨n + 1, g, by omega, by omega, by go_num, rfl, by show _ = _; rw [cnt_no _ _ (left_eq HN.out.1 (BL.out.trans HL.out) (BO.out.trans HU.out) HZ.out)]; exact HG.out, by rw [HS'.out]; exact Hq6, HB6⟩
            case measure => simp [intOf]; omega
    · obtain rfl : n = 9 := by omega
      rw [HG.out] at IB
      obtain ⟨T, hT⟩ : ∃ T, G B (bitF lines) (rkF ranks) 9 = T := ⟨_, rfl⟩
      rw [hT] at IB Hp
      clear hT
      go_wp2_with fail
      go_loopg [12, 14, 15] g (fun g s12 s14 s15 wx => ∃ (T : St) (last before : Nat), s12 = .int .i64 g ∧ s14 = .int .u64 last ∧ s15 = .int .u64 before ∧ Hid (IsP wx p T) ∧ Hid (InvR T 0 1 q (bitF lines) (bitF on) (rkF ranks) g last before) ∧ Hid (Below w.heap.size w wx))
      case atStart => exact ⟨T, 8, 0, rfl, rfl, rfl, Hp, IB, HB⟩
      case round =>
        clear Hp IB HB
        obtain ⟨T, last, before, rfl, rfl, rfl, Hp, HI, HB⟩ := hrel
        have OT : Hid (OkS T) := HI.out.2.2.2.2.2.1
        cases gk with
        | zero =>
          have hz : ¬ ((0 : Int) < ((0 : Nat) : Int)) := by omega
          have HZ : Hid (best T 0 = 0) := none_left HI.out.2.2.2.2.2.2.1
          have HC : Hid (claimF T 0 = T) := by show _ = _; unfold claimF; rw [HZ.out]; rfl
          have HD : Hid (pendF T = 0) := by show _ = _; rw [pend_two (x := false) (y := false) (above0 HZ.out HI.out.2.1) (dead_side HI.out.2.2.2.2.1 HI.out.2.1)]; rfl
          go_wp2_with fail
          refine ((read_claim p 0 2097156 T _ Hp OT (by show _ < _; decide) (by show _ = _; decide)).mono (fun _ _ h => retRC_to (n' := 0) (S' := T) HZ.out HC.out h)).mono ?_; rintro e0 w5 ⟨rfl, h1, hg⟩
          replace Hp : Hid (IsP w5 p T) := h1; clear h1
          replace HB := Lib.hid (HB.out.grown hg HB.out.size (fun k hk => by cases hk; exact Gp.out)); clear hg
          go_wp2_with fail
          refine ((pend_c p T _ Hp OT).mono (fun _ _ h => retU_to (n' := 0) HD.out h)).mono ?_; rintro e0 w6 ⟨rfl, bq⟩
          replace HB := Lib.hid (HB.out.trans (bq.mono HB.out.size)); clear bq
          go_wp2_with fail
          go_ret
          exact retB_mk rfl HB.out
        | succ g =>
          have hz : (0 : Int) < ((g + 1 : Nat) : Int) := by omega
          have g9 : (g : Int) ≤ 9 := by have := cntN_le (cand T 0) 9; have := HI.out.2.2.2.2.2.2.1; omega
          obtain ⟨n, hbn, n1, n9, hln, hon, r1, r8, hord, hab, had, hcl, hnx⟩ := next_one HI.out
          obtain ⟨r, hrk⟩ : ∃ r, rkF ranks n = r := ⟨_, rfl⟩
          rw [hrk] at r1 r8 hord hab hnx
          have n8i : (n : Int) ≤ 8 := by omega
          have n1i : (1 : Int) ≤ n := by omega
          have ER : bits .and .u64 ((ranks : Int) / 2 ^ (3 * n)) 7 = (r : Int) := by rw [shr7 ranks (3 * n) hr.out, ← hrk]; rfl
          have EL : bits .and .u64 ((lines : Int) / 2 ^ n) 1 = 1 := by rw [shr1 lines n hl.out]; have : (lines / 2 ^ n % 2 == 1) = true := hln; rw [eq_of_beq this]; rfl
          have EO : bits .and .u64 ((on : Int) / 2 ^ n) 1 = 1 := by rw [shr1 on n ho.out]; have : (on / 2 ^ n % 2 == 1) = true := hon; rw [eq_of_beq this]; rfl
          have rz : ((r : Int) == 0) = false := (cast_beq r 0).trans (by simp; omega)
          have r1i : (1 : Int) ≤ r := by omega
          have rl : ¬ ((last : Int) < r) := by omega
          have HBN := Lib.hid hbn; have HCL := Lib.hid hcl; have HNX := Lib.hid hnx; have HRK := Lib.hid hrk; have HAB := Lib.hid hab; have HAD := Lib.hid had; have HOR := Lib.hid hord
          have HN19 : Hid (1 ≤ n ∧ n < 9 ∧ 1 ≤ r ∧ r < 8) := ⟨n1, n9, r1, r8⟩
          clear hbn hcl hnx hrk hab had hord hln hon n1 n9 r1 r8
          by_cases hqr : q < r
          · have hq1 : (q : Int) < r := by omega
            have hq2 : decide ((q : Int) < r) = true := decide_eq_true hq1
            have HQ : Hid (decide (q < r) = true) := decide_eq_true hqr
            clear hqr
            by_cases hrl : r = last
            · have hrl1 : ((r : Int) == last) = true := (cast_beq r last).trans (by simpa using hrl)
              have hnb : ¬ ((n : Int) ≤ before) := by have := HOR.out; omega
              have hnb' : (before : Int) < n := by omega
              clear hrl
              have HP : Hid (pendF T = 2048) := by show _ = _; rw [pend_two (x := true) (y := false) (HAB.out.trans HQ.out) HAD.out]; rfl
              go_wp2_with fail
              refine ((pend_c p T _ Hp OT).mono (fun _ _ h => retU_to (n' := 2048) HP.out h)).mono ?_; rintro e0 w5 ⟨rfl, bq⟩
              replace Hp := Lib.hid (Hp.out.below bq)
              replace HB := Lib.hid (HB.out.trans (bq.mono HB.out.size)); clear bq
              go_wp2_with fail
              refine ((read_claim p 0 2097156 T _ Hp OT (by show _ < _; decide) (by show _ = _; decide)).mono (fun _ _ h => retRC_to (n' := n) (S' := T.setSt n 2) HBN.out HCL.out h)).mono ?_; rintro e0 w6 ⟨rfl, h1, hg⟩
              replace Hp : Hid (IsP w6 p (T.setSt n 2)) := h1; clear h1
              replace HB := Lib.hid (HB.out.grown hg HB.out.size (fun k hk => by cases hk; exact Gp.out)); clear hg
              go_wp2_with fail
              go_roundg g
              case measure => omega
              case rel => exact ⟨T.setSt n 2, r, n, by go_num, rfl, rfl, Hp, HNX, HB⟩
            · have hrl1 : ((r : Int) == last) = false := (cast_beq r last).trans (by simpa using hrl)
              clear hrl
              have HP : Hid (pendF T = 2048) := by show _ = _; rw [pend_two (x := true) (y := false) (HAB.out.trans HQ.out) HAD.out]; rfl
              go_wp2_with fail
              refine ((pend_c p T _ Hp OT).mono (fun _ _ h => retU_to (n' := 2048) HP.out h)).mono ?_; rintro e0 w5 ⟨rfl, bq⟩
              replace Hp := Lib.hid (Hp.out.below bq)
              replace HB := Lib.hid (HB.out.trans (bq.mono HB.out.size)); clear bq
              go_wp2_with fail
              refine ((read_claim p 0 2097156 T _ Hp OT (by show _ < _; decide) (by show _ = _; decide)).mono (fun _ _ h => retRC_to (n' := n) (S' := T.setSt n 2) HBN.out HCL.out h)).mono ?_; rintro e0 w6 ⟨rfl, h1, hg⟩
              replace Hp : Hid (IsP w6 p (T.setSt n 2)) := h1; clear h1
              replace HB := Lib.hid (HB.out.grown hg HB.out.size (fun k hk => by cases hk; exact Gp.out)); clear hg
              go_wp2_with fail
              go_roundg g
              case measure => omega
              case rel => exact ⟨T.setSt n 2, r, n, by go_num, rfl, rfl, Hp, HNX, HB⟩
          · have hq1 : ¬ ((q : Int) < r) := by omega
            have hq2 : decide ((q : Int) < r) = false := decide_eq_false hq1
            have HQ : Hid (decide (q < r) = false) := decide_eq_false hqr
            clear hqr
            by_cases hrl : r = last
            · have hrl1 : ((r : Int) == last) = true := (cast_beq r last).trans (by simpa using hrl)
              have hnb : ¬ ((n : Int) ≤ before) := by have := HOR.out; omega
              have hnb' : (before : Int) < n := by omega
              clear hrl
              have HP : Hid (pendF T = 0) := by show _ = _; rw [pend_two (x := false) (y := false) (HAB.out.trans HQ.out) HAD.out]; rfl
              go_wp2_with fail
              refine ((pend_c p T _ Hp OT).mono (fun _ _ h => retU_to (n' := 0) HP.out h)).mono ?_; rintro e0 w5 ⟨rfl, bq⟩
              replace Hp := Lib.hid (Hp.out.below bq)
              replace HB := Lib.hid (HB.out.trans (bq.mono HB.out.size)); clear bq
              go_wp2_with fail
              refine ((read_claim p 0 2097156 T _ Hp OT (by show _ < _; decide) (by show _ = _; decide)).mono (fun _ _ h => retRC_to (n' := n) (S' := T.setSt n 2) HBN.out HCL.out h)).mono ?_; rintro e0 w6 ⟨rfl, h1, hg⟩
              replace Hp : Hid (IsP w6 p (T.setSt n 2)) := h1; clear h1
              replace HB := Lib.hid (HB.out.grown hg HB.out.size (fun k hk => by cases hk; exact Gp.out)); clear hg
              go_wp2_with fail
              go_roundg g
              case measure => omega
              case rel => exact ⟨T.setSt n 2, r, n, by go_num, rfl, rfl, Hp, HNX, HB⟩
            · have hrl1 : ((r : Int) == last) = false := (cast_beq r last).trans (by simpa using hrl)
              clear hrl
              have HP : Hid (pendF T = 0) := by show _ = _; rw [pend_two (x := false) (y := false) (HAB.out.trans HQ.out) HAD.out]; rfl
              go_wp2_with fail
              refine ((pend_c p T _ Hp OT).mono (fun _ _ h => retU_to (n' := 0) HP.out h)).mono ?_; rintro e0 w5 ⟨rfl, bq⟩
              replace Hp := Lib.hid (Hp.out.below bq)
              replace HB := Lib.hid (HB.out.trans (bq.mono HB.out.size)); clear bq
              go_wp2_with fail
              refine ((read_claim p 0 2097156 T _ Hp OT (by show _ < _; decide) (by show _ = _; decide)).mono (fun _ _ h => retRC_to (n' := n) (S' := T.setSt n 2) HBN.out HCL.out h)).mono ?_; rintro e0 w6 ⟨rfl, h1, hg⟩
              replace Hp : Hid (IsP w6 p (T.setSt n 2)) := h1; clear h1
              replace HB := Lib.hid (HB.out.grown hg HB.out.size (fun k hk => by cases hk; exact Gp.out)); clear hg
              go_wp2_with fail
              go_roundg g
              case measure => omega
              case rel => exact ⟨T.setSt n 2, r, n, by go_num, rfl, rfl, Hp, HNX, HB⟩
set_option maxRecDepth 100000 in
set_option maxHeartbeats 4000000 in
theorem ranks_1 (ranks lines on bar C : Nat) (hr : Hid (ranks < 18446744073709551616)) (hl : Hid (lines < 18446744073709551616)) (ho : Hid (on < 18446744073709551616)) (hb : Hid (bar < 18446744073709551616)) (hC : Hid ((C : Int) % 2 = 1)) (w : World) : Calls Try.prog 4 #[.int .u64 ranks, .int .u64 lines, .int .u64 on, .int .u64 bar, .int .u64 C] w (RetB true w) := by
  have c2 := hC.out
  have c2' : (C : Int).tmod 2 = 1 := by rw [Int.tmod_eq_emod_of_nonneg (by omega)]; exact c2
  obtain ⟨q, hq⟩ : ∃ q, bar % 8 = q := ⟨_, rfl⟩
  obtain ⟨m, hm⟩ : ∃ m, on &&& 510 = m := ⟨_, rfl⟩
  have q8 : Hid (q < 8) := by show _ < _; omega
  have q64 : Hid (q < 18446744073709551616) := by show _ < _; omega
  have qq : Hid (q % 8 = q) := by show _ = _; omega
  have m512 : Hid (m < 512) := by show _ < _; rw [← hm]; exact Nat.lt_of_le_of_lt Nat.and_le_right (by decide)
  have E7 : bits .and .u64 (bar : Int) 7 = (q : Int) := by rw [and7 bar hb.out, hq]
  have HM := Lib.hid hm
  clear hq hm
  obtain ⟨B, hB⟩ : ∃ B, B = (S0.setEn 1 m).setTh 1 q := ⟨_, rfl⟩
  obtain ⟨S1, hS1⟩ : ∃ S1, S1 = S0.setEn 1 m := ⟨_, rfl⟩
  have OB : Hid (OkS B) := by rw [hB]; exact (ok0.setEn 1 m m512.out).setTh 1 q q8.out
  have IB : Hid (InvR (G B (bitF lines) (rkF ranks) 9) 1 0 q (bitF lines) (bitF on) (rkF ranks) (cntN (leftF ranks lines on) 9) 8 0) := by
    refine inv_start ranks lines on 1 0 q B ?_ OB.out ?_ ?_ ?_
    · rw [hB]; exact ⟨fun _ => rfl, fun _ => rfl, fun _ => rfl⟩
    · rw [hB]; rfl
    · rw [hB, HM.out]; rfl
    · rw [hB]; rfl
  have HS1 := Lib.hid hS1; have HS2 := Lib.hid hB
  clear hS1 hB
  go_enter Try.func4, Try.ntmps4
  go_wp2_with fail
  refine (fixed_c _).mono ?_; rintro e0 w1 ⟨rfl, bq⟩
  have HB := Lib.hid bq; clear bq
  go_wp2_with fail
  refine (new_c _).mono ?_; rintro e0 w2 ⟨p, rfl, gc, hc, bq⟩
  have Gp : Hid (w.heap.size ≤ p) := Nat.le_trans HB.out.size gc
  have Hp := Lib.hid hc; clear gc hc
  replace HB := Lib.hid (HB.out.trans (bq.mono HB.out.size)); clear bq
  go_wp2_with fail
  refine ((write_en p 1 on 8320 S0 _ Hp ho (by show _ < _; decide) (by show _ = _; decide)).mono (fun _ _ h => retL_to (S' := S1) (by rw [HM.out]; exact HS1.out.symm) h)).mono ?_; rintro e0 w3 ⟨rfl, h1, hg⟩
  replace Hp : Hid (IsP w3 p S1) := h1; clear h1
  replace HB := Lib.hid (HB.out.grown hg HB.out.size (fun k hk => by cases hk; exact Gp.out)); clear hg
  go_wp2_with fail
  refine ((write_th p 1 q 2101248 S1 _ Hp q64 (by show _ < _; decide) (by show _ = _; decide)).mono (fun _ _ h => retL_to (S' := B) (by rw [qq.out, HS2.out, HS1.out]) h)).mono ?_; rintro e0 w4 ⟨rfl, h1, hg⟩
  replace Hp : Hid (IsP w4 p B) := h1; clear h1
  replace HB := Lib.hid (HB.out.grown hg HB.out.size (fun k hk => by cases hk; exact Gp.out)); clear hg
  go_wp2_with fail
  go_loopw [12, 13] (fun s12 s13 wr => ∃ n g : Nat, 1 ≤ n ∧ n ≤ 9 ∧ s13 = .int .i64 n ∧ s12 = .int .i64 g ∧ Hid (cntN (leftF ranks lines on) n = g) ∧ Hid (IsP wr p (G B (bitF lines) (rkF ranks) n)) ∧ Hid (Below w.heap.size w wr)) (fun _ i _ => 9 - (intOf i).toNat)
  case atStart => exact ⟨1, 0, by omega, by omega, rfl, rfl, rfl, by rw [show G B (bitF lines) (rkF ranks) 1 = B from rfl]; exact Hp, HB⟩
  case round =>
    clear Hp HB
    obtain ⟨n, g, hn1, hn9, rfl, rfl, HG, Hp, HB⟩ := hrel
    by_cases hlt : n < 9
    · have h8 : (n : Int) ≤ 8 := by omega
      have h1 : (1 : Int) ≤ n := by omega
      have g9 : (g : Int) ≤ 9 := by have := cntN_le (leftF ranks lines on) n; rw [HG.out] at this; omega
      have HN : Hid (1 ≤ n ∧ n < 9) := ⟨hn1, hlt⟩
      obtain ⟨r, hrk⟩ : ∃ r, rkF ranks n = r := ⟨_, rfl⟩
      obtain ⟨l, hll⟩ : ∃ l, lines / 2 ^ n % 2 = l := ⟨_, rfl⟩
      obtain ⟨u, huu⟩ : ∃ u, on / 2 ^ n % 2 = u := ⟨_, rfl⟩
      have r8 : Hid (r < 8) := by rw [← hrk]; exact Nat.mod_lt _ (by decide)
      have r64 : Hid (r < 18446744073709551616) := Nat.lt_trans r8.out (by decide)
      have rr : Hid (r % 8 = r) := Nat.mod_eq_of_lt r8.out
      have ER : bits .and .u64 ((ranks : Int) / 2 ^ (3 * n)) 7 = (r : Int) := by rw [shr7 ranks (3 * n) hr.out, ← hrk]; rfl
      have EL : bits .and .u64 ((lines : Int) / 2 ^ n) 1 = (l : Int) := by rw [shr1 lines n hl.out, hll]
      have EO : bits .and .u64 ((on : Int) / 2 ^ n) 1 = (u : Int) := by rw [shr1 on n ho.out, huu]
      have HR := Lib.hid hrk
      have BL : Hid (bitF lines n = (l == 1)) := by show _ = _; rw [← hll]; rfl
      have BO : Hid (bitF on n = (u == 1)) := by show _ = _; rw [← huu]; rfl
      clear hrk hll huu
      obtain ⟨X, hX⟩ : ∃ X, (G B (bitF lines) (rkF ranks) n).setPr n r = X := ⟨_, rfl⟩
      have HX := Lib.hid hX
      clear hX
      have HS : Hid (G B (bitF lines) (rkF ranks) (n + 1) = stepG (G B (bitF lines) (rkF ranks) n) (l == 1) r n) := by show _ = _; rw [G_succ _ _ _ n hn1, BL.out, HR.out]
      have HW := fun a ha => (write_pr p n r a (G B (bitF lines) (rkF ranks) n) wr Hp r64 HN ha).mono (fun _ _ h => retL_to (S' := X) (by rw [rr.out]; exact HX.out) h)
      cases hl1 : (l == 1)
      · have el : ((l : Int) == 1) = false := (cast_beq l 1).trans hl1
        have HL := Lib.hid hl1
        clear hl1
        go_wp2_with fail
        refine (HW _ (by show _ = _; rfl)).mono ?_; rintro e0 w5 ⟨rfl, h1, hg⟩
        have Hq : Hid (IsP w5 p X) := h1
        have HB5 := Lib.hid (HB.out.grown hg HB.out.size (fun k hk => by cases hk; exact Gp.out)); clear hg h1
        go_wp2_with fail
        go_roundw
        case rel => exact ⟨n + 1, g, by omega, by omega, by go_num, rfl, by show _ = _; rw [cnt_no _ _ (left_eq HN.out.1 (BL.out.trans HL.out) rfl rfl)]; exact HG.out, by rw [HS.out, HL.out]; show IsP _ _ (bif false then _ else _); rw [cond_false, HX.out]; exact Hq.out, HB5⟩
        case measure => simp [intOf]; omega
      · have el : ((l : Int) == 1) = true := (cast_beq l 1).trans hl1
        have HL := Lib.hid hl1
        clear hl1
        have HS' : Hid (G B (bitF lines) (rkF ranks) (n + 1) = comeF (X.setUp n true) n) := by show _ = _; rw [HS.out, HL.out]; show (bif true then _ else _) = _; rw [cond_true, HX.out]
        cases hu1 : (u == 1)
        · have eu : ((u : Int) == 1) = false := (cast_beq u 1).trans hu1
          have HU := Lib.hid hu1
          clear hu1
          go_wp2_with fail
          refine (HW _ (by show _ = _; rfl)).mono ?_; rintro e0 w5 ⟨rfl, h1, hg⟩
          have Hq : Hid (IsP w5 p X) := h1
          have HB5 := Lib.hid (HB.out.grown hg HB.out.size (fun k hk => by cases hk; exact Gp.out)); clear hg h1
          go_wp2_with fail
          refine (line_c p n true X _ Hq HN).mono ?_; rintro e0 w6 ⟨rfl, h1, hg⟩
          have Hq6 : Hid (IsP w6 p (comeF (X.setUp n true) n)) := h1
          have HB6 := Lib.hid (HB5.out.grown hg HB5.out.size (fun k hk => by cases hk; exact Gp.out)); clear hg h1
          go_wp2_with fail
          go_roundw
          case rel => exact ⟨n + 1, g, by omega, by omega, by go_num, rfl, by show _ = _; rw [cnt_no _ _ (left_eq HN.out.1 (BL.out.trans HL.out) (BO.out.trans HU.out) rfl)]; exact HG.out, by rw [HS'.out]; exact Hq6, HB6⟩
          case measure => simp [intOf]; omega
        · have eu : ((u : Int) == 1) = true := (cast_beq u 1).trans hu1
          have HU := Lib.hid hu1
          clear hu1
          by_cases r0 : 0 < r
          · have r0' : (0 : Int) < r := by omega
            have HZ : Hid (decide (0 < rkF ranks n) = true) := by rw [HR.out]; exact decide_eq_true r0
            clear r0
            go_wp2_with fail
            refine (HW _ (by show _ = _; rfl)).mono ?_; rintro e0 w5 ⟨rfl, h1, hg⟩
            have Hq : Hid (IsP w5 p X) := h1
            have HB5 := Lib.hid (HB.out.grown hg HB.out.size (fun k hk => by cases hk; exact Gp.out)); clear hg h1
            go_wp2_with fail
            refine (line_c p n true X _ Hq HN).mono ?_; rintro e0 w6 ⟨rfl, h1, hg⟩
            have Hq6 : Hid (IsP w6 p (comeF (X.setUp n true) n)) := h1
            have HB6 := Lib.hid (HB5.out.grown hg HB5.out.size (fun k hk => by cases hk; exact Gp.out)); clear hg h1
            go_wp2_with fail
            go_roundw
            case rel => exact ⟨n + 1, g + 1, by omega, by omega, by go_num, by go_num, by show _ = _; rw [cnt_yes _ _ (left_eq HN.out.1 (BL.out.trans HL.out) (BO.out.trans HU.out) HZ.out)]; rw [HG.out], by rw [HS'.out]; exact Hq6, HB6⟩
            case measure => simp [intOf]; omega
          · obtain rfl : r = 0 := by omega
            have HZ : Hid (decide (0 < rkF ranks n) = false) := by rw [HR.out]; rfl
            clear r0
            go_wp2_with fail
            refine (HW _ (by show _ = _; rfl)).mono ?_; rintro e0 w5 ⟨rfl, h1, hg⟩
            have Hq : Hid (IsP w5 p X) := h1
            have HB5 := Lib.hid (HB.out.grown hg HB.out.size (fun k hk => by cases hk; exact Gp.out)); clear hg h1
            go_wp2_with fail
            refine (line_c p n true X _ Hq HN).mono ?_; rintro e0 w6 ⟨rfl, h1, hg⟩
            have Hq6 : Hid (IsP w6 p (comeF (X.setUp n true) n)) := h1
            have HB6 := Lib.hid (HB5.out.grown hg HB5.out.size (fun k hk => by cases hk; exact Gp.out)); clear hg h1
            go_wp2_with fail
            go_roundw
            case rel => exact ⟨n + 1, g, by omega, by omega, by go_num, rfl, by show _ = _; rw [cnt_no _ _ (left_eq HN.out.1 (BL.out.trans HL.out) (BO.out.trans HU.out) HZ.out)]; exact HG.out, by rw [HS'.out]; exact Hq6, HB6⟩
            case measure => simp [intOf]; omega
    · obtain rfl : n = 9 := by omega
      rw [HG.out] at IB
      obtain ⟨T, hT⟩ : ∃ T, G B (bitF lines) (rkF ranks) 9 = T := ⟨_, rfl⟩
      rw [hT] at IB Hp
      clear hT
      go_wp2_with fail
      go_loopg [12, 14, 15] g (fun g s12 s14 s15 wx => ∃ (T : St) (last before : Nat), s12 = .int .i64 g ∧ s14 = .int .u64 last ∧ s15 = .int .u64 before ∧ Hid (IsP wx p T) ∧ Hid (InvR T 1 0 q (bitF lines) (bitF on) (rkF ranks) g last before) ∧ Hid (Below w.heap.size w wx))
      case atStart => exact ⟨T, 8, 0, rfl, rfl, rfl, Hp, IB, HB⟩
      case round =>
        clear Hp IB HB
        obtain ⟨T, last, before, rfl, rfl, rfl, Hp, HI, HB⟩ := hrel
        have OT : Hid (OkS T) := HI.out.2.2.2.2.2.1
        cases gk with
        | zero =>
          have hz : ¬ ((0 : Int) < ((0 : Nat) : Int)) := by omega
          have HZ : Hid (best T 1 = 0) := none_left HI.out.2.2.2.2.2.2.1
          have HC : Hid (claimF T 1 = T) := by show _ = _; unfold claimF; rw [HZ.out]; rfl
          have HD : Hid (pendF T = 0) := by show _ = _; rw [pend_two (x := false) (y := false) (dead_side HI.out.2.2.2.2.1 HI.out.2.1) (above0 HZ.out HI.out.2.1)]; rfl
          go_wp2_with fail
          refine ((read_claim p 1 2101252 T _ Hp OT (by show _ < _; decide) (by show _ = _; decide)).mono (fun _ _ h => retRC_to (n' := 0) (S' := T) HZ.out HC.out h)).mono ?_; rintro e0 w5 ⟨rfl, h1, hg⟩
          replace Hp : Hid (IsP w5 p T) := h1; clear h1
          replace HB := Lib.hid (HB.out.grown hg HB.out.size (fun k hk => by cases hk; exact Gp.out)); clear hg
          go_wp2_with fail
          refine ((pend_c p T _ Hp OT).mono (fun _ _ h => retU_to (n' := 0) HD.out h)).mono ?_; rintro e0 w6 ⟨rfl, bq⟩
          replace HB := Lib.hid (HB.out.trans (bq.mono HB.out.size)); clear bq
          go_wp2_with fail
          go_ret
          exact retB_mk rfl HB.out
        | succ g =>
          have hz : (0 : Int) < ((g + 1 : Nat) : Int) := by omega
          have g9 : (g : Int) ≤ 9 := by have := cntN_le (cand T 1) 9; have := HI.out.2.2.2.2.2.2.1; omega
          obtain ⟨n, hbn, n1, n9, hln, hon, r1, r8, hord, hab, had, hcl, hnx⟩ := next_one HI.out
          obtain ⟨r, hrk⟩ : ∃ r, rkF ranks n = r := ⟨_, rfl⟩
          rw [hrk] at r1 r8 hord hab hnx
          have n8i : (n : Int) ≤ 8 := by omega
          have n1i : (1 : Int) ≤ n := by omega
          have ER : bits .and .u64 ((ranks : Int) / 2 ^ (3 * n)) 7 = (r : Int) := by rw [shr7 ranks (3 * n) hr.out, ← hrk]; rfl
          have EL : bits .and .u64 ((lines : Int) / 2 ^ n) 1 = 1 := by rw [shr1 lines n hl.out]; have : (lines / 2 ^ n % 2 == 1) = true := hln; rw [eq_of_beq this]; rfl
          have EO : bits .and .u64 ((on : Int) / 2 ^ n) 1 = 1 := by rw [shr1 on n ho.out]; have : (on / 2 ^ n % 2 == 1) = true := hon; rw [eq_of_beq this]; rfl
          have rz : ((r : Int) == 0) = false := (cast_beq r 0).trans (by simp; omega)
          have r1i : (1 : Int) ≤ r := by omega
          have rl : ¬ ((last : Int) < r) := by omega
          have HBN := Lib.hid hbn; have HCL := Lib.hid hcl; have HNX := Lib.hid hnx; have HRK := Lib.hid hrk; have HAB := Lib.hid hab; have HAD := Lib.hid had; have HOR := Lib.hid hord
          have HN19 : Hid (1 ≤ n ∧ n < 9 ∧ 1 ≤ r ∧ r < 8) := ⟨n1, n9, r1, r8⟩
          clear hbn hcl hnx hrk hab had hord hln hon n1 n9 r1 r8
          by_cases hqr : q < r
          · have hq1 : (q : Int) < r := by omega
            have hq2 : decide ((q : Int) < r) = true := decide_eq_true hq1
            have HQ : Hid (decide (q < r) = true) := decide_eq_true hqr
            clear hqr
            by_cases hrl : r = last
            · have hrl1 : ((r : Int) == last) = true := (cast_beq r last).trans (by simpa using hrl)
              have hnb : ¬ ((n : Int) ≤ before) := by have := HOR.out; omega
              have hnb' : (before : Int) < n := by omega
              clear hrl
              have HP : Hid (pendF T = 512) := by show _ = _; rw [pend_two (x := false) (y := true) HAD.out (HAB.out.trans HQ.out)]; rfl
              go_wp2_with fail
              refine ((pend_c p T _ Hp OT).mono (fun _ _ h => retU_to (n' := 512) HP.out h)).mono ?_; rintro e0 w5 ⟨rfl, bq⟩
              replace Hp := Lib.hid (Hp.out.below bq)
              replace HB := Lib.hid (HB.out.trans (bq.mono HB.out.size)); clear bq
              go_wp2_with fail
              refine ((read_claim p 1 2101252 T _ Hp OT (by show _ < _; decide) (by show _ = _; decide)).mono (fun _ _ h => retRC_to (n' := n) (S' := T.setSt n 2) HBN.out HCL.out h)).mono ?_; rintro e0 w6 ⟨rfl, h1, hg⟩
              replace Hp : Hid (IsP w6 p (T.setSt n 2)) := h1; clear h1
              replace HB := Lib.hid (HB.out.grown hg HB.out.size (fun k hk => by cases hk; exact Gp.out)); clear hg
              go_wp2_with fail
              go_roundg g
              case measure => omega
              case rel => exact ⟨T.setSt n 2, r, n, by go_num, rfl, rfl, Hp, HNX, HB⟩
            · have hrl1 : ((r : Int) == last) = false := (cast_beq r last).trans (by simpa using hrl)
              clear hrl
              have HP : Hid (pendF T = 512) := by show _ = _; rw [pend_two (x := false) (y := true) HAD.out (HAB.out.trans HQ.out)]; rfl
              go_wp2_with fail
              refine ((pend_c p T _ Hp OT).mono (fun _ _ h => retU_to (n' := 512) HP.out h)).mono ?_; rintro e0 w5 ⟨rfl, bq⟩
              replace Hp := Lib.hid (Hp.out.below bq)
              replace HB := Lib.hid (HB.out.trans (bq.mono HB.out.size)); clear bq
              go_wp2_with fail
              refine ((read_claim p 1 2101252 T _ Hp OT (by show _ < _; decide) (by show _ = _; decide)).mono (fun _ _ h => retRC_to (n' := n) (S' := T.setSt n 2) HBN.out HCL.out h)).mono ?_; rintro e0 w6 ⟨rfl, h1, hg⟩
              replace Hp : Hid (IsP w6 p (T.setSt n 2)) := h1; clear h1
              replace HB := Lib.hid (HB.out.grown hg HB.out.size (fun k hk => by cases hk; exact Gp.out)); clear hg
              go_wp2_with fail
              go_roundg g
              case measure => omega
              case rel => exact ⟨T.setSt n 2, r, n, by go_num, rfl, rfl, Hp, HNX, HB⟩
          · have hq1 : ¬ ((q : Int) < r) := by omega
            have hq2 : decide ((q : Int) < r) = false := decide_eq_false hq1
            have HQ : Hid (decide (q < r) = false) := decide_eq_false hqr
            clear hqr
            by_cases hrl : r = last
            · have hrl1 : ((r : Int) == last) = true := (cast_beq r last).trans (by simpa using hrl)
              have hnb : ¬ ((n : Int) ≤ before) := by have := HOR.out; omega
              have hnb' : (before : Int) < n := by omega
              clear hrl
              have HP : Hid (pendF T = 0) := by show _ = _; rw [pend_two (x := false) (y := false) HAD.out (HAB.out.trans HQ.out)]; rfl
              go_wp2_with fail
              refine ((pend_c p T _ Hp OT).mono (fun _ _ h => retU_to (n' := 0) HP.out h)).mono ?_; rintro e0 w5 ⟨rfl, bq⟩
              replace Hp := Lib.hid (Hp.out.below bq)
              replace HB := Lib.hid (HB.out.trans (bq.mono HB.out.size)); clear bq
              go_wp2_with fail
              refine ((read_claim p 1 2101252 T _ Hp OT (by show _ < _; decide) (by show _ = _; decide)).mono (fun _ _ h => retRC_to (n' := n) (S' := T.setSt n 2) HBN.out HCL.out h)).mono ?_; rintro e0 w6 ⟨rfl, h1, hg⟩
              replace Hp : Hid (IsP w6 p (T.setSt n 2)) := h1; clear h1
              replace HB := Lib.hid (HB.out.grown hg HB.out.size (fun k hk => by cases hk; exact Gp.out)); clear hg
              go_wp2_with fail
              go_roundg g
              case measure => omega
              case rel => exact ⟨T.setSt n 2, r, n, by go_num, rfl, rfl, Hp, HNX, HB⟩
            · have hrl1 : ((r : Int) == last) = false := (cast_beq r last).trans (by simpa using hrl)
              clear hrl
              have HP : Hid (pendF T = 0) := by show _ = _; rw [pend_two (x := false) (y := false) HAD.out (HAB.out.trans HQ.out)]; rfl
              go_wp2_with fail
              refine ((pend_c p T _ Hp OT).mono (fun _ _ h => retU_to (n' := 0) HP.out h)).mono ?_; rintro e0 w5 ⟨rfl, bq⟩
              replace Hp := Lib.hid (Hp.out.below bq)
              replace HB := Lib.hid (HB.out.trans (bq.mono HB.out.size)); clear bq
              go_wp2_with fail
              refine ((read_claim p 1 2101252 T _ Hp OT (by show _ < _; decide) (by show _ = _; decide)).mono (fun _ _ h => retRC_to (n' := n) (S' := T.setSt n 2) HBN.out HCL.out h)).mono ?_; rintro e0 w6 ⟨rfl, h1, hg⟩
              replace Hp : Hid (IsP w6 p (T.setSt n 2)) := h1; clear h1
              replace HB := Lib.hid (HB.out.grown hg HB.out.size (fun k hk => by cases hk; exact Gp.out)); clear hg
              go_wp2_with fail
              go_roundg g
              case measure => omega
              case rel => exact ⟨T.setSt n 2, r, n, by go_num, rfl, rfl, Hp, HNX, HB⟩
end Go.Proofs.Ytfdhhmgenbopbaa
