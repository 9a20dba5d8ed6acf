/- pdqsort of numbers. -/
import Derived.Test.YtibgdlianedcbaaN5
import Derived.Test.YtibgdlianedcbaaS10
namespace Go.Proofs.Ytibgdlianedcbaa
open Go.Maps Go.WideMaps Go.ChangeShapes Go.WideShapes Go.ChangeAt Go.RowKit
set_option linter.unusedVariables false
set_option linter.unusedSimpArgs false
theorem Mixed.trans {X Y Z : Nat → Nat} {g n a b : Nat} {w w1 w2 : World} (h : Mixed X g n a b w w1 Y) (k : Mixed Y g n a b w1 w2 Z) : Mixed X g n a b w w2 Z := ⟨k.1, h.2.1.trans k.2.1, grown_trans h.2.2 k.2.2⟩
theorem Mixed.wide {X Y : Nat → Nat} {g n a b a0 b0 : Nat} {w w1 : World} (h : Mixed X g n a b w w1 Y) (h1 : a0 ≤ a) (h2 : b ≤ b0) : Mixed X g n a0 b0 w w1 Y := ⟨h.1, h.2.1.mono h1 h2, h.2.2⟩
/-- What a round of the sort finds. -/
def PQ (X : Nat → Nat) (g n a0 b0 a b : Nat) (w wr : World) (Y : Nat → Nat) : Prop := Mixed X g n a0 b0 w wr Y ∧ Out Y a0 b0 a b
theorem PQ.step {X Y Z : Nat → Nat} {g n a0 b0 a b : Nat} {w wr wx : World} (h : PQ X g n a0 b0 a b w wr Y) (k : Mixed Y g n a b wr wx Z) : PQ X g n a0 b0 a b w wx Z :=
  ⟨h.1.trans (k.wide h.2.1 h.2.2.2.1), out_sw h.2 k.2.1⟩
theorem PQ.below {X Y : Nat → Nat} {g n a0 b0 a b : Nat} {w wr wx : World} (h : PQ X g n a0 b0 a b w wr Y) (k : Below wr.heap.size wr wx) : PQ X g n a0 b0 a b w wx Y :=
  ⟨⟨h.1.1.below k, h.1.2.1, grown_trans h.1.2.2 (grown_any (grown_below k))⟩, h.2⟩
theorem PQ.drewN {X Y : Nat → Nat} {g n a0 b0 a b : Nat} {w wr : World} (h : PQ X g n a0 b0 a b w wr Y) (k : Nat) : PQ X g n a0 b0 a b w (wr.drewN k) Y := ⟨h.1.drewN k, h.2⟩
theorem PQ.done {X Y Z : Nat → Nat} {g n a0 b0 a b : Nat} {w wr wx : World} (h : PQ X g n a0 b0 a b w wr Y) (k : Mixed Y g n a b wr wx Z) (hs : Srt Z a b) : Sorting g n a0 b0 X w wx :=
  ⟨Z, (h.step k).1.1, (h.step k).1.2.1, out_all (h.step k).2 hs, (h.step k).1.2.2⟩
theorem PQ.same {X Y : Nat → Nat} {g n a0 b0 a b p m : Nat} {w wr wx : World} (h : PQ X g n a0 b0 a b w wr Y) (k : PartedE Y g n a b p m wr wx) (hl : ∀ j, a ≤ j → j < b → Y p ≤ Y j) : ∃ Z, PQ X g n a0 b0 m b w wx Z ∧ a < m ∧ m ≤ b := by
  obtain ⟨Z, z1, z2, z3, z4, z5, z6, z7⟩ := k
  have q := h.step ⟨z1, z2, z7⟩
  exact ⟨Z, ⟨q.1, out_same (Y := Y) q.2 z3 z4 (z2.all (fun v => Y p ≤ v) hl) z5⟩, z3, z4⟩
theorem lft_less {Y : Nat → Nat} {a b m : Nat} (h : Lft Y a b) (hm : m ≤ b) : Lft Y a m := h.imp id (fun h k h1 h2 => h k h1 (by omega))
theorem PQ.less {X Z V : Nat → Nat} {g n a0 b0 a b m : Nat} {w wr wx : World} (h : PQ X g n a0 b0 a b w wr Z) (ha : a ≤ m) (hm : m < b) (h1 : ∀ k, a ≤ k → k < m → Z k ≤ Z m) (h2 : ∀ k, m < k → k < b → Z m ≤ Z k) (k : Mixed Z g n a m wr wx V) (hv : Srt V a m) : PQ X g n a0 b0 (m + 1) b w wx V :=
  ⟨h.1.trans (k.wide h.2.1 (by have := h.2.2.2.1; omega)), out_less h.2 ha hm h1 h2 k.2.1 hv⟩
theorem PQ.more {X Z V : Nat → Nat} {g n a0 b0 a b m : Nat} {w wr wx : World} (h : PQ X g n a0 b0 a b w wr Z) (ha : a ≤ m) (hm : m < b) (h1 : ∀ k, a ≤ k → k < m → Z k ≤ Z m) (h2 : ∀ k, m < k → k < b → Z m ≤ Z k) (k : Mixed Z g n (m + 1) b wr wx V) (hv : Srt V (m + 1) b) : PQ X g n a0 b0 a m w wx V :=
  ⟨h.1.trans (k.wide (by have := h.2.1; omega) h.2.2.2.1), out_more h.2 ha hm h1 h2 k.2.1 hv⟩
/-- A row is sorted by pdqsort wherever the part is at most N long. -/
def PdqOk (g n c0 N : Nat) : Prop := ∀ (a b lim : Nat) (X : Nat → Nat) (w : World), Hid (b ≤ a + N) → Hid (RowU w g n X) → Hid (a ≤ b ∧ b ≤ n ∧ n < 1152921504606846976 ∧ lim ≤ 64) → Hid (Lft X a b) →
  Calls Try.prog 33 #[.slice (some ⟨g, 0, none⟩) n c0, .int .i64 a, .int .i64 b, .int .i64 lim] w (fun e w' => e = .returned (.tuple #[]) ∧ Sorting g n a b X w w')
set_option maxRecDepth 100000 in
set_option maxHeartbeats 16000000 in
theorem pdq_step (g n c0 N : Nat) (IH : Hid (∀ M, M < N → PdqOk g n c0 M)) : PdqOk g n c0 N := by
  intro a0 b0 lim0 X w hN hR hb hl
  have nI : (n : Int) < 1152921504606846976 := by have := hb.out; omega
  have l0 : (lim0 : Int) ≤ 64 := by have := hb.out; omega
  have bn : (b0 : Int) ≤ n := by have := hb.out; omega
  have an : (a0 : Int) ≤ n := by have := hb.out; omega
  go_enter Try.func33, Try.ntmps33
  go_wp2_with fail
  go_loopg [1, 2, 3, 8, 9] N (fun g_ s1 s2 s3 s8 s9 wr => ∃ (a b lim : Nat) (wb wp : Bool) (Y : Nat → Nat), s1 = .int .i64 a ∧ s2 = .int .i64 b ∧ s3 = .int .i64 lim ∧ s8 = .bool wb ∧ s9 = .bool wp ∧ Hid (b ≤ a + g_ ∧ lim ≤ 64) ∧ Hid (PQ X g n a0 b0 a b w wr Y))
  case atStart => exact ⟨a0, b0, lim0, true, true, X, rfl, rfl, rfl, rfl, rfl, ⟨hN.out, hb.out.2.2.2⟩, ⟨hR.out, .refl, grown_refl _ _⟩, out_start X hb.out.1⟩
  case round =>
    clear l0 bn an
    obtain ⟨a, b, lim, wb, wp, Y, rfl, rfl, rfl, rfl, rfl, HG, HI⟩ := hrel
    obtain ⟨L, hL⟩ : ∃ L, L = b - a := ⟨_, rfl⟩
    have HB : Hid (a + L = b ∧ b ≤ n ∧ a0 ≤ a ∧ b ≤ b0) := by have h := HI.out.2; have := h.1; have := h.2.1; have := h.2.2.1; have := hb.out; show _ ∧ _; omega
    have eL : (b : Int) - (a : Int) = (L : Int) := by have := HB.out; omega
    have bn : (b : Int) ≤ n := by have := HB.out; omega
    have an : (a : Int) ≤ n := by have := HB.out; omega
    have Ln : (L : Int) ≤ n := by have := HB.out; omega
    have ln : (lim : Int) ≤ 64 := by have := HG.out; omega
    have HNN : Hid (L ≤ N) := by have := HB.out; have := hN.out; show _ ≤ _; omega
    clear hL
    by_cases h12 : L ≤ 12
    · have h12' : decide ((L : Int) ≤ 12) = true := decide_eq_true (by omega)
      clear h12
      go_wp2_with fail
      refine (ins_c g n c0 a b Y wr (Lib.hid HI.out.1.1) (by have := HB.out; show _ ∧ _; omega) (by have := hb.out; show _ < _; omega)).mono ?_; rintro e w1 ⟨rfl, hs⟩
      have HS := Lib.hid hs
      clear hs
      go_wp2_with fail
      exact bodyPost_ret (v := .tuple #[]) (by simp [results, Try.results33, go_sem] <;> (first | rfl | (repeat' (first | rfl | apply And.intro)))) rfl ⟨rfl, by
        obtain ⟨Z, z1, z2, z3, z4⟩ := HS.out
        exact HI.out.done ⟨z1, z2, z4⟩ z3⟩
    · have h12' : decide ((L : Int) ≤ 12) = false := decide_eq_false (by omega)
      have H12 := Lib.hid h12
      clear h12
      by_cases hl0 : lim = 0
      · have hl0' : ((lim : Int) == 0) = true := by rw [hl0]; rfl
        clear hl0
        go_wp2_with fail
        refine (heap_c g n c0 a b Y wr (Lib.hid HI.out.1.1) (by have := HB.out; have := hb.out; have := H12.out; show _ ∧ _; omega)).mono ?_; rintro e w1 ⟨rfl, hs⟩
        have HS := Lib.hid hs
        clear hs
        go_wp2_with fail
        exact bodyPost_ret (v := .tuple #[]) (by simp [results, Try.results33, go_sem] <;> (first | rfl | (repeat' (first | rfl | apply And.intro)))) rfl ⟨rfl, by
          obtain ⟨Z, z1, z2, z3, z4⟩ := HS.out
          exact HI.out.done ⟨z1, z2, z4⟩ z3⟩
      · have hl0' : ((lim : Int) == 0) = false := by rw [beq_eq_false_iff_ne]; omega
        obtain ⟨k, hk⟩ : ∃ k, k = lim - 1 := ⟨_, rfl⟩
        have ek : (lim : Int) - 1 = (k : Int) := by omega
        have HK : Hid (k ≤ 64) := by have := HG.out; show _ ≤ _; omega
        have HA : Hid (a + 12 < b ∧ b ≤ n ∧ n < 1152921504606846976) := by have := HB.out; have := hb.out; have := H12.out; show _ ∧ _; omega
        clear hl0 hk
        go_upto_if 35 with fail
        generalize (!wb) = nb
        go_cut [3] from 19 to 133 (fun s3 wx => ∃ (lim : Nat) (Y : Nat → Nat), s3 = .int .i64 lim ∧ Hid (lim ≤ 64) ∧ Hid (PQ X g n a0 b0 a b w wx Y))
        case first =>
          cases nb
          · go_wp2_with fail
            go_meet
            case rel => exact ⟨lim, Y, rfl, HG.out.2, HI.out⟩
          · go_wp2_with fail
            refine (break_c g n c0 a b Y wr (Lib.hid HI.out.1.1) HA).mono ?_; rintro e w1 ⟨rfl, Y1, h1⟩
            go_wp2_with fail
            go_meet
            case rel => exact ⟨k, Y1, rfl, HK, HI.out.step h1.out⟩
        case rest =>
          clear HI HK ek ln
          obtain ⟨lim1, Y, rfl, HLM, HI⟩ := hcut
          go_wp2_with fail
          refine (piv_c g n c0 a b Y wc (Lib.hid HI.out.1.1) HA).mono ?_; rintro e w1 ⟨p, h, rfl, hp, hh, hw⟩
          have HP := Lib.hid (HI.out.below hw.out)
          clear HI hw
          have pn : (p : Int) < n := by have := hp.out; have := HA.out; omega
          go_upto_if 50 with fail
          generalize ((h : Int) == 2) = tb
          go_cut [11, 12] from 19 to 133 (fun s11 s12 wx => ∃ (p h : Nat) (Y : Nat → Nat), s11 = .int .i64 p ∧ s12 = .int .i64 h ∧ Hid (a ≤ p ∧ p < b) ∧ Hid (PQ X g n a0 b0 a b w wx Y))
          case first =>
            cases tb
            · go_wp2_with fail
              go_meet
              case rel => exact ⟨p, h, Y, rfl, rfl, hp, HP.out⟩
            · skip
              obtain ⟨b1, hb1⟩ : ∃ b1, b1 = b - 1 := ⟨_, rfl⟩
              have eb1 : (b : Int) - 1 = (b1 : Int) := by have := HA.out; omega
              obtain ⟨pa, hpa⟩ : ∃ pa, pa = p - a := ⟨_, rfl⟩
              have epa : (p : Int) - (a : Int) = (pa : Int) := by have := hp.out; omega
              obtain ⟨p2, hp2⟩ : ∃ p2, p2 = b1 - pa := ⟨_, rfl⟩
              have ep2 : (b1 : Int) - (pa : Int) = (p2 : Int) := by have := hp.out; omega
              have b1n : (b1 : Int) < n := by have := HA.out; omega
              have pan : (pa : Int) < n := by have := HA.out; have := hp.out; omega
              have p2n : (p2 : Int) < n := by have := HA.out; have := hp.out; omega
              have HP2 : Hid (a ≤ p2 ∧ p2 < b) := by have := HA.out; have := hp.out; show _ ∧ _; omega
              clear hb1 hpa hp2
              go_wp2_with fail
              refine (rev_c g n c0 a b Y w1 (Lib.hid HP.out.1.1) (by have := HA.out; show _ ∧ _; omega)).mono ?_; rintro e w2 ⟨rfl, Y2, h2⟩
              go_wp2_with fail
              go_meet
              case rel => exact ⟨p2, 1, Y2, rfl, rfl, HP2, HP.out.step h2.out⟩
          case rest =>
            clear HP hp hh pn
            obtain ⟨p, h, Y, rfl, rfl, hp, HP⟩ := hcut
            have pn : (p : Int) < n := by have := hp.out; have := HA.out; omega
            go_upto_region 15 with fail
            go_cut [68] from 19 to 133 (fun s68 wx => ∃ t : Bool, s68 = .bool t ∧ wx = wc)
            case first =>
              cases wb
              · go_wp2_with fail
                go_meet
                case rel => exact ⟨false, rfl, rfl⟩
              · cases wp
                · go_wp2_with fail
                  go_meet
                  case rel => exact ⟨false, rfl, rfl⟩
                · go_wp2_with fail
                  go_meet
                  case rel => exact ⟨_, rfl, rfl⟩
            case rest =>
              obtain ⟨t, rfl, rfl⟩ := hcut
              go_upto_if 68 with fail
              go_cut [] from 19 to 133 (fun wx => ∃ (Y : Nat → Nat), Hid (PQ X g n a0 b0 a b w wx Y))
              case first =>
                cases t
                · go_wp2_with fail
                  go_meet
                  case rel => exact ⟨Y, HP.out⟩
                · go_wp2_with fail
                  refine (pins_c g n c0 a b Y _ (Lib.hid HP.out.1.1) (by have := HA.out; show _ ∧ _; omega) (Lib.hid (lft_of hl.out HP.out.1.2.1 HP.out.2))).mono ?_; rintro e w2 ⟨t, Y2, rfl, h2⟩
                  cases t
                  · go_wp2_with fail
                    go_meet
                    case rel => exact ⟨Y2, HP.out.step h2.out.1⟩
                  · go_wp2_with fail
                    exact bodyPost_ret (v := .tuple #[]) (by simp [results, Try.results33, go_sem] <;> (first | rfl | (repeat' (first | rfl | apply And.intro)))) rfl ⟨rfl, HP.out.done h2.out.1 (h2.out.2 trivial)⟩
              case rest =>
                clear HP
                obtain ⟨Y, HP⟩ := hcut
                have HL := Lib.hid (lft_of hl.out HP.out.1.2.1 HP.out.2)
                go_upto_region 17 with fail
                obtain ⟨k, hk⟩ : ∃ k, k = a - 1 := ⟨_, rfl⟩
                have kn : (k : Int) < n := by have := HA.out; omega
                have wk : IntKind.i64.wrap (k : Int) = (k : Int) := IntWalk.i64_in _ (by omega)
                have pN : p < n := by omega
                have kN : k < n := by omega
                have cp := HP.out.1.1.cell p pN
                have ck := HP.out.1.1.cell k kN
                have HK := Lib.hid hk
                clear hk
                go_cut [87] from 19 to 133 (fun s87 wx => ∃ t : Bool, s87 = .bool t ∧ Hid (t = true → 0 < a ∧ Y p ≤ Y (a - 1)) ∧ Hid (PQ X g n a0 b0 a b w wx Y))
                case first =>
                  by_cases ha : 0 < a
                  · have ha1 : (0 : Int) < (a : Int) := by omega
                    have ek : (a : Int) - 1 = (k : Int) := by have := HK.out; omega
                    have HA0 := Lib.hid ha
                    cases hq : decide (Y k < Y p)
                    · have HQ := Lib.hid hq
                      clear hq
                      go_wp2_with fail
                      go_quiet ((go_at_call 41; exact Calls.quiet_of_same (less_c _ _ false HQ _)))
                      go_wp2_with fail
                      go_meet
                      case rel => exact ⟨true, rfl, fun _ => ⟨HA0.out, by have := of_decide_eq_false HQ.out; rw [← HK.out]; omega⟩, HP.out.drewN _⟩
                    · have HQ := Lib.hid hq
                      clear hq
                      go_wp2_with fail
                      go_quiet ((go_at_call 41; exact Calls.quiet_of_same (less_c _ _ true HQ _)))
                      go_wp2_with fail
                      go_meet
                      case rel => exact ⟨false, rfl, (fun h => absurd h (by decide)), HP.out.drewN _⟩
                  · have ha1 : ¬ (0 : Int) < (a : Int) := by omega
                    go_wp2_with fail
                    go_quiet (fail)
                    go_wp2_with fail
                    go_meet
                    case rel => exact ⟨false, rfl, (fun h => absurd h (by decide)), HP.out.drewN _⟩
                case rest =>
                  clear HP cp ck wk kn kN HK
                  obtain ⟨t, rfl, HT, HP⟩ := hcut
                  cases t
                  · clear HT
                    go_wp2_with fail
                    refine (part_c g n c0 a b p Y _ (Lib.hid HP.out.1.1) (by have := HA.out; have := hp.out; show _ ∧ _; omega)).mono ?_; rintro e w2 ⟨m, al, rfl, hm⟩
                    obtain ⟨Z, z1, z2, z3, z4, z5, z6, z7⟩ := hm.out
                    have HZ : Hid (PQ X g n a0 b0 a b w w2 Z ∧ a ≤ m ∧ m < b ∧ (∀ k, a ≤ k → k < m → Z k ≤ Z m) ∧ (∀ k, m < k → k < b → Z m ≤ Z k)) := ⟨HP.out.step ⟨z1, z2, z7⟩, z3, z4, z5, z6⟩
                    have HL2 := Lib.hid (lft_sw HL.out z2)
                    clear z1 z2 z3 z4 z5 z6 z7 hm HP HL
                    obtain ⟨l1, hl1⟩ : ∃ l1, l1 = m - a := ⟨_, rfl⟩
                    have el1 : (m : Int) - (a : Int) = (l1 : Int) := by have := HZ.out.2.1; omega
                    obtain ⟨l2, hl2⟩ : ∃ l2, l2 = b - m := ⟨_, rfl⟩
                    have el2 : (b : Int) - (m : Int) = (l2 : Int) := by have := HZ.out.2.2.1; omega
                    have mn : (m : Int) < n := by have := HZ.out.2.2.1; have := HA.out; omega
                    have l1n : (l1 : Int) ≤ n := by omega
                    have l2n : (l2 : Int) ≤ n := by omega
                    obtain ⟨m1, hm1⟩ : ∃ m1, m1 = m + 1 := ⟨_, rfl⟩
                    have em1 : (m : Int) + 1 = (m1 : Int) := by omega
                    have HM := Lib.hid hm1
                    obtain ⟨L8, hL8⟩ : ∃ L8, L8 = L / 8 := ⟨_, rfl⟩
                    have eL8 : (L : Int) / 8 = (L8 : Int) := by omega
                    have eL8' : (L : Int).tdiv 8 = (L8 : Int) := by rw [Int.tdiv_eq_ediv_of_nonneg (by omega)]; exact eL8
                    have HLL : Hid (l1 = m - a ∧ l2 = b - m) := ⟨hl1, hl2⟩
                    have m1n : (m1 : Int) ≤ n := by omega
                    clear hl1 hl2 hm1 hL8
                    by_cases hlr : l1 < l2
                    · have hlr' : (l1 : Int) < l2 := by omega
                      go_wp2_with fail
                      refine (IH.out (m - a) (by have := HZ.out.2.2.1; have := HZ.out.2.1; have := HNN.out; omega) a m lim1 Z w2 (by have := HZ.out.2.1; show _ ≤ _; omega) (Lib.hid HZ.out.1.1.1) (by have := HZ.out.2.1; have := HZ.out.2.2.1; have := HA.out; have := HLM.out; show _ ∧ _; omega) (Lib.hid (lft_less HL2.out (Nat.le_of_lt HZ.out.2.2.1)))).mono ?_; rintro e w3 ⟨rfl, hs⟩
                      obtain ⟨V, v1, v2, v3, v4⟩ := hs
                      have HV : Hid (PQ X g n a0 b0 (m + 1) b w w3 V) := HZ.out.1.less HZ.out.2.1 HZ.out.2.2.1 HZ.out.2.2.2.1 HZ.out.2.2.2.2 ⟨v1, v2, v4⟩ v3
                      clear v1 v2 v3 v4 hlr
                      go_wp2_with fail
                      go_roundg (b - (m + 1))
                      case measure => have := HG.out; have := HZ.out.2.1; have := HZ.out.2.2.1; omega
                      case rel => exact ⟨m1, b, lim1, _, al, V, rfl, rfl, rfl, rfl, rfl, by have := HM.out; have := HLM.out; have := HZ.out.2.2.1; show _ ∧ _; omega, by rw [HM.out]; exact HV.out⟩
                    · have hlr' : ¬ (l1 : Int) < l2 := by omega
                      go_wp2_with fail
                      refine (IH.out (b - (m + 1)) (by have := HZ.out.2.2.1; have := HZ.out.2.1; have := HNN.out; omega) m1 b lim1 Z w2 (by have := HM.out; show _ ≤ _; omega) (Lib.hid HZ.out.1.1.1) (by have := HM.out; have := HZ.out.2.2.1; have := HA.out; have := HLM.out; show _ ∧ _; omega) (by right; intro k k1 k2; have e := HM.out; rw [e] at k1 ⊢; rw [Nat.add_sub_cancel]; exact HZ.out.2.2.2.2 k (by omega) k2)).mono ?_; rintro e w3 ⟨rfl, hs⟩
                      obtain ⟨V, v1, v2, v3, v4⟩ := hs
                      have HV : Hid (PQ X g n a0 b0 a m w w3 V) := by
                        have e := HM.out
                        subst e
                        exact HZ.out.1.more HZ.out.2.1 HZ.out.2.2.1 HZ.out.2.2.2.1 HZ.out.2.2.2.2 ⟨v1, v2, v4⟩ v3
                      clear v1 v2 v3 v4 hlr
                      go_wp2_with fail
                      go_roundg (m - a)
                      case measure => have := HG.out; have := HZ.out.2.1; have := HZ.out.2.2.1; omega
                      case rel => exact ⟨a, m, lim1, _, al, V, rfl, rfl, rfl, rfl, rfl, by have := HLM.out; have := HZ.out.2.1; show _ ∧ _; omega, HV.out⟩
                  · go_wp2_with fail
                    refine (parte_c g n c0 a b p Y _ (Lib.hid HP.out.1.1) (by have := HA.out; have := hp.out; show _ ∧ _; omega)).mono ?_; rintro e w2 ⟨m, rfl, hm⟩
                    obtain ⟨Z, z1, z2, z3⟩ := HP.out.same hm.out (fun j j1 j2 => Nat.le_trans (HT.out trivial).2 (HL.out.resolve_left (by have := (HT.out trivial).1; omega) j j1 j2))
                    have HZ : Hid (PQ X g n a0 b0 m b w w2 Z ∧ a < m ∧ m ≤ b) := ⟨z1, z2, z3⟩
                    clear z1 z2 z3 hm
                    go_wp2_with fail
                    go_roundg (b - m)
                    case measure => have := HG.out; have := HZ.out.2; have := HA.out; omega
                    case rel => exact ⟨m, b, lim1, _, wp, Z, rfl, rfl, rfl, rfl, rfl, by have := HLM.out; have := HZ.out.2; show _ ∧ _; omega, HZ.out.1⟩
end Go.Proofs.Ytibgdlianedcbaa
