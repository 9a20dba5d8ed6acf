/- TlbFences, walked. -/
import Derived.Test.YtdplcdgdndeopaaG3
namespace Go.Proofs.Ytdplcdgdndeopaa
open Go.ChangeShapes Go.WideShapes Go.ChangeAt Go.RowKit Go.Sort
set_option linter.unusedVariables false
set_option linter.unusedSimpArgs false
/-- What stands between the rounds that compare. -/
abbrev FcL (T : Nat → St → Th) (tb : Nat) (X2 : St) (bs1 bs2 : Nat) (a1 a2 : Option Addr) (m1 m2 c1 c2 : Nat) (LS1 LS2 : List En) : List Th := [T tb X2, eSl 33 bs1 (.slice a1 m1 c1) LS1, eSl 33 bs2 (.slice a2 m2 c2) LS2]
/-- All that a slice lists is of a Tlb. -/
def Kept (L : List En) : Prop := ∀ x ∈ L, x.Ok ∧ x.ad % szN x.lv = 0
theorem kept_all {X : St} (hX : X.Ok) (hA : Al X) : Kept (allS X) := fun x hx => by
  obtain ⟨n, _, _, rfl⟩ := allS_mem hx
  exact ⟨hX.e n, hA n⟩
set_option maxRecDepth 100000 in
set_option maxHeartbeats 16000000 in
theorem fences_core {T : Nat → St → Th} (O : Hid (TlbOk T)) (W : World) (sd b0 o0 N cap a s : Nat) (bA bS : Bool) (sl : Option Addr) (Xs : Nat → Sx) (ha : Hid (sd < 18446744073709551616)) (hS : Hid (Steps W b0 o0 N Xs)) (hsl : Hid (0 < N → sl = some ⟨b0, o0, none⟩ ∧ b0 < W.heap.size)) (hN : Hid (N < 2932031007403)) (hA : Hid (a < 18446744073709551616)) (hs : Hid (s < 18446744073709551616)) :
    Calls Try.prog 7 #[.int .u64 (sd : Nat), .slice sl N cap, .bool bA, .int .u64 (a : Nat), .bool bS, .int .u64 (s : Nat)] W (RetB true W) := by
  go_enter Try.func7, Try.ntmps7
  go_upto_region 3 with (go_at_call 8; refine (fixed_c O.out _).mono ?_; rintro e w1 ⟨rfl, hb1⟩; have H1 := Lib.hid (grp_nil hb1); clear hb1)
  go_upto_block 0 with (go_at_call 9; refine (newG O.out H1.out sd ha.out).mono ?_; rintro e w2 ⟨tb, rfl, h⟩; have H0 : Hid (Grp W [T tb (S0 sd)] w2) := h; clear h H1)
  go_wp2_with fail
  go_loopg [14] N (fun gg iv wr => ∃ (k : Nat) (X : St), k + gg = N ∧ iv = .int .i64 k ∧ Hid (X.Ok ∧ Al X) ∧ Hid (Grp W [T tb X] wr))
  case atStart => exact ⟨0, S0 sd, by omega, rfl, ⟨S0_ok sd ha.out, S0_al sd⟩, H0.out⟩
  case round =>
    obtain ⟨k, X, hk, rfl, hX, hr⟩ := hrel
    clear H0
    cases gk with
    | zero =>
      obtain rfl : k = N := by omega
      obtain ⟨LS1, hLS1⟩ : ∃ LS1, allS X = LS1 := ⟨_, rfl⟩
      obtain ⟨X2, hX2⟩ : ∃ X2, fenceS X bA a bS s = X2 := ⟨_, rfl⟩
      obtain ⟨LS2, hLS2'⟩ : ∃ LS2, allS X2 = LS2 := ⟨_, rfl⟩
      obtain ⟨pr, hpr⟩ : ∃ pr : En → Bool, pr = fun x => !goesB x bA a bS s := ⟨_, rfl⟩
      have hLS2 : LS2 = LS1.filter pr := by rw [← hLS2', ← hX2, ← hLS1, hpr, all_fence]
      obtain ⟨m1, hm1'⟩ : ∃ m1, LS1.length = m1 := ⟨_, rfl⟩
      obtain ⟨m2, hm2'⟩ : ∃ m2, LS2.length = m2 := ⟨_, rfl⟩
      have hm1 := Lib.hid hm1'
      have hm2 := Lib.hid hm2'
      have hm18 : Hid (m1 ≤ 8) := by show _ ≤ _; rw [← hm1', ← hLS1]; exact allK_len X 8
      have hm28 : Hid (m2 ≤ 8) := by show _ ≤ _; rw [← hm2', ← hLS2']; exact allK_len X2 8
      have hK : Hid (Kept LS1) := by show Kept _; rw [← hLS1]; exact kept_all hX.out.1 hX.out.2
      have hOK2 : Hid (X2.Ok) := by show X2.Ok; rw [← hX2]; exact fenceS_ok X hX.out.1 _ _ _ _
      obtain ⟨X3, hX3⟩ : ∃ X3, fenceS X2 false a false s = X3 := ⟨_, rfl⟩
      have hOK3 : Hid (X3.Ok ∧ allS X3 = []) := by show X3.Ok ∧ _; rw [← hX3]; exact ⟨fenceS_ok X2 hOK2.out _ _ _ _, all_gone X2 a s⟩
      have HA1 : Hid (∀ u, Grp W [T tb X] u → Calls Try.prog 20 #[.pointer (some ⟨tb, 0, none⟩)] u (fun e0 w' => ∃ a1 c1, e0 = .returned (.slice a1 m1 c1) ∧ Grp W [T tb X, eSl 33 u.heap.size (.slice a1 m1 c1) LS1] w')) := fun u h => by
        have := allS' O.out h 0 rfl hX.out.1
        rw [hLS1, hm1'] at this; exact this
      have HF1 : Hid (∀ E u, Grp W [T tb X, E] u → Calls Try.prog 16 #[.pointer (some ⟨tb, 0, none⟩), .bool bA, .int .u64 (a : Nat), .bool bS, .int .u64 (s : Nat)] u (fun e0 w' => e0 = .returned (.tuple #[]) ∧ Grp W [T tb X2, E] w')) := fun E u h => by
        have := fenceG O.out h 0 rfl hX.out.1 bA a bS s hA.out hs.out
        rw [hX2] at this; exact this
      have HA2 : Hid (∀ E u, Grp W [T tb X2, E] u → Calls Try.prog 20 #[.pointer (some ⟨tb, 0, none⟩)] u (fun e0 w' => ∃ a1 c1, e0 = .returned (.slice a1 m2 c1) ∧ Grp W [T tb X2, E, eSl 33 u.heap.size (.slice a1 m2 c1) LS2] w')) := fun E u h => by
        have := allS' O.out h 0 rfl hOK2.out
        rw [hLS2', hm2'] at this; exact this
      have HF2 : Hid (∀ l u, Grp W (T tb X2 :: l) u → Calls Try.prog 16 #[.pointer (some ⟨tb, 0, none⟩), .bool false, .int .u64 (a : Nat), .bool false, .int .u64 (s : Nat)] u (fun e0 w' => e0 = .returned (.tuple #[]) ∧ Grp W (T tb X3 :: l) w')) := fun l u h => by
        have := fenceG O.out h 0 rfl hOK2.out false a false s hA.out hs.out
        rw [hX3] at this; exact this
      have HA3 : Hid (∀ l u, Grp W (T tb X3 :: l) u → Calls Try.prog 20 #[.pointer (some ⟨tb, 0, none⟩)] u (fun e0 w' => ∃ a1 c1, e0 = .returned (.slice a1 0 c1) ∧ Below W.heap.size W w')) := fun l u h => by
        refine (allS' O.out h 0 rfl hOK3.out.1).mono ?_
        rintro e0 w' ⟨a, c, rfl, h2⟩
        rw [hOK3.out.2] at h2 ⊢
        exact ⟨a, c, rfl, h2.out⟩
      have HLS2 := Lib.hid hLS2
      have HPR := Lib.hid hpr
      clear hLS1 hLS2' hX2 hX3 hm1' hm2' hLS2 hpr
      go_upto_region 11 with (first
        | (go_at_call 20; refine (HA2.out _ _ H4.out).mono ?_; rintro e0 w5 ⟨a2, c2, rfl, h5⟩; have H5 := Lib.hid h5; clear h5)
        | (go_at_call 20; refine (HA1.out _ hr.out).mono ?_; rintro e0 w3 ⟨a1, c1, rfl, h3⟩; have H3 := Lib.hid h3; clear h3)
        | (go_at_call 16; refine (HF1.out _ _ H3.out).mono ?_; rintro e0 w4 ⟨rfl, h4⟩; have H4 := Lib.hid h4; clear h4))
      generalize wr.heap.size = bs1 at H5
      generalize w4.heap.size = bs2 at H5
      clear H3 H4 HA1 HF1 HA2 hr
      go_wp2_with fail
      go_loopg [17, 18] m1 (fun g2 kv iv wr => ∃ (j kk : Nat), j + g2 = m1 ∧ iv = .int .i64 j ∧ kv = .int .i64 kk ∧ Hid (kk = ((LS1.take j).filter pr).length) ∧ Hid (Grp W (FcL T tb X2 bs1 bs2 a1 a2 m1 m2 c1 c2 LS1 LS2) wr))
      case atStart => exact ⟨0, 0, by omega, rfl, rfl, rfl, H5.out⟩
      case round =>
        obtain ⟨j, kk, hj, rfl, rfl, hkk, hR⟩ := hrel
        clear H5
        cases gk with
        | zero =>
          obtain rfl : j = m1 := by omega
          have ek : kk = m2 := by
            have h1 := hkk.out
            rw [← hm1.out, List.take_length, ← HLS2.out, hm2.out] at h1
            exact h1
          subst ek
          go_wp2_with (first
            | (go_at_call 16; refine (HF2.out _ _ hR.out).mono ?_; rintro e0 w6 ⟨rfl, h6⟩; have H6 := Lib.hid h6; clear h6)
            | (go_at_call 20; refine (HA3.out _ _ H6.out).mono ?_; rintro e0 w7 ⟨a7, c7, rfl, h7⟩; have H7 := Lib.hid h7; clear h7))
          go_ret
          exact retB_mk rfl H7.out
        | succ g2 =>
          have hjm : j < m1 := by omega
          have jlt : (j : Int) < m1 := by omega
          have jj1 : IntKind.i64.wrap ((j : Int) + 1) = (j : Int) + 1 := by have := hm18.out; exact IntWalk.i64_in _ (by omega)
          obtain ⟨gb, ad, sp, lf, lv, gl, rfl, _, _, hx1, y0, y1, y2, y3, y4⟩ := (slAt hR.out 1 rfl).at5 (k := j) (by rw [hm1.out]; exact hjm)
          obtain ⟨⟨_, hl⟩, hal⟩ := hK.out _ (List.mem_of_getElem? hx1)
          replace hl : lv = 0 ∨ lv = 1 ∨ lv = 2 := hl
          have hpr := HPR.out
          have hLS2 := HLS2.out
          rcases hl with hl | hl | hl
          · 
            subst hl
            have hq : hasB ⟨ad, 0, sp, gl, lf⟩ a = (ad == a / 4096 * 4096) := by
              rw [← hasP_eq _ _ hal (szN_pos _)]
              show (a / 4096 * 4096 == ad) = _
              rw [Bool.eq_iff_iff]; simp only [beq_iff_eq]; exact eq_comm
            have hlow : bits .andNot .u64 (a : Int) 4095 = ((a / 4096 * 4096 : Nat) : Int) := low_not a 12 hA.out (by decide)
            have heq := cast_beq ad (a / 4096 * 4096)
            have hsq := cast_beq sp s
            have HQ : Hid (pr ⟨ad, 0, sp, gl, lf⟩ = !((!bA || (ad == a / 4096 * 4096)) && (!bS || (!gl && (sp == s))))) := by
              show _ = _
              rw [hpr, ← hq]; rfl
            generalize a / 4096 * 4096 = r at hlow heq HQ
            generalize (ad == r) = q1 at heq HQ
            generalize (sp == s) = q2 at hsq HQ
            clear hq hal
            have HPY := Lib.hid (fun h => take_stays pr LS1 j _ hx1 h)
            have HPN := Lib.hid (fun h => take_goes pr LS1 j _ hx1 h)
            have hRU : Hid (Grp W (FcL T tb X2 bs1 bs2 (some ⟨gb, 0, none⟩) a2 m1 m2 c1 c2 LS1 LS2) (wr.alloc (Obj.cells #[.int .u64 (ad : Nat), .int .i64 0, .int .u64 (sp : Nat), .bool gl, .int .u64 (lf : Nat)] 33)) ∧ Row (wr.alloc (Obj.cells #[.int .u64 (ad : Nat), .int .i64 0, .int .u64 (sp : Nat), .bool gl, .int .u64 (lf : Nat)] 33)) wr.heap.size 33 (En.v ⟨ad, 0, sp, gl, lf⟩)) := ⟨hR.out.below ((Below.refl _ _).alloc (Nat.le_refl _) _), row_new _ _ _⟩
            clear hx1 hpr
            go_upto_region 16 with fail
            generalize wr.alloc (Obj.cells #[.int .u64 (ad : Nat), .int .i64 0, .int .u64 (sp : Nat), .bool gl, .int .u64 (lf : Nat)] 33) = u1 at hRU ⊢
            generalize wr.heap.size = g at hRU ⊢
            clear y0 y1 y2 y3 y4
            obtain ⟨y0, y1, y2, y3, y4⟩ := rowx hRU.out.2
            cases hp : pr ⟨ad, 0, sp, gl, lf⟩ with
            | false =>
              have HK := Lib.hid (HPN.out hp)
              have HQ2 := Lib.hid (HQ.out.symm.trans hp)
              clear HPN HPY HQ hp
              cases bA <;> cases bS <;> cases q1 <;> cases gl <;> cases q2 <;> first
                | exact absurd HQ2.out (by decide)
                | (clear HQ2
                   go_wp2_with fail
                   go_roundg g2
                   case measure => omega
                   exact ⟨j + 1, kk, by omega, by push_cast; rfl, rfl, by rw [HK.out]; exact hkk.out, hRU.out.1⟩)
            | true =>
              obtain ⟨hk1, hk2, hk3⟩ := HPY.out hp
              have HK := Lib.hid hk1
              have HQ2 := Lib.hid (HQ.out.symm.trans hp)
              rw [← hkk.out, ← hLS2] at hk2 hk3
              have hkm : kk < m2 := by rw [← hm2.out]; exact hk3
              have dk : decide ((m2 : Int) ≤ (kk : Int)) = false := decide_eq_false (by omega)
              have dkn : decide (m2 ≤ kk) = false := decide_eq_false (by omega)
              have kk2 : IntKind.i64.wrap ((kk : Int) + 1) = (kk : Int) + 1 := by have := hm28.out; exact IntWalk.i64_in _ (by omega)
              have klt : (kk : Int) < m2 := by omega
              obtain ⟨ga, ad', sp', lf', lv', gl', rfl, _, _, e1, z0, z1, z2, z3, z4⟩ := (slAt hRU.out.1 2 rfl).at5 (k := kk) (by rw [hm2.out]; exact hkm)
              obtain ⟨rfl, rfl, rfl, rfl, rfl⟩ : ad' = ad ∧ lv' = 0 ∧ sp' = sp ∧ gl' = gl ∧ lf' = lf := by
                rw [hk2] at e1; simp at e1
                obtain ⟨q1, q2, q3, q4, q5⟩ := e1
                exact ⟨q1.symm, q2.symm, q3.symm, q4.symm, q5.symm⟩
              have w0 := cell_regrown y0; have w1 := cell_regrown y1; have w2 := cell_regrown y2; have w3 := cell_regrown y3; have w4 := cell_regrown y4
              replace z0 := cell_regrown z0; replace z1 := cell_regrown z1; replace z2 := cell_regrown z2; replace z3 := cell_regrown z3; replace z4 := cell_regrown z4
              clear HPN HPY HQ hp hk1 hk2 hk3 e1 hkm
              cases bA <;> cases bS <;> cases q1 <;> cases gl' <;> cases q2 <;> first
                | exact absurd HQ2.out (by decide)
                | (clear HQ2
                   go_upto_region 19 with fail
                   refine wp_region_quiet_below (by kernel_rfl) (by kernel_rfl) ?_
                   repeat (go_big_quiet_step (fail))
                   refine wpQuiet_nil ?_
                   intro _ hw'
                   obtain ⟨⟨dq, osq⟩, hw''⟩ := hw'
                   subst hw''
                   have H5 := Lib.hid (hRU.out.1.below (below_regrown u1 dq osq))
                   generalize grow (redrawn u1 dq) osq = w5 at H5 ⊢
                   clear y0 y1 y2 y3 y4 w0 w1 w2 w3 w4 z0 z1 z2 z3 z4 dk dkn klt
                   go_wp2_with fail
                   go_roundg g2
                   case measure => omega
                   exact ⟨j + 1, kk + 1, by omega, by push_cast; rfl, by push_cast; rfl, by rw [HK.out]; have := hkk.out; show kk + 1 = _; omega, H5.out⟩)
          · 
            subst hl
            have hq : hasB ⟨ad, 1, sp, gl, lf⟩ a = (ad == a / 2097152 * 2097152) := by
              rw [← hasP_eq _ _ hal (szN_pos _)]
              show (a / 2097152 * 2097152 == ad) = _
              rw [Bool.eq_iff_iff]; simp only [beq_iff_eq]; exact eq_comm
            have hlow : bits .andNot .u64 (a : Int) 2097151 = ((a / 2097152 * 2097152 : Nat) : Int) := low_not a 21 hA.out (by decide)
            have heq := cast_beq ad (a / 2097152 * 2097152)
            have hsq := cast_beq sp s
            have HQ : Hid (pr ⟨ad, 1, sp, gl, lf⟩ = !((!bA || (ad == a / 2097152 * 2097152)) && (!bS || (!gl && (sp == s))))) := by
              show _ = _
              rw [hpr, ← hq]; rfl
            generalize a / 2097152 * 2097152 = r at hlow heq HQ
            generalize (ad == r) = q1 at heq HQ
            generalize (sp == s) = q2 at hsq HQ
            clear hq hal
            have HPY := Lib.hid (fun h => take_stays pr LS1 j _ hx1 h)
            have HPN := Lib.hid (fun h => take_goes pr LS1 j _ hx1 h)
            have hRU : Hid (Grp W (FcL T tb X2 bs1 bs2 (some ⟨gb, 0, none⟩) a2 m1 m2 c1 c2 LS1 LS2) (wr.alloc (Obj.cells #[.int .u64 (ad : Nat), .int .i64 1, .int .u64 (sp : Nat), .bool gl, .int .u64 (lf : Nat)] 33)) ∧ Row (wr.alloc (Obj.cells #[.int .u64 (ad : Nat), .int .i64 1, .int .u64 (sp : Nat), .bool gl, .int .u64 (lf : Nat)] 33)) wr.heap.size 33 (En.v ⟨ad, 1, sp, gl, lf⟩)) := ⟨hR.out.below ((Below.refl _ _).alloc (Nat.le_refl _) _), row_new _ _ _⟩
            clear hx1 hpr
            go_upto_region 16 with fail
            generalize wr.alloc (Obj.cells #[.int .u64 (ad : Nat), .int .i64 1, .int .u64 (sp : Nat), .bool gl, .int .u64 (lf : Nat)] 33) = u1 at hRU ⊢
            generalize wr.heap.size = g at hRU ⊢
            clear y0 y1 y2 y3 y4
            obtain ⟨y0, y1, y2, y3, y4⟩ := rowx hRU.out.2
            cases hp : pr ⟨ad, 1, sp, gl, lf⟩ with
            | false =>
              have HK := Lib.hid (HPN.out hp)
              have HQ2 := Lib.hid (HQ.out.symm.trans hp)
              clear HPN HPY HQ hp
              cases bA <;> cases bS <;> cases q1 <;> cases gl <;> cases q2 <;> first
                | exact absurd HQ2.out (by decide)
                | (clear HQ2
                   go_wp2_with fail
                   go_roundg g2
                   case measure => omega
                   exact ⟨j + 1, kk, by omega, by push_cast; rfl, rfl, by rw [HK.out]; exact hkk.out, hRU.out.1⟩)
            | true =>
              obtain ⟨hk1, hk2, hk3⟩ := HPY.out hp
              have HK := Lib.hid hk1
              have HQ2 := Lib.hid (HQ.out.symm.trans hp)
              rw [← hkk.out, ← hLS2] at hk2 hk3
              have hkm : kk < m2 := by rw [← hm2.out]; exact hk3
              have dk : decide ((m2 : Int) ≤ (kk : Int)) = false := decide_eq_false (by omega)
              have dkn : decide (m2 ≤ kk) = false := decide_eq_false (by omega)
              have kk2 : IntKind.i64.wrap ((kk : Int) + 1) = (kk : Int) + 1 := by have := hm28.out; exact IntWalk.i64_in _ (by omega)
              have klt : (kk : Int) < m2 := by omega
              obtain ⟨ga, ad', sp', lf', lv', gl', rfl, _, _, e1, z0, z1, z2, z3, z4⟩ := (slAt hRU.out.1 2 rfl).at5 (k := kk) (by rw [hm2.out]; exact hkm)
              obtain ⟨rfl, rfl, rfl, rfl, rfl⟩ : ad' = ad ∧ lv' = 1 ∧ sp' = sp ∧ gl' = gl ∧ lf' = lf := by
                rw [hk2] at e1; simp at e1
                obtain ⟨q1, q2, q3, q4, q5⟩ := e1
                exact ⟨q1.symm, q2.symm, q3.symm, q4.symm, q5.symm⟩
              have w0 := cell_regrown y0; have w1 := cell_regrown y1; have w2 := cell_regrown y2; have w3 := cell_regrown y3; have w4 := cell_regrown y4
              replace z0 := cell_regrown z0; replace z1 := cell_regrown z1; replace z2 := cell_regrown z2; replace z3 := cell_regrown z3; replace z4 := cell_regrown z4
              clear HPN HPY HQ hp hk1 hk2 hk3 e1 hkm
              cases bA <;> cases bS <;> cases q1 <;> cases gl' <;> cases q2 <;> first
                | exact absurd HQ2.out (by decide)
                | (clear HQ2
                   go_upto_region 19 with fail
                   refine wp_region_quiet_below (by kernel_rfl) (by kernel_rfl) ?_
                   repeat (go_big_quiet_step (fail))
                   refine wpQuiet_nil ?_
                   intro _ hw'
                   obtain ⟨⟨dq, osq⟩, hw''⟩ := hw'
                   subst hw''
                   have H5 := Lib.hid (hRU.out.1.below (below_regrown u1 dq osq))
                   generalize grow (redrawn u1 dq) osq = w5 at H5 ⊢
                   clear y0 y1 y2 y3 y4 w0 w1 w2 w3 w4 z0 z1 z2 z3 z4 dk dkn klt
                   go_wp2_with fail
                   go_roundg g2
                   case measure => omega
                   exact ⟨j + 1, kk + 1, by omega, by push_cast; rfl, by push_cast; rfl, by rw [HK.out]; have := hkk.out; show kk + 1 = _; omega, H5.out⟩)
          · 
            subst hl
            have hq : hasB ⟨ad, 2, sp, gl, lf⟩ a = (ad == a / 1073741824 * 1073741824) := by
              rw [← hasP_eq _ _ hal (szN_pos _)]
              show (a / 1073741824 * 1073741824 == ad) = _
              rw [Bool.eq_iff_iff]; simp only [beq_iff_eq]; exact eq_comm
            have hlow : bits .andNot .u64 (a : Int) 1073741823 = ((a / 1073741824 * 1073741824 : Nat) : Int) := low_not a 30 hA.out (by decide)
            have heq := cast_beq ad (a / 1073741824 * 1073741824)
            have hsq := cast_beq sp s
            have HQ : Hid (pr ⟨ad, 2, sp, gl, lf⟩ = !((!bA || (ad == a / 1073741824 * 1073741824)) && (!bS || (!gl && (sp == s))))) := by
              show _ = _
              rw [hpr, ← hq]; rfl
            generalize a / 1073741824 * 1073741824 = r at hlow heq HQ
            generalize (ad == r) = q1 at heq HQ
            generalize (sp == s) = q2 at hsq HQ
            clear hq hal
            have HPY := Lib.hid (fun h => take_stays pr LS1 j _ hx1 h)
            have HPN := Lib.hid (fun h => take_goes pr LS1 j _ hx1 h)
            have hRU : Hid (Grp W (FcL T tb X2 bs1 bs2 (some ⟨gb, 0, none⟩) a2 m1 m2 c1 c2 LS1 LS2) (wr.alloc (Obj.cells #[.int .u64 (ad : Nat), .int .i64 2, .int .u64 (sp : Nat), .bool gl, .int .u64 (lf : Nat)] 33)) ∧ Row (wr.alloc (Obj.cells #[.int .u64 (ad : Nat), .int .i64 2, .int .u64 (sp : Nat), .bool gl, .int .u64 (lf : Nat)] 33)) wr.heap.size 33 (En.v ⟨ad, 2, sp, gl, lf⟩)) := ⟨hR.out.below ((Below.refl _ _).alloc (Nat.le_refl _) _), row_new _ _ _⟩
            clear hx1 hpr
            go_upto_region 16 with fail
            generalize wr.alloc (Obj.cells #[.int .u64 (ad : Nat), .int .i64 2, .int .u64 (sp : Nat), .bool gl, .int .u64 (lf : Nat)] 33) = u1 at hRU ⊢
            generalize wr.heap.size = g at hRU ⊢
            clear y0 y1 y2 y3 y4
            obtain ⟨y0, y1, y2, y3, y4⟩ := rowx hRU.out.2
            cases hp : pr ⟨ad, 2, sp, gl, lf⟩ with
            | false =>
              have HK := Lib.hid (HPN.out hp)
              have HQ2 := Lib.hid (HQ.out.symm.trans hp)
              clear HPN HPY HQ hp
              cases bA <;> cases bS <;> cases q1 <;> cases gl <;> cases q2 <;> first
                | exact absurd HQ2.out (by decide)
                | (clear HQ2
                   go_wp2_with fail
                   go_roundg g2
                   case measure => omega
                   exact ⟨j + 1, kk, by omega, by push_cast; rfl, rfl, by rw [HK.out]; exact hkk.out, hRU.out.1⟩)
            | true =>
              obtain ⟨hk1, hk2, hk3⟩ := HPY.out hp
              have HK := Lib.hid hk1
              have HQ2 := Lib.hid (HQ.out.symm.trans hp)
              rw [← hkk.out, ← hLS2] at hk2 hk3
              have hkm : kk < m2 := by rw [← hm2.out]; exact hk3
              have dk : decide ((m2 : Int) ≤ (kk : Int)) = false := decide_eq_false (by omega)
              have dkn : decide (m2 ≤ kk) = false := decide_eq_false (by omega)
              have kk2 : IntKind.i64.wrap ((kk : Int) + 1) = (kk : Int) + 1 := by have := hm28.out; exact IntWalk.i64_in _ (by omega)
              have klt : (kk : Int) < m2 := by omega
              obtain ⟨ga, ad', sp', lf', lv', gl', rfl, _, _, e1, z0, z1, z2, z3, z4⟩ := (slAt hRU.out.1 2 rfl).at5 (k := kk) (by rw [hm2.out]; exact hkm)
              obtain ⟨rfl, rfl, rfl, rfl, rfl⟩ : ad' = ad ∧ lv' = 2 ∧ sp' = sp ∧ gl' = gl ∧ lf' = lf := by
                rw [hk2] at e1; simp at e1
                obtain ⟨q1, q2, q3, q4, q5⟩ := e1
                exact ⟨q1.symm, q2.symm, q3.symm, q4.symm, q5.symm⟩
              have w0 := cell_regrown y0; have w1 := cell_regrown y1; have w2 := cell_regrown y2; have w3 := cell_regrown y3; have w4 := cell_regrown y4
              replace z0 := cell_regrown z0; replace z1 := cell_regrown z1; replace z2 := cell_regrown z2; replace z3 := cell_regrown z3; replace z4 := cell_regrown z4
              clear HPN HPY HQ hp hk1 hk2 hk3 e1 hkm
              cases bA <;> cases bS <;> cases q1 <;> cases gl' <;> cases q2 <;> first
                | exact absurd HQ2.out (by decide)
                | (clear HQ2
                   go_upto_region 19 with fail
                   refine wp_region_quiet_below (by kernel_rfl) (by kernel_rfl) ?_
                   repeat (go_big_quiet_step (fail))
                   refine wpQuiet_nil ?_
                   intro _ hw'
                   obtain ⟨⟨dq, osq⟩, hw''⟩ := hw'
                   subst hw''
                   have H5 := Lib.hid (hRU.out.1.below (below_regrown u1 dq osq))
                   generalize grow (redrawn u1 dq) osq = w5 at H5 ⊢
                   clear y0 y1 y2 y3 y4 w0 w1 w2 w3 w4 z0 z1 z2 z3 z4 dk dkn klt
                   go_wp2_with fail
                   go_roundg g2
                   case measure => omega
                   exact ⟨j + 1, kk + 1, by omega, by push_cast; rfl, by push_cast; rfl, by rw [HK.out]; have := hkk.out; show kk + 1 = _; omega, H5.out⟩)
    | succ gg =>
      have hlt : (k : Int) < N := by omega
      have hkN : k < N := by omega
      obtain ⟨rfl, hbl⟩ := hsl.out (by omega)
      have kk1 : IntKind.i64.wrap ((k : Int) + 1) = (k : Int) + 1 := by have := hN.out; exact IntWalk.i64_in _ (by omega)
      obtain ⟨kd, ad, sp, lf, lv, gl, hx⟩ : ∃ kd ad sp lf lv gl, Xs k = ⟨kd, ⟨ad, lv, sp, gl, lf⟩⟩ := ⟨_, _, _, _, _, _, rfl⟩
      obtain ⟨hc, hwf⟩ := steps_at hS.out hbl hr.out.out hkN hx
      have HC := Lib.hid hc
      have HWF := Lib.hid hwf
      clear hc hwf hx hkN hbl
      have HP1 : Hid (∀ u, Grp W [T tb X] u → Calls Try.prog 11 #[.pointer (some ⟨tb, 0, none⟩), .agg #[.int .u64 (ad : Nat), .int .i64 lv, .int .u64 (sp : Nat), .bool gl, .int .u64 (lf : Nat)]] u (fun e0 w' => e0 = .returned (.bool (okP ⟨ad, lv, sp, gl, lf⟩)) ∧ Grp W [T tb (putS X ⟨ad, lv, sp, gl, lf⟩)] w')) := fun u h => putG O.out h 0 rfl hX.out.1 ⟨ad, lv, sp, gl, lf⟩ HWF.out
      have HOK : Hid ((putS X ⟨ad, lv, sp, gl, lf⟩).Ok ∧ Al (putS X ⟨ad, lv, sp, gl, lf⟩)) := ⟨putS_ok X hX.out.1 _ HWF.out, putS_al hX.out.2 _⟩
      generalize okP ⟨ad, lv, sp, gl, lf⟩ = ok at HP1
      generalize putS X ⟨ad, lv, sp, gl, lf⟩ = X2 at HP1 HOK
      go_wp2_with (first
        | (refine wpList_load_at rfl 30 _ rfl b0 (o0 + k * 6) rfl #[.int .i64 kd, .int .u64 (ad : Nat), .int .i64 lv, .int .u64 (sp : Nat), .bool gl, .int .u64 (lf : Nat)] _ HC.out Try.underlying30 rfl (info_stC kd lv ad sp lf gl) ?_)
        | (go_at_call 12; refine (entry_c kd lv ad sp lf gl _).mono ?_; rintro e0 w3 ⟨rfl, hbx⟩; have H3 := Lib.hid (hr.out.below hbx); clear hbx)
        | (go_at_call 11; refine (HP1.out _ H3.out).mono ?_; rintro e0 w4 ⟨rfl, h4⟩; have H4 := Lib.hid h4; clear h4))
      go_roundg gg
      case measure => omega
      exact ⟨k + 1, X2, by omega, by push_cast; rfl, HOK.out, H4.out⟩
end Go.Proofs.Ytdplcdgdndeopaa
