/- The document's Fence. -/
import Derived.Test.YtdplcdgdndeopaaR5
namespace Go.Proofs.Ytdplcdgdndeopaa
open Go.ChangeShapes Go.WideShapes Go.ChangeAt Go.RowKit Go.Sort
set_option linter.unusedVariables false
set_option linter.unusedSimpArgs false
/-- The first k places looked at. -/
def fenK (X : St) (bA : Bool) (a : Nat) (bS : Bool) (s k : Nat) : St :=
  ⟨fun n => if n < k ∧ goesB (X.e n) bA a bS s = true then E0 else X.e n, fun n => if n < k ∧ goesB (X.e n) bA a bS s = true then false else X.is n, X.sd⟩
theorem fen_0 (X : St) (bA : Bool) (a : Nat) (bS : Bool) (s : Nat) : fenK X bA a bS s 0 = X := by
  unfold fenK
  simp
theorem fen_y (X : St) (bA : Bool) (a : Nat) (bS : Bool) (s k : Nat) (h : goesB (X.e k) bA a bS s = true) : fenK X bA a bS s (k + 1) = ⟨setF (fenK X bA a bS s k).e k E0, setF (fenK X bA a bS s k).is k false, X.sd⟩ := by
  unfold fenK setF
  simp only [St.mk.injEq, and_true]
  refine ⟨funext fun n => ?_, funext fun n => ?_⟩
  · by_cases e : n = k
    · subst e; simp [h]
    · have : n < k + 1 ↔ n < k := by omega
      simp [e, this]
  · by_cases e : n = k
    · subst e; simp [h]
    · have : n < k + 1 ↔ n < k := by omega
      simp [e, this]
theorem fen_n (X : St) (bA : Bool) (a : Nat) (bS : Bool) (s k : Nat) (h : goesB (X.e k) bA a bS s = false) : fenK X bA a bS s (k + 1) = fenK X bA a bS s k := by
  unfold fenK
  simp only [St.mk.injEq, and_true]
  refine ⟨funext fun n => ?_, funext fun n => ?_⟩
  · by_cases e : n = k
    · subst e; simp [h]
    · have : n < k + 1 ↔ n < k := by omega
      simp [this]
  · by_cases e : n = k
    · subst e; simp [h]
    · have : n < k + 1 ↔ n < k := by omega
      simp [this]
theorem fen_at (X : St) (bA : Bool) (a : Nat) (bS : Bool) (s k : Nat) : (fenK X bA a bS s k).e k = X.e k := by
  unfold fenK; simp
theorem TRat.same {b L cl I ci : Nat} {X Z : St} {w : World} (h : TRat b L cl I ci X w) (he : ∀ n, n < 8 → X.e n = Z.e n) (hi : ∀ n, n < 8 → X.is n = Z.is n) (hs : X.sd = Z.sd) : TRat b L cl I ci Z w :=
  ⟨h.bL, h.bI, h.LI, h.lb, h.lL, h.lI, h.kl, h.ki, by rw [← hs]; exact h.rb, by
    obtain ⟨ce, h1, h2⟩ := h.rL
    exact ⟨ce, h1, fun n hn j hj => by rw [← he n hn]; exact h2 n hn j hj⟩, by
    obtain ⟨ce, h1, h2⟩ := h.rI
    exact ⟨ce, h1, fun n hn => by rw [← hi n hn]; exact h2 n hn⟩⟩
theorem fen_8 {X : St} {bA : Bool} {a : Nat} {bS : Bool} {s b L cl I ci : Nat} {w : World} (h : TRat b L cl I ci (fenK X bA a bS s 8) w) : TRat b L cl I ci (fenceS X bA a bS s) w :=
  h.same (fun n hn => by unfold fenK fenceS; simp [hn]) (fun n hn => by unfold fenK fenceS; simp [hn]) rfl
set_option maxRecDepth 100000 in
set_option maxHeartbeats 4000000 in
theorem fence_c (b L cl I ci : Nat) (X : St) (hX : Hid X.Ok) (bA : Bool) (a : Nat) (bS : Bool) (s : Nat) (ha : Hid (a < 18446744073709551616)) (hs : Hid (s < 18446744073709551616)) (w : World) (h : Hid (TRat b L cl I ci X w)) :
    Calls Try.prog 17 #[.pointer (some ⟨b, 0, none⟩), .bool bA, .int .u64 (a : Nat), .bool bS, .int .u64 (s : Nat)] w (RetPt b L cl I ci (fenceS X bA a bS s) (.tuple #[]) w) := by
  go_enter Try.func17, Try.ntmps17
  go_wp2_with fail
  go_loopg [10] 8 (fun gg i wr => ∃ k : Nat, k + gg = 8 ∧ i = .int .i64 k ∧ Hid (TRat b L cl I ci (fenK X bA a bS s k) wr ∧ Own (fun k => k = b ∨ k = L ∨ k = I) w wr))
  case atStart => exact ⟨0, rfl, rfl, by rw [fen_0]; exact h.out, Own.refl _ _⟩
  case round =>
    obtain ⟨k, hk, rfl, hr⟩ := hrel
    clear h
    cases gk with
    | zero =>
      obtain rfl : k = 8 := by omega
      go_wp2_with fail
      go_end0
      exact ⟨rfl, fen_8 hr.out.1, hr.out.2⟩
    | succ gg =>
      have h8 : k < 8 := by omega
      have ht := hr.out.1
      have c0 : wr.cell? ⟨b, 0, none⟩ = some (.slice (some ⟨L, 0, none⟩) 8 cl) := (ht.rb.cell 0).trans rfl
      have hwf := hX.out.e k
      cases hx : X.e k with
      | mk ad lv sp gl lf =>
        rw [hx] at hwf
        have hx2 := (fen_at X bA a bS s k).trans hx
        obtain ⟨e0, e1, e2, e3, e4⟩ := ht.en5 k h8 hx2
        have HH := Lib.hid (has_c ⟨ad, lv, sp, gl, lf⟩ hwf.lv hwf.wf.ad a ha.out wr)
        have FY := Lib.hid (fen_y X bA a bS s k)
        have FN := Lib.hid (fen_n X bA a bS s k)
        rw [hx] at FY FN
        have HP : Hid (goesB ⟨ad, lv, sp, gl, lf⟩ bA a bS s = ((!bA || hasB ⟨ad, lv, sp, gl, lf⟩ a) && (!bS || !gl && sp == s))) := rfl
        have HX := Lib.hid hx2
        generalize hasB ⟨ad, lv, sp, gl, lf⟩ a = hv at HH HP
        generalize goesB ⟨ad, lv, sp, gl, lf⟩ bA a bS s = g at HP FY FN
        simp only [En.v] at HH
        clear ht hwf hx hx2
        go_wp2_with fail
        refine HH.out.mono ?_; rintro e w1 ⟨rfl, hb⟩
        have HR : Hid (TRat b L cl I ci (fenK X bA a bS s k) w1 ∧ Own (fun k => k = b ∨ k = L ∨ k = I) w w1) := ⟨hr.out.1.below hb, hr.out.2.trans (Own.below hb)⟩
        clear e0 e1 e2 e3 e4 c0 hr HH hb
        have h2 := HR.out.1
        have c0 : w1.cell? ⟨b, 0, none⟩ = some (.slice (some ⟨L, 0, none⟩) 8 cl) := (h2.rb.cell 0).trans rfl
        have c1 : w1.cell? ⟨b, 1, none⟩ = some (.slice (some ⟨I, 0, none⟩) 8 ci) := (h2.rb.cell 1).trans rfl
        obtain ⟨e0, e1, e2, e3, e4⟩ := h2.en5 k h8 HX.out
        have ei := h2.is k h8
        have z0 := h2.rL.fz (k * 5)
        have z1 := h2.rL.fz (k * 5 + 1)
        have z2 := h2.rL.fz (k * 5 + 2)
        have z3 := h2.rL.fz (k * 5 + 3)
        have z4 := h2.rL.fz (k * 5 + 4)
        have zi := h2.rI.fz k
        have fq : ((sp : Int) == (s : Int)) = (sp == s) := cast_beq sp s
        generalize (sp == s) = q at HP fq
        obtain ⟨ik, hik⟩ : ∃ ik, (fenK X bA a bS s k).is k = ik := ⟨_, rfl⟩
        rw [hik] at ei
        clear hik
        clear h2
        go_upto_region 4 with fail
        go_cut [12] (fun t wx => t = .bool g ∧ wx = w1)
        case first =>
          clear FY FN HX
          cases bA
          · cases bS
            · go_wp2_with fail
              go_meet
              exact ⟨congrArg Value.bool HP.out.symm, rfl⟩
            · cases gl
              · cases q
                · go_wp2_with fail
                  go_meet
                  exact ⟨congrArg Value.bool HP.out.symm, rfl⟩
                · go_wp2_with fail
                  go_meet
                  exact ⟨congrArg Value.bool HP.out.symm, rfl⟩
              · go_wp2_with fail
                go_meet
                exact ⟨congrArg Value.bool HP.out.symm, rfl⟩
          · cases hv
            · go_wp2_with fail
              go_meet
              exact ⟨congrArg Value.bool HP.out.symm, rfl⟩
            · cases bS
              · go_wp2_with fail
                go_meet
                exact ⟨congrArg Value.bool HP.out.symm, rfl⟩
              · cases gl
                · cases q
                  · go_wp2_with fail
                    go_meet
                    exact ⟨congrArg Value.bool HP.out.symm, rfl⟩
                  · go_wp2_with fail
                    go_meet
                    exact ⟨congrArg Value.bool HP.out.symm, rfl⟩
                · go_wp2_with fail
                  go_meet
                  exact ⟨congrArg Value.bool HP.out.symm, rfl⟩
        case rest =>
          obtain ⟨rfl, rfl⟩ := hcut
          clear fq HP HX
          cases g
          · have F := Lib.hid (FN.out rfl)
            clear FY FN
            go_wp2_with fail
            go_roundg gg
            case measure => omega
            case rel => exact ⟨k + 1, by omega, by rfl, by rw [F.out]; exact HR.out⟩
          · have F := Lib.hid (FY.out rfl)
            clear FY FN
            have HT2 : Hid (TRat b L cl I ci ⟨setF (fenK X bA a bS s k).e k E0, (fenK X bA a bS s k).is, X.sd⟩ (((((wc.setCell ⟨L, k * 5, none⟩ (.int .u64 0)).setCell ⟨L, k * 5 + 1, none⟩ (.int .i64 0)).setCell ⟨L, k * 5 + 2, none⟩ (.int .u64 0)).setCell ⟨L, k * 5 + 3, none⟩ (.bool false)).setCell ⟨L, k * 5 + 4, none⟩ (.int .u64 0))) := HR.out.1.lay k 0 0 0 0 false h8
            have HO2 : Hid (Own (fun k => k = b ∨ k = L ∨ k = I) w (((((wc.setCell ⟨L, k * 5, none⟩ (.int .u64 0)).setCell ⟨L, k * 5 + 1, none⟩ (.int .i64 0)).setCell ⟨L, k * 5 + 2, none⟩ (.int .u64 0)).setCell ⟨L, k * 5 + 3, none⟩ (.bool false)).setCell ⟨L, k * 5 + 4, none⟩ (.int .u64 0))) := own5 HR.out.2 L k _ _ _ _ _ (.inr (.inl rfl))
            go_upto_region 7 with fail
            generalize ((((wc.setCell ⟨L, k * 5, none⟩ (.int .u64 0)).setCell ⟨L, k * 5 + 1, none⟩ (.int .i64 0)).setCell ⟨L, k * 5 + 2, none⟩ (.int .u64 0)).setCell ⟨L, k * 5 + 3, none⟩ (.bool false)).setCell ⟨L, k * 5 + 4, none⟩ (.int .u64 0) = w7 at HT2 HO2 ⊢
            clear e0 e1 e2 e3 e4 z0 z1 z2 z3 z4 c0 c1 ei zi
            have b1 : w7.cell? ⟨b, 1, none⟩ = some (.slice (some ⟨I, 0, none⟩) 8 ci) := (HT2.out.rb.cell 1).trans rfl
            have i0 := HT2.out.is k h8
            have i1 := HT2.out.rI.fz k
            have HT3 := Lib.hid (HT2.out.mark k false h8)
            have HO3 := Lib.hid (own_set HO2.out I k (.bool false) (.inr (.inr rfl)))
            simp only [] at i0
            generalize (fenK X bA a bS s k).is k = ik at i0
            clear HT2 HO2
            go_wp2_with fail
            go_roundg gg
            case measure => omega
            case rel => exact ⟨k + 1, by omega, by rfl, by rw [F.out]; exact ⟨HT3.out, HO3.out⟩⟩
end Go.Proofs.Ytdplcdgdndeopaa
