/- The code's Fence. -/
import Derived.Test.YtdplcdgdndeopaaK9
namespace Go.Proofs.Ytdplcdgdndeopaa
open Go.ChangeShapes Go.WideShapes Go.ChangeAt Go.RowKit Go.Sort
set_option linter.unusedVariables false
set_option linter.unusedSimpArgs false
theorem tC_congr {X Z : St} (he : ∀ n, n < 8 → X.e n = Z.e n) (hi : ∀ n, n < 8 → X.is n = Z.is n) (hs : X.sd = Z.sd) (m : Nat) : tC X m = tC Z m := by
  unfold tC
  rw [he 0 (by decide), he 1 (by decide), he 2 (by decide), he 3 (by decide), he 4 (by decide), he 5 (by decide), he 6 (by decide), he 7 (by decide), hi 0 (by decide), hi 1 (by decide), hi 2 (by decide), hi 3 (by decide), hi 4 (by decide), hi 5 (by decide), hi 6 (by decide), hi 7 (by decide), hs]
theorem Tb.congr {b m : Nat} {X Z : St} {w : World} (h : Tb b m X X w) (he : ∀ n, n < 8 → X.e n = Z.e n) (hi : ∀ n, n < 8 → X.is n = Z.is n) (hs : X.sd = Z.sd) : Tb b m Z Z w := by
  obtain ⟨D, n, hn, hm, hD⟩ := h.map
  have hc : cnt X.is = cnt Z.is := by
    unfold cnt
    rw [hi 0 (by decide), hi 1 (by decide), hi 2 (by decide), hi 3 (by decide), hi 4 (by decide), hi 5 (by decide), hi 6 (by decide), hi 7 (by decide)]
  refine ⟨h.bm, h.lb, by rw [← tC_congr he hi hs m]; exact h.row, D, n, by rw [← hc]; exact hn, hm, hD.tidy, fun k hk hz => ?_, fun kl hk => ?_, by rw [← hc]; exact hD.size⟩
  · rw [← he k hk]; exact hD.has k hk (by rw [hi k hk]; exact hz)
  · obtain ⟨k, h1, h2, h3⟩ := hD.only kl hk
    exact ⟨k, h1, by rw [← hi k h1]; exact h2, by rw [← he k h1]; exact h3⟩
theorem fen_yS (X : St) (bA : Bool) (a : Nat) (bS : Bool) (s k : Nat) (h : goesB (X.e k) bA a bS s = true) : fenK X bA a bS s (k + 1) = emS (fenK X bA a bS s k) k := fen_y X bA a bS s k h
theorem fenK_ok {X : St} (hX : X.Ok) (bA : Bool) (a : Nat) (bS : Bool) (s : Nat) : ∀ k, (fenK X bA a bS s k).Ok
  | 0 => by rw [fen_0]; exact hX
  | k + 1 => by
    cases h : goesB (X.e k) bA a bS s with
    | true => rw [fen_yS X bA a bS s k h]; exact emS_ok (fenK_ok hX bA a bS s k) k
    | false => rw [fen_n X bA a bS s k h]; exact fenK_ok hX bA a bS s k
theorem fen_8T {X : St} {bA : Bool} {a : Nat} {bS : Bool} {s b m : Nat} {w : World} (h : Tb b m (fenK X bA a bS s 8) (fenK X bA a bS s 8) w) : Tb b m (fenceS X bA a bS s) (fenceS X bA a bS s) w :=
  h.congr (fun n hn => by unfold fenK fenceS; simp [hn]) (fun n hn => by unfold fenK fenceS; simp [hn]) rfl
theorem fenceS_al {X : St} (h : Al X) (bA : Bool) (a : Nat) (bS : Bool) (s : Nat) : Al (fenceS X bA a bS s) := fun n => by
  show (if goesB (X.e n) bA a bS s = true then E0 else X.e n).ad % szN (if goesB (X.e n) bA a bS s = true then E0 else X.e n).lv = 0
  split
  · rfl
  · exact h n
theorem goes_eq {X : St} (hA : Al X) (k : Nat) (bA : Bool) (a : Nat) (bS : Bool) (s : Nat) : goesB (X.e k) bA a bS s = ((!bA || hasP (X.e k) a) && (!bS || (!(X.e k).gl && (X.e k).sp == s))) := by
  rw [hasP_eq _ _ (hA k) (szN_pos _)]; rfl
/-- Between Fence's rounds. -/
structure Fe (b m : Nat) (Z : St) (w u : World) : Prop where
  t : Tb b m Z Z u
  o : Own (Sb b m) w u
theorem Fe.below {b m : Nat} {Z : St} {w u u' : World} (h : Fe b m Z w u) (hb : Below u.heap.size u u') : Fe b m Z w u' := ⟨h.t.below hb, h.o.trans (Own.below hb)⟩
theorem row6 {w : World} {g : Nat} {q0 gl : Bool} {ad sp lf : Nat} {lv : Int} (h : Row w g 56 #[.bool q0, .int .u64 (ad : Nat), .int .i64 lv, .int .u64 (sp : Nat), .bool gl, .int .u64 (lf : Nat)]) :
    w.cell? ⟨g, 1, none⟩ = some (.int .u64 (ad : Nat)) ∧ w.cell? ⟨g, 2, none⟩ = some (.int .i64 lv) ∧ w.cell? ⟨g, 3, none⟩ = some (.int .u64 (sp : Nat)) ∧ w.cell? ⟨g, 4, none⟩ = some (.bool gl) ∧ w.cell? ⟨g, 5, none⟩ = some (.int .u64 (lf : Nat)) :=
  ⟨(h.cell 1).trans rfl, (h.cell 2).trans rfl, (h.cell 3).trans rfl, (h.cell 4).trans rfl, (h.cell 5).trans rfl⟩
set_option maxRecDepth 100000 in
set_option maxHeartbeats 4000000 in
theorem fence_q (b m : Nat) (X : St) (hX : Hid X.Ok) (hA : Hid (Al X)) (bA : Bool) (a : Nat) (bS : Bool) (s : Nat) (ha : Hid (a < 18446744073709551616)) (w : World) (h : Hid (Tb b m X X w)) :
    Calls Try.prog 16 #[.pointer (some ⟨b, 0, none⟩), .bool bA, .int .u64 (a : Nat), .bool bS, .int .u64 (s : Nat)] w (RetM b m (fenceS X bA a bS s) (fenceS X bA a bS s) (.tuple #[]) w) := by
  go_enter Try.func16, Try.ntmps16
  go_wp2_with (refine wpList_load_at rfl 57 _ rfl b 0 rfl (psC X) _ h.out.ps Try.underlying57 rfl (info_ps X) ?_)
  go_loopg [16] 8 (fun gg i wr => ∃ k : Nat, k + gg = 8 ∧ i = .int .i64 k ∧ Hid (Fe b m (fenK X bA a bS s k) w wr))
  case atStart => exact ⟨0, rfl, rfl, by rw [fen_0]; exact ⟨h.out, Own.refl _ _⟩⟩
  case round =>
    obtain ⟨k, hk, rfl, hr⟩ := hrel
    clear h
    cases gk with
    | zero =>
      obtain rfl : k = 8 := by omega
      go_wp2_with fail
      go_end0
      exact ⟨rfl, fen_8T hr.out.t, hr.out.o⟩
    | succ gg =>
      have h8 : k < 8 := by omega
      have hlt : (k : Int) < 8 := by omega
      obtain ⟨ad, sp, lf, lv, gl, hx, hix⟩ := ps_ix5 X k h8
      have HL := Lib.hid (hX.out.e k).lv
      have HP := Lib.hid (fun u => hasPage_c (X.e k) HL.out a ha.out u)
      have HO := Lib.hid (fun u => isOf_c (X.e k) s u)
      have HE := Lib.hid (fun Z (hZ : Z.Ok) u hu => empty_c b m k Z (Lib.hid hZ) (Lib.hid h8) u (Lib.hid hu))
      have HZ := Lib.hid (fenK_ok hX.out bA a bS s k)
      have FG := Lib.hid (goes_eq hA.out k bA a bS s)
      have FY := Lib.hid (fen_yS X bA a bS s k)
      have FN := Lib.hid (fen_n X bA a bS s k)
      rw [hx] at HP HO HL
      rw [hx] at FG
      rw [← hx] at FG
      replace HP : Hid (∀ u, Calls Try.prog 30 #[.agg #[.int .u64 (ad : Nat), .int .i64 lv, .int .u64 (sp : Nat), .bool gl, .int .u64 (lf : Nat)], .int .u64 (a : Nat)] u (RetB (hasP (X.e k) a) u)) := by rw [hx]; exact HP
      replace HO : Hid (∀ u, Calls Try.prog 31 #[.agg #[.int .u64 (ad : Nat), .int .i64 lv, .int .u64 (sp : Nat), .bool gl, .int .u64 (lf : Nat)], .int .u64 (s : Nat)] u (RetB (!(X.e k).gl && (X.e k).sp == s) u)) := by rw [hx]; exact HO
      generalize hasP (X.e k) a = q1 at HP FG
      generalize (!(X.e k).gl && (X.e k).sp == s) = q2 at HO FG
      generalize goesB (X.e k) bA a bS s = q3 at FG FY FN
      generalize X.is k = q0 at hix
      clear hx HL
      obtain ⟨u, hu⟩ : ∃ u, u = wr.alloc (Obj.cells #[.bool q0, .int .u64 (ad : Nat), .int .i64 lv, .int .u64 (sp : Nat), .bool gl, .int .u64 (lf : Nat)] 56) := ⟨_, rfl⟩
      have HU := Lib.hid hu
      have hub : Below wr.heap.size wr u := by rw [hu]; exact (Below.refl _ _).alloc (Nat.le_refl _) _
      have RU : Hid (Row u wr.heap.size 56 #[.bool q0, .int .u64 (ad : Nat), .int .i64 lv, .int .u64 (sp : Nat), .bool gl, .int .u64 (lf : Nat)]) := by show Row _ _ _ _; rw [hu]; exact row_new _ _ _
      have LU : Hid (wr.heap.size < u.heap.size) := by show _ < _; rw [hu, sz_alloc]; exact Nat.lt_succ_self _
      have HRU := Lib.hid (hr.out.below hub)
      clear hu hub
      go_upto_region 3 with fail
      rw [show wr.alloc (Obj.cells #[.bool q0, .int .u64 (ad : Nat), .int .i64 lv, .int .u64 (sp : Nat), .bool gl, .int .u64 (lf : Nat)] 56) = u from HU.out.symm]
      obtain ⟨g, hg⟩ : ∃ g, wr.heap.size = g := ⟨_, rfl⟩
      rw [hg] at RU LU ⊢
      clear HU hg hr hix
      obtain ⟨k1, k2, k3, k4, k5⟩ := row6 RU.out
      cases hq : q3 with
      | false =>
        have F := Lib.hid (FN.out hq)
        rw [hq] at FG
        clear FY FN HE hq
        cases bA <;> cases bS <;> cases q1 <;> cases q2 <;> first
          | exact absurd FG.out (by decide)
          | (clear FG
             go_wp2_with (first
               | (go_at_call 30; refine (HP.out _).mono ?_; rintro e w2 ⟨rfl, hb2⟩; obtain ⟨l1, l2, l3, l4, l5⟩ := row6 (RU.out.below hb2 LU.out))
               | (go_at_call 31; refine (HO.out _).mono ?_; rintro e w3 ⟨rfl, hb3⟩))
             go_roundg gg
             case measure => omega
             exact ⟨k + 1, by omega, by push_cast; rfl, by rw [F.out]; exact HRU.out.below (by repeat (first | (with_reducible first | exact Below.refl _ _ | assumption | exact Nat.le_refl _ | refine Below.drew ?_ | refine Below.alloc ?_ ?_ _ | refine Below.setCell ?_ ?_ _ | refine le_alloc ?_ | refine le_set ?_ | refine le_drew ?_ | refine below_step (by assumption) ?_ ?_ | refine le_below (by assumption) ?_) | (dsimp only; omega)))⟩)
      | true =>
        have F := Lib.hid (FY.out hq)
        rw [hq] at FG
        clear FY FN hq
        cases bA <;> cases bS <;> cases q1 <;> cases q2 <;> first
          | exact absurd FG.out (by decide)
          | (clear FG
             go_wp2_with (first
               | (go_at_call 30; refine (HP.out _).mono ?_; rintro e w2 ⟨rfl, hb2⟩; obtain ⟨l1, l2, l3, l4, l5⟩ := row6 (RU.out.below hb2 LU.out))
               | (go_at_call 31; refine (HO.out _).mono ?_; rintro e w3 ⟨rfl, hb3⟩)
               | (go_at_call 32; refine (HE.out _ HZ.out _ (HRU.out.below (by repeat (first | (with_reducible first | exact Below.refl _ _ | assumption | exact Nat.le_refl _ | refine Below.drew ?_ | refine Below.alloc ?_ ?_ _ | refine Below.setCell ?_ ?_ _ | refine le_alloc ?_ | refine le_set ?_ | refine le_drew ?_ | refine below_step (by assumption) ?_ ?_ | refine le_below (by assumption) ?_) | (dsimp only; omega)))).t).mono ?_; rintro e w5 ⟨rfl, h5, h5o⟩; have HO5 := Lib.hid ((HRU.out.below (by repeat (first | (with_reducible first | exact Below.refl _ _ | assumption | exact Nat.le_refl _ | refine Below.drew ?_ | refine Below.alloc ?_ ?_ _ | refine Below.setCell ?_ ?_ _ | refine le_alloc ?_ | refine le_set ?_ | refine le_drew ?_ | refine below_step (by assumption) ?_ ?_ | refine le_below (by assumption) ?_) | (dsimp only; omega)))).o.trans h5o); have HT5 := Lib.hid h5; clear h5 h5o))
             go_roundg gg
             case measure => omega
             exact ⟨k + 1, by omega, by push_cast; rfl, by rw [F.out]; exact ⟨HT5.out, HO5.out⟩⟩)
end Go.Proofs.Ytdplcdgdndeopaa
