/- Taken from other texts: what is needed of them. -/
import Derived.Test.YthhlcchofilimaaGreatDoorUA
import Derived.Test.YthhlcchofilimaaGreatDoorUB
import Derived.Test.YthhlcchofilimaaGreatDoorUC
import Derived.Test.YthhlcchofilimaaGreatDoorUD
import Derived.Test.YthhlcchofilimaaGreatDoorUE
import Derived.Test.YthhlcchofilimaaGreatDoorUG
import Derived.Test.YthhlcchofilimaaGreatDoorUH
import Derived.Test.YthhlcchofilimaaGreatDoorUI
import Derived.Test.YthhlcchofilimaaGreatDoorUJ
import Derived.Test.YthhlcchofilimaaGreatDoorUK
import Derived.Test.YthhlcchofilimaaGreatDoorUL
import Derived.Test.YthhlcchofilimaaGreatDoorUM
import Derived.Test.YthhlcchofilimaaGreatDoorUN
import Derived.Test.YthhlcchofilimaaGreatDoorUO
import Derived.Test.YthhlcchofilimaaGreatDoorUQ
import Derived.Test.YthhlcchofilimaaGreatDoorURA
import Derived.Test.YthhlcchofilimaaGreatDoorUTZ
import Derived.Test.YthhlcchofilimaaGreatDoorUSA
import Derived.Deep.RegionHeld3
import Derived.Laws.MakeOwn
import Derived.Lib.QuietBelow
import Derived.Deep.CutBlock
import Derived.StillTailTactics
namespace Go.Proofs.YthhlcchofilimaaGreatDoor.U
set_option linter.unusedVariables false
set_option linter.unusedSimpArgs false
set_option maxRecDepth 20000
open Go.ChangeShapes Go.WideShapes Go.ChangeAt Go.RowKit Go.Sort
open M (Fp Dj Cw Up Th Grp GrpAt jn exT)
set_option maxRecDepth 20000
section
variable {R0 W0 R W : Fp} {w0 w : World} {l : List Th}
theorem own_lt {b e p t ce cp ct u v s : Nat} {S : P.St} (h : P.IsRP w b e p t ce cp ct u v s S) : ∀ k j, P.own4 b e p t k j → k < w.heap.size := fun k j q => by
  rcases q with q | q | q | q <;> rw [q] <;> first | exact h.raw.lb | exact h.raw.le | exact h.raw.lp | exact h.raw.lt
theorem eZ_new {b e p t ce cp ct u v s : Nat} {S : P.St} (h : P.IsRP w b e p t ce cp ct u v s S) : (eZ b S).P (P.own4 b e p t) (P.own4 b e p t) w := ⟨fun _ _ q => q, own_lt h, e, p, t, ce, cp, ct, u, v, s, fun _ _ q => q, h⟩
end
section
variable {R W : Fp} {w : World} {r : Nat} {S : Bs}
end
end Go.Proofs.YthhlcchofilimaaGreatDoor.U
namespace Go.Proofs.YthhlcchofilimaaGreatDoor.U
set_option linter.unusedVariables false
set_option linter.unusedSimpArgs false
set_option maxRecDepth 20000
open Go.ChangeShapes Go.WideShapes Go.ChangeAt Go.RowKit Go.Sort
open M (Fp Dj Cw Up Th Grp GrpAt GrpC Cpd jn exT)
set_option maxRecDepth 20000
section
variable {n0 : Nat} {R0 W0 R W : Fp} {w0 w : World} {l : List Th}
end
/-- The cells of a new bus of the document's. -/
theorem newBR {w : World} {m c p u came : Nat} {one : Bool} {v : Value} {cyc : Int} {t : TypeId} : (eBR w.heap.size m c p u v cyc came one).P (fun k _ => k = w.heap.size) (fun k _ => k = w.heap.size) (w.alloc (Obj.cells #[.pointer (some ⟨m, 0, none⟩), .pointer (some ⟨c, 0, none⟩), .pointer (some ⟨p, 0, none⟩), .pointer (some ⟨u, 0, none⟩), .int .i64 cyc, v, .int .i64 (came : Nat), .bool one] t)) := by
  refine ⟨fun j => rfl, fun k j q => q, fun k j q => by rw [q, sz_alloc]; omega, by rw [sz_alloc]; omega, ?_, ?_, ?_, ?_, ?_, ?_, ?_, ?_, fun j => by rw [World.frozen?_alloc_at _ _ _ _ rfl]⟩ <;> (rw [World.cell?_alloc_at _ _ _ _ rfl]; rfl)
end Go.Proofs.YthhlcchofilimaaGreatDoor.U
namespace Go.Proofs.YthhlcchofilimaaGreatDoor.U
set_option linter.unusedVariables false
set_option linter.unusedSimpArgs false
set_option maxRecDepth 20000
open Go.ChangeShapes Go.WideShapes Go.ChangeAt Go.RowKit Go.Sort
open M (Fp Dj Cw Up Th Grp GrpAt GrpC Cpd jn exT)
set_option maxRecDepth 20000
theorem one_cases (y kd en : Int) (ev : Nat) :
    (kd = 1 ∧ en = 0 ∧ (ev : Int) ≤ 255 ∧ oneB ⟨y, kd, en, ev⟩ = true) ∨ (kd = 1 ∧ en = 0 ∧ 255 < (ev : Int) ∧ oneB ⟨y, kd, en, ev⟩ = false) ∨ (kd = 1 ∧ ¬ en = 0 ∧ oneB ⟨y, kd, en, ev⟩ = false) ∨
    (kd = 2 ∧ 1 ≤ en ∧ en ≤ 8 ∧ (ev : Int) ≤ 1 ∧ oneB ⟨y, kd, en, ev⟩ = true) ∨ (kd = 2 ∧ 1 ≤ en ∧ en ≤ 8 ∧ 1 < (ev : Int) ∧ oneB ⟨y, kd, en, ev⟩ = false) ∨ (kd = 2 ∧ 1 ≤ en ∧ 8 < en ∧ oneB ⟨y, kd, en, ev⟩ = false) ∨ (kd = 2 ∧ en < 1 ∧ oneB ⟨y, kd, en, ev⟩ = false) ∨
    (¬ kd = 1 ∧ ¬ kd = 2 ∧ oneB ⟨y, kd, en, ev⟩ = false) := by
  have h : oneB ⟨y, kd, en, ev⟩ = true ↔ (kd = 1 ∧ en = 0 ∧ (ev : Int) ≤ 255) ∨ (kd = 2 ∧ 1 ≤ en ∧ en ≤ 8 ∧ (ev : Int) ≤ 1) := by
    unfold oneB; simp only [Bool.or_eq_true, Bool.and_eq_true, beq_iff_eq, decide_eq_true_eq]
  cases hb : oneB ⟨y, kd, en, ev⟩
  · rw [hb] at h
    have h' : ¬ ((kd = 1 ∧ en = 0 ∧ (ev : Int) ≤ 255) ∨ (kd = 2 ∧ 1 ≤ en ∧ en ≤ 8 ∧ (ev : Int) ≤ 1)) := fun q => by have := h.2 q; cases this
    clear h hb
    simp only [Bool.false_eq_true, and_false, false_or, or_false, and_true]
    omega
  · rw [hb] at h
    have h' := h.1 rfl
    clear h hb
    simp only [Bool.true_eq_false, and_false, false_or, or_false, and_true]
    omega
set_option maxHeartbeats 4000000 in
theorem inputsr_c (a : Option Addr) (n c g o : Nat) (L : List Ev) (w : World) (h : Hid (IsE w a n c g o L)) (hf : Hid (n < 4398046511104)) : Calls Tryz.prog 19 #[.slice a n c] w (RetB (okIn L) w) := by
  have hl := h.out.len
  by_cases hn : n ≤ 1024
  · have e1 : okIn L = okL 0 L := by unfold okIn; rw [hl, decide_eq_true hn]; rfl
    rw [e1]
    have hn' : (n : Int) ≤ 1024 := by omega
    clear e1 hl
    go_enter Tryz.func19, Tryz.ntmps19
    go_wp2_with fail
    go_loopw [3] (fun iv wr => ∃ (k : Nat) (last : Int), k ≤ n ∧ iv = .int .i64 k ∧ 0 ≤ last ∧ Hid (k = 0 → last = 0) ∧ Hid (∀ j e, k = j + 1 → L[j]? = some e → last = e.cyc) ∧ Hid (okL 0 L = okL last (L.drop k)) ∧ Hid (Below w.heap.size w wr)) (fun iv _ => n - (intOf iv).toNat)
    case atStart => exact ⟨0, 0, Nat.zero_le _, rfl, by omega, fun _ => rfl, fun j e h => by omega, rfl, Below.refl _ _⟩
    case round =>
      obtain ⟨k, last, hk, rfl, hlast, HK0, HKl, HO, HB⟩ := hrel
      by_cases hlt : k < n
      · obtain ⟨e, he⟩ : ∃ e, L[k]? = some e := ⟨_, List.getElem?_eq_getElem (by rw [h.out.len]; exact hlt)⟩
        have hE := h.out.below HB.out
        obtain ⟨q0, q1, q2, q3⟩ := hE.at he
        have ha := (hE.addr (by omega)).1
        have hgl := (hE.addr (by omega)).2
        have kk : (k : Int) < n := by omega
        have kk1 : IntKind.i64.wrap ((k : Int) + 1) = (k : Int) + 1 := IntWalk.i64_in _ (by omega)
        have HD : Hid (okL 0 L = ((decide (last ≤ e.cyc) && oneB e) && okL e.cyc (L.drop (k + 1)))) := HO.out.trans (okL_drop L last k e he)
        have HNx : Hid (∀ j e', k + 1 = j + 1 → L[j]? = some e' → e.cyc = e'.cyc) := fun j e' h1 h2 => by
          obtain rfl : j = k := by omega
          rw [he] at h2; injection h2 with h2; rw [h2]
        have hprev : k = 0 ∨ ∃ j, k = j + 1 ∧ ∃ e', L[j]? = some e' ∧ last = e'.cyc ∧ wr.cell? ⟨g, o + j * 4, none⟩ = some (.int .i64 e'.cyc) := by
          rcases Nat.eq_zero_or_pos k with h0 | h0
          · exact .inl h0
          · obtain ⟨e', he'⟩ : ∃ e', L[k - 1]? = some e' := ⟨_, List.getElem?_eq_getElem (by rw [h.out.len]; omega)⟩
            exact .inr ⟨k - 1, by omega, e', he', HKl.out (k - 1) e' (by omega) he', (hE.at he').1⟩
        obtain ⟨y, kd, en, ev⟩ := e
        dsimp only at q0 q1 q2 q3 HD HNx
        have HQ := Lib.hid h.out
        have hgn : ¬ g = wr.heap.size := by omega
        have HBs := HB.out.size
        clear hE he HO HKl
        subst ha
        have HL0 := Lib.hid hlast
        go_upto_region 6 with fail
        go_cut [4] from 14 to 17 (fun v w9 => ∃ eb wz, wz = w9 ∧ v = .pointer (some ⟨eb, 0, none⟩) ∧ Hid (w9.cell? ⟨eb, 0, none⟩ = some (.int .i64 y) ∧ w9.cell? ⟨eb, 1, none⟩ = some (.int .i64 kd) ∧ w9.cell? ⟨eb, 2, none⟩ = some (.int .i64 en) ∧ w9.cell? ⟨eb, 3, none⟩ = some (.int .u64 (ev : Nat))) ∧ Hid (eb < w9.heap.size) ∧ Hid (Below wr.heap.size wr w9))
        case first =>
          clear hprev HD HNx
          go_wp2_with fail
          go_meet
          case rel => exact ⟨_, _, rfl, rfl, ⟨by rw [World.cell?_alloc_at _ _ _ _ rfl]; rfl, by rw [World.cell?_alloc_at _ _ _ _ rfl]; rfl, by rw [World.cell?_alloc_at _ _ _ _ rfl]; rfl, by rw [World.cell?_alloc_at _ _ _ _ rfl]; rfl⟩, (by show _ < _; rw [sz_alloc]; omega), below_one _ _⟩
        case rest =>
          obtain ⟨eb, wx, rfl, rfl, HX4, HEB, HBw⟩ := hcut
          have HBX : Hid (Below w.heap.size w wx) := HB.out.trans (HBw.out.mono HB.out.size)
          go_upto_region 7 with fail
          go_cut [35] from 18 to 34 (fun s w9 => ∃ wz, wz = w9 ∧ s = .bool (decide (y < last)) ∧ Hid (Below wx.heap.size wx w9))
          case first =>
            have K0 := cell_regrown HX4.out.1
            clear HD HNx hlast q0 q1 q2 q3
            by_cases hy0 : y < 0
            · have HT : Hid (decide (y < last) = true) := decide_eq_true (by have := HL0.out; omega)
              clear hprev
              refine wp_region_quiet_below (by kernel_rfl) (by kernel_rfl) ?_
              repeat (go_big_quiet_step (fail))
              refine wpQuiet_nil ?_
              intro _ hw'
              obtain ⟨⟨dq, osq⟩, hw''⟩ := hw'
              subst hw''
              have hb := below_regrown wx dq osq
              generalize grow (redrawn wx dq) osq = w3 at hb ⊢
              go_wp2_with fail
              go_meet
              case rel => exact ⟨_, rfl, by rw [HT.out], hb⟩
            · have hy0' : decide (y < 0) = false := decide_eq_false hy0
              rcases hprev with rfl | ⟨j, rfl, e', he', rfl, qp⟩
              · have HT : Hid (decide (y < last) = false) := decide_eq_false (by have := HK0.out rfl; omega)
                clear HK0
                refine wp_region_quiet_below (by kernel_rfl) (by kernel_rfl) ?_
                repeat (go_big_quiet_step (fail))
                refine wpQuiet_nil ?_
                intro _ hw'
                obtain ⟨⟨dq, osq⟩, hw''⟩ := hw'
                subst hw''
                have hb := below_regrown wx dq osq
                generalize grow (redrawn wx dq) osq = w3 at hb ⊢
                go_wp2_with fail
                go_meet
                case rel => exact ⟨_, rfl, by rw [HT.out], hb⟩
              · have hj1 : IntKind.i64.wrap (((j + 1 : Nat) : Int) - 1) = (j : Int) := by rw [show ((j + 1 : Nat) : Int) - 1 = j by omega]; exact IntWalk.i64_in _ (by omega)
                have hj2 : IntKind.i64.wrap ((j : Int) + 1 - 1) = (j : Int) := by rw [show (j : Int) + 1 - 1 = j by omega]; exact IntWalk.i64_in _ (by omega)
                have hjn : (j : Int) < n := by omega
                have hj0 : (0 : Int) < (j : Int) + 1 := by omega
                have qp2 : wx.cell? ⟨g, o + j * 4, none⟩ = some (.int .i64 e'.cyc) := (HBw.out.cell (p := ⟨g, o + j * 4, none⟩) (by show g < _; omega)).trans qp
                have K1 := cell_regrown qp2
                clear HK0 kk kk1
                refine wp_region_quiet_below (by kernel_rfl) (by kernel_rfl) ?_
                repeat (go_big_quiet_step (fail))
                refine wpQuiet_nil ?_
                intro _ hw'
                obtain ⟨⟨dq, osq⟩, hw''⟩ := hw'
                subst hw''
                have hb := below_regrown wx dq osq
                generalize grow (redrawn wx dq) osq = w3 at hb ⊢
                go_wp2_with fail
                go_meet
                case rel => exact ⟨_, rfl, rfl, hb⟩
          case rest =>
            obtain ⟨w3, rfl, rfl, HB3⟩ := hcut
            have HBY : Hid (Below w.heap.size w w3) := HBX.out.trans (HB3.out.mono HBX.out.size)
            obtain ⟨x0, x1, x2, x3⟩ := HX4.out
            have y1 := (HB3.out.cell (p := ⟨eb, 1, none⟩) HEB.out).trans x1
            have y2 := (HB3.out.cell (p := ⟨eb, 2, none⟩) HEB.out).trans x2
            have y3 := (HB3.out.cell (p := ⟨eb, 3, none⟩) HEB.out).trans x3
            clear x0 x1 x2 x3 q0 q1 q2 q3 hprev
            by_cases hyl : y < last
            · have HX : Hid (okL 0 L = false) := by show _ = _; rw [HD.out, decide_eq_false (by omega), Bool.false_and, Bool.false_and]
              rw [decide_eq_true hyl]
              clear HD hyl hlast
              go_wp2_with fail
              go_ret
              exact retB_mk HX.out.symm HBY.out
            · have HY0 : Hid (0 ≤ y) := by show _ ≤ _; omega
              have HD2 : Hid (okL 0 L = (oneB ⟨y, kd, en, ev⟩ && okL y (L.drop (k + 1)))) := by show _ = _; rw [HD.out, decide_eq_true (by omega), Bool.true_and]
              rw [decide_eq_false hyl]
              clear HD hyl hlast
              rcases one_cases y kd en ev with ⟨rfl, rfl, h3, hb⟩ | ⟨rfl, rfl, h3, hb⟩ | ⟨rfl, h2, hb⟩ | ⟨rfl, h2, h3, h4, hb⟩ | ⟨rfl, h2, h3, h4, hb⟩ | ⟨rfl, h2, h3, hb⟩ | ⟨rfl, h2, hb⟩ | ⟨h1, h2, hb⟩
              all_goals
                rw [hb] at HD2
                clear hb
                go_wp2_with fail
                first
                  | (go_ret; exact retB_mk HD2.out.symm HBY.out)
                  | (go_roundw
                     case rel => exact ⟨k + 1, y, by omega, by go_num, HY0.out, fun h => by omega, HNx, HD2.out, HBY.out⟩
                     case measure => simp only [intOf]; omega)
      · have nk : decide ((k : Int) < n) = false := decide_eq_false (by omega)
        have nk' : ¬ (k : Int) < n := by omega
        go_wp2_with fail
        go_ret
        exact retB_mk (by rw [HO.out, List.drop_of_length_le (by rw [h.out.len]; omega)]; rfl) HB.out
  · have e1 : okIn L = false := by unfold okIn; rw [hl, decide_eq_false hn]; rfl
    rw [e1]
    have hn' : (1024 : Int) < n := by omega
    clear e1 hl
    go_enter Tryz.func19, Tryz.ntmps19
    go_wp2_with fail
    go_ret
    exact retB_mk rfl (by repeat (first | (with_reducible first | exact Below.refl _ _ | assumption | exact Nat.le_refl _ | refine Below.drew ?_ | refine Below.alloc ?_ ?_ _ | refine below_drewN ?_ _ | refine Below.setCell ?_ ?_ _ | refine le_alloc ?_ | refine le_set ?_ | refine le_drew ?_ | refine le_drewN ?_ | refine below_step (by assumption) ?_ ?_ | refine le_below (by assumption) ?_) | (dsimp only; omega)))
end Go.Proofs.YthhlcchofilimaaGreatDoor.U
namespace Go.Proofs.YthhlcchofilimaaGreatDoor.U
set_option linter.unusedVariables false
set_option linter.unusedSimpArgs false
set_option maxRecDepth 20000
open Go.ChangeShapes Go.WideShapes Go.ChangeAt Go.RowKit Go.Sort
open M (Fp Dj Cw Up Th Grp GrpAt GrpC Cpd jn exT)
set_option maxRecDepth 20000
theorem step_ev {w : World} {a : Option Addr} {n c g o : Nat} {L : List Ev} {ops : Array Oper} {op : Oper} {A : Act} {K : Act → World → Prop} {Q : Exit → Act → World → Prop} {E : Prop} (hgd : op.guard = none) (s x : Operand)
    (ho : op.op = .call { callee := .builtin .append, args := #[s, x], argTypes := #[33, 33] })
    (h : IsE w a n c g o L) (sa : Option Addr) (hs : A.eval s = .slice sa 0 0) (hx : A.eval x = .slice a n c) (hn : n ≤ 4398046511104)
    (k : ∀ a' c' g' w', IsE w' a' n c' g' 0 L → Below w.heap.size w w' → (0 < n → w.heap.size ≤ g') → K (A.put op.dst (.slice a' n c')) w') :
    if Region.wanted op (yielded ops A.tmps) = true then Oper.wp Tryz.prog op A w K Q else E := by
  have hw : Region.wanted op (yielded ops A.tmps) = true := by simp [Region.wanted, hgd]
  rw [if_pos hw]
  obtain ⟨a', c', g', w', hrun, h1, h2, h3⟩ := run_ev h sa op.type hn
  unfold Oper.wp
  simp [execOp, ho, resolve, invoke, builtin, hs, hx, hrun, Result.andThen]
  exact k a' c' g' w' h1 h2 h3
section
variable {R0 W0 R W : Fp} {w0 w : World} {l : List Th}
theorem newK_n (h : Grp R0 W0 w0 l w) : Calls Tryz.prog 21 #[] w (fun e w' => ∃ c', e = .returned (.pointer (some ⟨c', 0, none⟩)) ∧ Grp R0 W0 w0 (l ++ [eK c' 0 18446744073709551615 0]) w' ∧ Below w.heap.size w w') := by
  refine (K.newr_c w).mono ?_
  rintro e w' ⟨c', rfl, h1, h2, hb⟩
  exact ⟨c', rfl, h.push hb (eC_new h2 ⟨by decide, by decide, by decide⟩) (fun k j hk => by rw [hk]; exact h1), hb⟩
theorem newZ_n (h : Grp R0 W0 w0 l w) : Calls Tryz.prog 22 #[] w (fun e w' => ∃ c', e = .returned (.pointer (some ⟨c', 0, none⟩)) ∧ Grp R0 W0 w0 (l ++ [eZ c' P.S0]) w' ∧ Below w.heap.size w w') := by
  refine (P.newr_c w).mono ?_
  rintro e0 w' ⟨b', e', p', t', ce', cp', ct', rfl, ⟨u', v', s', hr⟩, hn, hb⟩
  exact ⟨b', rfl, h.push hb (eZ_new hr) hn, hb⟩
theorem newV_n (h : Grp R0 W0 w0 l w) : Calls Tryz.prog 23 #[] w (fun e w' => ∃ c', e = .returned (.pointer (some ⟨c', 0, none⟩)) ∧ Grp R0 W0 w0 (l ++ [eV c' 0 T.U0]) w' ∧ Below w.heap.size w w') := by
  refine (T.newr_c w).mono ?_
  rintro e w' ⟨b', R', rfl, h1, h2, hb⟩
  exact ⟨b', rfl, h.push hb (R1 := R') (W1 := R') ⟨rfl, h1⟩ h2, hb⟩
theorem newM_n (h : Grp R0 W0 w0 l w) : Calls Tryz.prog 20 #[] w (fun e w' => ∃ c', e = .returned (.pointer (some ⟨c', 0, none⟩)) ∧ Grp R0 W0 w0 (l ++ [M.eR c' (fun _ => 0)]) w' ∧ Below w.heap.size w w') := by
  refine (M.newr_c w).mono ?_
  rintro e w' ⟨r, R', pb, A, c, g, rfl, h1, h2, hb⟩
  exact ⟨r, rfl, h.push hb (R1 := R') (W1 := R') ⟨rfl, pb, A, _, c, g, h1⟩ h2, hb⟩
/-- Bytes that came in are laid. -/
theorem layM_n (h : Grp (fun _ _ => False) (fun _ _ => False) w0 l w) (i : Nat) {r : Nat} {F : Nat → Nat} (hi : l[i]? = some (M.eR r F)) {sa : Option Addr} {g o n c : Nat} {X : Nat → Nat} (hB : M.Byt w0 sa g o n c X) (hb : Below w0.heap.size w0 w) : Calls Tryz.prog 24 #[.pointer (some ⟨r, 0, none⟩), .slice sa n c] w (fun e w' => e = .returned (.bool (decide (n ≤ 1048576))) ∧ Grp (fun _ _ => False) (fun _ _ => False) w0 (l.set i (M.eR r (M.layI F n X))) w') := by
  have hB2 := hB.below hb
  obtain ⟨R, W, h⟩ := h
  obtain ⟨e, h1⟩ := h.each i _ hi
  have hrs := h.rs i (M.len_of2 hi)
  rw [e] at hrs
  refine (M.layr_any (W i) r g o n c sa F X w (Lib.hid h1) (Lib.hid (fun h0 => ⟨(hB2.1 h0).1, (hB2.1 h0).2, fun j hS => ?_⟩)) (Lib.hid hB2.2.2.2) (Lib.hid hB2.2.2.1)).mono ?_
  · have := (hB.1 h0).2
    rcases hrs g j hS with q | q
    · exact q
    · omega
  rintro e2 w' ⟨rfl, q1, q2⟩
  exact ⟨rfl, h.set i hi (by rw [e]; exact ⟨rfl, q1⟩) q2.weak⟩
end
def ixN (i : Nat) : Nat := if i = 0 then 5 else if i = 4 then 0 else if i = 5 then 4 else i
theorem ixN_ne {i j : Nat} (hi : i < 6) (hj : j < 6) (h : i ≠ j) : ixN i ≠ ixN j := by
  have h1 : i = 0 ∨ i = 1 ∨ i = 2 ∨ i = 3 ∨ i = 4 ∨ i = 5 := by omega
  have h2 : j = 0 ∨ j = 1 ∨ j = 2 ∨ j = 3 ∨ j = 4 ∨ j = 5 := by omega
  rcases h1 with rfl | rfl | rfl | rfl | rfl | rfl <;> rcases h2 with rfl | rfl | rfl | rfl | rfl | rfl <;> first | exact absurd rfl h | decide
theorem pick_n {m k z v e b : Th} (i : Nat) (X : Th) (h : ([b, k, z, v, m, e] : List Th)[i]? = some X) : ([m, k, z, v, e, b] : List Th)[ixN i]? = some X := by
  match i, h with
  | 0, h => exact h
  | 1, h => exact h
  | 2, h => exact h
  | 3, h => exact h
  | 4, h => exact h
  | 5, h => exact h
  | n + 6, h => simp at h
theorem okIn_few {L : List Ev} (h : okIn L = true) : L.length ≤ 1024 := by
  unfold okIn at h
  rw [Bool.and_eq_true] at h
  simpa using h.1
def RetNewR (ok : Bool) (n : Nat) (X : Nat → Nat) (L : List Ev) (w : World) (e : Ending) (w' : World) : Prop :=
  (ok = true → ∃ b R W, e = .returned (.tuple #[.pointer (some ⟨b, 0, none⟩), .bool true]) ∧ (eRB b (Bs0 n X L)).P R W w' ∧ ∀ k j, R k j → w.heap.size ≤ k) ∧ (ok = false → e = .returned (.tuple #[.pointer none, .bool false])) ∧ Below w.heap.size w w'
set_option maxHeartbeats 8000000 in
theorem rnew_c (ia : Option Addr) (ig io n ic : Nat) (X : Nat → Nat) (ea : Option Addr) (en ec eg eo : Nat) (L : List Ev) (pc s0 s1 s2 : Nat) (ca : Option Addr) (cn cc : Nat) (w : World) (hI : Hid (M.Byt w ia ig io n ic X)) (hE : Hid (IsE w ea en ec eg eo L)) (hf : Hid (en < 4398046511104)) (hok : Hid (okIn L = true → ∀ e ∈ L, OkE e)) :
    Calls Tryz.prog 6 #[.agg #[.slice ia n ic, .int .u64 pc, .slice ca cn cc, .slice ea en ec, .int .u64 s0, .int .u64 s1, .int .u64 s2]] w (RetNewR (okNew n L) n X L w) := by
  go_enter Tryz.func6, Tryz.ntmps6
  go_wp2_with fail
  have hA1 : Below w.heap.size w (w.alloc (Obj.cells #[.slice ia n ic, .int .u64 pc, .slice ca cn cc, .slice ea en ec, .int .u64 s0, .int .u64 s1, .int .u64 s2] 36)) := below_one w _
  have k0 : (w.alloc (Obj.cells #[.slice ia n ic, .int .u64 pc, .slice ca cn cc, .slice ea en ec, .int .u64 s0, .int .u64 s1, .int .u64 s2] 36)).cell? ⟨w.heap.size, 0, none⟩ = some (.slice ia n ic) := by rw [World.cell?_alloc_at _ _ _ _ rfl]; rfl
  have k3 : (w.alloc (Obj.cells #[.slice ia n ic, .int .u64 pc, .slice ca cn cc, .slice ea en ec, .int .u64 s0, .int .u64 s1, .int .u64 s2] 36)).cell? ⟨w.heap.size, 3, none⟩ = some (.slice ea en ec) := by rw [World.cell?_alloc_at _ _ _ _ rfl]; rfl
  have hz : w.heap.size < (w.alloc (Obj.cells #[.slice ia n ic, .int .u64 pc, .slice ca cn cc, .slice ea en ec, .int .u64 s0, .int .u64 s1, .int .u64 s2] 36)).heap.size := by rw [sz_alloc]; omega
  generalize w.alloc (Obj.cells #[.slice ia n ic, .int .u64 pc, .slice ca cn cc, .slice ea en ec, .int .u64 s0, .int .u64 s1, .int .u64 s2] 36) = wA at *
  have hmay := Lib.hid (inputsr_c ea en ec eg eo L wA (Lib.hid (hE.out.below hA1)) hf)
  have HA1 := Lib.hid hA1
  generalize hsb : w.heap.size = sb at k0 k3 hz ⊢
  have HSB := Lib.hid hsb
  clear hA1 hsb
  cases ho : okIn L
  · have HOK : Hid (okNew n L = false) := by show _ = _; unfold okNew; rw [ho, Bool.and_false]
    rw [ho] at hmay
    clear ho
    refine hmay.out.mono ?_; rintro e w1 ⟨rfl, hb1⟩
    have HB1 := Lib.hid (HA1.out.trans (hb1.mono HA1.out.size))
    clear hb1
    go_wp2_with fail
    go_ret2
    exact ⟨fun h => (by rw [HOK.out] at h; cases h), fun _ => rfl, HB1.out⟩
  · rw [ho] at hmay
    have HO := Lib.hid ho
    clear ho
    refine hmay.out.mono ?_; rintro e w1 ⟨rfl, hb1⟩
    have k01 := cell_h hz k0 hb1
    have k31 := cell_h hz k3 hb1
    have hz1 : sb < w1.heap.size := Nat.lt_of_lt_of_le hz hb1.size
    have HB1 := Lib.hid (HA1.out.trans (hb1.mono HA1.out.size))
    clear hb1 hmay k0 k3 hz HA1
    by_cases hn : n ≤ 1048576
    · have HOK : Hid (okNew n L = true) := by show _ = _; unfold okNew; rw [decide_eq_true hn, HO.out]; rfl
      have n1 : decide ((1048576 : Int) < n) = false := decide_eq_false (by omega)
      have n2 : ¬ (1048576 : Int) < n := by omega
      have n3 : ¬ 1048576 < n := by omega
      clear hn
      have HE1 := Lib.hid (hE.out.below HB1.out)
      have HG0 : Hid (Grp (fun _ _ => False) (fun _ _ => False) w [] w1) := (grp_nil _ _ w).below HB1.out
      go_wp2_with fail
      go_region_held3 (fun w' => w'.cell? ⟨sb, 3, none⟩ = some (.slice ea en ec)) (exact cell_h hz1 k31 (by repeat (first | (with_reducible first | exact Below.refl _ _ | assumption | exact Nat.le_refl _ | refine Below.drew ?_ | refine Below.alloc ?_ ?_ _ | refine Below.setCell ?_ ?_ _ | refine le_alloc ?_ | refine le_set ?_ | refine le_drew ?_ | refine below_step (by assumption) ?_ ?_ | refine le_below (by assumption) ?_) | (dsimp only; omega)))) (first
        | (go_at_call 20; refine (newM_n (HG0.out.below (by repeat (first | (with_reducible first | exact Below.refl _ _ | assumption | exact Nat.le_refl _ | refine Below.drew ?_ | refine Below.alloc ?_ ?_ _ | refine Below.setCell ?_ ?_ _ | refine le_alloc ?_ | refine le_set ?_ | refine le_drew ?_ | refine below_step (by assumption) ?_ ?_ | refine le_below (by assumption) ?_) | (dsimp only; omega))))).mono ?_; rintro e w2 ⟨m', rfl, g2, hb2⟩; have G2 := Lib.hid g2; clear g2)
        | (go_at_call 21; refine (newK_n (G2.out.below (by repeat (first | (with_reducible first | exact Below.refl _ _ | assumption | exact Nat.le_refl _ | refine Below.drew ?_ | refine Below.alloc ?_ ?_ _ | refine Below.setCell ?_ ?_ _ | refine le_alloc ?_ | refine le_set ?_ | refine le_drew ?_ | refine below_step (by assumption) ?_ ?_ | refine le_below (by assumption) ?_) | (dsimp only; omega))))).mono ?_; rintro e w3 ⟨c', rfl, g3, hb3⟩; have G3 := Lib.hid g3; clear g3)
        | (go_at_call 22; refine (newZ_n (G3.out.below (by repeat (first | (with_reducible first | exact Below.refl _ _ | assumption | exact Nat.le_refl _ | refine Below.drew ?_ | refine Below.alloc ?_ ?_ _ | refine Below.setCell ?_ ?_ _ | refine le_alloc ?_ | refine le_set ?_ | refine le_drew ?_ | refine below_step (by assumption) ?_ ?_ | refine le_below (by assumption) ?_) | (dsimp only; omega))))).mono ?_; rintro e w4 ⟨p', rfl, g4, hb4⟩; have G4 := Lib.hid g4; clear g4)
        | (go_at_call 23; refine (newV_n (G4.out.below (by repeat (first | (with_reducible first | exact Below.refl _ _ | assumption | exact Nat.le_refl _ | refine Below.drew ?_ | refine Below.alloc ?_ ?_ _ | refine Below.setCell ?_ ?_ _ | refine le_alloc ?_ | refine le_set ?_ | refine le_drew ?_ | refine below_step (by assumption) ?_ ?_ | refine le_below (by assumption) ?_) | (dsimp only; omega))))).mono ?_; rintro e w5 ⟨u', rfl, g5, hb5⟩; have G5 := Lib.hid g5; clear g5)
        | (refine step_ev rfl (.tmp 21) (.tmp 23) rfl (HE1.out.below (by repeat (first | (with_reducible first | exact Below.refl _ _ | assumption | exact Nat.le_refl _ | refine Below.drew ?_ | refine Below.alloc ?_ ?_ _ | refine Below.setCell ?_ ?_ _ | refine le_alloc ?_ | refine le_set ?_ | refine le_drew ?_ | refine below_step (by assumption) ?_ ?_ | refine le_below (by assumption) ?_) | (dsimp only; omega)))) _ rfl rfl (Nat.le_of_lt hf.out) ?_; intro a6 d6 e6 w6 q1 hb6 q3; have I6 := Lib.hid q1; have J6 := Lib.hid q3; clear q1 q3))
      all_goals
        have hb56 : Below w5.heap.size w5 w6 := (by repeat (first | (with_reducible first | exact Below.refl _ _ | assumption | exact Nat.le_refl _ | refine Below.drew ?_ | refine Below.alloc ?_ ?_ _ | refine Below.setCell ?_ ?_ _ | refine le_alloc ?_ | refine le_set ?_ | refine le_drew ?_ | refine below_step (by assumption) ?_ ?_ | refine le_below (by assumption) ?_) | (dsimp only; omega)))
        have hb17 : Below w1.heap.size w1 (w6.alloc (Obj.cells #[.pointer (some ⟨m', 0, none⟩), .pointer (some ⟨c', 0, none⟩), .pointer (some ⟨p', 0, none⟩), .pointer (some ⟨u', 0, none⟩), .int .i64 (-1), .slice a6 en d6, .int .i64 ((0 : Nat) : Int), .bool false] 79)) := (by repeat (first | (with_reducible first | exact Below.refl _ _ | assumption | exact Nat.le_refl _ | refine Below.drew ?_ | refine Below.alloc ?_ ?_ _ | refine Below.setCell ?_ ?_ _ | refine le_alloc ?_ | refine le_set ?_ | refine le_drew ?_ | refine below_step (by assumption) ?_ ?_ | refine le_below (by assumption) ?_) | (dsimp only; omega)))
        have G6 := (G5.out.push hb56 (eEv_new I6.out) (fun k j q => by rw [q.1]; have := J6.out q.2; (try simp only [sz_alloc, sz_drew] at this); omega)).push (below_one w6 (Obj.cells #[.pointer (some ⟨m', 0, none⟩), .pointer (some ⟨c', 0, none⟩), .pointer (some ⟨p', 0, none⟩), .pointer (some ⟨u', 0, none⟩), .int .i64 (-1), .slice a6 en d6, .int .i64 ((0 : Nat) : Int), .bool false] 79)) (newBR (m := m') (c := c') (p := p') (u := u') (one := false) (v := .slice a6 en d6) (cyc := -1) (came := 0)) (fun k j hk => Nat.le_of_eq hk.symm)
        have y0 : (w6.alloc (Obj.cells #[.pointer (some ⟨m', 0, none⟩), .pointer (some ⟨c', 0, none⟩), .pointer (some ⟨p', 0, none⟩), .pointer (some ⟨u', 0, none⟩), .int .i64 (-1), .slice a6 en d6, .int .i64 ((0 : Nat) : Int), .bool false] 79)).cell? ⟨w6.heap.size, 0, none⟩ = some (.pointer (some ⟨m', 0, none⟩)) := by rw [World.cell?_alloc_at _ _ _ _ rfl]; rfl
        have z0 := cell_h hz1 k01 hb17
        have HB7 := Lib.hid (HB1.out.trans (hb17.mono HB1.out.size))
        have HG6 := Lib.hid G6
        clear hb17 G6 hb56
        generalize w6.alloc (Obj.cells #[.pointer (some ⟨m', 0, none⟩), .pointer (some ⟨c', 0, none⟩), .pointer (some ⟨p', 0, none⟩), .pointer (some ⟨u', 0, none⟩), .int .i64 (-1), .slice a6 en d6, .int .i64 ((0 : Nat) : Int), .bool false] 79) = w7 at *
        generalize w6.heap.size = ob at y0 HG6 ⊢
        have HL := Lib.hid (layM_n (HG6.out.below ((Below.refl _ _).drew)) 0 rfl hI.out (HB7.out.drew))
        have y0' : w7.drew.cell? ⟨ob, 0, none⟩ = some (.pointer (some ⟨m', 0, none⟩)) := y0
        have z0' : w7.drew.cell? ⟨sb, 0, none⟩ = some (.slice ia n ic) := z0
        have HCR : Hid (RCo L 0 (Bs0 n X L)) := ⟨rfl, Nat.zero_le _, okIn_few HO.out, rfl, hok.out HO.out⟩
        clear HG6 G5 G4 G3 G2 HG0 I6 J6
        go_wp2_with fail
        refine wp_region_still_tail 6 (by kernel_rfl) (by kernel_rfl) ?_
        simp only [List.take_succ_cons, List.take_zero, List.drop_succ_cons, List.drop_zero]
        change wpStill _ _ w7.drew (fun a' => wpList _ _ _ _ a' w7.drew) _ _
        clear y0 z0
        generalize w7.drew = wq at *
        repeat still_step
        refine wpStill_nil ?_
        go_wp2_with fail
        refine HL.out.mono ?_; rintro e w8 ⟨rfl, g8⟩
        have G8 := Lib.hid g8; clear g8 HL
        go_wp2_with fail
        go_ret2
        obtain ⟨R8, W8, j1, j2, j3⟩ := M.jn_new (G8.out.pick (rl ob m' c' p' u' (.slice a6 en d6) L 0 (Bs0 n X L)) ixN (fun i E h => pick_n i E h) (fun i j hi hj hne => ixN_ne hi hj hne))
        exact ⟨fun _ => ⟨ob, R8, W8, rfl, ⟨⟨(m', c', p', u', .slice a6 en d6, L, 0), HCR.out⟩, j1⟩, j2⟩, fun h => (by rw [HOK.out] at h; cases h), j3⟩
    · have HOK : Hid (okNew n L = false) := by show _ = _; unfold okNew; rw [decide_eq_false hn]; rfl
      have n1 : (1048576 : Int) < n := by omega
      have n3 : 1048576 < n := by omega
      clear hn
      go_wp2_with fail
      go_ret2
      exact ⟨fun h => (by rw [HOK.out] at h; cases h), fun _ => rfl, HB1.out⟩
end Go.Proofs.YthhlcchofilimaaGreatDoor.U
namespace Go.Proofs.YthhlcchofilimaaGreatDoor.U
set_option linter.unusedVariables false
set_option linter.unusedSimpArgs false
set_option maxRecDepth 20000
open Go.ChangeShapes Go.WideShapes Go.ChangeAt Go.RowKit Go.Sort
open M (Fp Dj Cw Up Th Grp GrpAt GrpC Cpd jn exT)
set_option maxRecDepth 20000
section
variable {R0 W0 : Fp} {w0 w : World} {l : List Th} {b : Nat} {S : Bs}
end
end Go.Proofs.YthhlcchofilimaaGreatDoor.U
namespace Go.Proofs.YthhlcchofilimaaGreatDoor.U
set_option linter.unusedVariables false
set_option linter.unusedSimpArgs false
set_option maxRecDepth 20000
open Go.ChangeShapes Go.WideShapes Go.ChangeAt Go.RowKit Go.Sort
open M (Fp Dj Cw Up Th Grp GrpAt GrpC Cpd jn exT)
set_option maxRecDepth 20000
end Go.Proofs.YthhlcchofilimaaGreatDoor.U
