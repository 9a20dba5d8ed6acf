/- The document's Inputs; the walk of BusInputs. -/
import Derived.Test.YtkmbhhgkajmfjaaBM
import Derived.Laws.MakeOwn
import Derived.Lib.QuietBelow
import Derived.Deep.CutBlock
namespace Go.Proofs.Ytkmbhhgkajmfjaa
open Go.ChangeShapes Go.WideShapes Go.ChangeAt Go.RowKit Go.Sort
open M (Fp Dj Cw Up Th Grp GrpAt GrpC Cpd jn exT)
set_option linter.unusedVariables false
set_option linter.unusedSimpArgs false
set_option maxRecDepth 20000
theorem one_cases (y kd en : Int) (ev : Nat) :
    (kd = 1 ∧ en = 0 ∧ (ev : Int) ≤ 255 ∧ oneB ⟨y, kd, en, ev⟩ = true) ∨ (kd = 1 ∧ en = 0 ∧ 255 < (ev : Int) ∧ oneB ⟨y, kd, en, ev⟩ = false) ∨ (kd = 1 ∧ ¬ en = 0 ∧ oneB ⟨y, kd, en, ev⟩ = false) ∨
    (kd = 2 ∧ 1 ≤ en ∧ en ≤ 8 ∧ (ev : Int) ≤ 1 ∧ oneB ⟨y, kd, en, ev⟩ = true) ∨ (kd = 2 ∧ 1 ≤ en ∧ en ≤ 8 ∧ 1 < (ev : Int) ∧ oneB ⟨y, kd, en, ev⟩ = false) ∨ (kd = 2 ∧ 1 ≤ en ∧ 8 < en ∧ oneB ⟨y, kd, en, ev⟩ = false) ∨ (kd = 2 ∧ en < 1 ∧ oneB ⟨y, kd, en, ev⟩ = false) ∨
    (¬ kd = 1 ∧ ¬ kd = 2 ∧ oneB ⟨y, kd, en, ev⟩ = false) := by
  have h : oneB ⟨y, kd, en, ev⟩ = true ↔ (kd = 1 ∧ en = 0 ∧ (ev : Int) ≤ 255) ∨ (kd = 2 ∧ 1 ≤ en ∧ en ≤ 8 ∧ (ev : Int) ≤ 1) := by
    unfold oneB; simp only [Bool.or_eq_true, Bool.and_eq_true, beq_iff_eq, decide_eq_true_eq]
  cases hb : oneB ⟨y, kd, en, ev⟩
  · rw [hb] at h
    have h' : ¬ ((kd = 1 ∧ en = 0 ∧ (ev : Int) ≤ 255) ∨ (kd = 2 ∧ 1 ≤ en ∧ en ≤ 8 ∧ (ev : Int) ≤ 1)) := fun q => by have := h.2 q; cases this
    clear h hb
    simp only [Bool.false_eq_true, and_false, false_or, or_false, and_true]
    omega
  · rw [hb] at h
    have h' := h.1 rfl
    clear h hb
    simp only [Bool.true_eq_false, and_false, false_or, or_false, and_true]
    omega
set_option maxHeartbeats 4000000 in
theorem inputsr_c (a : Option Addr) (n c g o : Nat) (L : List Ev) (w : World) (h : Hid (IsE w a n c g o L)) (hf : Hid (n < 4398046511104)) : Calls Try.prog 8 #[.slice a n c] w (RetB (okIn L) w) := by
  have hl := h.out.len
  by_cases hn : n ≤ 1024
  · have e1 : okIn L = okL 0 L := by unfold okIn; rw [hl, decide_eq_true hn]; rfl
    rw [e1]
    have hn' : (n : Int) ≤ 1024 := by omega
    clear e1 hl
    go_enter Try.func8, Try.ntmps8
    go_wp2_with fail
    go_loopw [3] (fun iv wr => ∃ (k : Nat) (last : Int), k ≤ n ∧ iv = .int .i64 k ∧ 0 ≤ last ∧ Hid (k = 0 → last = 0) ∧ Hid (∀ j e, k = j + 1 → L[j]? = some e → last = e.cyc) ∧ Hid (okL 0 L = okL last (L.drop k)) ∧ Hid (Below w.heap.size w wr)) (fun iv _ => n - (intOf iv).toNat)
    case atStart => exact ⟨0, 0, Nat.zero_le _, rfl, by omega, fun _ => rfl, fun j e h => by omega, rfl, Below.refl _ _⟩
    case round =>
      obtain ⟨k, last, hk, rfl, hlast, HK0, HKl, HO, HB⟩ := hrel
      by_cases hlt : k < n
      · obtain ⟨e, he⟩ : ∃ e, L[k]? = some e := ⟨_, List.getElem?_eq_getElem (by rw [h.out.len]; exact hlt)⟩
        have hE := h.out.below HB.out
        obtain ⟨q0, q1, q2, q3⟩ := hE.at he
        have ha := (hE.addr (by omega)).1
        have hgl := (hE.addr (by omega)).2
        have kk : (k : Int) < n := by omega
        have kk1 : IntKind.i64.wrap ((k : Int) + 1) = (k : Int) + 1 := IntWalk.i64_in _ (by omega)
        have HD : Hid (okL 0 L = ((decide (last ≤ e.cyc) && oneB e) && okL e.cyc (L.drop (k + 1)))) := HO.out.trans (okL_drop L last k e he)
        have HNx : Hid (∀ j e', k + 1 = j + 1 → L[j]? = some e' → e.cyc = e'.cyc) := fun j e' h1 h2 => by
          obtain rfl : j = k := by omega
          rw [he] at h2; injection h2 with h2; rw [h2]
        have hprev : k = 0 ∨ ∃ j, k = j + 1 ∧ ∃ e', L[j]? = some e' ∧ last = e'.cyc ∧ wr.cell? ⟨g, o + j * 4, none⟩ = some (.int .i64 e'.cyc) := by
          rcases Nat.eq_zero_or_pos k with h0 | h0
          · exact .inl h0
          · obtain ⟨e', he'⟩ : ∃ e', L[k - 1]? = some e' := ⟨_, List.getElem?_eq_getElem (by rw [h.out.len]; omega)⟩
            exact .inr ⟨k - 1, by omega, e', he', HKl.out (k - 1) e' (by omega) he', (hE.at he').1⟩
        obtain ⟨y, kd, en, ev⟩ := e
        dsimp only at q0 q1 q2 q3 HD HNx
        have HQ := Lib.hid h.out
        have hgn : ¬ g = wr.heap.size := by omega
        have HBs := HB.out.size
        clear hE he HO HKl
        subst ha
        have HL0 := Lib.hid hlast
        go_upto_region 6 with fail
        go_cut [4] from 14 to 17 (fun v w9 => ∃ eb wz, wz = w9 ∧ v = .pointer (some ⟨eb, 0, none⟩) ∧ Hid (w9.cell? ⟨eb, 0, none⟩ = some (.int .i64 y) ∧ w9.cell? ⟨eb, 1, none⟩ = some (.int .i64 kd) ∧ w9.cell? ⟨eb, 2, none⟩ = some (.int .i64 en) ∧ w9.cell? ⟨eb, 3, none⟩ = some (.int .u64 (ev : Nat))) ∧ Hid (eb < w9.heap.size) ∧ Hid (Below wr.heap.size wr w9))
        case first =>
          clear hprev HD HNx
          go_wp2_with fail
          go_meet
          case rel => exact ⟨_, _, rfl, rfl, ⟨by rw [World.cell?_alloc_at _ _ _ _ rfl]; rfl, by rw [World.cell?_alloc_at _ _ _ _ rfl]; rfl, by rw [World.cell?_alloc_at _ _ _ _ rfl]; rfl, by rw [World.cell?_alloc_at _ _ _ _ rfl]; rfl⟩, (by show _ < _; rw [sz_alloc]; omega), below_one _ _⟩
        case rest =>
          obtain ⟨eb, wx, rfl, rfl, HX4, HEB, HBw⟩ := hcut
          have HBX : Hid (Below w.heap.size w wx) := HB.out.trans (HBw.out.mono HB.out.size)
          go_upto_region 7 with fail
          go_cut [35] from 18 to 34 (fun s w9 => ∃ wz, wz = w9 ∧ s = .bool (decide (y < last)) ∧ Hid (Below wx.heap.size wx w9))
          case first =>
            have K0 := cell_regrown HX4.out.1
            clear HD HNx hlast q0 q1 q2 q3
            by_cases hy0 : y < 0
            · have HT : Hid (decide (y < last) = true) := decide_eq_true (by have := HL0.out; omega)
              clear hprev
              refine wp_region_quiet_below (by kernel_rfl) (by kernel_rfl) ?_
              repeat (go_big_quiet_step (fail))
              refine wpQuiet_nil ?_
              intro _ hw'
              obtain ⟨⟨dq, osq⟩, hw''⟩ := hw'
              subst hw''
              have hb := below_regrown wx dq osq
              generalize grow (redrawn wx dq) osq = w3 at hb ⊢
              go_wp2_with fail
              go_meet
              case rel => exact ⟨_, rfl, by rw [HT.out], hb⟩
            · have hy0' : decide (y < 0) = false := decide_eq_false hy0
              rcases hprev with rfl | ⟨j, rfl, e', he', rfl, qp⟩
              · have HT : Hid (decide (y < last) = false) := decide_eq_false (by have := HK0.out rfl; omega)
                clear HK0
                refine wp_region_quiet_below (by kernel_rfl) (by kernel_rfl) ?_
                repeat (go_big_quiet_step (fail))
                refine wpQuiet_nil ?_
                intro _ hw'
                obtain ⟨⟨dq, osq⟩, hw''⟩ := hw'
                subst hw''
                have hb := below_regrown wx dq osq
                generalize grow (redrawn wx dq) osq = w3 at hb ⊢
                go_wp2_with fail
                go_meet
                case rel => exact ⟨_, rfl, by rw [HT.out], hb⟩
              · have hj1 : IntKind.i64.wrap (((j + 1 : Nat) : Int) - 1) = (j : Int) := by rw [show ((j + 1 : Nat) : Int) - 1 = j by omega]; exact IntWalk.i64_in _ (by omega)
                have hj2 : IntKind.i64.wrap ((j : Int) + 1 - 1) = (j : Int) := by rw [show (j : Int) + 1 - 1 = j by omega]; exact IntWalk.i64_in _ (by omega)
                have hjn : (j : Int) < n := by omega
                have hj0 : (0 : Int) < (j : Int) + 1 := by omega
                have qp2 : wx.cell? ⟨g, o + j * 4, none⟩ = some (.int .i64 e'.cyc) := (HBw.out.cell (p := ⟨g, o + j * 4, none⟩) (by show g < _; omega)).trans qp
                have K1 := cell_regrown qp2
                clear HK0 kk kk1
                refine wp_region_quiet_below (by kernel_rfl) (by kernel_rfl) ?_
                repeat (go_big_quiet_step (fail))
                refine wpQuiet_nil ?_
                intro _ hw'
                obtain ⟨⟨dq, osq⟩, hw''⟩ := hw'
                subst hw''
                have hb := below_regrown wx dq osq
                generalize grow (redrawn wx dq) osq = w3 at hb ⊢
                go_wp2_with fail
                go_meet
                case rel => exact ⟨_, rfl, rfl, hb⟩
          case rest =>
            obtain ⟨w3, rfl, rfl, HB3⟩ := hcut
            have HBY : Hid (Below w.heap.size w w3) := HBX.out.trans (HB3.out.mono HBX.out.size)
            obtain ⟨x0, x1, x2, x3⟩ := HX4.out
            have y1 := (HB3.out.cell (p := ⟨eb, 1, none⟩) HEB.out).trans x1
            have y2 := (HB3.out.cell (p := ⟨eb, 2, none⟩) HEB.out).trans x2
            have y3 := (HB3.out.cell (p := ⟨eb, 3, none⟩) HEB.out).trans x3
            clear x0 x1 x2 x3 q0 q1 q2 q3 hprev
            by_cases hyl : y < last
            · have HX : Hid (okL 0 L = false) := by show _ = _; rw [HD.out, decide_eq_false (by omega), Bool.false_and, Bool.false_and]
              rw [decide_eq_true hyl]
              clear HD hyl hlast
              go_wp2_with fail
              go_ret
              exact retB_mk HX.out.symm HBY.out
            · have HY0 : Hid (0 ≤ y) := by show _ ≤ _; omega
              have HD2 : Hid (okL 0 L = (oneB ⟨y, kd, en, ev⟩ && okL y (L.drop (k + 1)))) := by show _ = _; rw [HD.out, decide_eq_true (by omega), Bool.true_and]
              rw [decide_eq_false hyl]
              clear HD hyl hlast
              rcases one_cases y kd en ev with ⟨rfl, rfl, h3, hb⟩ | ⟨rfl, rfl, h3, hb⟩ | ⟨rfl, h2, hb⟩ | ⟨rfl, h2, h3, h4, hb⟩ | ⟨rfl, h2, h3, h4, hb⟩ | ⟨rfl, h2, h3, hb⟩ | ⟨rfl, h2, hb⟩ | ⟨h1, h2, hb⟩
              all_goals
                rw [hb] at HD2
                clear hb
                go_wp2_with fail
                first
                  | (go_ret; exact retB_mk HD2.out.symm HBY.out)
                  | (go_roundw
                     case rel => exact ⟨k + 1, y, by omega, by go_num, HY0.out, fun h => by omega, HNx, HD2.out, HBY.out⟩
                     case measure => simp only [intOf]; omega)
      · have nk : decide ((k : Int) < n) = false := decide_eq_false (by omega)
        have nk' : ¬ (k : Int) < n := by omega
        go_wp2_with fail
        go_ret
        exact retB_mk (by rw [HO.out, List.drop_of_length_le (by rw [h.out.len]; omega)]; rfl) HB.out
  · have e1 : okIn L = false := by unfold okIn; rw [hl, decide_eq_false hn]; rfl
    rw [e1]
    have hn' : (1024 : Int) < n := by omega
    clear e1 hl
    go_enter Try.func8, Try.ntmps8
    go_wp2_with fail
    go_ret
    exact retB_mk rfl (by repeat (first | (with_reducible first | exact Below.refl _ _ | assumption | exact Nat.le_refl _ | refine Below.drew ?_ | refine Below.alloc ?_ ?_ _ | refine below_drewN ?_ _ | refine Below.setCell ?_ ?_ _ | refine le_alloc ?_ | refine le_set ?_ | refine le_drew ?_ | refine le_drewN ?_ | refine below_step (by assumption) ?_ ?_ | refine le_below (by assumption) ?_) | (dsimp only; omega)))
theorem info8 : (Try.prog.info? 5).map (fun i => (i.size, i.bytes, i.zero)) = some (1, 1, some (.int .u8 0)) := by kernel_rfl
theorem made_u8 (n j : Nat) (hj : j < n) : (madeCells (Value.int .u8 0).cells n)[j]? = some (.int .u8 0) := by
  unfold madeCells
  rw [show (Value.int .u8 0).cells = #[Value.int .u8 0] from rfl]
  simp [hj, Nat.mod_one]
theorem make_n (n : Nat) (hn : n ≤ 1048578) : ∃ ZP : Array Value, (∀ w, (Instr.makeSlice 27 (.int .i64 (n : Nat)) (.int .i64 (n : Nat))).run Try.prog w = .ok (.slice (some ⟨w.heap.size, 0, none⟩) n n) (w.alloc (.cells ZP 5))) ∧ ∀ j, j < n → ZP[j]? = some (.int .u8 0) := by
  obtain ⟨i, hi, h1, h2, h3⟩ : ∃ i, Try.prog.info? 5 = some i ∧ i.size = 1 ∧ i.bytes = 1 ∧ i.zero = some (.int .u8 0) := by
    have h := info8
    cases hi : Try.prog.info? 5 with
    | none => rw [hi] at h; exact absurd h (by simp)
    | some i =>
      rw [hi] at h
      simp only [Option.map_some, Option.some.injEq, Prod.mk.injEq] at h
      exact ⟨i, rfl, h.1, h.2.1, h.2.2⟩
  refine ⟨madeCells (Value.int .u8 0).cells n, fun w => ?_, fun j hj => made_u8 n j hj⟩
  have hr := run_make (P := Try.prog) w 27 5 i (.int .u8 0) Try.underlying27 hi h3 .i64 .i64 n n (by omega) (by omega) (by rw [h2]; omega) (by omega)
  rw [h1, Int.toNat_natCast, Nat.mul_one] at hr
  exact hr
set_option maxHeartbeats 8000000 in
theorem inputs_core (w : World) (z : Int) (ea : Option Addr) (en ec eg eo : Nat) (L : List Ev) (hE : Hid (IsE w ea en ec eg eo L)) (hf : Hid (en < 4398046511104)) :
    Calls Try.prog 3 #[.int .i64 z, .slice ea en ec] w (RetB true w) := by
  obtain ⟨r, hr⟩ : ∃ r, z.tmod 1048579 = r := ⟨_, rfl⟩
  have hr1 : -1048579 < r ∧ r < 1048579 := by
    subst hr
    rcases Int.le_total 0 z with h | h
    · rw [Int.tmod_eq_emod_of_nonneg h]; omega
    · have e : z.tmod 1048579 = -((-z).tmod 1048579) := by rw [Int.neg_tmod, Int.neg_neg]
      rw [e, Int.tmod_eq_emod_of_nonneg (by omega)]; omega
  have kr : IntKind.i64.wrap r = r := IntWalk.i64_in _ (by omega)
  go_enter Try.func3, Try.ntmps3
  go_wp2_with fail
  refine (fixed_c w).mono ?_; rintro e w1 ⟨rfl, hb1⟩
  have HB := Lib.hid hb1; clear hb1
  by_cases hn : r < 0
  · obtain ⟨n, rfl⟩ : ∃ n : Nat, r = -(n : Int) := ⟨(-r).toNat, by omega⟩
    have kn : IntKind.i64.wrap (- -(n : Int)) = n := by rw [Int.neg_neg]; exact IntWalk.i64_in _ (by omega)
    have kn2 : IntKind.i64.wrap (n : Int) = n := IntWalk.i64_in _ (by omega)
    have n0 : (0 : Int) < n := by omega
    have HB1' := HB.out
    obtain ⟨ZP, hmk, hZP⟩ := make_n n (by omega)
    have HZ := Lib.hid hZP; clear hZP
    go_wp2_with fail
    have HM : Hid (M.Byt (w1.alloc (Obj.cells ZP 5)) (some ⟨w1.heap.size, 0, none⟩) w1.heap.size 0 n n (fun _ => 0)) := ⟨fun _ => ⟨rfl, by rw [sz_alloc]; omega⟩, Nat.le_refl _, fun i hi => by rw [World.cell?_alloc_new, Nat.zero_add]; exact HZ.out i hi, fun _ => by show 0 < 256; decide⟩
    have HBA : Hid (Below w.heap.size w (w1.alloc (Obj.cells ZP 5))) := HB.out.alloc HB.out.size _
    generalize w1.alloc (Obj.cells ZP 5) = wA at *
    generalize w1.heap.size = gA at *
    clear hmk HZ
    have c1 := new_c (some ⟨gA, 0, none⟩) gA 0 n n (fun _ => 0) ea en ec eg eo L 0 0 0 0 none 0 0 wA HM (Lib.hid (hE.out.below HBA.out)) hf
    have hok : okNew n L = (decide (n ≤ 1048576) && okIn L) := rfl
    rw [hok] at c1
    clear hok
    by_cases hl : n ≤ 1048576
    all_goals
      first
        | rw [decide_eq_true hl, Bool.true_and] at c1
        | rw [decide_eq_false hl, Bool.false_and] at c1
    · have hl' : (n : Int) ≤ 1048576 := by omega
      have inp : ∀ w2, Below w.heap.size w w2 → Calls Try.prog 8 #[.slice ea en ec] w2 (RetB (okIn L) w2) := fun w2 hb => inputsr_c ea en ec eg eo L w2 (Lib.hid (hE.out.below hb)) hf
      have INP := Lib.hid inp
      clear inp
      cases ho : okIn L
      · rw [ho] at c1 INP
        refine c1.mono ?_; rintro e w2 ⟨-, h1, hb2⟩
        obtain rfl := h1 rfl
        have HB2 := Lib.hid (HBA.out.trans (hb2.mono HBA.out.size)); clear h1 hb2
        go_wp2_with fail
        refine (INP.out w2 HB2.out).mono ?_; rintro e w3 ⟨rfl, hb3⟩
        have HB3 := Lib.hid (HB2.out.trans (hb3.mono HB2.out.size)); clear hb3
        go_wp2_with fail
        go_ret
        exact retB_mk rfl HB3.out
      · rw [ho] at c1 INP
        refine c1.mono ?_; rintro e w2 ⟨h1, -, hb2⟩
        obtain ⟨b, R, W, rfl, q, hn⟩ := h1 rfl
        have HB2 := Lib.hid (HBA.out.trans (hb2.mono HBA.out.size)); clear h1 hb2 q hn
        go_wp2_with fail
        refine (INP.out w2 HB2.out).mono ?_; rintro e w3 ⟨rfl, hb3⟩
        have HB3 := Lib.hid (HB2.out.trans (hb3.mono HB2.out.size)); clear hb3
        go_wp2_with fail
        go_ret
        exact retB_mk rfl HB3.out
    · have hl' : ¬ (n : Int) ≤ 1048576 := by omega
      have hl2 : 1048576 < (n : Int) := by omega
      refine c1.mono ?_; rintro e w2 ⟨-, h1, hb2⟩
      obtain rfl := h1 rfl
      have HB2 := Lib.hid (HBA.out.trans (hb2.mono HBA.out.size)); clear h1 hb2
      have INP := Lib.hid (inputsr_c ea en ec eg eo L w2 (Lib.hid (hE.out.below HB2.out)) hf)
      cases ho : okIn L
      all_goals
        rw [ho] at INP
        go_wp2_with fail
        refine INP.out.mono ?_; rintro e w3 ⟨rfl, hb3⟩
        have HB3 := Lib.hid (HB2.out.trans (hb3.mono HB2.out.size)); clear hb3
        go_wp2_with fail
        go_ret
        exact retB_mk (by first | rfl | (rw [decide_eq_false (by omega)]; rfl)) HB3.out
  · obtain ⟨n, rfl⟩ : ∃ n : Nat, r = (n : Int) := ⟨r.toNat, by omega⟩
    have HB1' := HB.out
    obtain ⟨ZP, hmk, hZP⟩ := make_n n (by omega)
    have HZ := Lib.hid hZP; clear hZP
    go_wp2_with fail
    have HM : Hid (M.Byt (w1.alloc (Obj.cells ZP 5)) (some ⟨w1.heap.size, 0, none⟩) w1.heap.size 0 n n (fun _ => 0)) := ⟨fun _ => ⟨rfl, by rw [sz_alloc]; omega⟩, Nat.le_refl _, fun i hi => by rw [World.cell?_alloc_new, Nat.zero_add]; exact HZ.out i hi, fun _ => by show 0 < 256; decide⟩
    have HBA : Hid (Below w.heap.size w (w1.alloc (Obj.cells ZP 5))) := HB.out.alloc HB.out.size _
    generalize w1.alloc (Obj.cells ZP 5) = wA at *
    generalize w1.heap.size = gA at *
    clear hmk HZ
    have c1 := new_c (some ⟨gA, 0, none⟩) gA 0 n n (fun _ => 0) ea en ec eg eo L 0 0 0 0 none 0 0 wA HM (Lib.hid (hE.out.below HBA.out)) hf
    have hok : okNew n L = (decide (n ≤ 1048576) && okIn L) := rfl
    rw [hok] at c1
    clear hok
    by_cases hl : n ≤ 1048576
    all_goals
      first
        | rw [decide_eq_true hl, Bool.true_and] at c1
        | rw [decide_eq_false hl, Bool.false_and] at c1
    · have hl' : (n : Int) ≤ 1048576 := by omega
      have inp : ∀ w2, Below w.heap.size w w2 → Calls Try.prog 8 #[.slice ea en ec] w2 (RetB (okIn L) w2) := fun w2 hb => inputsr_c ea en ec eg eo L w2 (Lib.hid (hE.out.below hb)) hf
      have INP := Lib.hid inp
      clear inp
      cases ho : okIn L
      · rw [ho] at c1 INP
        refine c1.mono ?_; rintro e w2 ⟨-, h1, hb2⟩
        obtain rfl := h1 rfl
        have HB2 := Lib.hid (HBA.out.trans (hb2.mono HBA.out.size)); clear h1 hb2
        go_wp2_with fail
        refine (INP.out w2 HB2.out).mono ?_; rintro e w3 ⟨rfl, hb3⟩
        have HB3 := Lib.hid (HB2.out.trans (hb3.mono HB2.out.size)); clear hb3
        go_wp2_with fail
        go_ret
        exact retB_mk rfl HB3.out
      · rw [ho] at c1 INP
        refine c1.mono ?_; rintro e w2 ⟨h1, -, hb2⟩
        obtain ⟨b, R, W, rfl, q, hn⟩ := h1 rfl
        have HB2 := Lib.hid (HBA.out.trans (hb2.mono HBA.out.size)); clear h1 hb2 q hn
        go_wp2_with fail
        refine (INP.out w2 HB2.out).mono ?_; rintro e w3 ⟨rfl, hb3⟩
        have HB3 := Lib.hid (HB2.out.trans (hb3.mono HB2.out.size)); clear hb3
        go_wp2_with fail
        go_ret
        exact retB_mk rfl HB3.out
    · have hl' : ¬ (n : Int) ≤ 1048576 := by omega
      have hl2 : 1048576 < (n : Int) := by omega
      refine c1.mono ?_; rintro e w2 ⟨-, h1, hb2⟩
      obtain rfl := h1 rfl
      have HB2 := Lib.hid (HBA.out.trans (hb2.mono HBA.out.size)); clear h1 hb2
      have INP := Lib.hid (inputsr_c ea en ec eg eo L w2 (Lib.hid (hE.out.below HB2.out)) hf)
      cases ho : okIn L
      all_goals
        rw [ho] at INP
        go_wp2_with fail
        refine INP.out.mono ?_; rintro e w3 ⟨rfl, hb3⟩
        have HB3 := Lib.hid (HB2.out.trans (hb3.mono HB2.out.size)); clear hb3
        go_wp2_with fail
        go_ret
        exact retB_mk (by first | rfl | (rw [decide_eq_false (by omega)]; rfl)) HB3.out
end Go.Proofs.Ytkmbhhgkajmfjaa
