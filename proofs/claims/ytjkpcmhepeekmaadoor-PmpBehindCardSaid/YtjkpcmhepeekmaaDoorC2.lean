/- The walk of PmpBehind. -/
import Derived.Test.YtjkpcmhepeekmaaDoorC1
import Derived.Test.YtjkpcmhepeekmaaDoorM2
import Derived.Deep.LoopGhost
import Derived.Deep.RegionWith
namespace Go.Proofs.YtjkpcmhepeekmaaDoor
open Go.ChangeShapes Go.WideShapes Go.ChangeAt Go.RowKit Go.Sort
set_option linter.unusedVariables false
set_option linter.unusedSimpArgs false
/-- The world in which the four arrays stand. -/
def boxed4 (w : World) (c a d b : Nat → Nat) : World := (((w.alloc (Obj.cells (u8s c) 22)).alloc (Obj.cells (u64s a) 24)).alloc (Obj.cells (u8s d) 22)).alloc (Obj.cells (u64s b) 24)
theorem boxed4_rows (w : World) (c a d b : Nat → Nat) : Row (boxed4 w c a d b) w.heap.size 22 (u8s c) ∧ Row (boxed4 w c a d b) (w.heap.size + 1) 24 (u64s a) ∧ Row (boxed4 w c a d b) (w.heap.size + 2) 22 (u8s d) ∧ Row (boxed4 w c a d b) (w.heap.size + 3) 24 (u64s b) := rows4 w _ _ _ _ _ _ _ _
theorem boxed4_below (w : World) (c a d b : Nat → Nat) : Below w.heap.size w (boxed4 w c a d b) := by unfold boxed4; exact (by repeat (first | (with_reducible first | exact Below.refl _ _ | assumption | exact Nat.le_refl _ | refine Below.drew ?_ | refine Below.alloc ?_ ?_ _ | refine Below.setCell ?_ ?_ _ | refine le_alloc ?_ | refine le_set ?_ | refine le_drew ?_ | refine below_step (by assumption) ?_ ?_ | refine le_below (by assumption) ?_) | (dsimp only; omega)))
theorem boxed4_size (w : World) (c a d b : Nat → Nat) : (boxed4 w c a d b).heap.size = w.heap.size + 4 := by unfold boxed4; simp only [sz_alloc]
theorem boxed4_g {w : World} (h : G w) (c a d b : Nat → Nat) : G (boxed4 w c a d b) := g_alloc (g_alloc (g_alloc (g_alloc h _) _) _) _
/-- All that is known of a world on the way. -/
def Have (w : World) (c a d b : Nat → Nat) (wx : World) : Prop := Row wx w.heap.size 22 (u8s c) ∧ Row wx (w.heap.size + 1) 24 (u64s a) ∧ Row wx (w.heap.size + 2) 22 (u8s d) ∧ Row wx (w.heap.size + 3) 24 (u64s b) ∧ Below w.heap.size w wx ∧ w.heap.size + 4 ≤ wx.heap.size ∧ G wx
theorem have_start {w : World} (h : G w) (c a d b : Nat → Nat) : Have w c a d b (boxed4 w c a d b) := by
  obtain ⟨h1, h2, h3, h4⟩ := boxed4_rows w c a d b
  exact ⟨h1, h2, h3, h4, boxed4_below w c a d b, by rw [boxed4_size]; exact Nat.le_refl _, boxed4_g h c a d b⟩
theorem Have.below {w : World} {c a d b : Nat → Nat} {w1 w2 : World} {B : Nat} (h : Have w c a d b w1) (hb : Below B w1 w2) (hB : w.heap.size + 4 ≤ B) : Have w c a d b w2 := by
  obtain ⟨h1, h2, h3, h4, h5, h6, h7⟩ := h
  exact ⟨h1.below hb (by omega), h2.below hb (by omega), h3.below hb (by omega), h4.below hb (by omega), below_step hb h5 (by omega), Nat.le_trans h6 hb.size, g_below h7 hb (by omega)⟩
theorem Have.next {w : World} {c a d b : Nat → Nat} {w1 w2 : World} (h : Have w c a d b w1) (hb : Below w1.heap.size w1 w2) : Have w c a d b w2 := h.below hb h.2.2.2.2.2.1
theorem q_range {c a : Nat → Nat} (hc : Hid (OkC c)) (ha : Hid (OkA a)) (n : Nat) (hn : n < 8) (v : World) (hv : Hid (G v)) : Calls Tryd.prog 8 #[.agg (u8s c), .agg (u64s a), .int .i64 n] v (RetR (rA c a n) (rB c a n) (rOk c a n) v) := Range_c c a n hn hc ha v hv

set_option maxRecDepth 100000 in
theorem behind_1 (c a d b : Nat → Nat) (mode kind : Int) (x : Nat) (size : Int) (h : size < 1) (w : World) (hG : Hid (G w)) :
    Calls Tryd.prog 6 #[.agg (u8s c), .agg (u64s a), .agg (u8s d), .agg (u64s b), .int .i64 mode, .int .i64 kind, .int .u64 x, .int .i64 size] w (RetB true w) := by
  have H0 := Lib.hid (have_start hG.out c a d b)
  go_enter Tryd.func6, Tryd.ntmps6
  go_wp2_with fail
  refine (fixed_c _ H0.out.2.2.2.2.2.2).mono ?_; rintro e w1 ⟨rfl, hb⟩
  replace H0 := Lib.hid (H0.out.next hb)
  clear hb
  go_wp2_with fail
  go_ret
  exact retB_mk rfl H0.out.2.2.2.2.1

set_option maxRecDepth 100000 in
theorem behind_2 (c a d b : Nat → Nat) (mode kind : Int) (x : Nat) (size : Int) (h0 : ¬ size < 1) (h : size > 8) (w : World) (hG : Hid (G w)) :
    Calls Tryd.prog 6 #[.agg (u8s c), .agg (u64s a), .agg (u8s d), .agg (u64s b), .int .i64 mode, .int .i64 kind, .int .u64 x, .int .i64 size] w (RetB true w) := by
  have H0 := Lib.hid (have_start hG.out c a d b)
  go_enter Tryd.func6, Tryd.ntmps6
  go_wp2_with fail
  refine (fixed_c _ H0.out.2.2.2.2.2.2).mono ?_; rintro e w1 ⟨rfl, hb⟩
  replace H0 := Lib.hid (H0.out.next hb)
  clear hb
  go_wp2_with fail
  go_ret
  exact retB_mk rfl H0.out.2.2.2.2.1

set_option maxRecDepth 100000 in
theorem behind_3 (c a d b : Nat → Nat) (mode kind : Int) (x : Nat) (size : Int) (h0 : ¬ size < 1) (h1 : ¬ size > 8) (h : decide ((9223372036854775808 : Int) < (x : Int)) = true) (w : World) (hG : Hid (G w)) :
    Calls Tryd.prog 6 #[.agg (u8s c), .agg (u64s a), .agg (u8s d), .agg (u64s b), .int .i64 mode, .int .i64 kind, .int .u64 x, .int .i64 size] w (RetB true w) := by
  have H0 := Lib.hid (have_start hG.out c a d b)
  go_enter Tryd.func6, Tryd.ntmps6
  go_wp2_with fail
  refine (fixed_c _ H0.out.2.2.2.2.2.2).mono ?_; rintro e w1 ⟨rfl, hb⟩
  replace H0 := Lib.hid (H0.out.next hb)
  clear hb
  go_wp2_with fail
  go_ret
  exact retB_mk rfl H0.out.2.2.2.2.1

set_option maxRecDepth 100000 in
theorem behind_4 (c a d b : Nat → Nat) (mode kind : Int) (x : Nat) (size : Int) (h0 : ¬ size < 1) (h1 : ¬ size > 8) (h2 : decide ((9223372036854775808 : Int) < (x : Int)) = false) (h : kind < 0) (w : World) (hG : Hid (G w)) :
    Calls Tryd.prog 6 #[.agg (u8s c), .agg (u64s a), .agg (u8s d), .agg (u64s b), .int .i64 mode, .int .i64 kind, .int .u64 x, .int .i64 size] w (RetB true w) := by
  have H0 := Lib.hid (have_start hG.out c a d b)
  go_enter Tryd.func6, Tryd.ntmps6
  go_wp2_with fail
  refine (fixed_c _ H0.out.2.2.2.2.2.2).mono ?_; rintro e w1 ⟨rfl, hb⟩
  replace H0 := Lib.hid (H0.out.next hb)
  clear hb
  go_wp2_with fail
  go_ret
  exact retB_mk rfl H0.out.2.2.2.2.1

set_option maxRecDepth 100000 in
theorem behind_5 (c a d b : Nat → Nat) (mode kind : Int) (x : Nat) (size : Int) (h0 : ¬ size < 1) (h1 : ¬ size > 8) (h2 : decide ((9223372036854775808 : Int) < (x : Int)) = false) (h3 : ¬ kind < 0) (h : kind > 3) (w : World) (hG : Hid (G w)) :
    Calls Tryd.prog 6 #[.agg (u8s c), .agg (u64s a), .agg (u8s d), .agg (u64s b), .int .i64 mode, .int .i64 kind, .int .u64 x, .int .i64 size] w (RetB true w) := by
  have H0 := Lib.hid (have_start hG.out c a d b)
  go_enter Tryd.func6, Tryd.ntmps6
  go_wp2_with fail
  refine (fixed_c _ H0.out.2.2.2.2.2.2).mono ?_; rintro e w1 ⟨rfl, hb⟩
  replace H0 := Lib.hid (H0.out.next hb)
  clear hb
  go_wp2_with fail
  go_ret
  exact retB_mk rfl H0.out.2.2.2.2.1

set_option maxRecDepth 100000 in
set_option maxHeartbeats 1000000 in
theorem behind_core (c a d b : Nat → Nat) (mode kind : Int) (x s : Nat) (hs : 1 ≤ s ∧ s ≤ 8) (hx : x ≤ 9223372036854775808) (hk : 0 ≤ kind ∧ kind ≤ 3) (hc : Hid (OkC c)) (ha : Hid (OkA a)) (hd : Hid (OkC d)) (hb : Hid (OkA b)) (w : World) (hG : Hid (G w)) :
    Calls Tryd.prog 6 #[.agg (u8s c), .agg (u64s a), .agg (u8s d), .agg (u64s b), .int .i64 mode, .int .i64 kind, .int .u64 x, .int .i64 s] w (RetB true w) := by
  have HV := Lib.hid (have_start hG.out c a d b)
  have s0 : ¬ (s : Int) < 1 := by omega
  have s8 : ¬ (s : Int) > 8 := by omega
  have x1 : decide ((9223372036854775808 : Int) < (x : Int)) = false := by rw [decide_eq_false_iff_not]; omega
  have k0 : ¬ kind < 0 := by omega
  have k3 : ¬ kind > 3 := by omega
  obtain ⟨y, hy⟩ : ∃ y, y = x + s - 1 := ⟨_, rfl⟩
  have b0 : IntKind.u64.wrap (s : Int) = s := by rw [IntKind.wrap_u64]; omega
  have b1 : IntKind.u64.wrap (IntKind.u64.wrap ((x : Int) + s) - 1) = (y : Int) := by rw [IntKind.wrap_u64, IntKind.wrap_u64]; omega
  have HY : Hid ((y : Int) = x + (s : Int) - 1) := by show _ = _; omega
  have HX : Hid (x < 18446744073709551616) := by show _ < _; omega
  have HK : Hid (s = 1 ∨ s = 2 ∨ s = 4 → accB kind x s = true) := fun h => by
    obtain ⟨kk, rfl⟩ : ∃ kk : Nat, kind = kk := ⟨kind.toNat, by omega⟩
    exact acc_k (k := kk) (s := s) ⟨rfl, by omega, rfl, by omega, by omega⟩
  clear hs hx hk hy
  go_enter Tryd.func6, Tryd.ntmps6
  go_wp2_with fail
  refine (fixed_c _ HV.out.2.2.2.2.2.2).mono ?_; rintro e w1 ⟨rfl, hb⟩
  replace HV := Lib.hid (HV.out.next hb)
  clear hb
  go_wp2_with fail
  go_loopg [18, 19] 8 (fun g p i wr => ∃ n : Nat, n + g = 8 ∧ i = .int .i64 n ∧ p = .bool false ∧ Hid (Have w c a d b wr) ∧ Hid (∀ j, j < n → missB c a x y j = true))
  case atStart => exact ⟨0, rfl, rfl, rfl, HV, fun j hj => absurd hj (by omega)⟩
  case round =>
    obtain ⟨n, hn, rfl, rfl, HV, HM⟩ := hrel
    cases gk with
    | zero =>
      obtain rfl : n = 8 := by omega
      go_wp2_with fail
      go_ret
      exact retB_mk rfl HV.out.2.2.2.2.1
    | succ g =>
      have n8 : (n : Int) < 8 := by omega
      have n0 : ((n : Nat) : Int).toNat = n := by omega
      have HRg := Lib.hid (fun v hv => q_range hc ha n (by omega) v hv)
      have HN1 : n + 1 + g = 8 := by omega
      obtain ⟨A, eA⟩ : ∃ A, A = rA c a n := ⟨_, rfl⟩
      obtain ⟨B, eB⟩ : ∃ B, B = rB c a n := ⟨_, rfl⟩
      obtain ⟨K, eK⟩ : ∃ K, K = rOk c a n := ⟨_, rfl⟩
      have HQ0 : Hid (missB c a x y n = (!K || decide (B < x) || decide (y < A))) := by show _ = _; rw [eA, eB, eK]; rfl
      have HP0 : Hid (partB c a x y n = (decide (x < A) || decide (B < y))) := by show _ = _; rw [eA, eB]; rfl
      rw [← eA, ← eB, ← eK] at HRg
      clear eA eB eK
      cases K with
      | false =>
        have HQ : Hid (missB c a x y n = true) := HQ0.out
        clear HQ0 HP0
        have HN : Hid (∀ j, j < n + 1 → missB c a x y j = true) := fun j hj => by
          by_cases e : j = n
          · subst e; exact HQ.out
          · exact HM.out j (by omega)
        clear HQ HM hn HY HK
        go_wp2_with (first | (refine wpList_load_row rfl 22 _ rfl (w.heap.size) rfl 22 (u8s c) (0, 0) _ HV.out.1 Tryd.underlying22 rfl (info8c _) ?_) | (refine wpList_load_row rfl 24 _ rfl (w.heap.size + 1) rfl 24 (u64s a) (0, 0) _ HV.out.2.1 Tryd.underlying24 rfl (info8a _) ?_))
        refine (HRg.out _ HV.out.2.2.2.2.2.2).mono ?_; rintro e w2 ⟨rfl, hb⟩
        replace HV := Lib.hid (HV.out.next hb)
        clear hb
        go_wp2_with fail
        go_roundg g
        case measure => omega
        case rel => exact ⟨n + 1, by omega, by go_num, rfl, HV, HN⟩
      | true =>
        by_cases h2 : y < A
        · have HQ : Hid (missB c a x y n = true) := by show _ = _; rw [HQ0.out]; simp [h2]
          have h2' : (y : Int) < A := by omega
          clear HQ0 HP0
          have HN : Hid (∀ j, j < n + 1 → missB c a x y j = true) := fun j hj => by
            by_cases e : j = n
            · subst e; exact HQ.out
            · exact HM.out j (by omega)
          clear HQ HM hn HY HK
          go_wp2_with (first | (refine wpList_load_row rfl 22 _ rfl (w.heap.size) rfl 22 (u8s c) (0, 0) _ HV.out.1 Tryd.underlying22 rfl (info8c _) ?_) | (refine wpList_load_row rfl 24 _ rfl (w.heap.size + 1) rfl 24 (u64s a) (0, 0) _ HV.out.2.1 Tryd.underlying24 rfl (info8a _) ?_))
          refine (HRg.out _ HV.out.2.2.2.2.2.2).mono ?_; rintro e w2 ⟨rfl, hb⟩
          replace HV := Lib.hid (HV.out.next hb)
          clear hb
          go_wp2_with fail
          go_roundg g
          case measure => omega
          case rel => exact ⟨n + 1, by omega, by go_num, rfl, HV, HN⟩
        · have h2' : ¬ ((y : Int) < A) := by omega
          have g2 : A ≤ y := by omega
          by_cases h1 : B < x
          · have HQ : Hid (missB c a x y n = true) := by show _ = _; rw [HQ0.out]; simp [h1]
            have h1' : (B : Int) < x := by omega
            clear HQ0 HP0
            have HN : Hid (∀ j, j < n + 1 → missB c a x y j = true) := fun j hj => by
              by_cases e : j = n
              · subst e; exact HQ.out
              · exact HM.out j (by omega)
            clear HQ HM hn HY HK
            go_wp2_with (first | (refine wpList_load_row rfl 22 _ rfl (w.heap.size) rfl 22 (u8s c) (0, 0) _ HV.out.1 Tryd.underlying22 rfl (info8c _) ?_) | (refine wpList_load_row rfl 24 _ rfl (w.heap.size + 1) rfl 24 (u64s a) (0, 0) _ HV.out.2.1 Tryd.underlying24 rfl (info8a _) ?_))
            refine (HRg.out _ HV.out.2.2.2.2.2.2).mono ?_; rintro e w2 ⟨rfl, hb⟩
            replace HV := Lib.hid (HV.out.next hb)
            clear hb
            go_wp2_with fail
            go_roundg g
            case measure => omega
            case rel => exact ⟨n + 1, by omega, by go_num, rfl, HV, HN⟩
          · have h1' : ¬ ((B : Int) < x) := by omega
            have g1 : x ≤ B := by omega
            have HQ : Hid (missB c a x y n = false) := by show _ = _; rw [HQ0.out]; simp [h1, h2] <;> omega
            by_cases h3 : x < A
            · have h3' : (x : Int) < A := by omega
              clear HQ HQ0 HP0 HM hn HY HK
              go_wp2_with (first | (refine wpList_load_row rfl 22 _ rfl (w.heap.size) rfl 22 (u8s c) (0, 0) _ HV.out.1 Tryd.underlying22 rfl (info8c _) ?_) | (refine wpList_load_row rfl 24 _ rfl (w.heap.size + 1) rfl 24 (u64s a) (0, 0) _ HV.out.2.1 Tryd.underlying24 rfl (info8a _) ?_))
              refine (HRg.out _ HV.out.2.2.2.2.2.2).mono ?_; rintro e w2 ⟨rfl, hb⟩
              replace HV := Lib.hid (HV.out.next hb)
              clear hb
              go_wp2_with fail
              go_ret
              exact retB_mk rfl HV.out.2.2.2.2.1
            · have h3' : ¬ ((x : Int) < A) := by omega
              have g3 : A ≤ x := by omega
              by_cases h4 : B < y
              · have h4' : (B : Int) < y := by omega
                clear HQ HQ0 HP0 HM hn HY HK
                go_wp2_with (first | (refine wpList_load_row rfl 22 _ rfl (w.heap.size) rfl 22 (u8s c) (0, 0) _ HV.out.1 Tryd.underlying22 rfl (info8c _) ?_) | (refine wpList_load_row rfl 24 _ rfl (w.heap.size + 1) rfl 24 (u64s a) (0, 0) _ HV.out.2.1 Tryd.underlying24 rfl (info8a _) ?_))
                refine (HRg.out _ HV.out.2.2.2.2.2.2).mono ?_; rintro e w2 ⟨rfl, hb⟩
                replace HV := Lib.hid (HV.out.next hb)
                clear hb
                go_wp2_with fail
                go_ret
                exact retB_mk rfl HV.out.2.2.2.2.1
              · have h4' : ¬ ((B : Int) < y) := by omega
                have g4 : y ≤ B := by omega
                have HP : Hid (partB c a x y n = false) := by show _ = _; rw [HP0.out]; simp [h3, h4] <;> omega
                clear HQ0 HP0 hn
                go_wp2_with (first | (refine wpList_load_row rfl 22 _ rfl (w.heap.size) rfl 22 (u8s c) (0, 0) _ HV.out.1 Tryd.underlying22 rfl (info8c _) ?_) | (refine wpList_load_row rfl 24 _ rfl (w.heap.size + 1) rfl 24 (u64s a) (0, 0) _ HV.out.2.1 Tryd.underlying24 rfl (info8a _) ?_))
                refine (HRg.out _ HV.out.2.2.2.2.2.2).mono ?_; rintro e w2 ⟨rfl, hb⟩
                replace HV := Lib.hid (HV.out.next hb)
                clear hb
                have HV2S : Hid (w.heap.size + 4 ≤ w2.heap.size) := HV.out.2.2.2.2.2.1
                have hsz : ((w2.alloc (Obj.cells #[.int .u8 0, .int .u8 0, .int .u8 0, .int .u8 0, .int .u8 0, .int .u8 0, .int .u8 0, .int .u8 0] 22)).setRow w2.heap.size (u8s c)).heap.size = w2.heap.size + 1 := by rw [sz_setRow, sz_alloc]
                have HVA := Lib.hid ((row_old HV.out.2.1 (Obj.cells #[.int .u8 0, .int .u8 0, .int .u8 0, .int .u8 0, .int .u8 0, .int .u8 0, .int .u8 0, .int .u8 0] 22)).setRow_ne (b' := w2.heap.size) (by have := HV.out.2.2.2.2.2.1; omega) (u8s c))
                have HVZ : Hid (Row ((((w2.alloc (Obj.cells #[.int .u8 0, .int .u8 0, .int .u8 0, .int .u8 0, .int .u8 0, .int .u8 0, .int .u8 0, .int .u8 0] 22)).setRow w2.heap.size (u8s c))).alloc (Obj.cells #[.int .u64 0, .int .u64 0, .int .u64 0, .int .u64 0, .int .u64 0, .int .u64 0, .int .u64 0, .int .u64 0] 24)) (w2.heap.size + 1) 24 (u64s (fun _ => 0))) := by
                  have := row_new ((w2.alloc (Obj.cells #[.int .u8 0, .int .u8 0, .int .u8 0, .int .u8 0, .int .u8 0, .int .u8 0, .int .u8 0, .int .u8 0] 22)).setRow w2.heap.size (u8s c)) (u64s (fun _ => 0)) 24
                  rw [hsz] at this; exact this
                go_wp2_with (first
                  | (refine wpList_load_row rfl 22 _ rfl (w.heap.size) rfl 22 (u8s c) (0, 0) _ HV.out.1 Tryd.underlying22 rfl (info8c _) ?_)
                  | (refine wpList_load_row rfl 24 _ rfl (w.heap.size + 1) rfl 24 (u64s a) (0, 0) _ HVA.out Tryd.underlying24 rfl (info8a _) ?_)
                  | (refine wpList_store_row rfl 22 _ _ rfl w2.heap.size (u8s c) rfl rfl 22 (u8s (fun _ => 0)) (row_new _ _ _) (info8c _) rfl (one8c _) ?_)
                  | (refine wpList_store_row rfl 24 _ _ rfl (w2.heap.size + 1) (u64s a) rfl rfl 24 (u64s (fun _ => 0)) HVZ.out (info8a _) rfl (one8a _) ?_))
                clear hsz HVA
                have HC : Hid (Row ((((w2.alloc (Obj.cells #[.int .u8 0, .int .u8 0, .int .u8 0, .int .u8 0, .int .u8 0, .int .u8 0, .int .u8 0, .int .u8 0] 22)).setRow w2.heap.size (u8s c)).alloc (Obj.cells #[.int .u64 0, .int .u64 0, .int .u64 0, .int .u64 0, .int .u64 0, .int .u64 0, .int .u64 0, .int .u64 0] 24)).setRow (w2.heap.size + 1) (u64s a)) w2.heap.size 22 (u8s (mixF n (n + 1) c d))) := by
                  rw [mix_start]
                  exact (row_old ((row_new _ _ _).setRow _) _).setRow_ne (by omega) _
                have HD : Hid (Row ((((w2.alloc (Obj.cells #[.int .u8 0, .int .u8 0, .int .u8 0, .int .u8 0, .int .u8 0, .int .u8 0, .int .u8 0, .int .u8 0] 22)).setRow w2.heap.size (u8s c)).alloc (Obj.cells #[.int .u64 0, .int .u64 0, .int .u64 0, .int .u64 0, .int .u64 0, .int .u64 0, .int .u64 0, .int .u64 0] 24)).setRow (w2.heap.size + 1) (u64s a)) (w2.heap.size + 1) 24 (u64s (mixF n (n + 1) a b))) := by
                  rw [mix_start]
                  exact HVZ.out.setRow _
                have hbx : Below w2.heap.size w2 ((((w2.alloc (Obj.cells #[.int .u8 0, .int .u8 0, .int .u8 0, .int .u8 0, .int .u8 0, .int .u8 0, .int .u8 0, .int .u8 0] 22)).setRow w2.heap.size (u8s c)).alloc (Obj.cells #[.int .u64 0, .int .u64 0, .int .u64 0, .int .u64 0, .int .u64 0, .int .u64 0, .int .u64 0, .int .u64 0] 24)).setRow (w2.heap.size + 1) (u64s a)) := below_setRow (Below.alloc (below_setRow (Below.alloc (Below.refl _ _) (Nat.le_refl _) _) (Nat.le_refl _) _) (by rw [sz_setRow, sz_alloc]; exact Nat.le_succ _) _) (Nat.le_succ _) _
                replace HV := Lib.hid (HV.out.next hbx)
                have HS : Hid (w.heap.size + 4 ≤ w2.heap.size) := HV2S
                have HSX : Hid (w2.heap.size + 2 ≤ ((((w2.alloc (Obj.cells #[.int .u8 0, .int .u8 0, .int .u8 0, .int .u8 0, .int .u8 0, .int .u8 0, .int .u8 0, .int .u8 0] 22)).setRow w2.heap.size (u8s c)).alloc (Obj.cells #[.int .u64 0, .int .u64 0, .int .u64 0, .int .u64 0, .int .u64 0, .int .u64 0, .int .u64 0, .int .u64 0] 24)).setRow (w2.heap.size + 1) (u64s a)).heap.size) := by show _ ≤ _; rw [sz_setRow, sz_alloc, sz_setRow, sz_alloc]; exact Nat.le_refl _
                clear hbx HVZ
                generalize ((((w2.alloc (Obj.cells #[.int .u8 0, .int .u8 0, .int .u8 0, .int .u8 0, .int .u8 0, .int .u8 0, .int .u8 0, .int .u8 0] 22)).setRow w2.heap.size (u8s c)).alloc (Obj.cells #[.int .u64 0, .int .u64 0, .int .u64 0, .int .u64 0, .int .u64 0, .int .u64 0, .int .u64 0, .int .u64 0] 24)).setRow (w2.heap.size + 1) (u64s a)) = w3 at *
                go_loopg [25] g (fun gg i wr => ∃ q : Nat, q + gg = 8 ∧ n < q ∧ i = .int .i64 q ∧ Hid (Have w c a d b wr) ∧ Hid (Row wr w2.heap.size 22 (u8s (mixF n q c d))) ∧ Hid (Row wr (w2.heap.size + 1) 24 (u64s (mixF n q a b))) ∧ Hid (w2.heap.size + 2 ≤ wr.heap.size))
                case atStart => exact ⟨n + 1, by omega, by omega, by go_num, HV, HC, HD, HSX⟩
                case round =>
                  obtain ⟨q, hq, hnq, rfl, HV, HC, HD, HSX⟩ := hrel
                  cases gk with
                  | zero =>
                    obtain rfl : q = 8 := by omega
                    have OC : Hid (OkC (mixF n 8 c d)) := fun j => by unfold mixF; cases (Nat.blt n j && Nat.blt j 8); exact hc.out j; exact hd.out j
                    have OA : Hid (OkA (mixF n 8 a b)) := fun j => by unfold mixF; cases (Nat.blt n j && Nat.blt j 8); exact ha.out j; exact hb.out j
                    have hN8 : n < 8 := by omega
                    have same : chkB (mixF n 8 c d) (mixF n 8 a b) mode kind x s = chkB c a mode kind x s := (chk_behind HY.out hN8 (fun j hj => (mix_le hj).symm) (fun j hj => (mix_le hj).symm) HM.out HQ.out).symm
                    have free : Hid (lockB (c n) = false → s = 1 ∨ s = 2 ∨ s = 4 → chkB c a 3 kind x s = true) := fun h1 h2 => chk_free HY.out (HK.out h2) hN8 HM.out HQ.out HP.out h1
                    have HC1 := Lib.hid (fun v hv => Check_c (mixF n 8 c d) (mixF n 8 a b) mode kind x s OC OA HX v hv)
                    have HC2 := Lib.hid (fun v hv => Check_c c a mode kind x s hc ha HX v hv)
                    have HC3 := Lib.hid (fun v hv => Check_c c a 3 kind x s hc ha HX v hv)
                    rw [same] at HC1
                    obtain ⟨R, eR⟩ : ∃ R, R = chkB c a mode kind x s := ⟨_, rfl⟩
                    obtain ⟨T, eT⟩ : ∃ T, T = chkB c a 3 kind x s := ⟨_, rfl⟩
                    rw [← eR] at HC1 HC2
                    rw [← eT] at HC3 free
                    obtain ⟨c', ec⟩ : ∃ c', c' = mixF n 8 c d := ⟨_, rfl⟩
                    obtain ⟨a', ea⟩ : ∃ a', a' = mixF n 8 a b := ⟨_, rfl⟩
                    rw [← ec, ← ea] at HC1
                    rw [← ec] at HC
                    rw [← ea] at HD
                    have a128 := and128 (c n) (hc.out n)
                    have hlk : ((((c n / 128 * 128 : Nat) : Int)) == 0) = !lockB (c n) := by
                      have := hc.out n
                      unfold lockB
                      rw [Bool.eq_iff_iff]; simp; omega
                    obtain ⟨z, ez⟩ : ∃ z, z = c n / 128 * 128 := ⟨_, rfl⟩
                    rw [← ez] at a128 hlk
                    obtain ⟨L, eL⟩ : ∃ L, L = lockB (c n) := ⟨_, rfl⟩
                    rw [← eL] at hlk free
                    have q1 : ∀ dd os, Calls Tryd.prog 11 #[.agg (u8s c'), .agg (u64s a'), .int .i64 mode, .int .i64 kind, .int .u64 x, .int .i64 s] (grow (redrawn wr dd) os) fun e w'' => e = .returned (.bool R) ∧ ∃ p : Regrown, w'' = grow (redrawn wr p.d) p.os := fun dd os => q_b (HC1.out _ (g_regrown HV.out.2.2.2.2.2.2 dd os))
                    have q2 : ∀ dd os, Calls Tryd.prog 11 #[.agg (u8s c), .agg (u64s a), .int .i64 mode, .int .i64 kind, .int .u64 x, .int .i64 s] (grow (redrawn wr dd) os) fun e w'' => e = .returned (.bool R) ∧ ∃ p : Regrown, w'' = grow (redrawn wr p.d) p.os := fun dd os => q_b (HC2.out _ (g_regrown HV.out.2.2.2.2.2.2 dd os))
                    clear hq hnq hN8 same eR eT ec ea ez eL HC1 HC2 HM HQ HP HK HY OC OA
                    go_wp2_with fail
                    refine wp_region_quiet_below (by kernel_rfl) (by kernel_rfl) ?_
                    repeat (first
                      | go_big_quiet_skip
                      | (go_big_quiet_want; first
                          | (refine quiet_load_row 22 _ rfl (w2.heap.size) rfl 22 (u8s c') _ HC.out Tryd.underlying22 rfl (info8c _) ?_; simp only [Act.put, List.setIfInBounds_toArray, List.set_cons_succ, List.set_cons_zero]; go_big_quiet_on)
                          | (refine quiet_load_row 24 _ rfl (w2.heap.size + 1) rfl 24 (u64s a') _ HD.out Tryd.underlying24 rfl (info8a _) ?_; simp only [Act.put, List.setIfInBounds_toArray, List.set_cons_succ, List.set_cons_zero]; go_big_quiet_on)
                          | (refine quiet_load_row 22 _ rfl (w.heap.size) rfl 22 (u8s c) _ HV.out.1 Tryd.underlying22 rfl (info8c _) ?_; simp only [Act.put, List.setIfInBounds_toArray, List.set_cons_succ, List.set_cons_zero]; go_big_quiet_on)
                          | (refine quiet_load_row 24 _ rfl (w.heap.size + 1) rfl 24 (u64s a) _ HV.out.2.1 Tryd.underlying24 rfl (info8a _) ?_; simp only [Act.put, List.setIfInBounds_toArray, List.set_cons_succ, List.set_cons_zero]; go_big_quiet_on)
                          | (go_big_quiet_op; first | go_big_quiet_on | go_big_quiet_call ((first | (go_at_call_of 11 (Value.agg (u8s c')); exact q1 _ _) | (go_at_call_of 11 (Value.agg (u8s c)); exact q2 _ _))))))
                    refine wpQuiet_nil ?_
                    intro _ hw'
                    obtain ⟨⟨dq, osq⟩, hw''⟩ := hw'
                    subst hw''
                    have hb := below_regrown wr dq osq
                    replace HV := Lib.hid (HV.out.next hb)
                    generalize grow (redrawn wr dq) osq = w5 at hb HV ⊢
                    clear q1 q2 hb HC HD HSX HS HV2S
                    have cn := HV.out.1.cell n
                    rw [u8s_at c n (by omega)] at cn
                    have k0 : w5.cell? ⟨w.heap.size, 0, none⟩ = some (.int .u8 (c 0 : Nat)) := by rw [HV.out.1.cell 0]; exact u8s_at c 0 (by decide)
                    have l0 : w5.cell? ⟨w.heap.size + 1, 0, none⟩ = some (.int .u64 (a 0 : Nat)) := by rw [HV.out.2.1.cell 0]; exact u64s_at a 0 (by decide)
                    have k1 : w5.cell? ⟨w.heap.size, 1, none⟩ = some (.int .u8 (c 1 : Nat)) := by rw [HV.out.1.cell 1]; exact u8s_at c 1 (by decide)
                    have l1 : w5.cell? ⟨w.heap.size + 1, 1, none⟩ = some (.int .u64 (a 1 : Nat)) := by rw [HV.out.2.1.cell 1]; exact u64s_at a 1 (by decide)
                    have k2 : w5.cell? ⟨w.heap.size, 2, none⟩ = some (.int .u8 (c 2 : Nat)) := by rw [HV.out.1.cell 2]; exact u8s_at c 2 (by decide)
                    have l2 : w5.cell? ⟨w.heap.size + 1, 2, none⟩ = some (.int .u64 (a 2 : Nat)) := by rw [HV.out.2.1.cell 2]; exact u64s_at a 2 (by decide)
                    have k3 : w5.cell? ⟨w.heap.size, 3, none⟩ = some (.int .u8 (c 3 : Nat)) := by rw [HV.out.1.cell 3]; exact u8s_at c 3 (by decide)
                    have l3 : w5.cell? ⟨w.heap.size + 1, 3, none⟩ = some (.int .u64 (a 3 : Nat)) := by rw [HV.out.2.1.cell 3]; exact u64s_at a 3 (by decide)
                    have k4 : w5.cell? ⟨w.heap.size, 4, none⟩ = some (.int .u8 (c 4 : Nat)) := by rw [HV.out.1.cell 4]; exact u8s_at c 4 (by decide)
                    have l4 : w5.cell? ⟨w.heap.size + 1, 4, none⟩ = some (.int .u64 (a 4 : Nat)) := by rw [HV.out.2.1.cell 4]; exact u64s_at a 4 (by decide)
                    have k5 : w5.cell? ⟨w.heap.size, 5, none⟩ = some (.int .u8 (c 5 : Nat)) := by rw [HV.out.1.cell 5]; exact u8s_at c 5 (by decide)
                    have l5 : w5.cell? ⟨w.heap.size + 1, 5, none⟩ = some (.int .u64 (a 5 : Nat)) := by rw [HV.out.2.1.cell 5]; exact u64s_at a 5 (by decide)
                    have k6 : w5.cell? ⟨w.heap.size, 6, none⟩ = some (.int .u8 (c 6 : Nat)) := by rw [HV.out.1.cell 6]; exact u8s_at c 6 (by decide)
                    have l6 : w5.cell? ⟨w.heap.size + 1, 6, none⟩ = some (.int .u64 (a 6 : Nat)) := by rw [HV.out.2.1.cell 6]; exact u64s_at a 6 (by decide)
                    have k7 : w5.cell? ⟨w.heap.size, 7, none⟩ = some (.int .u8 (c 7 : Nat)) := by rw [HV.out.1.cell 7]; exact u8s_at c 7 (by decide)
                    have l7 : w5.cell? ⟨w.heap.size + 1, 7, none⟩ = some (.int .u64 (a 7 : Nat)) := by rw [HV.out.2.1.cell 7]; exact u64s_at a 7 (by decide)
                    cases L with
                    | true =>
                      have hz : ((z : Int) == 0) = false := hlk
                      clear hlk free
                      go_wp2_with fail
                      go_ret
                      exact retB_mk rfl HV.out.2.2.2.2.1
                    | false =>
                      have hz : ((z : Int) == 0) = true := hlk
                      clear hlk
                      by_cases h3 : s = 3
                      · subst h3
                        clear free
                        go_wp2_with fail
                        go_ret
                        exact retB_mk rfl HV.out.2.2.2.2.1
                      · have h3' : ¬ ((s : Int) = 3) := by omega
                        by_cases h5 : s < 5
                        · have h5' : (s : Int) < 5 := by omega
                          have hT : T = true := free.out rfl (by omega)
                          subst hT
                          clear free
                          go_wp2_with fail
                          refine (HC3.out _ HV.out.2.2.2.2.2.2).mono ?_; rintro e w6 ⟨rfl, hb⟩
                          replace HV := Lib.hid (HV.out.next hb)
                          clear hb
                          go_wp2_with fail
                          go_ret
                          exact retB_mk rfl HV.out.2.2.2.2.1
                        · have h5' : ¬ ((s : Int) < 5) := by omega
                          clear free
                          go_wp2_with fail
                          go_ret
                          exact retB_mk rfl HV.out.2.2.2.2.1
                  | succ gg =>
                    have q8 : (q : Int) < 8 := by omega
                    have q0 : ((q : Nat) : Int).toNat = q := by omega
                    have c1 := HV.out.2.2.1.cell q
                    rw [u8s_at d q (by omega)] at c1
                    have c2 := HC.out.cell q
                    rw [u8s_at _ q (by omega)] at c2
                    have f2 := HC.out.fz q
                    have i1 : w2.heap.size ≠ w2.heap.size + 1 := by omega
                    have C1 := HC.out.set q (.int .u8 (d q : Nat))
                    rw [u8s_set _ _ _ (by omega), show setN (mixF n q c d) q (d q) = mixF n (q + 1) c d from mix_s hnq c d] at C1
                    have D1 := HD.out.set_ne (b' := w2.heap.size) i1 q (.int .u8 (d q : Nat))
                    have hb1 : Below w2.heap.size wr (wr.setCell ⟨w2.heap.size, q, none⟩ (.int .u8 (d q : Nat))) := Below.setCell (p := ⟨w2.heap.size, q, none⟩) (Below.refl _ _) (Nat.le_refl _) _
                    have V1 := HV.out.below hb1 HS.out
                    have HC1 := Lib.hid C1
                    have HD1 := Lib.hid D1
                    have HV1 := Lib.hid V1
                    have HS1 : Hid (w2.heap.size + 2 ≤ (wr.setCell ⟨w2.heap.size, q, none⟩ (.int .u8 (d q : Nat))).heap.size) := by show _ ≤ _; rw [sz_set]; exact HSX.out
                    obtain ⟨wy, hwy⟩ : ∃ wy, wy = wr.setCell ⟨w2.heap.size, q, none⟩ (.int .u8 (d q : Nat)) := ⟨_, rfl⟩
                    rw [← hwy] at HC1 HD1 HV1 HS1
                    have c3 := HV1.out.2.2.2.1.cell q
                    rw [u64s_at b q (by omega)] at c3
                    have c4 := HD1.out.cell q
                    rw [u64s_at _ q (by omega)] at c4
                    have f4 := HD1.out.fz q
                    have C2 := Lib.hid (HC1.out.set_ne (b' := w2.heap.size + 1) (fun e => i1 e.symm) q (.int .u64 (b q : Nat)))
                    have D2 := HD1.out.set q (.int .u64 (b q : Nat))
                    rw [u64s_set _ _ _ (by omega), show setN (mixF n q a b) q (b q) = mixF n (q + 1) a b from mix_s hnq a b] at D2
                    have HD2 := Lib.hid D2
                    have hb2 : Below w2.heap.size wy (wy.setCell ⟨w2.heap.size + 1, q, none⟩ (.int .u64 (b q : Nat))) := Below.setCell (p := ⟨w2.heap.size + 1, q, none⟩) (Below.refl _ _) (Nat.le_succ _) _
                    have HV2 := Lib.hid (HV1.out.below hb2 HS.out)
                    have HS2 : Hid (w2.heap.size + 2 ≤ (wy.setCell ⟨w2.heap.size + 1, q, none⟩ (.int .u64 (b q : Nat))).heap.size) := by show _ ≤ _; rw [sz_set]; exact HS1.out
                    have hqq : q + 1 + gg = 8 := by omega
                    have hnn : n < q + 1 := by omega
                    subst hwy
                    clear C1 D1 hb1 V1 D2 hb2 HC HD HV HSX hq hnq HC1 HD1 HV1 HS1 i1
                    go_wp2_with fail
                    go_roundg gg
                    case measure => omega
                    case rel => exact ⟨q + 1, hqq, hnn, by go_num, HV2, C2, HD2, HS2⟩
end Go.Proofs.YtjkpcmhepeekmaaDoor
