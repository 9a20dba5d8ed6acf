/- Address; the reference's Config and Address. -/
import Derived.Test.YtjkpcmhepeekmaaDoorB5
namespace Go.Proofs.YtjkpcmhepeekmaaDoor
open Go.ChangeShapes Go.WideShapes Go.ChangeAt Go.RowKit
set_option linter.unusedVariables false
set_option linter.unusedSimpArgs false
theorem adr_set {c a : Nat → Nat} {n v : Nat} (h : heldB c n = false) : setN a n (adr v) = adrF c a n v := by
  funext k; unfold setN adrF; rw [h, Bool.not_false, Bool.and_true]
theorem adr_keep {c a : Nat → Nat} {n v : Nat} (h : heldB c n = true) : a = adrF c a n v := by
  funext k; unfold adrF; rw [h, Bool.not_true, Bool.and_false]; rfl
/-- Three rows, one behind the other. -/
theorem rows3 (w : World) (x y z : Array Value) (t u v : TypeId) : Row (((w.alloc (Obj.cells x t)).alloc (Obj.cells y u)).alloc (Obj.cells z v)) w.heap.size t x ∧
    Row (((w.alloc (Obj.cells x t)).alloc (Obj.cells y u)).alloc (Obj.cells z v)) (w.heap.size + 1) u y ∧ Row (((w.alloc (Obj.cells x t)).alloc (Obj.cells y u)).alloc (Obj.cells z v)) (w.heap.size + 2) v z := by
  have h2 := row_new (w.alloc (Obj.cells x t)) y u
  have h3 := row_new ((w.alloc (Obj.cells x t)).alloc (Obj.cells y u)) z v
  rw [sz_alloc] at h2
  rw [sz_alloc, sz_alloc] at h3
  exact ⟨row_old (row_old (row_new _ _ _) _) _, row_old h2 _, h3⟩

set_option maxRecDepth 100000 in
theorem Address_no (c a : Nat → Nat) (n : Int) (v : Nat) (hn : Hid (¬ (0 ≤ n ∧ n < 8))) (w : World) :
    Calls Tryd.prog 15 #[.agg (u8s c), .agg (u64s a), .int .i64 n, .int .u64 v] w (RetA (u64s a) w) := by
  have HE := Lib.hid (fun v => isEntry_n n hn v)
  obtain ⟨r1, r2, r3⟩ := rows3 w (u8s c) (u64s a) (u64s (fun _ => 0)) 22 24 24
  replace r2 := Lib.hid r2
  replace r3 := Lib.hid r3
  clear hn r1
  go_enter Tryd.func15, Tryd.ntmps15
  go_wp2_with fail
  refine (HE.out _).mono ?_; rintro e w1 ⟨rfl, h⟩; replace h := h.symm; subst h
  have hB : Hid (Below w.heap.size w (((w.alloc (Obj.cells (u8s c) 22)).alloc (Obj.cells (u64s a) 24)).alloc (Obj.cells (u64s (fun _ => 0)) 24))) := by show Below _ _ _; exact (by repeat (first | (with_reducible first | exact Below.refl _ _ | assumption | exact Nat.le_refl _ | refine Below.drew ?_ | refine Below.alloc ?_ ?_ _ | refine Below.setCell ?_ ?_ _ | refine le_alloc ?_ | refine le_set ?_ | refine le_drew ?_ | refine below_step (by assumption) ?_ ?_ | refine le_below (by assumption) ?_) | (dsimp only; omega)))
  go_wp2_with (first
    | (refine wpList_load_row rfl 24 _ rfl (w.heap.size + 1) rfl 24 (u64s a) (0, 0) _ r2.out Tryd.underlying24 rfl (info8a _) ?_)
    | (refine wpList_store_row rfl 24 _ _ rfl (w.heap.size + 2) (u64s a) rfl rfl 24 (u64s (fun _ => 0)) r3.out (info8a _) rfl (one8a _) ?_))
  refine bodyPost_ret (results_cell_row rfl _ _ (w.heap.size + 2) 24 (u64s a) (0, 0) _ rfl (r3.out.setRow _) Tryd.underlying24 rfl (info8a _)) rfl ?_
  exact ⟨rfl, below_setRow hB.out (by omega) _⟩

set_option maxRecDepth 100000 in
theorem Address_c (c a : Nat → Nat) (n v : Nat) (hn : n < 8) (hc : Hid (OkC c)) (ha : Hid (OkA a)) (hv : Hid (v < 18446744073709551616)) (w : World) :
    Calls Tryd.prog 15 #[.agg (u8s c), .agg (u64s a), .int .i64 n, .int .u64 v] w (RetA (u64s (adrF c a n v)) w) := by
  have n8 : (n : Int) < 8 := by omega
  have n0 : ((n : Nat) : Int).toNat = n := by omega
  have n1 : wrap64 ((n : Int) + 1) = (n : Int) + 1 := by rw [IntWalk.wrap64_in _ ⟨by omega, by omega⟩]
  have HE := Lib.hid (fun v => isEntry_y (n : Int) (eq_true (by omega)) (eq_true n8) v)
  have HL := Lib.hid (fun v => isLocked_c (c n) (hc.out n) v)
  have HS := Lib.hid (fun v => begins_c c n hn hc v)
  have HM := mask54 v hv.out
  have c0 : (u8s c)[n]? = some (.int .u8 (c n : Nat)) := u8s_at c n hn
  obtain ⟨L, eL⟩ : ∃ L, L = lockB (c n) := ⟨_, rfl⟩
  obtain ⟨S, eS⟩ : ∃ S, S = (decide (n < 7) && lockB (c (n + 1)) && wayN (c (n + 1)) == 1) := ⟨_, rfl⟩
  have hh : Hid (heldB c n = (L || S)) := by show _ = _; rw [eL, eS]; rfl
  rw [← eL] at HL
  rw [← eS] at HS
  clear eL eS
  obtain ⟨r1, r2, r3⟩ := rows3 w (u8s c) (u64s a) (u64s (fun _ => 0)) 22 24 24
  replace r1 := Lib.hid r1
  replace r2 := Lib.hid r2
  replace r3 := Lib.hid r3
  have hB : Hid (Below w.heap.size w (((w.alloc (Obj.cells (u8s c) 22)).alloc (Obj.cells (u64s a) 24)).alloc (Obj.cells (u64s (fun _ => 0)) 24))) := by show Below _ _ _; exact (by repeat (first | (with_reducible first | exact Below.refl _ _ | assumption | exact Nat.le_refl _ | refine Below.drew ?_ | refine Below.alloc ?_ ?_ _ | refine Below.setCell ?_ ?_ _ | refine le_alloc ?_ | refine le_set ?_ | refine le_drew ?_ | refine below_step (by assumption) ?_ ?_ | refine le_below (by assumption) ?_) | (dsimp only; omega)))
  have sz : Hid ((((w.alloc (Obj.cells (u8s c) 22)).alloc (Obj.cells (u64s a) 24)).alloc (Obj.cells (u64s (fun _ => 0)) 24)).heap.size = w.heap.size + 3) := by show _ = _; simp only [sz_alloc]
  go_enter Tryd.func15, Tryd.ntmps15
  go_wp2_with fail
  refine (HE.out _).mono ?_; rintro e w1 ⟨rfl, h⟩; replace h := h.symm; subst h
  go_wp2_with fail
  refine (HL.out _).mono ?_; rintro e w1 ⟨rfl, h⟩; replace h := h.symm; subst h
  cases L with
  | true =>
    go_wp2_with (first
      | (refine wpList_load_row rfl 24 _ rfl (w.heap.size + 1) rfl 24 (u64s a) (0, 0) _ r2.out Tryd.underlying24 rfl (info8a _) ?_)
      | (refine wpList_store_row rfl 24 _ _ rfl (w.heap.size + 2) (u64s a) rfl rfl 24 (u64s (fun _ => 0)) r3.out (info8a _) rfl (one8a _) ?_))
    refine bodyPost_ret (results_cell_row rfl _ _ (w.heap.size + 2) 24 (u64s a) (0, 0) _ rfl (r3.out.setRow _) Tryd.underlying24 rfl (info8a _)) rfl ?_
    exact ⟨(by rw [← adr_keep (by rw [hh.out]; rfl)]), below_setRow hB.out (by omega) _⟩
  | false =>
    have g0 := u8s_at c 0 (by decide); have g1 := u8s_at c 1 (by decide); have g2 := u8s_at c 2 (by decide); have g3 := u8s_at c 3 (by decide)
    have g4 := u8s_at c 4 (by decide); have g5 := u8s_at c 5 (by decide); have g6 := u8s_at c 6 (by decide); have g7 := u8s_at c 7 (by decide)
    go_wp2_with fail
    clear g0 g1 g2 g3 g4 g5 g6 g7
    refine (HS.out _).mono ?_; rintro e w1 ⟨rfl, hb⟩
    replace r2 := Lib.hid (r2.out.below hb (by simp only [sz_alloc]; omega))
    replace r3 := Lib.hid (r3.out.below hb (by simp only [sz_alloc]; omega))
    replace hB := Lib.hid (below_step hb hB.out hB.out.size)
    clear hb sz r1
    cases S with
    | true =>
      go_wp2_with (first
        | (refine wpList_load_row rfl 24 _ rfl (w.heap.size + 1) rfl 24 (u64s a) (0, 0) _ r2.out Tryd.underlying24 rfl (info8a _) ?_)
        | (refine wpList_store_row rfl 24 _ _ rfl (w.heap.size + 2) (u64s a) rfl rfl 24 (u64s (fun _ => 0)) r3.out (info8a _) rfl (one8a _) ?_))
      refine bodyPost_ret (results_cell_row rfl _ _ (w.heap.size + 2) 24 (u64s a) (0, 0) _ rfl (r3.out.setRow _) Tryd.underlying24 rfl (info8a _)) rfl ?_
      exact ⟨(by rw [← adr_keep (by rw [hh.out]; rfl)]), below_setRow hB.out (by omega) _⟩
    | false =>
      have rc := r2.out.cell n
      rw [u64s_at _ n hn] at rc
      have rf := r2.out.fz n
      have i0 : w.heap.size + 1 ≠ w.heap.size + 2 := by omega
      have RN : Hid (Row (w1.setCell ⟨w.heap.size + 1, n, none⟩ (.int .u64 (adr v : Nat))) (w.heap.size + 1) 24 (u64s (adrF c a n v))) := by
        have := r2.out.set n (.int .u64 (adr v : Nat))
        rw [u64s_set _ _ _ hn, adr_set (by rw [hh.out]; rfl)] at this
        exact this
      replace r3 := Lib.hid (r3.out.set_ne (b' := w.heap.size + 1) i0 n (.int .u64 (adr v : Nat)))
      replace hB := Lib.hid (show Below w.heap.size w (w1.setCell ⟨w.heap.size + 1, n, none⟩ (.int .u64 (adr v : Nat))) from Below.setCell hB.out (Nat.le_succ _) _)
      replace r2 := RN
      clear RN
      go_wp2_with (first
        | (refine wpList_load_row rfl 24 _ rfl (w.heap.size + 1) rfl 24 (u64s (adrF c a n v)) (0, 0) _ r2.out Tryd.underlying24 rfl (info8a _) ?_)
        | (refine wpList_store_row rfl 24 _ _ rfl (w.heap.size + 2) (u64s (adrF c a n v)) rfl rfl 24 (u64s (fun _ => 0)) r3.out (info8a _) rfl (one8a _) ?_))
      refine bodyPost_ret (results_cell_row rfl _ _ (w.heap.size + 2) 24 (u64s (adrF c a n v)) (0, 0) _ rfl (r3.out.setRow _) Tryd.underlying24 rfl (info8a _)) rfl ?_
      exact ⟨rfl, below_setRow hB.out (by omega) _⟩

theorem bit_lock (c : Nat) (h : c < 256) : (c / 128 % 2 == 1) = lockB c := by
  unfold lockB; rw [Bool.eq_iff_iff]; simp; omega
theorem bit_odd (b : Nat) : oddB b = ((b / 2 % 2 == 1) && !(b / 1 % 2 == 1)) := by
  unfold oddB
  have h1 : b % 4 = 0 ∨ b % 4 = 1 ∨ b % 4 = 2 ∨ b % 4 = 3 := by omega
  rcases h1 with h | h | h | h
  · rw [h, show b / 2 % 2 = 0 by omega]; rfl
  · rw [h, show b / 2 % 2 = 0 by omega]; rfl
  · rw [h, show b / 2 % 2 = 1 by omega, show b / 1 % 2 = 0 by omega]; rfl
  · rw [h, show b / 2 % 2 = 1 by omega, show b / 1 % 2 = 1 by omega]; rfl
theorem shift_s (v n : Nat) : v / 2 ^ (8 * (n + 1)) = v / 2 ^ (8 * n) / 256 := by
  rw [Nat.div_div_eq_div_mul, show (256 : Nat) = 2 ^ 8 from rfl, ← Nat.pow_add]; rfl
set_option maxRecDepth 100000 in
theorem ConfigR_c (c : Nat → Nat) (v : Nat) (hc : Hid (OkC c)) (hv : Hid (v < 18446744073709551616)) (w : World) : Calls Tryd.prog 14 #[.agg (u8s c), .int .u64 v] w (RetA (u8s (cfgF c v)) w) := by
  have rr := rows3 w (u8s c) (u8s (fun _ => 0)) (u8s (fun _ => 0)) 22 22 22
  obtain ⟨W0, hW0⟩ : ∃ W0, W0 = (((w.alloc (Obj.cells (u8s c) 22)).alloc (Obj.cells (u8s (fun _ => 0)) 22)).alloc (Obj.cells (u8s (fun _ => 0)) 22)).setRow (w.heap.size + 2) (u8s c) := ⟨_, rfl⟩
  have R0 := Lib.hid rr.2.2
  have R1 : Hid (Row W0 w.heap.size 22 (u8s c)) := by show Row _ _ _ _; rw [hW0]; exact rr.1.setRow_ne (by omega) _
  have R2 : Hid (Row W0 (w.heap.size + 1) 22 (u8s (fun _ => 0))) := by show Row _ _ _ _; rw [hW0]; exact rr.2.1.setRow_ne (by omega) _
  have R3 : Hid (Row W0 (w.heap.size + 2) 22 (u8s (upto 0 (cfgF c v) c))) := by show Row _ _ _ _; rw [hW0, upto_0]; exact rr.2.2.setRow _
  have HB : Hid (Below w.heap.size w W0) := by show Below _ _ _; rw [hW0]; exact below_setRow (by exact (by repeat (first | (with_reducible first | exact Below.refl _ _ | assumption | exact Nat.le_refl _ | refine Below.drew ?_ | refine Below.alloc ?_ ?_ _ | refine Below.setCell ?_ ?_ _ | refine le_alloc ?_ | refine le_set ?_ | refine le_drew ?_ | refine below_step (by assumption) ?_ ?_ | refine le_below (by assumption) ?_) | (dsimp only; omega)))) (by omega) _
  have HV : Hid (v = v / 2 ^ (8 * 0)) := by show _ = _; rw [Nat.mul_zero, Nat.pow_zero, Nat.div_one]
  have HW := Lib.hid hW0
  clear rr hW0
  go_enter Tryd.func14, Tryd.ntmps14
  go_wp2_with (first
    | (refine wpList_load_row rfl 22 _ rfl w.heap.size rfl 22 (u8s c) (0, 0) _ (row_old (row_new _ _ _) _) Tryd.underlying22 rfl (info8c c) ?_)
    | (refine wpList_store_row rfl 22 _ _ rfl (w.heap.size + 2) (u8s c) rfl rfl 22 (u8s (fun _ => 0)) R0.out (info8c _) rfl (one8c _) ?_))
  clear R0
  go_loopg [1, 6] 8 (fun g s1 i wr => ∃ n V : Nat, n + g = 8 ∧ i = .int .i64 n ∧ s1 = .int .u64 V ∧ Hid (V = v / 2 ^ (8 * n)) ∧ Hid (Row wr w.heap.size 22 (u8s c)) ∧ Hid (Row wr (w.heap.size + 1) 22 (u8s (fun _ => 0))) ∧ Hid (Row wr (w.heap.size + 2) 22 (u8s (upto n (cfgF c v) c))) ∧ Hid (Below w.heap.size w wr))
  case atStart => exact ⟨0, v, rfl, rfl, rfl, HV, HW.out ▸ R1, HW.out ▸ R2, HW.out ▸ R3, HW.out ▸ HB⟩
  case round =>
    obtain ⟨n, V, hn, rfl, rfl, HV2, r1, r2, r3, hB⟩ := hrel
    clear R1 R2 R3 HB HW HV
    cases gk with
    | zero =>
      obtain rfl : n = 8 := by omega
      have r3' : Hid (Row wr (w.heap.size + 2) 22 (u8s (cfgF c v))) := by have := r3.out; rw [upto_all] at this; exact this
      clear r1 r3
      go_wp2_with (first
        | (refine wpList_load_row rfl 22 _ rfl (w.heap.size + 2) rfl 22 (u8s (cfgF c v)) (0, 0) _ r3'.out Tryd.underlying22 rfl (info8c _) ?_)
        | (refine wpList_store_row rfl 22 _ _ rfl (w.heap.size + 1) (u8s (cfgF c v)) rfl rfl 22 (u8s (fun _ => 0)) r2.out (info8c _) rfl (one8c _) ?_))
      refine bodyPost_ret (results_cell_row rfl _ _ (w.heap.size + 1) 22 (u8s (cfgF c v)) (0, 0) _ rfl (r2.out.setRow _) Tryd.underlying22 rfl (info8c _)) rfl ?_
      exact ⟨rfl, below_setRow hB.out (by omega) _⟩
    | succ g =>
      have n8 : (n : Int) < 8 := by omega
      have n0 : ((n : Nat) : Int).toNat = n := by omega
      have HL := Lib.hid (fun v => bit_7 (c n) (hc.out n) v)
      rw [bit_lock (c n) (hc.out n)] at HL
      obtain ⟨L, eL⟩ : ∃ L, L = lockB (c n) := ⟨_, rfl⟩
      obtain ⟨y, hy⟩ : ∃ y, y = byteF v n := ⟨_, rfl⟩
      have hyV : y = V % 256 := by rw [hy, HV2.out]; rfl
      have b256 : y < 256 := by omega
      have HO1 := Lib.hid (fun u => bit_1 y b256 u)
      have HO0 := Lib.hid (fun u => bit_0 y b256 u)
      have ho := bit_odd y
      obtain ⟨O1, e1⟩ : ∃ O, (y / 2 % 2 == 1) = O := ⟨_, rfl⟩
      obtain ⟨O0, e0⟩ : ∃ O, (y / 1 % 2 == 1) = O := ⟨_, rfl⟩
      rw [e1] at HO1 ho
      rw [e0] at HO0 ho
      have hf : cfgF c v n = (bif L || (O1 && !O0) then c n else cleanF y) := by rw [← ho, eL, hy]; rfl
      rw [← eL] at HL
      have a1 := and159 y b256
      have hVl : V < 18446744073709551616 := by have := hv.out; rw [HV2.out]; exact Nat.lt_of_le_of_lt (Nat.div_le_self _ _) this
      have e8 : (V : Int) % 256 = (y : Int) := by omega
      have e9 : IntKind.u64.wrap ((V : Int) / 256) = ((V / 256 : Nat) : Int) := by rw [IntKind.wrap_u64]; omega
      have HVN : Hid (V / 256 = v / 2 ^ (8 * (n + 1))) := by show _ = _; rw [shift_s, ← HV2.out]
      have c0 := r1.out.cell n
      rw [u8s_at c n (by omega)] at c0
      have rc := r3.out.cell n
      rw [u8s_at _ n (by omega)] at rc
      have rf := r3.out.fz n
      have HF := Lib.hid hf
      have HN1 : n + 1 + g = 8 := by omega
      have i0 : w.heap.size + 2 ≠ w.heap.size + 1 := by omega
      have i1 : w.heap.size + 2 ≠ w.heap.size := by omega
      have N8 : n < 8 := by omega
      -- the round's end, where nothing is written and where it is
      have kept : Hid (cfgF c v n = c n → Row wr (w.heap.size + 2) 22 (u8s (upto (n + 1) (cfgF c v) c))) := fun h => by
        have := r3.out; rw [upto_keep _ _ _ h] at this; exact this
      clear eL b256 hf hy hyV hn ho e1 e0 hVl HV2
      go_wp2_with fail
      refine (HL.out _).mono ?_; rintro e w1 ⟨rfl, h⟩; replace h := h.symm; subst h
      go_wp2_with fail
      refine (HO1.out _).mono ?_; rintro e w1 ⟨rfl, h⟩; replace h := h.symm; subst h
      cases O1
      case true =>
        go_wp2_with fail
        refine (HO0.out _).mono ?_; rintro e w1 ⟨rfl, h⟩; replace h := h.symm; subst h
        cases L
        case true =>
          have RN := Lib.hid (kept.out (by rw [HF.out]; rfl))
          clear r3 kept
          cases O0 <;> go_wp2_with fail
          all_goals
            go_roundg g
            case measure => omega
            case rel => exact ⟨n + 1, V / 256, by omega, by go_num, by first | rfl | rw [e9], HVN, r1, r2, RN, hB⟩
        case false =>
          cases O0
          case false =>
            have RN := Lib.hid (kept.out (by rw [HF.out]; rfl))
            clear r3 kept
            go_wp2_with fail
            go_roundg g
            case measure => omega
            case rel => exact ⟨n + 1, V / 256, by omega, by go_num, by first | rfl | rw [e9], HVN, r1, r2, RN, hB⟩
          case true =>
            have RN : Hid (Row (w1.setCell ⟨w.heap.size + 2, n, none⟩ (.int .u8 (cleanF y : Nat))) (w.heap.size + 2) 22 (u8s (upto (n + 1) (cfgF c v) c))) := by
              have := r3.out.set n (.int .u8 (cleanF y : Nat))
              rw [u8s_set _ _ _ N8, show cleanF y = cfgF c v n by rw [HF.out]; rfl, upto_s _ _ _ N8] at this
              rw [show cleanF y = cfgF c v n by rw [HF.out]; rfl]
              exact this
            have R1 := Lib.hid (r1.out.set_ne (b' := w.heap.size + 2) i1 n (.int .u8 (cleanF y : Nat)))
            have R2 := Lib.hid (r2.out.set_ne (b' := w.heap.size + 2) i0 n (.int .u8 (cleanF y : Nat)))
            have HB := Lib.hid (show Below w.heap.size w (w1.setCell ⟨w.heap.size + 2, n, none⟩ (.int .u8 (cleanF y : Nat))) from Below.setCell hB.out (Nat.le_add_right _ 2) _)
            clear r1 r2 hB r3 kept
            go_wp2_with fail
            go_roundg g
            case measure => omega
            case rel => exact ⟨n + 1, V / 256, by omega, by go_num, by first | rfl | rw [e9], HVN, R1, R2, RN, HB⟩
      case false =>
        cases L
        case true =>
          have RN := Lib.hid (kept.out (by rw [HF.out]; rfl))
          clear r3 kept
          go_wp2_with fail
          go_roundg g
          case measure => omega
          case rel => exact ⟨n + 1, V / 256, by omega, by go_num, by first | rfl | rw [e9], HVN, r1, r2, RN, hB⟩
        case false =>
          have RN : Hid (Row (w1.setCell ⟨w.heap.size + 2, n, none⟩ (.int .u8 (cleanF y : Nat))) (w.heap.size + 2) 22 (u8s (upto (n + 1) (cfgF c v) c))) := by
            have := r3.out.set n (.int .u8 (cleanF y : Nat))
            rw [u8s_set _ _ _ N8, show cleanF y = cfgF c v n by rw [HF.out]; rfl, upto_s _ _ _ N8] at this
            rw [show cleanF y = cfgF c v n by rw [HF.out]; rfl]
            exact this
          have R1 := Lib.hid (r1.out.set_ne (b' := w.heap.size + 2) i1 n (.int .u8 (cleanF y : Nat)))
          have R2 := Lib.hid (r2.out.set_ne (b' := w.heap.size + 2) i0 n (.int .u8 (cleanF y : Nat)))
          have HB := Lib.hid (show Below w.heap.size w (w1.setCell ⟨w.heap.size + 2, n, none⟩ (.int .u8 (cleanF y : Nat))) from Below.setCell hB.out (Nat.le_add_right _ 2) _)
          clear r1 r2 hB r3 kept
          go_wp2_with fail
          go_roundg g
          case measure => omega
          case rel => exact ⟨n + 1, V / 256, by omega, by go_num, by first | rfl | rw [e9], HVN, R1, R2, RN, HB⟩
end Go.Proofs.YtjkpcmhepeekmaaDoor
