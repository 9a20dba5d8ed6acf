/- The reference's Check. -/
import Derived.Test.YtjkpcmhepeekmaaDoorB4
namespace Go.Proofs.YtjkpcmhepeekmaaDoor
open Go.ChangeShapes Go.WideShapes Go.ChangeAt Go.RowKit
set_option linter.unusedVariables false
set_option linter.unusedSimpArgs false

set_option maxRecDepth 100000 in
set_option maxHeartbeats 1000000 in
theorem CheckR_4 (c a : Nat → Nat) (mode : Int) (x k : Nat) (hk : k < 4) (hxs : Hid (x + 4 ≤ 18446744073709551616)) (hc : Hid (OkC c)) (ha : Hid (OkA a)) (hx : Hid (x < 18446744073709551616)) (m : Bool) (hm : (mode == 3) = m) (w : World) :
    Calls Tryd.prog 12 #[.agg (u8s c), .agg (u64s a), .int .i64 mode, .int .i64 k, .int .u64 x, .int .i64 4] w (RetB (goF c a m k x (x + 4 - 1) 8) w) := by
  have k0 : ¬ (k : Int) < 0 := by omega
  have k3 : ¬ (k : Int) > 3 := by omega
  have k3' : (k : Int) ≤ 3 := by omega
  have x1 : decide ((18446744073709551612 : Int) < (x : Int)) = false := by have := hxs.out; rw [decide_eq_false_iff_not]; omega
  obtain ⟨R, hR⟩ : ∃ R, R = goF c a m k x (x + 4 - 1) 8 := ⟨_, rfl⟩
  rw [← hR]
  have HR := Lib.hid hR
  have HK := Lib.hid hk
  clear hR hk
  go_enter Tryd.func12, Tryd.ntmps12
  go_wp2_with fail
  go_loopg [13] 8 (fun g i wr => ∃ n : Nat, n + g = 8 ∧ i = .int .i64 n ∧ Hid (R = goF c a m k x (x + 4 - 1) g) ∧ Hid (Row wr w.heap.size 22 (u8s c)) ∧ Hid (Row wr (w.heap.size + 1) 24 (u64s a)) ∧ Hid (Below w.heap.size w wr) ∧ Hid (w.heap.size + 2 ≤ wr.heap.size))
  case atStart => exact ⟨0, by omega, rfl, HR, row_old (row_new _ _ _) _, by have := row_new (w.alloc (Obj.cells (u8s c) 22)) (u64s a) 24; rwa [sz_alloc] at this, by show Below _ _ _; exact (by repeat (first | (with_reducible first | exact Below.refl _ _ | assumption | exact Nat.le_refl _ | refine Below.drew ?_ | refine Below.alloc ?_ ?_ _ | refine Below.setCell ?_ ?_ _ | refine le_alloc ?_ | refine le_set ?_ | refine le_drew ?_ | refine below_step (by assumption) ?_ ?_ | refine le_below (by assumption) ?_) | (dsimp only; omega))), by show _ ≤ _; simp only [sz_alloc]; omega⟩
  case round =>
    obtain ⟨n, hn, rfl, hI, r1, r2, hB, hS⟩ := hrel
    clear HR
    cases gk with
    | zero =>
      obtain rfl : n = 8 := by omega
      go_wp2_with fail
      go_ret
      exact retB_mk hI.out.symm hB.out
    | succ g =>
      have n8 : (n : Int) < 8 := by omega
      have n0 : ((n : Nat) : Int).toNat = n := by omega
      have HRg := Lib.hid (fun v => RangeR_c c a n (by omega) hc ha v)
      have HBt := Lib.hid (fun v => bit_7 (c n) (hc.out n) v)
      have HW := Lib.hid (fun v => allowr_c (c n) k HK.out (hc.out n) v)
      have hq := @go_ref c a m k x 4 n g (by decide) hn
      rw [← hI.out] at hq
      have HQ := Lib.hid hq
      have HN1 : n + 1 + g = 8 := by omega
      have hKK : rOk c a n = rOk c a n := rfl
      obtain ⟨A, eA⟩ : ∃ A, A = rA c a n := ⟨_, rfl⟩
      obtain ⟨B, eB⟩ : ∃ B, B = rB c a n := ⟨_, rfl⟩
      obtain ⟨K, eK⟩ : ∃ K, K = rOk c a n := ⟨_, rfl⟩
      have hin : Hid (∀ v, inB c a n v = (K && decide (A ≤ v) && decide (v ≤ B))) := fun v => by rw [eA, eB, eK]; rfl
      have hl : (c n / 128 % 2 == 1) = lockB (c n) := by
        have := hc.out n
        unfold lockB
        rw [Bool.eq_iff_iff]; simp; omega
      rw [hl] at HBt
      obtain ⟨L, eL⟩ : ∃ L, L = lockB (c n) := ⟨_, rfl⟩
      obtain ⟨W, eW⟩ : ∃ W, W = allowB (c n) k := ⟨_, rfl⟩
      rw [← eA, ← eB, ← eK] at HRg
      rw [← eL] at HBt HQ
      rw [← eW] at HW HQ
      have c0 : (u8s c)[n]? = some (.int .u8 (c n : Nat)) := u8s_at c n (by omega)
      clear eA eB eK eL eW hl hq hn hI hKK
      go_wp2_with (first
        | (refine wpList_load_row rfl 22 _ rfl w.heap.size rfl 22 (u8s c) (0, 0) _ r1.out Tryd.underlying22 rfl (info8c c) ?_)
        | (refine wpList_load_row rfl 24 _ rfl (w.heap.size + 1) rfl 24 (u64s a) (0, 0) _ r2.out Tryd.underlying24 rfl (info8a a) ?_))
      refine (HRg.out _).mono ?_; rintro e w1 ⟨rfl, hb⟩
      have r1' := Lib.hid (r1.out.below hb (by have := hS.out; omega))
      have r2' := Lib.hid (r2.out.below hb (by have := hS.out; omega))
      have hB' := Lib.hid (below_step hb hB.out hB.out.size)
      have hS' : Hid (w.heap.size + 2 ≤ w1.heap.size) := Nat.le_trans hS.out hb.size
      have cl : w1.cell? ⟨w.heap.size, n, none⟩ = some (.int .u8 (c n : Nat)) := by rw [r1'.out.cell]; exact c0
      clear hb r1 r2 hB hS
      go_wp2_with fail
      go_loopg [17, 18, 19] 4 (fun g s17 s18 s19 wx => ∃ i : Nat, i + g = 4 ∧ s19 = .int .i64 i ∧ s17 = .bool (someB c a n x i) ∧ s18 = .bool (allB c a n x i) ∧ w1 = wx)
      case atStart => exact ⟨0, rfl, rfl, rfl, rfl, rfl⟩
      case round =>
        obtain ⟨i, hi, rfl, rfl, rfl, rfl⟩ := hrel
        cases gk with
        | zero =>
          obtain rfl : i = 4 := by omega
          obtain ⟨S, eS⟩ : ∃ S, S = someB c a n x 4 := ⟨_, rfl⟩
          obtain ⟨T, eT⟩ : ∃ T, T = allB c a n x 4 := ⟨_, rfl⟩
          rw [← eS, ← eT] at HQ
          rw [← eS, ← eT]
          clear eS eT hin HRg
          cases S with
          | false =>
            have HN : Hid (R = goF c a m k x (x + 4 - 1) g) := HQ.out
            clear HQ
            go_wp2_with fail
            go_roundg g
            case measure => omega
            case rel => exact ⟨n + 1, by omega, by go_num, HN, r1', r2', hB', hS'⟩
          | true =>
            have HN : Hid (R = (T && ((m && !L) || W))) := HQ.out
            clear HQ
            go_wp2_with fail
            refine (HBt.out _).mono ?_; rintro e w2 ⟨rfl, h⟩; replace h := h.symm; subst h
            cases m with
            | false =>
              cases T with
              | false =>
                go_wp2_with fail
                go_ret
                exact retB_mk (by rw [HN.out]; rfl) hB'.out
              | true =>
                go_wp2_with fail
                refine (HW.out _).mono ?_; rintro e w3 ⟨rfl, h⟩; replace h := h.symm; subst h
                go_wp2_with fail
                go_ret
                exact retB_mk (by rw [HN.out]; cases W <;> rfl) hB'.out
            | true =>
              cases T with
              | false =>
                cases L <;> go_wp2_with fail
                all_goals go_ret
                all_goals exact retB_mk (by rw [HN.out]; rfl) hB'.out
              | true =>
                cases L with
                | false =>
                  go_wp2_with fail
                  go_ret
                  exact retB_mk (by rw [HN.out]; rfl) hB'.out
                | true =>
                  go_wp2_with fail
                  refine (HW.out _).mono ?_; rintro e w3 ⟨rfl, h⟩; replace h := h.symm; subst h
                  go_wp2_with fail
                  go_ret
                  exact retB_mk (by rw [HN.out]; cases W <;> rfl) hB'.out
        | succ gg =>
          have i8 : (i : Int) < 4 := by omega
          obtain ⟨v, hv⟩ : ∃ v, v = x + i := ⟨_, rfl⟩
          have i1 : IntKind.u64.wrap (i : Int) = i := by rw [IntKind.wrap_u64]; omega
          have i2 : IntKind.u64.wrap ((x : Int) + i) = (v : Int) := by have := hxs.out; rw [IntKind.wrap_u64]; omega
          obtain ⟨IN, eI⟩ : ∃ b, b = inB c a n v := ⟨_, rfl⟩
          have h1 : someB c a n x (i + 1) = (someB c a n x i || IN) := by rw [eI, hv]; rfl
          have h2 : allB c a n x (i + 1) = (allB c a n x i && IN) := by rw [eI, hv]; rfl
          obtain ⟨S, eS⟩ : ∃ S, S = someB c a n x i := ⟨_, rfl⟩
          obtain ⟨T, eT⟩ : ∃ T, T = allB c a n x i := ⟨_, rfl⟩
          rw [← eS] at h1
          rw [← eT] at h2
          rw [← eS, ← eT]
          have e0 := hin.out v
          rw [← eI] at e0
          clear eS eT hin HRg HQ eI hv
          cases K with
          | false =>
            obtain rfl : IN = false := e0
            have HS := Lib.hid h1
            have HL := Lib.hid h2
            clear h1 h2
            (try clear e0)
            cases S <;> cases T
            all_goals
              go_wp2_with fail
              go_roundg gg
              case measure => omega
              case rel => exact ⟨i + 1, by omega, by go_num, by first | rfl | (rw [HS.out]; rfl) | rw [HS.out], by first | rfl | (rw [HL.out]; rfl) | rw [HL.out], rfl⟩
          | true =>
            by_cases u1 : A ≤ v
            · have u1' : (A : Int) ≤ v := by omega
              by_cases u2 : v ≤ B
              · have u2' : (v : Int) ≤ B := by omega
                obtain rfl : IN = true := by rw [e0]; simp [u1, u2]
                have HS := Lib.hid h1
                have HL := Lib.hid h2
                clear h1 h2 e0 u1 u2
                cases S <;> cases T
                all_goals
                  go_wp2_with fail
                  go_roundg gg
                  case measure => omega
                  case rel => exact ⟨i + 1, by omega, by go_num, by first | rfl | (rw [HS.out]; rfl) | rw [HS.out], by first | rfl | (rw [HL.out]; rfl) | rw [HL.out], rfl⟩
              · have u2' : ¬ (v : Int) ≤ B := by omega
                obtain rfl : IN = false := by rw [e0]; simp [u1, u2]
                have HS := Lib.hid h1
                have HL := Lib.hid h2
                clear h1 h2 e0 u1 u2
                cases S <;> cases T
                all_goals
                  go_wp2_with fail
                  go_roundg gg
                  case measure => omega
                  case rel => exact ⟨i + 1, by omega, by go_num, by first | rfl | (rw [HS.out]; rfl) | rw [HS.out], by first | rfl | (rw [HL.out]; rfl) | rw [HL.out], rfl⟩
            · have u1' : ¬ (A : Int) ≤ v := by omega
              obtain rfl : IN = false := by rw [e0]; simp [u1]
              have HS := Lib.hid h1
              have HL := Lib.hid h2
              clear h1 h2 e0 u1
              cases S <;> cases T
              all_goals
                go_wp2_with fail
                go_roundg gg
                case measure => omega
                case rel => exact ⟨i + 1, by omega, by go_num, by first | rfl | (rw [HS.out]; rfl) | rw [HS.out], by first | rfl | (rw [HL.out]; rfl) | rw [HL.out], rfl⟩

end Go.Proofs.YtjkpcmhepeekmaaDoor
