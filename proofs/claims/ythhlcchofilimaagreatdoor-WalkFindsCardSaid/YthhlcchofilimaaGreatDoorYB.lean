/- Taken from other texts: what is needed of them. -/
import Derived.Test.YthhlcchofilimaaGreatDoorYA
import Derived.Test.YthhlcchofilimaaGreatDoorRows
import Derived.ProofKit
import Derived.OpenShut
import Derived.ChangeSame
import Derived.LaidMore
import Derived.Stop.Joined
import Derived.Deep.Strs
import Derived.Lib.LaidTab
import Derived.Lib.SmallJoins
import Derived.Lib.QuietBelow
import Derived.Deep.QuietTactic
import Derived.BigQuiet
import Derived.ChangeKeysEq
namespace Go.Proofs.YthhlcchofilimaaGreatDoor.Y
set_option linter.unusedVariables false
set_option linter.unusedSimpArgs false
set_option maxRecDepth 20000
open Go.ChangeShapes Go.WideShapes Go.ChangeAt Go.RowKit
theorem mode_beq (mode : Int) : (mode == 3) = decide (mode = 3) := by rw [Bool.eq_iff_iff]; simp
theorem chk_y {c a : Nat → Nat} {mode kind : Int} {x : Nat} {size : Int} {k s : Nat} (h : Acc kind x size k s) : chkB c a mode kind x size = goF c a (decide (mode = 3)) k x (x + s - 1) 8 := by
  unfold chkB
  rw [acc_k h]
  obtain ⟨rfl, h1, rfl, h2, h3⟩ := h
  rfl
theorem chk_n {c a : Nat → Nat} {mode kind : Int} {x : Nat} {size : Int} (h : accB kind x size = false) : chkB c a mode kind x size = false := by unfold chkB; rw [h]; rfl
theorem Check_c (c a : Nat → Nat) (mode kind : Int) (x : Nat) (size : Int) (hc : Hid (OkC c)) (ha : Hid (OkA a)) (hx : Hid (x < 18446744073709551616)) (w : World) (hG : Hid (G w)) :
    Calls Tryz.prog 45 #[.agg (u8s c), .agg (u64s a), .int .i64 mode, .int .i64 kind, .int .u64 x, .int .i64 size] w (RetB (chkB c a mode kind x size) w) := by
  cases h : accB kind x size with
  | false => rw [chk_n h]; exact Check_n c a mode kind x size h hx w
  | true =>
    obtain ⟨k, s, hk⟩ := acc_y h
    rw [chk_y hk]
    exact Check_y c a mode kind x size k s hk hc ha hx _ (mode_beq mode) w hG
/-- How the reference goes over an access' bytes: some, all, behind the first i of them. -/
def inB (c a : Nat → Nat) (n v : Nat) : Bool := rOk c a n && decide (rA c a n ≤ v) && decide (v ≤ rB c a n)
def someB (c a : Nat → Nat) (n x : Nat) : Nat → Bool
  | 0 => false
  | i + 1 => someB c a n x i || inB c a n (x + i)
def allB (c a : Nat → Nat) (n x : Nat) : Nat → Bool
  | 0 => true
  | i + 1 => allB c a n x i && inB c a n (x + i)
theorem inB_iff {c a : Nat → Nat} {n v : Nat} : inB c a n v = true ↔ rOk c a n = true ∧ rA c a n ≤ v ∧ v ≤ rB c a n := by
  unfold inB; simp [and_assoc]
theorem some_iff (c a : Nat → Nat) (n x : Nat) : ∀ i, someB c a n x i = true ↔ ∃ j, j < i ∧ inB c a n (x + j) = true
  | 0 => by simp [someB]
  | i + 1 => by
    rw [show someB c a n x (i + 1) = (someB c a n x i || inB c a n (x + i)) from rfl, Bool.or_eq_true, some_iff c a n x i]
    constructor
    · rintro (⟨j, hj, h⟩ | h)
      · exact ⟨j, by omega, h⟩
      · exact ⟨i, by omega, h⟩
    · rintro ⟨j, hj, h⟩
      by_cases e : j = i
      · subst e; exact Or.inr h
      · exact Or.inl ⟨j, by omega, h⟩
theorem all_iff (c a : Nat → Nat) (n x : Nat) : ∀ i, allB c a n x i = true ↔ ∀ j, j < i → inB c a n (x + j) = true
  | 0 => by simp [allB]
  | i + 1 => by
    rw [show allB c a n x (i + 1) = (allB c a n x i && inB c a n (x + i)) from rfl, Bool.and_eq_true, all_iff c a n x i]
    constructor
    · rintro ⟨h1, h2⟩ j hj
      by_cases e : j = i
      · subst e; exact h2
      · exact h1 j (by omega)
    · intro h
      exact ⟨fun j hj => h j (by omega), h i (by omega)⟩
theorem miss_some {c a : Nat → Nat} {n x s : Nat} (hs : 1 ≤ s) : missB c a x (x + s - 1) n = !someB c a n x s := by
  cases hK : rOk c a n with
  | false =>
    have : someB c a n x s = false := by
      rw [Bool.eq_false_iff]
      intro h
      obtain ⟨j, -, h2⟩ := (some_iff c a n x s).1 h
      have := (inB_iff.1 h2).1
      rw [hK] at this; cases this
    unfold missB
    rw [this, hK]; rfl
  | true =>
    have hle := r_le hK
    rw [Bool.eq_iff_iff]
    unfold missB
    rw [hK]
    simp only [Bool.not_true, Bool.false_or, Bool.or_eq_true, decide_eq_true_eq, Bool.not_eq_true', Bool.eq_false_iff, ne_eq, some_iff, inB_iff, not_exists, not_and]
    constructor
    · rintro h j hj - h3 h4
      omega
    · intro h
      apply Classical.byContradiction
      intro h2
      by_cases hx : rA c a n ≤ x
      · exact h 0 (by omega) hK (by omega) (by omega)
      · exact h (rA c a n - x) (by omega) hK (by omega) (by omega)
theorem part_all {c a : Nat → Nat} {n x s : Nat} (hs : 1 ≤ s) (h : someB c a n x s = true) : partB c a x (x + s - 1) n = !allB c a n x s := by
  obtain ⟨j, hj, h2⟩ := (some_iff c a n x s).1 h
  obtain ⟨hK, h3, h4⟩ := inB_iff.1 h2
  rw [Bool.eq_iff_iff]
  unfold partB
  simp only [Bool.or_eq_true, decide_eq_true_eq, Bool.not_eq_true', Bool.eq_false_iff, ne_eq, all_iff, inB_iff, not_and]
  constructor
  · intro h5 h6
    have a1 := h6 0 (by omega)
    have a2 := h6 (s - 1) (by omega)
    omega
  · intro h5
    apply Classical.byContradiction
    intro h6
    apply h5
    intro i hi
    exact ⟨hK, by omega, by omega⟩
theorem go_ref {c a : Nat → Nat} {m : Bool} {k x s n g : Nat} (hs : 1 ≤ s) (hn : n + (g + 1) = 8) : goF c a m k x (x + s - 1) (g + 1) = bif someB c a n x s then allB c a n x s && ((m && !lockB (c n)) || allowB (c n) k) else goF c a m k x (x + s - 1) g := by
  cases h : someB c a n x s with
  | false => exact go_miss hn (by rw [miss_some hs, h]; rfl)
  | true =>
    cases h2 : allB c a n x s with
    | false => rw [go_part hn (by rw [miss_some hs, h]; rfl) (by rw [part_all hs h, h2]; rfl)]; rfl
    | true => rw [go_all hn (by rw [miss_some hs, h]; rfl) (by rw [part_all hs h, h2]; rfl)]; rfl
end Go.Proofs.YthhlcchofilimaaGreatDoor.Y
namespace Go.Proofs.YthhlcchofilimaaGreatDoor.Y
set_option linter.unusedVariables false
set_option linter.unusedSimpArgs false
set_option maxRecDepth 20000
open Go.ChangeShapes Go.WideShapes Go.ChangeAt Go.RowKit
set_option maxRecDepth 100000 in
set_option maxHeartbeats 1000000 in
theorem CheckR_1 (c a : Nat → Nat) (mode : Int) (x k : Nat) (hk : k < 4) (hxs : Hid (x + 1 ≤ 18446744073709551616)) (hc : Hid (OkC c)) (ha : Hid (OkA a)) (hx : Hid (x < 18446744073709551616)) (m : Bool) (hm : (mode == 3) = m) (w : World) :
    Calls Tryz.prog 39 #[.agg (u8s c), .agg (u64s a), .int .i64 mode, .int .i64 k, .int .u64 x, .int .i64 1] w (RetB (goF c a m k x (x + 1 - 1) 8) w) := by
  have k0 : ¬ (k : Int) < 0 := by omega
  have k3 : ¬ (k : Int) > 3 := by omega
  have k3' : (k : Int) ≤ 3 := by omega
  have x1 : decide ((18446744073709551615 : Int) < (x : Int)) = false := by have := hxs.out; rw [decide_eq_false_iff_not]; omega
  obtain ⟨R, hR⟩ : ∃ R, R = goF c a m k x (x + 1 - 1) 8 := ⟨_, rfl⟩
  rw [← hR]
  have HR := Lib.hid hR
  have HK := Lib.hid hk
  clear hR hk
  go_enter Tryz.func39, Tryz.ntmps39
  go_wp2_with fail
  go_loopg [13] 8 (fun g i wr => ∃ n : Nat, n + g = 8 ∧ i = .int .i64 n ∧ Hid (R = goF c a m k x (x + 1 - 1) g) ∧ Hid (Row wr w.heap.size 24 (u8s c)) ∧ Hid (Row wr (w.heap.size + 1) 25 (u64s a)) ∧ Hid (Below w.heap.size w wr) ∧ Hid (w.heap.size + 2 ≤ wr.heap.size))
  case atStart => exact ⟨0, by omega, rfl, HR, row_old (row_new _ _ _) _, by have := row_new (w.alloc (Obj.cells (u8s c) 24)) (u64s a) 25; rwa [sz_alloc] at this, by show Below _ _ _; exact (by repeat (first | (with_reducible first | exact Below.refl _ _ | assumption | exact Nat.le_refl _ | refine Below.drew ?_ | refine Below.alloc ?_ ?_ _ | refine Below.setCell ?_ ?_ _ | refine le_alloc ?_ | refine le_set ?_ | refine le_drew ?_ | refine below_step (by assumption) ?_ ?_ | refine le_below (by assumption) ?_) | (dsimp only; omega))), by show _ ≤ _; simp only [sz_alloc]; omega⟩
  case round =>
    obtain ⟨n, hn, rfl, hI, r1, r2, hB, hS⟩ := hrel
    clear HR
    cases gk with
    | zero =>
      obtain rfl : n = 8 := by omega
      go_wp2_with fail
      go_ret
      exact retB_mk hI.out.symm hB.out
    | succ g =>
      have n8 : (n : Int) < 8 := by omega
      have n0 : ((n : Nat) : Int).toNat = n := by omega
      have HRg := Lib.hid (fun v => RangeR_c c a n (by omega) hc ha v)
      have HBt := Lib.hid (fun v => bit_7 (c n) (hc.out n) v)
      have HW := Lib.hid (fun v => allowr_c (c n) k HK.out (hc.out n) v)
      have hq := @go_ref c a m k x 1 n g (by decide) hn
      rw [← hI.out] at hq
      have HQ := Lib.hid hq
      have HN1 : n + 1 + g = 8 := by omega
      have hKK : rOk c a n = rOk c a n := rfl
      obtain ⟨A, eA⟩ : ∃ A, A = rA c a n := ⟨_, rfl⟩
      obtain ⟨B, eB⟩ : ∃ B, B = rB c a n := ⟨_, rfl⟩
      obtain ⟨K, eK⟩ : ∃ K, K = rOk c a n := ⟨_, rfl⟩
      have hin : Hid (∀ v, inB c a n v = (K && decide (A ≤ v) && decide (v ≤ B))) := fun v => by rw [eA, eB, eK]; rfl
      have hl : (c n / 128 % 2 == 1) = lockB (c n) := by
        have := hc.out n
        unfold lockB
        rw [Bool.eq_iff_iff]; simp; omega
      rw [hl] at HBt
      obtain ⟨L, eL⟩ : ∃ L, L = lockB (c n) := ⟨_, rfl⟩
      obtain ⟨W, eW⟩ : ∃ W, W = allowB (c n) k := ⟨_, rfl⟩
      rw [← eA, ← eB, ← eK] at HRg
      rw [← eL] at HBt HQ
      rw [← eW] at HW HQ
      have c0 : (u8s c)[n]? = some (.int .u8 (c n : Nat)) := u8s_at c n (by omega)
      clear eA eB eK eL eW hl hq hn hI hKK
      go_wp2_with (first
        | (refine wpList_load_row rfl 24 _ rfl w.heap.size rfl 24 (u8s c) (0, 0) _ r1.out Tryz.underlying24 rfl (info8c c) ?_)
        | (refine wpList_load_row rfl 25 _ rfl (w.heap.size + 1) rfl 25 (u64s a) (0, 0) _ r2.out Tryz.underlying25 rfl (info8a a) ?_))
      refine (HRg.out _).mono ?_; rintro e w1 ⟨rfl, hb⟩
      have r1' := Lib.hid (r1.out.below hb (by have := hS.out; omega))
      have r2' := Lib.hid (r2.out.below hb (by have := hS.out; omega))
      have hB' := Lib.hid (below_step hb hB.out hB.out.size)
      have hS' : Hid (w.heap.size + 2 ≤ w1.heap.size) := Nat.le_trans hS.out hb.size
      have cl : w1.cell? ⟨w.heap.size, n, none⟩ = some (.int .u8 (c n : Nat)) := by rw [r1'.out.cell]; exact c0
      clear hb r1 r2 hB hS
      go_wp2_with fail
      go_loopg [17, 18, 19] 1 (fun g s17 s18 s19 wx => ∃ i : Nat, i + g = 1 ∧ s19 = .int .i64 i ∧ s17 = .bool (someB c a n x i) ∧ s18 = .bool (allB c a n x i) ∧ w1 = wx)
      case atStart => exact ⟨0, rfl, rfl, rfl, rfl, rfl⟩
      case round =>
        obtain ⟨i, hi, rfl, rfl, rfl, rfl⟩ := hrel
        cases gk with
        | zero =>
          obtain rfl : i = 1 := by omega
          obtain ⟨S, eS⟩ : ∃ S, S = someB c a n x 1 := ⟨_, rfl⟩
          obtain ⟨T, eT⟩ : ∃ T, T = allB c a n x 1 := ⟨_, rfl⟩
          rw [← eS, ← eT] at HQ
          rw [← eS, ← eT]
          clear eS eT hin HRg
          cases S with
          | false =>
            have HN : Hid (R = goF c a m k x (x + 1 - 1) g) := HQ.out
            clear HQ
            go_wp2_with fail
            go_roundg g
            case measure => omega
            case rel => exact ⟨n + 1, by omega, by go_num, HN, r1', r2', hB', hS'⟩
          | true =>
            have HN : Hid (R = (T && ((m && !L) || W))) := HQ.out
            clear HQ
            go_wp2_with fail
            refine (HBt.out _).mono ?_; rintro e w2 ⟨rfl, h⟩; replace h := h.symm; subst h
            cases m with
            | false =>
              cases T with
              | false =>
                go_wp2_with fail
                go_ret
                exact retB_mk (by rw [HN.out]; rfl) hB'.out
              | true =>
                go_wp2_with fail
                refine (HW.out _).mono ?_; rintro e w3 ⟨rfl, h⟩; replace h := h.symm; subst h
                go_wp2_with fail
                go_ret
                exact retB_mk (by rw [HN.out]; cases W <;> rfl) hB'.out
            | true =>
              cases T with
              | false =>
                cases L <;> go_wp2_with fail
                all_goals go_ret
                all_goals exact retB_mk (by rw [HN.out]; rfl) hB'.out
              | true =>
                cases L with
                | false =>
                  go_wp2_with fail
                  go_ret
                  exact retB_mk (by rw [HN.out]; rfl) hB'.out
                | true =>
                  go_wp2_with fail
                  refine (HW.out _).mono ?_; rintro e w3 ⟨rfl, h⟩; replace h := h.symm; subst h
                  go_wp2_with fail
                  go_ret
                  exact retB_mk (by rw [HN.out]; cases W <;> rfl) hB'.out
        | succ gg =>
          have i8 : (i : Int) < 1 := by omega
          obtain ⟨v, hv⟩ : ∃ v, v = x + i := ⟨_, rfl⟩
          have i1 : IntKind.u64.wrap (i : Int) = i := by rw [IntKind.wrap_u64]; omega
          have i2 : IntKind.u64.wrap ((x : Int) + i) = (v : Int) := by have := hxs.out; rw [IntKind.wrap_u64]; omega
          obtain ⟨IN, eI⟩ : ∃ b, b = inB c a n v := ⟨_, rfl⟩
          have h1 : someB c a n x (i + 1) = (someB c a n x i || IN) := by rw [eI, hv]; rfl
          have h2 : allB c a n x (i + 1) = (allB c a n x i && IN) := by rw [eI, hv]; rfl
          obtain ⟨S, eS⟩ : ∃ S, S = someB c a n x i := ⟨_, rfl⟩
          obtain ⟨T, eT⟩ : ∃ T, T = allB c a n x i := ⟨_, rfl⟩
          rw [← eS] at h1
          rw [← eT] at h2
          rw [← eS, ← eT]
          have e0 := hin.out v
          rw [← eI] at e0
          clear eS eT hin HRg HQ eI hv
          cases K with
          | false =>
            obtain rfl : IN = false := e0
            have HS := Lib.hid h1
            have HL := Lib.hid h2
            clear h1 h2
            (try clear e0)
            cases S <;> cases T
            all_goals
              go_wp2_with fail
              go_roundg gg
              case measure => omega
              case rel => exact ⟨i + 1, by omega, by go_num, by first | rfl | (rw [HS.out]; rfl) | rw [HS.out], by first | rfl | (rw [HL.out]; rfl) | rw [HL.out], rfl⟩
          | true =>
            by_cases u1 : A ≤ v
            · have u1' : (A : Int) ≤ v := by omega
              by_cases u2 : v ≤ B
              · have u2' : (v : Int) ≤ B := by omega
                obtain rfl : IN = true := by rw [e0]; simp [u1, u2]
                have HS := Lib.hid h1
                have HL := Lib.hid h2
                clear h1 h2 e0 u1 u2
                cases S <;> cases T
                all_goals
                  go_wp2_with fail
                  go_roundg gg
                  case measure => omega
                  case rel => exact ⟨i + 1, by omega, by go_num, by first | rfl | (rw [HS.out]; rfl) | rw [HS.out], by first | rfl | (rw [HL.out]; rfl) | rw [HL.out], rfl⟩
              · have u2' : ¬ (v : Int) ≤ B := by omega
                obtain rfl : IN = false := by rw [e0]; simp [u1, u2]
                have HS := Lib.hid h1
                have HL := Lib.hid h2
                clear h1 h2 e0 u1 u2
                cases S <;> cases T
                all_goals
                  go_wp2_with fail
                  go_roundg gg
                  case measure => omega
                  case rel => exact ⟨i + 1, by omega, by go_num, by first | rfl | (rw [HS.out]; rfl) | rw [HS.out], by first | rfl | (rw [HL.out]; rfl) | rw [HL.out], rfl⟩
            · have u1' : ¬ (A : Int) ≤ v := by omega
              obtain rfl : IN = false := by rw [e0]; simp [u1]
              have HS := Lib.hid h1
              have HL := Lib.hid h2
              clear h1 h2 e0 u1
              cases S <;> cases T
              all_goals
                go_wp2_with fail
                go_roundg gg
                case measure => omega
                case rel => exact ⟨i + 1, by omega, by go_num, by first | rfl | (rw [HS.out]; rfl) | rw [HS.out], by first | rfl | (rw [HL.out]; rfl) | rw [HL.out], rfl⟩
end Go.Proofs.YthhlcchofilimaaGreatDoor.Y
namespace Go.Proofs.YthhlcchofilimaaGreatDoor.Y
set_option linter.unusedVariables false
set_option linter.unusedSimpArgs false
set_option maxRecDepth 20000
open Go.ChangeShapes Go.WideShapes Go.ChangeAt Go.RowKit
set_option maxRecDepth 100000 in
set_option maxHeartbeats 1000000 in
theorem CheckR_2 (c a : Nat → Nat) (mode : Int) (x k : Nat) (hk : k < 4) (hxs : Hid (x + 2 ≤ 18446744073709551616)) (hc : Hid (OkC c)) (ha : Hid (OkA a)) (hx : Hid (x < 18446744073709551616)) (m : Bool) (hm : (mode == 3) = m) (w : World) :
    Calls Tryz.prog 39 #[.agg (u8s c), .agg (u64s a), .int .i64 mode, .int .i64 k, .int .u64 x, .int .i64 2] w (RetB (goF c a m k x (x + 2 - 1) 8) w) := by
  have k0 : ¬ (k : Int) < 0 := by omega
  have k3 : ¬ (k : Int) > 3 := by omega
  have k3' : (k : Int) ≤ 3 := by omega
  have x1 : decide ((18446744073709551614 : Int) < (x : Int)) = false := by have := hxs.out; rw [decide_eq_false_iff_not]; omega
  obtain ⟨R, hR⟩ : ∃ R, R = goF c a m k x (x + 2 - 1) 8 := ⟨_, rfl⟩
  rw [← hR]
  have HR := Lib.hid hR
  have HK := Lib.hid hk
  clear hR hk
  go_enter Tryz.func39, Tryz.ntmps39
  go_wp2_with fail
  go_loopg [13] 8 (fun g i wr => ∃ n : Nat, n + g = 8 ∧ i = .int .i64 n ∧ Hid (R = goF c a m k x (x + 2 - 1) g) ∧ Hid (Row wr w.heap.size 24 (u8s c)) ∧ Hid (Row wr (w.heap.size + 1) 25 (u64s a)) ∧ Hid (Below w.heap.size w wr) ∧ Hid (w.heap.size + 2 ≤ wr.heap.size))
  case atStart => exact ⟨0, by omega, rfl, HR, row_old (row_new _ _ _) _, by have := row_new (w.alloc (Obj.cells (u8s c) 24)) (u64s a) 25; rwa [sz_alloc] at this, by show Below _ _ _; exact (by repeat (first | (with_reducible first | exact Below.refl _ _ | assumption | exact Nat.le_refl _ | refine Below.drew ?_ | refine Below.alloc ?_ ?_ _ | refine Below.setCell ?_ ?_ _ | refine le_alloc ?_ | refine le_set ?_ | refine le_drew ?_ | refine below_step (by assumption) ?_ ?_ | refine le_below (by assumption) ?_) | (dsimp only; omega))), by show _ ≤ _; simp only [sz_alloc]; omega⟩
  case round =>
    obtain ⟨n, hn, rfl, hI, r1, r2, hB, hS⟩ := hrel
    clear HR
    cases gk with
    | zero =>
      obtain rfl : n = 8 := by omega
      go_wp2_with fail
      go_ret
      exact retB_mk hI.out.symm hB.out
    | succ g =>
      have n8 : (n : Int) < 8 := by omega
      have n0 : ((n : Nat) : Int).toNat = n := by omega
      have HRg := Lib.hid (fun v => RangeR_c c a n (by omega) hc ha v)
      have HBt := Lib.hid (fun v => bit_7 (c n) (hc.out n) v)
      have HW := Lib.hid (fun v => allowr_c (c n) k HK.out (hc.out n) v)
      have hq := @go_ref c a m k x 2 n g (by decide) hn
      rw [← hI.out] at hq
      have HQ := Lib.hid hq
      have HN1 : n + 1 + g = 8 := by omega
      have hKK : rOk c a n = rOk c a n := rfl
      obtain ⟨A, eA⟩ : ∃ A, A = rA c a n := ⟨_, rfl⟩
      obtain ⟨B, eB⟩ : ∃ B, B = rB c a n := ⟨_, rfl⟩
      obtain ⟨K, eK⟩ : ∃ K, K = rOk c a n := ⟨_, rfl⟩
      have hin : Hid (∀ v, inB c a n v = (K && decide (A ≤ v) && decide (v ≤ B))) := fun v => by rw [eA, eB, eK]; rfl
      have hl : (c n / 128 % 2 == 1) = lockB (c n) := by
        have := hc.out n
        unfold lockB
        rw [Bool.eq_iff_iff]; simp; omega
      rw [hl] at HBt
      obtain ⟨L, eL⟩ : ∃ L, L = lockB (c n) := ⟨_, rfl⟩
      obtain ⟨W, eW⟩ : ∃ W, W = allowB (c n) k := ⟨_, rfl⟩
      rw [← eA, ← eB, ← eK] at HRg
      rw [← eL] at HBt HQ
      rw [← eW] at HW HQ
      have c0 : (u8s c)[n]? = some (.int .u8 (c n : Nat)) := u8s_at c n (by omega)
      clear eA eB eK eL eW hl hq hn hI hKK
      go_wp2_with (first
        | (refine wpList_load_row rfl 24 _ rfl w.heap.size rfl 24 (u8s c) (0, 0) _ r1.out Tryz.underlying24 rfl (info8c c) ?_)
        | (refine wpList_load_row rfl 25 _ rfl (w.heap.size + 1) rfl 25 (u64s a) (0, 0) _ r2.out Tryz.underlying25 rfl (info8a a) ?_))
      refine (HRg.out _).mono ?_; rintro e w1 ⟨rfl, hb⟩
      have r1' := Lib.hid (r1.out.below hb (by have := hS.out; omega))
      have r2' := Lib.hid (r2.out.below hb (by have := hS.out; omega))
      have hB' := Lib.hid (below_step hb hB.out hB.out.size)
      have hS' : Hid (w.heap.size + 2 ≤ w1.heap.size) := Nat.le_trans hS.out hb.size
      have cl : w1.cell? ⟨w.heap.size, n, none⟩ = some (.int .u8 (c n : Nat)) := by rw [r1'.out.cell]; exact c0
      clear hb r1 r2 hB hS
      go_wp2_with fail
      go_loopg [17, 18, 19] 2 (fun g s17 s18 s19 wx => ∃ i : Nat, i + g = 2 ∧ s19 = .int .i64 i ∧ s17 = .bool (someB c a n x i) ∧ s18 = .bool (allB c a n x i) ∧ w1 = wx)
      case atStart => exact ⟨0, rfl, rfl, rfl, rfl, rfl⟩
      case round =>
        obtain ⟨i, hi, rfl, rfl, rfl, rfl⟩ := hrel
        cases gk with
        | zero =>
          obtain rfl : i = 2 := by omega
          obtain ⟨S, eS⟩ : ∃ S, S = someB c a n x 2 := ⟨_, rfl⟩
          obtain ⟨T, eT⟩ : ∃ T, T = allB c a n x 2 := ⟨_, rfl⟩
          rw [← eS, ← eT] at HQ
          rw [← eS, ← eT]
          clear eS eT hin HRg
          cases S with
          | false =>
            have HN : Hid (R = goF c a m k x (x + 2 - 1) g) := HQ.out
            clear HQ
            go_wp2_with fail
            go_roundg g
            case measure => omega
            case rel => exact ⟨n + 1, by omega, by go_num, HN, r1', r2', hB', hS'⟩
          | true =>
            have HN : Hid (R = (T && ((m && !L) || W))) := HQ.out
            clear HQ
            go_wp2_with fail
            refine (HBt.out _).mono ?_; rintro e w2 ⟨rfl, h⟩; replace h := h.symm; subst h
            cases m with
            | false =>
              cases T with
              | false =>
                go_wp2_with fail
                go_ret
                exact retB_mk (by rw [HN.out]; rfl) hB'.out
              | true =>
                go_wp2_with fail
                refine (HW.out _).mono ?_; rintro e w3 ⟨rfl, h⟩; replace h := h.symm; subst h
                go_wp2_with fail
                go_ret
                exact retB_mk (by rw [HN.out]; cases W <;> rfl) hB'.out
            | true =>
              cases T with
              | false =>
                cases L <;> go_wp2_with fail
                all_goals go_ret
                all_goals exact retB_mk (by rw [HN.out]; rfl) hB'.out
              | true =>
                cases L with
                | false =>
                  go_wp2_with fail
                  go_ret
                  exact retB_mk (by rw [HN.out]; rfl) hB'.out
                | true =>
                  go_wp2_with fail
                  refine (HW.out _).mono ?_; rintro e w3 ⟨rfl, h⟩; replace h := h.symm; subst h
                  go_wp2_with fail
                  go_ret
                  exact retB_mk (by rw [HN.out]; cases W <;> rfl) hB'.out
        | succ gg =>
          have i8 : (i : Int) < 2 := by omega
          obtain ⟨v, hv⟩ : ∃ v, v = x + i := ⟨_, rfl⟩
          have i1 : IntKind.u64.wrap (i : Int) = i := by rw [IntKind.wrap_u64]; omega
          have i2 : IntKind.u64.wrap ((x : Int) + i) = (v : Int) := by have := hxs.out; rw [IntKind.wrap_u64]; omega
          obtain ⟨IN, eI⟩ : ∃ b, b = inB c a n v := ⟨_, rfl⟩
          have h1 : someB c a n x (i + 1) = (someB c a n x i || IN) := by rw [eI, hv]; rfl
          have h2 : allB c a n x (i + 1) = (allB c a n x i && IN) := by rw [eI, hv]; rfl
          obtain ⟨S, eS⟩ : ∃ S, S = someB c a n x i := ⟨_, rfl⟩
          obtain ⟨T, eT⟩ : ∃ T, T = allB c a n x i := ⟨_, rfl⟩
          rw [← eS] at h1
          rw [← eT] at h2
          rw [← eS, ← eT]
          have e0 := hin.out v
          rw [← eI] at e0
          clear eS eT hin HRg HQ eI hv
          cases K with
          | false =>
            obtain rfl : IN = false := e0
            have HS := Lib.hid h1
            have HL := Lib.hid h2
            clear h1 h2
            (try clear e0)
            cases S <;> cases T
            all_goals
              go_wp2_with fail
              go_roundg gg
              case measure => omega
              case rel => exact ⟨i + 1, by omega, by go_num, by first | rfl | (rw [HS.out]; rfl) | rw [HS.out], by first | rfl | (rw [HL.out]; rfl) | rw [HL.out], rfl⟩
          | true =>
            by_cases u1 : A ≤ v
            · have u1' : (A : Int) ≤ v := by omega
              by_cases u2 : v ≤ B
              · have u2' : (v : Int) ≤ B := by omega
                obtain rfl : IN = true := by rw [e0]; simp [u1, u2]
                have HS := Lib.hid h1
                have HL := Lib.hid h2
                clear h1 h2 e0 u1 u2
                cases S <;> cases T
                all_goals
                  go_wp2_with fail
                  go_roundg gg
                  case measure => omega
                  case rel => exact ⟨i + 1, by omega, by go_num, by first | rfl | (rw [HS.out]; rfl) | rw [HS.out], by first | rfl | (rw [HL.out]; rfl) | rw [HL.out], rfl⟩
              · have u2' : ¬ (v : Int) ≤ B := by omega
                obtain rfl : IN = false := by rw [e0]; simp [u1, u2]
                have HS := Lib.hid h1
                have HL := Lib.hid h2
                clear h1 h2 e0 u1 u2
                cases S <;> cases T
                all_goals
                  go_wp2_with fail
                  go_roundg gg
                  case measure => omega
                  case rel => exact ⟨i + 1, by omega, by go_num, by first | rfl | (rw [HS.out]; rfl) | rw [HS.out], by first | rfl | (rw [HL.out]; rfl) | rw [HL.out], rfl⟩
            · have u1' : ¬ (A : Int) ≤ v := by omega
              obtain rfl : IN = false := by rw [e0]; simp [u1]
              have HS := Lib.hid h1
              have HL := Lib.hid h2
              clear h1 h2 e0 u1
              cases S <;> cases T
              all_goals
                go_wp2_with fail
                go_roundg gg
                case measure => omega
                case rel => exact ⟨i + 1, by omega, by go_num, by first | rfl | (rw [HS.out]; rfl) | rw [HS.out], by first | rfl | (rw [HL.out]; rfl) | rw [HL.out], rfl⟩
end Go.Proofs.YthhlcchofilimaaGreatDoor.Y
namespace Go.Proofs.YthhlcchofilimaaGreatDoor.Y
set_option linter.unusedVariables false
set_option linter.unusedSimpArgs false
set_option maxRecDepth 20000
open Go.ChangeShapes Go.WideShapes Go.ChangeAt Go.RowKit
set_option maxRecDepth 100000 in
set_option maxHeartbeats 1000000 in
theorem CheckR_4 (c a : Nat → Nat) (mode : Int) (x k : Nat) (hk : k < 4) (hxs : Hid (x + 4 ≤ 18446744073709551616)) (hc : Hid (OkC c)) (ha : Hid (OkA a)) (hx : Hid (x < 18446744073709551616)) (m : Bool) (hm : (mode == 3) = m) (w : World) :
    Calls Tryz.prog 39 #[.agg (u8s c), .agg (u64s a), .int .i64 mode, .int .i64 k, .int .u64 x, .int .i64 4] w (RetB (goF c a m k x (x + 4 - 1) 8) w) := by
  have k0 : ¬ (k : Int) < 0 := by omega
  have k3 : ¬ (k : Int) > 3 := by omega
  have k3' : (k : Int) ≤ 3 := by omega
  have x1 : decide ((18446744073709551612 : Int) < (x : Int)) = false := by have := hxs.out; rw [decide_eq_false_iff_not]; omega
  obtain ⟨R, hR⟩ : ∃ R, R = goF c a m k x (x + 4 - 1) 8 := ⟨_, rfl⟩
  rw [← hR]
  have HR := Lib.hid hR
  have HK := Lib.hid hk
  clear hR hk
  go_enter Tryz.func39, Tryz.ntmps39
  go_wp2_with fail
  go_loopg [13] 8 (fun g i wr => ∃ n : Nat, n + g = 8 ∧ i = .int .i64 n ∧ Hid (R = goF c a m k x (x + 4 - 1) g) ∧ Hid (Row wr w.heap.size 24 (u8s c)) ∧ Hid (Row wr (w.heap.size + 1) 25 (u64s a)) ∧ Hid (Below w.heap.size w wr) ∧ Hid (w.heap.size + 2 ≤ wr.heap.size))
  case atStart => exact ⟨0, by omega, rfl, HR, row_old (row_new _ _ _) _, by have := row_new (w.alloc (Obj.cells (u8s c) 24)) (u64s a) 25; rwa [sz_alloc] at this, by show Below _ _ _; exact (by repeat (first | (with_reducible first | exact Below.refl _ _ | assumption | exact Nat.le_refl _ | refine Below.drew ?_ | refine Below.alloc ?_ ?_ _ | refine Below.setCell ?_ ?_ _ | refine le_alloc ?_ | refine le_set ?_ | refine le_drew ?_ | refine below_step (by assumption) ?_ ?_ | refine le_below (by assumption) ?_) | (dsimp only; omega))), by show _ ≤ _; simp only [sz_alloc]; omega⟩
  case round =>
    obtain ⟨n, hn, rfl, hI, r1, r2, hB, hS⟩ := hrel
    clear HR
    cases gk with
    | zero =>
      obtain rfl : n = 8 := by omega
      go_wp2_with fail
      go_ret
      exact retB_mk hI.out.symm hB.out
    | succ g =>
      have n8 : (n : Int) < 8 := by omega
      have n0 : ((n : Nat) : Int).toNat = n := by omega
      have HRg := Lib.hid (fun v => RangeR_c c a n (by omega) hc ha v)
      have HBt := Lib.hid (fun v => bit_7 (c n) (hc.out n) v)
      have HW := Lib.hid (fun v => allowr_c (c n) k HK.out (hc.out n) v)
      have hq := @go_ref c a m k x 4 n g (by decide) hn
      rw [← hI.out] at hq
      have HQ := Lib.hid hq
      have HN1 : n + 1 + g = 8 := by omega
      have hKK : rOk c a n = rOk c a n := rfl
      obtain ⟨A, eA⟩ : ∃ A, A = rA c a n := ⟨_, rfl⟩
      obtain ⟨B, eB⟩ : ∃ B, B = rB c a n := ⟨_, rfl⟩
      obtain ⟨K, eK⟩ : ∃ K, K = rOk c a n := ⟨_, rfl⟩
      have hin : Hid (∀ v, inB c a n v = (K && decide (A ≤ v) && decide (v ≤ B))) := fun v => by rw [eA, eB, eK]; rfl
      have hl : (c n / 128 % 2 == 1) = lockB (c n) := by
        have := hc.out n
        unfold lockB
        rw [Bool.eq_iff_iff]; simp; omega
      rw [hl] at HBt
      obtain ⟨L, eL⟩ : ∃ L, L = lockB (c n) := ⟨_, rfl⟩
      obtain ⟨W, eW⟩ : ∃ W, W = allowB (c n) k := ⟨_, rfl⟩
      rw [← eA, ← eB, ← eK] at HRg
      rw [← eL] at HBt HQ
      rw [← eW] at HW HQ
      have c0 : (u8s c)[n]? = some (.int .u8 (c n : Nat)) := u8s_at c n (by omega)
      clear eA eB eK eL eW hl hq hn hI hKK
      go_wp2_with (first
        | (refine wpList_load_row rfl 24 _ rfl w.heap.size rfl 24 (u8s c) (0, 0) _ r1.out Tryz.underlying24 rfl (info8c c) ?_)
        | (refine wpList_load_row rfl 25 _ rfl (w.heap.size + 1) rfl 25 (u64s a) (0, 0) _ r2.out Tryz.underlying25 rfl (info8a a) ?_))
      refine (HRg.out _).mono ?_; rintro e w1 ⟨rfl, hb⟩
      have r1' := Lib.hid (r1.out.below hb (by have := hS.out; omega))
      have r2' := Lib.hid (r2.out.below hb (by have := hS.out; omega))
      have hB' := Lib.hid (below_step hb hB.out hB.out.size)
      have hS' : Hid (w.heap.size + 2 ≤ w1.heap.size) := Nat.le_trans hS.out hb.size
      have cl : w1.cell? ⟨w.heap.size, n, none⟩ = some (.int .u8 (c n : Nat)) := by rw [r1'.out.cell]; exact c0
      clear hb r1 r2 hB hS
      go_wp2_with fail
      go_loopg [17, 18, 19] 4 (fun g s17 s18 s19 wx => ∃ i : Nat, i + g = 4 ∧ s19 = .int .i64 i ∧ s17 = .bool (someB c a n x i) ∧ s18 = .bool (allB c a n x i) ∧ w1 = wx)
      case atStart => exact ⟨0, rfl, rfl, rfl, rfl, rfl⟩
      case round =>
        obtain ⟨i, hi, rfl, rfl, rfl, rfl⟩ := hrel
        cases gk with
        | zero =>
          obtain rfl : i = 4 := by omega
          obtain ⟨S, eS⟩ : ∃ S, S = someB c a n x 4 := ⟨_, rfl⟩
          obtain ⟨T, eT⟩ : ∃ T, T = allB c a n x 4 := ⟨_, rfl⟩
          rw [← eS, ← eT] at HQ
          rw [← eS, ← eT]
          clear eS eT hin HRg
          cases S with
          | false =>
            have HN : Hid (R = goF c a m k x (x + 4 - 1) g) := HQ.out
            clear HQ
            go_wp2_with fail
            go_roundg g
            case measure => omega
            case rel => exact ⟨n + 1, by omega, by go_num, HN, r1', r2', hB', hS'⟩
          | true =>
            have HN : Hid (R = (T && ((m && !L) || W))) := HQ.out
            clear HQ
            go_wp2_with fail
            refine (HBt.out _).mono ?_; rintro e w2 ⟨rfl, h⟩; replace h := h.symm; subst h
            cases m with
            | false =>
              cases T with
              | false =>
                go_wp2_with fail
                go_ret
                exact retB_mk (by rw [HN.out]; rfl) hB'.out
              | true =>
                go_wp2_with fail
                refine (HW.out _).mono ?_; rintro e w3 ⟨rfl, h⟩; replace h := h.symm; subst h
                go_wp2_with fail
                go_ret
                exact retB_mk (by rw [HN.out]; cases W <;> rfl) hB'.out
            | true =>
              cases T with
              | false =>
                cases L <;> go_wp2_with fail
                all_goals go_ret
                all_goals exact retB_mk (by rw [HN.out]; rfl) hB'.out
              | true =>
                cases L with
                | false =>
                  go_wp2_with fail
                  go_ret
                  exact retB_mk (by rw [HN.out]; rfl) hB'.out
                | true =>
                  go_wp2_with fail
                  refine (HW.out _).mono ?_; rintro e w3 ⟨rfl, h⟩; replace h := h.symm; subst h
                  go_wp2_with fail
                  go_ret
                  exact retB_mk (by rw [HN.out]; cases W <;> rfl) hB'.out
        | succ gg =>
          have i8 : (i : Int) < 4 := by omega
          obtain ⟨v, hv⟩ : ∃ v, v = x + i := ⟨_, rfl⟩
          have i1 : IntKind.u64.wrap (i : Int) = i := by rw [IntKind.wrap_u64]; omega
          have i2 : IntKind.u64.wrap ((x : Int) + i) = (v : Int) := by have := hxs.out; rw [IntKind.wrap_u64]; omega
          obtain ⟨IN, eI⟩ : ∃ b, b = inB c a n v := ⟨_, rfl⟩
          have h1 : someB c a n x (i + 1) = (someB c a n x i || IN) := by rw [eI, hv]; rfl
          have h2 : allB c a n x (i + 1) = (allB c a n x i && IN) := by rw [eI, hv]; rfl
          obtain ⟨S, eS⟩ : ∃ S, S = someB c a n x i := ⟨_, rfl⟩
          obtain ⟨T, eT⟩ : ∃ T, T = allB c a n x i := ⟨_, rfl⟩
          rw [← eS] at h1
          rw [← eT] at h2
          rw [← eS, ← eT]
          have e0 := hin.out v
          rw [← eI] at e0
          clear eS eT hin HRg HQ eI hv
          cases K with
          | false =>
            obtain rfl : IN = false := e0
            have HS := Lib.hid h1
            have HL := Lib.hid h2
            clear h1 h2
            (try clear e0)
            cases S <;> cases T
            all_goals
              go_wp2_with fail
              go_roundg gg
              case measure => omega
              case rel => exact ⟨i + 1, by omega, by go_num, by first | rfl | (rw [HS.out]; rfl) | rw [HS.out], by first | rfl | (rw [HL.out]; rfl) | rw [HL.out], rfl⟩
          | true =>
            by_cases u1 : A ≤ v
            · have u1' : (A : Int) ≤ v := by omega
              by_cases u2 : v ≤ B
              · have u2' : (v : Int) ≤ B := by omega
                obtain rfl : IN = true := by rw [e0]; simp [u1, u2]
                have HS := Lib.hid h1
                have HL := Lib.hid h2
                clear h1 h2 e0 u1 u2
                cases S <;> cases T
                all_goals
                  go_wp2_with fail
                  go_roundg gg
                  case measure => omega
                  case rel => exact ⟨i + 1, by omega, by go_num, by first | rfl | (rw [HS.out]; rfl) | rw [HS.out], by first | rfl | (rw [HL.out]; rfl) | rw [HL.out], rfl⟩
              · have u2' : ¬ (v : Int) ≤ B := by omega
                obtain rfl : IN = false := by rw [e0]; simp [u1, u2]
                have HS := Lib.hid h1
                have HL := Lib.hid h2
                clear h1 h2 e0 u1 u2
                cases S <;> cases T
                all_goals
                  go_wp2_with fail
                  go_roundg gg
                  case measure => omega
                  case rel => exact ⟨i + 1, by omega, by go_num, by first | rfl | (rw [HS.out]; rfl) | rw [HS.out], by first | rfl | (rw [HL.out]; rfl) | rw [HL.out], rfl⟩
            · have u1' : ¬ (A : Int) ≤ v := by omega
              obtain rfl : IN = false := by rw [e0]; simp [u1]
              have HS := Lib.hid h1
              have HL := Lib.hid h2
              clear h1 h2 e0 u1
              cases S <;> cases T
              all_goals
                go_wp2_with fail
                go_roundg gg
                case measure => omega
                case rel => exact ⟨i + 1, by omega, by go_num, by first | rfl | (rw [HS.out]; rfl) | rw [HS.out], by first | rfl | (rw [HL.out]; rfl) | rw [HL.out], rfl⟩
end Go.Proofs.YthhlcchofilimaaGreatDoor.Y
namespace Go.Proofs.YthhlcchofilimaaGreatDoor.Y
set_option linter.unusedVariables false
set_option linter.unusedSimpArgs false
set_option maxRecDepth 20000
open Go.ChangeShapes Go.WideShapes Go.ChangeAt Go.RowKit
set_option maxRecDepth 100000 in
set_option maxHeartbeats 1000000 in
theorem CheckR_8 (c a : Nat → Nat) (mode : Int) (x k : Nat) (hk : k < 4) (hxs : Hid (x + 8 ≤ 18446744073709551616)) (hc : Hid (OkC c)) (ha : Hid (OkA a)) (hx : Hid (x < 18446744073709551616)) (m : Bool) (hm : (mode == 3) = m) (w : World) :
    Calls Tryz.prog 39 #[.agg (u8s c), .agg (u64s a), .int .i64 mode, .int .i64 k, .int .u64 x, .int .i64 8] w (RetB (goF c a m k x (x + 8 - 1) 8) w) := by
  have k0 : ¬ (k : Int) < 0 := by omega
  have k3 : ¬ (k : Int) > 3 := by omega
  have k3' : (k : Int) ≤ 3 := by omega
  have x1 : decide ((18446744073709551608 : Int) < (x : Int)) = false := by have := hxs.out; rw [decide_eq_false_iff_not]; omega
  obtain ⟨R, hR⟩ : ∃ R, R = goF c a m k x (x + 8 - 1) 8 := ⟨_, rfl⟩
  rw [← hR]
  have HR := Lib.hid hR
  have HK := Lib.hid hk
  clear hR hk
  go_enter Tryz.func39, Tryz.ntmps39
  go_wp2_with fail
  go_loopg [13] 8 (fun g i wr => ∃ n : Nat, n + g = 8 ∧ i = .int .i64 n ∧ Hid (R = goF c a m k x (x + 8 - 1) g) ∧ Hid (Row wr w.heap.size 24 (u8s c)) ∧ Hid (Row wr (w.heap.size + 1) 25 (u64s a)) ∧ Hid (Below w.heap.size w wr) ∧ Hid (w.heap.size + 2 ≤ wr.heap.size))
  case atStart => exact ⟨0, by omega, rfl, HR, row_old (row_new _ _ _) _, by have := row_new (w.alloc (Obj.cells (u8s c) 24)) (u64s a) 25; rwa [sz_alloc] at this, by show Below _ _ _; exact (by repeat (first | (with_reducible first | exact Below.refl _ _ | assumption | exact Nat.le_refl _ | refine Below.drew ?_ | refine Below.alloc ?_ ?_ _ | refine Below.setCell ?_ ?_ _ | refine le_alloc ?_ | refine le_set ?_ | refine le_drew ?_ | refine below_step (by assumption) ?_ ?_ | refine le_below (by assumption) ?_) | (dsimp only; omega))), by show _ ≤ _; simp only [sz_alloc]; omega⟩
  case round =>
    obtain ⟨n, hn, rfl, hI, r1, r2, hB, hS⟩ := hrel
    clear HR
    cases gk with
    | zero =>
      obtain rfl : n = 8 := by omega
      go_wp2_with fail
      go_ret
      exact retB_mk hI.out.symm hB.out
    | succ g =>
      have n8 : (n : Int) < 8 := by omega
      have n0 : ((n : Nat) : Int).toNat = n := by omega
      have HRg := Lib.hid (fun v => RangeR_c c a n (by omega) hc ha v)
      have HBt := Lib.hid (fun v => bit_7 (c n) (hc.out n) v)
      have HW := Lib.hid (fun v => allowr_c (c n) k HK.out (hc.out n) v)
      have hq := @go_ref c a m k x 8 n g (by decide) hn
      rw [← hI.out] at hq
      have HQ := Lib.hid hq
      have HN1 : n + 1 + g = 8 := by omega
      have hKK : rOk c a n = rOk c a n := rfl
      obtain ⟨A, eA⟩ : ∃ A, A = rA c a n := ⟨_, rfl⟩
      obtain ⟨B, eB⟩ : ∃ B, B = rB c a n := ⟨_, rfl⟩
      obtain ⟨K, eK⟩ : ∃ K, K = rOk c a n := ⟨_, rfl⟩
      have hin : Hid (∀ v, inB c a n v = (K && decide (A ≤ v) && decide (v ≤ B))) := fun v => by rw [eA, eB, eK]; rfl
      have hl : (c n / 128 % 2 == 1) = lockB (c n) := by
        have := hc.out n
        unfold lockB
        rw [Bool.eq_iff_iff]; simp; omega
      rw [hl] at HBt
      obtain ⟨L, eL⟩ : ∃ L, L = lockB (c n) := ⟨_, rfl⟩
      obtain ⟨W, eW⟩ : ∃ W, W = allowB (c n) k := ⟨_, rfl⟩
      rw [← eA, ← eB, ← eK] at HRg
      rw [← eL] at HBt HQ
      rw [← eW] at HW HQ
      have c0 : (u8s c)[n]? = some (.int .u8 (c n : Nat)) := u8s_at c n (by omega)
      clear eA eB eK eL eW hl hq hn hI hKK
      go_wp2_with (first
        | (refine wpList_load_row rfl 24 _ rfl w.heap.size rfl 24 (u8s c) (0, 0) _ r1.out Tryz.underlying24 rfl (info8c c) ?_)
        | (refine wpList_load_row rfl 25 _ rfl (w.heap.size + 1) rfl 25 (u64s a) (0, 0) _ r2.out Tryz.underlying25 rfl (info8a a) ?_))
      refine (HRg.out _).mono ?_; rintro e w1 ⟨rfl, hb⟩
      have r1' := Lib.hid (r1.out.below hb (by have := hS.out; omega))
      have r2' := Lib.hid (r2.out.below hb (by have := hS.out; omega))
      have hB' := Lib.hid (below_step hb hB.out hB.out.size)
      have hS' : Hid (w.heap.size + 2 ≤ w1.heap.size) := Nat.le_trans hS.out hb.size
      have cl : w1.cell? ⟨w.heap.size, n, none⟩ = some (.int .u8 (c n : Nat)) := by rw [r1'.out.cell]; exact c0
      clear hb r1 r2 hB hS
      go_wp2_with fail
      go_loopg [17, 18, 19] 8 (fun g s17 s18 s19 wx => ∃ i : Nat, i + g = 8 ∧ s19 = .int .i64 i ∧ s17 = .bool (someB c a n x i) ∧ s18 = .bool (allB c a n x i) ∧ w1 = wx)
      case atStart => exact ⟨0, rfl, rfl, rfl, rfl, rfl⟩
      case round =>
        obtain ⟨i, hi, rfl, rfl, rfl, rfl⟩ := hrel
        cases gk with
        | zero =>
          obtain rfl : i = 8 := by omega
          obtain ⟨S, eS⟩ : ∃ S, S = someB c a n x 8 := ⟨_, rfl⟩
          obtain ⟨T, eT⟩ : ∃ T, T = allB c a n x 8 := ⟨_, rfl⟩
          rw [← eS, ← eT] at HQ
          rw [← eS, ← eT]
          clear eS eT hin HRg
          cases S with
          | false =>
            have HN : Hid (R = goF c a m k x (x + 8 - 1) g) := HQ.out
            clear HQ
            go_wp2_with fail
            go_roundg g
            case measure => omega
            case rel => exact ⟨n + 1, by omega, by go_num, HN, r1', r2', hB', hS'⟩
          | true =>
            have HN : Hid (R = (T && ((m && !L) || W))) := HQ.out
            clear HQ
            go_wp2_with fail
            refine (HBt.out _).mono ?_; rintro e w2 ⟨rfl, h⟩; replace h := h.symm; subst h
            cases m with
            | false =>
              cases T with
              | false =>
                go_wp2_with fail
                go_ret
                exact retB_mk (by rw [HN.out]; rfl) hB'.out
              | true =>
                go_wp2_with fail
                refine (HW.out _).mono ?_; rintro e w3 ⟨rfl, h⟩; replace h := h.symm; subst h
                go_wp2_with fail
                go_ret
                exact retB_mk (by rw [HN.out]; cases W <;> rfl) hB'.out
            | true =>
              cases T with
              | false =>
                cases L <;> go_wp2_with fail
                all_goals go_ret
                all_goals exact retB_mk (by rw [HN.out]; rfl) hB'.out
              | true =>
                cases L with
                | false =>
                  go_wp2_with fail
                  go_ret
                  exact retB_mk (by rw [HN.out]; rfl) hB'.out
                | true =>
                  go_wp2_with fail
                  refine (HW.out _).mono ?_; rintro e w3 ⟨rfl, h⟩; replace h := h.symm; subst h
                  go_wp2_with fail
                  go_ret
                  exact retB_mk (by rw [HN.out]; cases W <;> rfl) hB'.out
        | succ gg =>
          have i8 : (i : Int) < 8 := by omega
          obtain ⟨v, hv⟩ : ∃ v, v = x + i := ⟨_, rfl⟩
          have i1 : IntKind.u64.wrap (i : Int) = i := by rw [IntKind.wrap_u64]; omega
          have i2 : IntKind.u64.wrap ((x : Int) + i) = (v : Int) := by have := hxs.out; rw [IntKind.wrap_u64]; omega
          obtain ⟨IN, eI⟩ : ∃ b, b = inB c a n v := ⟨_, rfl⟩
          have h1 : someB c a n x (i + 1) = (someB c a n x i || IN) := by rw [eI, hv]; rfl
          have h2 : allB c a n x (i + 1) = (allB c a n x i && IN) := by rw [eI, hv]; rfl
          obtain ⟨S, eS⟩ : ∃ S, S = someB c a n x i := ⟨_, rfl⟩
          obtain ⟨T, eT⟩ : ∃ T, T = allB c a n x i := ⟨_, rfl⟩
          rw [← eS] at h1
          rw [← eT] at h2
          rw [← eS, ← eT]
          have e0 := hin.out v
          rw [← eI] at e0
          clear eS eT hin HRg HQ eI hv
          cases K with
          | false =>
            obtain rfl : IN = false := e0
            have HS := Lib.hid h1
            have HL := Lib.hid h2
            clear h1 h2
            (try clear e0)
            cases S <;> cases T
            all_goals
              go_wp2_with fail
              go_roundg gg
              case measure => omega
              case rel => exact ⟨i + 1, by omega, by go_num, by first | rfl | (rw [HS.out]; rfl) | rw [HS.out], by first | rfl | (rw [HL.out]; rfl) | rw [HL.out], rfl⟩
          | true =>
            by_cases u1 : A ≤ v
            · have u1' : (A : Int) ≤ v := by omega
              by_cases u2 : v ≤ B
              · have u2' : (v : Int) ≤ B := by omega
                obtain rfl : IN = true := by rw [e0]; simp [u1, u2]
                have HS := Lib.hid h1
                have HL := Lib.hid h2
                clear h1 h2 e0 u1 u2
                cases S <;> cases T
                all_goals
                  go_wp2_with fail
                  go_roundg gg
                  case measure => omega
                  case rel => exact ⟨i + 1, by omega, by go_num, by first | rfl | (rw [HS.out]; rfl) | rw [HS.out], by first | rfl | (rw [HL.out]; rfl) | rw [HL.out], rfl⟩
              · have u2' : ¬ (v : Int) ≤ B := by omega
                obtain rfl : IN = false := by rw [e0]; simp [u1, u2]
                have HS := Lib.hid h1
                have HL := Lib.hid h2
                clear h1 h2 e0 u1 u2
                cases S <;> cases T
                all_goals
                  go_wp2_with fail
                  go_roundg gg
                  case measure => omega
                  case rel => exact ⟨i + 1, by omega, by go_num, by first | rfl | (rw [HS.out]; rfl) | rw [HS.out], by first | rfl | (rw [HL.out]; rfl) | rw [HL.out], rfl⟩
            · have u1' : ¬ (A : Int) ≤ v := by omega
              obtain rfl : IN = false := by rw [e0]; simp [u1]
              have HS := Lib.hid h1
              have HL := Lib.hid h2
              clear h1 h2 e0 u1
              cases S <;> cases T
              all_goals
                go_wp2_with fail
                go_roundg gg
                case measure => omega
                case rel => exact ⟨i + 1, by omega, by go_num, by first | rfl | (rw [HS.out]; rfl) | rw [HS.out], by first | rfl | (rw [HL.out]; rfl) | rw [HL.out], rfl⟩
end Go.Proofs.YthhlcchofilimaaGreatDoor.Y
namespace Go.Proofs.YthhlcchofilimaaGreatDoor.Y
set_option linter.unusedVariables false
set_option linter.unusedSimpArgs false
set_option maxRecDepth 20000
open Go.ChangeShapes Go.WideShapes Go.ChangeAt Go.RowKit
set_option maxRecDepth 100000 in
theorem CheckR_l (c a : Nat → Nat) (mode kind size : Int) (x : Nat) (h : kind < 0) (w : World) :
    Calls Tryz.prog 39 #[.agg (u8s c), .agg (u64s a), .int .i64 mode, .int .i64 kind, .int .u64 x, .int .i64 size] w (RetB false w) := by
  go_enter Tryz.func39, Tryz.ntmps39
  go_wp2_with fail
  go_ret
  exact retB_mk rfl (by repeat (first | (with_reducible first | exact Below.refl _ _ | assumption | exact Nat.le_refl _ | refine Below.drew ?_ | refine Below.alloc ?_ ?_ _ | refine Below.setCell ?_ ?_ _ | refine le_alloc ?_ | refine le_set ?_ | refine le_drew ?_ | refine below_step (by assumption) ?_ ?_ | refine le_below (by assumption) ?_) | (dsimp only; omega)))
set_option maxRecDepth 100000 in
theorem CheckR_g (c a : Nat → Nat) (mode kind size : Int) (x : Nat) (h0 : ¬ kind < 0) (h : kind > 3) (w : World) :
    Calls Tryz.prog 39 #[.agg (u8s c), .agg (u64s a), .int .i64 mode, .int .i64 kind, .int .u64 x, .int .i64 size] w (RetB false w) := by
  go_enter Tryz.func39, Tryz.ntmps39
  go_wp2_with fail
  go_ret
  exact retB_mk rfl (by repeat (first | (with_reducible first | exact Below.refl _ _ | assumption | exact Nat.le_refl _ | refine Below.drew ?_ | refine Below.alloc ?_ ?_ _ | refine Below.setCell ?_ ?_ _ | refine le_alloc ?_ | refine le_set ?_ | refine le_drew ?_ | refine below_step (by assumption) ?_ ?_ | refine le_below (by assumption) ?_) | (dsimp only; omega)))
set_option maxRecDepth 100000 in
theorem CheckR_s (c a : Nat → Nat) (mode kind size : Int) (x : Nat) (h0 : ¬ kind < 0) (h3 : ¬ kind > 3) (e1 : ¬ size = 1) (e2 : ¬ size = 2) (e3 : ¬ size = 4) (e4 : ¬ size = 8) (w : World) :
    Calls Tryz.prog 39 #[.agg (u8s c), .agg (u64s a), .int .i64 mode, .int .i64 kind, .int .u64 x, .int .i64 size] w (RetB false w) := by
  go_enter Tryz.func39, Tryz.ntmps39
  go_wp2_with fail
  go_ret
  exact retB_mk rfl (by repeat (first | (with_reducible first | exact Below.refl _ _ | assumption | exact Nat.le_refl _ | refine Below.drew ?_ | refine Below.alloc ?_ ?_ _ | refine Below.setCell ?_ ?_ _ | refine le_alloc ?_ | refine le_set ?_ | refine le_drew ?_ | refine below_step (by assumption) ?_ ?_ | refine le_below (by assumption) ?_) | (dsimp only; omega)))
set_option maxRecDepth 100000 in
theorem CheckR_o2 (c a : Nat → Nat) (mode kind : Int) (x : Nat) (h0 : ¬ kind < 0) (h3 : ¬ kind > 3) (x1 : decide ((18446744073709551614 : Int) < (x : Int)) = true) (w : World) :
    Calls Tryz.prog 39 #[.agg (u8s c), .agg (u64s a), .int .i64 mode, .int .i64 kind, .int .u64 x, .int .i64 2] w (RetB false w) := by
  go_enter Tryz.func39, Tryz.ntmps39
  go_wp2_with fail
  go_ret
  exact retB_mk rfl (by repeat (first | (with_reducible first | exact Below.refl _ _ | assumption | exact Nat.le_refl _ | refine Below.drew ?_ | refine Below.alloc ?_ ?_ _ | refine Below.setCell ?_ ?_ _ | refine le_alloc ?_ | refine le_set ?_ | refine le_drew ?_ | refine below_step (by assumption) ?_ ?_ | refine le_below (by assumption) ?_) | (dsimp only; omega)))
set_option maxRecDepth 100000 in
theorem CheckR_o4 (c a : Nat → Nat) (mode kind : Int) (x : Nat) (h0 : ¬ kind < 0) (h3 : ¬ kind > 3) (x1 : decide ((18446744073709551612 : Int) < (x : Int)) = true) (w : World) :
    Calls Tryz.prog 39 #[.agg (u8s c), .agg (u64s a), .int .i64 mode, .int .i64 kind, .int .u64 x, .int .i64 4] w (RetB false w) := by
  go_enter Tryz.func39, Tryz.ntmps39
  go_wp2_with fail
  go_ret
  exact retB_mk rfl (by repeat (first | (with_reducible first | exact Below.refl _ _ | assumption | exact Nat.le_refl _ | refine Below.drew ?_ | refine Below.alloc ?_ ?_ _ | refine Below.setCell ?_ ?_ _ | refine le_alloc ?_ | refine le_set ?_ | refine le_drew ?_ | refine below_step (by assumption) ?_ ?_ | refine le_below (by assumption) ?_) | (dsimp only; omega)))
set_option maxRecDepth 100000 in
theorem CheckR_o8 (c a : Nat → Nat) (mode kind : Int) (x : Nat) (h0 : ¬ kind < 0) (h3 : ¬ kind > 3) (x1 : decide ((18446744073709551608 : Int) < (x : Int)) = true) (w : World) :
    Calls Tryz.prog 39 #[.agg (u8s c), .agg (u64s a), .int .i64 mode, .int .i64 kind, .int .u64 x, .int .i64 8] w (RetB false w) := by
  go_enter Tryz.func39, Tryz.ntmps39
  go_wp2_with fail
  go_ret
  exact retB_mk rfl (by repeat (first | (with_reducible first | exact Below.refl _ _ | assumption | exact Nat.le_refl _ | refine Below.drew ?_ | refine Below.alloc ?_ ?_ _ | refine Below.setCell ?_ ?_ _ | refine le_alloc ?_ | refine le_set ?_ | refine le_drew ?_ | refine below_step (by assumption) ?_ ?_ | refine le_below (by assumption) ?_) | (dsimp only; omega)))
theorem CheckR_c (c a : Nat → Nat) (mode kind : Int) (x : Nat) (size : Int) (hc : Hid (OkC c)) (ha : Hid (OkA a)) (hx : Hid (x < 18446744073709551616)) (w : World) :
    Calls Tryz.prog 39 #[.agg (u8s c), .agg (u64s a), .int .i64 mode, .int .i64 kind, .int .u64 x, .int .i64 size] w (RetB (chkB c a mode kind x size) w) := by
  cases h : accB kind x size with
  | true =>
    obtain ⟨k, s, hk⟩ := acc_y h
    rw [chk_y hk]
    obtain ⟨rfl, h1, rfl, h2, h3⟩ := hk
    rcases h2 with rfl | rfl | rfl | rfl
    · exact CheckR_1 c a mode x k h1 h3 hc ha hx _ (mode_beq mode) w
    · exact CheckR_2 c a mode x k h1 h3 hc ha hx _ (mode_beq mode) w
    · exact CheckR_4 c a mode x k h1 h3 hc ha hx _ (mode_beq mode) w
    · exact CheckR_8 c a mode x k h1 h3 hc ha hx _ (mode_beq mode) w
  | false =>
    rw [chk_n h]
    by_cases k0 : kind < 0
    · exact CheckR_l c a mode kind size x k0 w
    · by_cases k3 : kind > 3
      · exact CheckR_g c a mode kind size x k0 k3 w
      · have hx := hx.out
        rcases acc_n h with ⟨h1, h2, h3, h4⟩ | ⟨h1, h2⟩ | ⟨h1, h2, h3⟩ | ⟨h1, h2, h3, h4⟩
        · exact CheckR_s c a mode kind size x k0 k3 h1 h2 h3 h4 w
        · omega
        · omega
        · rcases h1 with rfl | rfl | rfl | rfl
          · omega
          · exact CheckR_o2 c a mode kind x k0 k3 (by rw [decide_eq_true_eq]; omega) w
          · exact CheckR_o4 c a mode kind x k0 k3 (by rw [decide_eq_true_eq]; omega) w
          · exact CheckR_o8 c a mode kind x k0 k3 (by rw [decide_eq_true_eq]; omega) w
end Go.Proofs.YthhlcchofilimaaGreatDoor.Y
namespace Go.Proofs.YthhlcchofilimaaGreatDoor.Y
set_option linter.unusedVariables false
set_option linter.unusedSimpArgs false
set_option maxRecDepth 20000
open Go.ChangeShapes Go.WideShapes Go.ChangeAt Go.RowKit
def setN (c : Nat → Nat) (n v k : Nat) : Nat := bif k == n then v else c k
theorem Row.set {w : World} {b : Nat} {t : TypeId} {cs : Array Value} (h : Row w b t cs) (n : Nat) (v : Value) : Row (w.setCell ⟨b, n, none⟩ v) b t (cs.setIfInBounds n v) := by
  unfold Row at h ⊢
  show (w.heap.modify b _)[b]? = _
  rw [Array.getElem?_modify, if_pos rfl, h]; rfl
theorem Row.fz {w : World} {b : Nat} {t : TypeId} {cs : Array Value} (h : Row w b t cs) (n : Nat) : w.frozen? ⟨b, n, none⟩ = false := by
  unfold Row at h; unfold World.frozen?; simp only [h]; simp
theorem Row.set_ne {w : World} {b b' : Nat} {t : TypeId} {cs : Array Value} (h : Row w b t cs) (hb : b' ≠ b) (n : Nat) (v : Value) : Row (w.setCell ⟨b', n, none⟩ v) b t cs := by
  unfold Row at h ⊢
  show (w.heap.modify b' _)[b]? = _
  rw [Array.getElem?_modify, if_neg hb, h]
theorem Row.setRow {w : World} {b : Nat} {t : TypeId} {cs : Array Value} (h : Row w b t cs) (cs' : Array Value) : Row (w.setRow b cs') b t cs' := by
  unfold Row at h ⊢
  show (w.heap.modify b _)[b]? = _
  rw [Array.getElem?_modify, if_pos rfl, h]; rfl
theorem Row.setRow_ne {w : World} {b b' : Nat} {t : TypeId} {cs : Array Value} (h : Row w b t cs) (hb : b' ≠ b) (cs' : Array Value) : Row (w.setRow b' cs') b t cs := by
  unfold Row at h ⊢
  show (w.heap.modify b' _)[b]? = _
  rw [Array.getElem?_modify, if_neg hb, h]
theorem sz_setRow (w : World) (g : Nat) (cs : Array Value) : (w.setRow g cs).heap.size = w.heap.size := by
  show (w.heap.modify g _).size = _
  simp
theorem below_setRow {B : Nat} {w w' : World} (h : Below B w w') {g : Nat} (hg : B ≤ g) (cs : Array Value) : Below B w (w'.setRow g cs) :=
  ⟨h.os, h.tape, h.output, by rw [sz_setRow]; exact h.size, fun k hk => by
    show (w'.heap.modify g _)[k]? = _
    rw [Array.getElem?_modify, if_neg (by omega)]; exact h.block k hk⟩
end Go.Proofs.YthhlcchofilimaaGreatDoor.Y
namespace Go.Proofs.YthhlcchofilimaaGreatDoor.Y
set_option linter.unusedVariables false
set_option linter.unusedSimpArgs false
set_option maxRecDepth 20000
open Go.ChangeShapes Go.WideShapes Go.ChangeAt Go.RowKit
/-- Three rows, one behind the other. -/
theorem rows3 (w : World) (x y z : Array Value) (t u v : TypeId) : Row (((w.alloc (Obj.cells x t)).alloc (Obj.cells y u)).alloc (Obj.cells z v)) w.heap.size t x ∧
    Row (((w.alloc (Obj.cells x t)).alloc (Obj.cells y u)).alloc (Obj.cells z v)) (w.heap.size + 1) u y ∧ Row (((w.alloc (Obj.cells x t)).alloc (Obj.cells y u)).alloc (Obj.cells z v)) (w.heap.size + 2) v z := by
  have h2 := row_new (w.alloc (Obj.cells x t)) y u
  have h3 := row_new ((w.alloc (Obj.cells x t)).alloc (Obj.cells y u)) z v
  rw [sz_alloc] at h2
  rw [sz_alloc, sz_alloc] at h3
  exact ⟨row_old (row_old (row_new _ _ _) _) _, row_old h2 _, h3⟩
end Go.Proofs.YthhlcchofilimaaGreatDoor.Y
namespace Go.Proofs.YthhlcchofilimaaGreatDoor.Y
set_option linter.unusedVariables false
set_option linter.unusedSimpArgs false
set_option maxRecDepth 20000
open Go.ChangeShapes Go.WideShapes Go.ChangeAt Go.RowKit Go.WideMaps Go.WideElems Go.Joins Go.Deep
theorem post_nums {H : Type} {enc : TypeId × Value → H} {P : Program} {f : Func} {s : ChangeSpec} {apart fresh handsOn again : Bool} {W W' : World} {args : Array Value} {v : Value} {ds gs : List (DataW H)}
    (hW : DataW.Whole enc P f.params.toList s.vars apart W args.toList ds gs [])
    (hr : ∀ (b : Nat) (sp : Nat → Bool) (hd : Bool), DataW.TrodAll enc P W' b sp hd f.resultTypes.toList (v.resultList f.resultTypes.size) (s.fn H (ds ++ gs)).results [])
    (ha : ∀ sp : Nat → Bool, DataW.TrodAll enc P W' 0 sp true f.params.toList args.toList (s.fn H (ds ++ gs)).args [])
    (hv : ∀ sp : Nat → Bool, DataW.TrodVars enc P W' sp s.vars (s.fn H (ds ++ gs)).vars [])
    (hb : Below W.heap.size W W')
    (hok : ∀ (j : Nat) (t : TypeId) (r : Value), f.resultTypes[j]? = some t → (v.resultList f.resultTypes.size)[j]? = some r → Value.okWide P W' .any 0 t r) :
    s.post enc P f apart fresh handsOn again W args v W' :=
  ⟨ds, gs, [], [], [], [], hW, hr _ _ _, ha _, hv _, hb.frame _, fun _ => ⟨hok, _, _, [], ⟨[], [], trodAll_append (ha _) (hr _ _ _), hv _, rfl, fun _ _ h => absurd h List.not_mem_nil, fun _ => List.nodup_nil⟩, fun _ h => absurd h List.not_mem_nil⟩⟩
theorem u64_of_wf {a : Int} (h : (Lit.int .u64 a).wf = true) : ∃ n : Nat, a = n ∧ Hid (n < 18446744073709551616) := by
  simp [Lit.wf, IntKind.min, IntKind.max, IntKind.signed, IntKind.bits] at h
  obtain ⟨h0, h1⟩ := h
  exact ⟨a.toNat, by omega, by show _ < _; omega⟩
theorem u8_of_wf {a : Int} (h : (Lit.int .u8 a).wf = true) : ∃ n : Nat, a = n ∧ n < 256 := by
  simp [Lit.wf, IntKind.min, IntKind.max, IntKind.signed, IntKind.bits] at h
  obtain ⟨h0, h1⟩ := h
  exact ⟨a.toNat, by omega, by omega⟩
set_option maxRecDepth 100000 in
set_option maxHeartbeats 2000000 in
theorem open_arr8 {H : Type} {enc : TypeId × Value → H} {w : World} {base : Nat} {spare : Nat → Bool} {held : Bool} {r : Reach} {b0 : Nat} {t e : TypeId} {q : IntKind} {v : Value} {d : DataW H} {p : List MemPlace}
    (ht : Tryz.prog.underlying t = some (.array 8 e)) (he : Tryz.prog.underlying e = some (.int q)) (hce : Tryz.prog.cellsOf e = 1) (hct : Tryz.prog.cellsOf t = 8)
    (hv : Value.okWide Tryz.prog w r b0 t v) (h : DataW.Trod enc Tryz.prog w base spare held t v d p) :
    ∃ a0 a1 a2 a3 a4 a5 a6 a7 : Int, (Lit.int q a0).wf = true ∧ (Lit.int q a1).wf = true ∧ (Lit.int q a2).wf = true ∧ (Lit.int q a3).wf = true ∧ (Lit.int q a4).wf = true ∧ (Lit.int q a5).wf = true ∧ (Lit.int q a6).wf = true ∧ (Lit.int q a7).wf = true ∧ v = .agg #[.int q a0, .int q a1, .int q a2, .int q a3, .int q a4, .int q a5, .int q a6, .int q a7] ∧ p = [] ∧
      ∀ (w' : World) (base' : Nat) (spare' : Nat → Bool) (held' : Bool), DataW.Trod enc Tryz.prog w' base' spare' held' t (.agg #[.int q a0, .int q a1, .int q a2, .int q a3, .int q a4, .int q a5, .int q a6, .int q a7]) d [] := by
  simp only [Value.okWide, ht] at hv
  obtain ⟨cs, rfl, hsz, -⟩ := hv
  obtain ⟨l⟩ := cs
  match l, hsz.trans hct with
  | [c0, c1, c2, c3, c4, c5, c6, c7], _ =>
    obtain ⟨fuel, hf⟩ := h
    obtain ⟨xs, n, _, hx, _, hlen, hg⟩ := DataW.trod_array ht hf
    match xs, hlen with
    | [y0, y1, y2, y3, y4, y5, y6, y7], _ =>
      have g0 := hg 0 (by decide); have g1 := hg 1 (by decide); have g2 := hg 2 (by decide); have g3 := hg 3 (by decide); have g4 := hg 4 (by decide); have g5 := hg 5 (by decide); have g6 := hg 6 (by decide); have g7 := hg 7 (by decide)
      simp [Value.cells, hce] at g0 g1 g2 g3 g4 g5 g6 g7

      obtain ⟨a0, e0, z0, q0⟩ := DataW.trod_int he g0
      obtain ⟨a1, e1, z1, q1⟩ := DataW.trod_int he g1
      obtain ⟨a2, e2, z2, q2⟩ := DataW.trod_int he g2
      obtain ⟨a3, e3, z3, q3⟩ := DataW.trod_int he g3
      obtain ⟨a4, e4, z4, q4⟩ := DataW.trod_int he g4
      obtain ⟨a5, e5, z5, q5⟩ := DataW.trod_int he g5
      obtain ⟨a6, e6, z6, q6⟩ := DataW.trod_int he g6
      obtain ⟨a7, e7, z7, q7⟩ := DataW.trod_int he g7
      simp only [List.cons.injEq, and_true] at e0 e1 e2 e3 e4 e5 e6 e7
      subst e0 e1 e2 e3 e4 e5 e6 e7 z0 z1 z2 z3 z4 z5 z6 z7
      simp only [Prod.mk.injEq] at hx
      obtain ⟨hx1, hx2⟩ := hx
      refine ⟨a0, a1, a2, a3, a4, a5, a6, a7, q0, q1, q2, q3, q4, q5, q6, q7, rfl, by simpa using hx2, fun w' base' spare' held' => ⟨2, ?_⟩⟩
      have r8 : List.range 8 = [0, 1, 2, 3, 4, 5, 6, 7] := rfl
      simp [DataW.trod_step, DataW.trodStep, ht, he, Value.cells, hct, hce, r8, q0, q1, q2, q3, q4, q5, q6, q7, hx1]
def sel8 (b0 b1 b2 b3 b4 b5 b6 b7 k : Nat) : Nat := match k with | 0 => b0 | 1 => b1 | 2 => b2 | 3 => b3 | 4 => b4 | 5 => b5 | 6 => b6 | 7 => b7 | _ => 0
theorem sel8_lt {b0 b1 b2 b3 b4 b5 b6 b7 m : Nat} (hm : 0 < m) (h0 : b0 < m) (h1 : b1 < m) (h2 : b2 < m) (h3 : b3 < m) (h4 : b4 < m) (h5 : b5 < m) (h6 : b6 < m) (h7 : b7 < m) : ∀ k, sel8 b0 b1 b2 b3 b4 b5 b6 b7 k < m
  | 0 => h0
  | 1 => h1
  | 2 => h2
  | 3 => h3
  | 4 => h4
  | 5 => h5
  | 6 => h6
  | 7 => h7
  | k + 8 => hm
theorem open_u64s {H : Type} {enc : TypeId × Value → H} {w : World} {base : Nat} {spare : Nat → Bool} {held : Bool} {r : Reach} {b0 : Nat} {v : Value} {d : DataW H} {p : List MemPlace}
    (hv : Value.okWide Tryz.prog w r b0 25 v) (h : DataW.Trod enc Tryz.prog w base spare held 25 v d p) :
    ∃ c : Nat → Nat, Hid (OkA c) ∧ v = .agg (u64s c) ∧ p = [] ∧ ∀ (w' : World) (base' : Nat) (spare' : Nat → Bool) (held' : Bool), DataW.Trod enc Tryz.prog w' base' spare' held' 25 (.agg (u64s c)) d [] := by
  obtain ⟨a0, a1, a2, a3, a4, a5, a6, a7, q0, q1, q2, q3, q4, q5, q6, q7, rfl, rfl, hT⟩ := open_arr8 Tryz.underlying25 Tryz.underlying23 (by kernel_rfl) (by kernel_rfl) hv h
  obtain ⟨b0, rfl, l0⟩ := u64_of_wf q0
  obtain ⟨b1, rfl, l1⟩ := u64_of_wf q1
  obtain ⟨b2, rfl, l2⟩ := u64_of_wf q2
  obtain ⟨b3, rfl, l3⟩ := u64_of_wf q3
  obtain ⟨b4, rfl, l4⟩ := u64_of_wf q4
  obtain ⟨b5, rfl, l5⟩ := u64_of_wf q5
  obtain ⟨b6, rfl, l6⟩ := u64_of_wf q6
  obtain ⟨b7, rfl, l7⟩ := u64_of_wf q7
  exact ⟨sel8 b0 b1 b2 b3 b4 b5 b6 b7, fun k => sel8_lt (by decide) l0.out l1.out l2.out l3.out l4.out l5.out l6.out l7.out k, rfl, rfl, hT⟩
def laidL : List (String × DataW Unit) := [("math/bits.deBruijn64tab", Rows.laid_math_bits_deBruijn64tab)]
theorem g0_ : Tryz.prog.globalNamed "math/bits.deBruijn64tab" = some 0 := by kernel_rfl
theorem t0_ : (Tryz.prog.globals[0]?).map (·.type) = some 154 := by kernel_rfl
theorem of_laid {W : World} (h : laidMetH Tryz.prog laidL W) : G W := by
  rw [MakeChecks.laidMetH_plain _ _ _ (by kernel_rfl)] at h
  obtain ⟨ps, ⟨g0, t0, cs0, f0, p0, q0, hg0, ht0, hv0, hd0, _, _⟩, _, _⟩ := h
  obtain rfl := Option.some.inj (g0_.symm.trans hg0)
  obtain rfl := Option.some.inj (t0_.symm.trans ht0)
  have e0 : cs0.toList = debC.toList := Lib.cells_of_tab (zs := [0, 1, 56, 2, 57, 49, 28, 3, 61, 58, 42, 50, 38, 29, 17, 4, 62, 47, 59, 36, 45, 43, 51, 22, 53, 39, 33, 30, 24, 18, 12, 5, 63, 55, 48, 27, 60, 41, 37, 16, 46, 35, 44, 21, 52, 32, 23, 11, 54, 26, 40, 15, 34, 20, 31, 10, 25, 14, 19, 9, 13, 8, 7, 6]) (k := .u8) (show Tryz.prog.underlying 154 = some (.array 64 5) by kernel_rfl) (show Tryz.prog.underlying 5 = some (.int .u8) by kernel_rfl) (by kernel_rfl) (by kernel_rfl) hd0
  have a0 : cs0 = debC := Array.toList_inj.1 e0
  subst a0
  have v0 := World.var?_cell hg0 hv0
  refine ⟨?_, fun o _ => v0 o⟩
  have := block_lt_of_cell (w := W) (a := ⟨0, 0, none⟩) (v := .int .u8 0) (v0 0)
  exact this
theorem door_met (os : Os) (args : Array Value) : laidMetH Tryz.prog laidL ((World.doorLaid Tryz.prog 400 os).forCall (fun _ _ => 0) ⟨#[], args, []⟩).memory :=
  laidMetH_of_parts3 (fuel := 8) (laidMet_of_run' 8 (by kernel_rfl) (by kernel_rfl)) (by kernel_rfl) (by kernel_rfl)
end Go.Proofs.YthhlcchofilimaaGreatDoor.Y
namespace Go.Proofs.YthhlcchofilimaaGreatDoor.Y
set_option linter.unusedVariables false
set_option linter.unusedSimpArgs false
set_option maxRecDepth 20000
open Go.ChangeShapes Go.WideShapes Go.ChangeAt Go.RowKit Go.Sort Go.Maps Go.WideMaps
theorem run_load_row {P : Program} {o : Oper} {a : Act} {w : World} (ty : TypeId) (x : Operand) (ho : o.op = .load ty x) (g : Nat) (hx : a.eval x = .pointer (some ⟨g, 0, none⟩)) (t : TypeId) (cs : Array Value) (fr : Nat × Nat) (d : TypeDesc) (hg : w.heap[g]? = some (.cells cs t fr))
    (hu : P.underlying ty = some d) (hd : (match d with | .struct _ | .array _ _ => true | _ => false) = true) (hi : (P.info? ty).map (·.size) = some cs.size) : (execOp a.eval o).run P w = .ok (.value (.agg cs)) w := by
  unfold execOp
  simp only [ho, hx, Instr.loadAt, Instr.sureAddr, Sem.run_bind, Sem.run_pure, Result.andThen_ok, run_loadVar_row w g t ty cs fr d hg hu hd hi]
theorem row_regrown {w : World} {b : Nat} {t : TypeId} {cs : Array Value} (h : Row w b t cs) (p : Regrown) : Row (grow (redrawn w p.d) p.os) b t cs := h.below (below_regrown w p.d p.os) (by
  apply Nat.lt_of_not_le
  intro hn
  unfold Row at h
  rw [Array.getElem?_eq_none hn] at h; cases h)
theorem quiet_load_row {P : Program} {o : Oper} {a : Act} {W : World} {K : Act → Prop} (ty : TypeId) (x : Operand) (ho : o.op = .load ty x) (g : Nat) (hx : a.eval x = .pointer (some ⟨g, 0, none⟩)) (t : TypeId) (cs : Array Value) (d : TypeDesc) (hg : Row W g t cs)
    (hu : P.underlying ty = some d) (hd : (match d with | .struct _ | .array _ _ => true | _ => false) = true) (hi : (P.info? ty).map (·.size) = some cs.size) (h : K (a.put o.dst (.agg cs))) : o.quiet P a (fun w' => ∃ p : Regrown, w' = grow (redrawn W p.d) p.os) K :=
  ⟨_, fun w hw => by
    obtain ⟨p, rfl⟩ := hw
    unfold Oper.quietAt
    rw [run_load_row ty x ho g hx t cs (0, 0) d (row_regrown hg p) hu hd hi]
    exact ⟨rfl, rfl⟩, h⟩
theorem info_u8 : ∃ i, Tryz.prog.info? 5 = some i := by
  cases h : Tryz.prog.info? 5 with
  | some i => exact ⟨i, rfl⟩
  | none =>
    have : (Tryz.prog.info? 5).isSome = true := by kernel_rfl
    rw [h] at this; cases this
theorem info_u64 : ∃ i, Tryz.prog.info? 23 = some i := by
  cases h : Tryz.prog.info? 23 with
  | some i => exact ⟨i, rfl⟩
  | none =>
    have : (Tryz.prog.info? 23).isSome = true := by kernel_rfl
    rw [h] at this; cases this
theorem one_u8 : Tryz.prog.cellsOf 5 = 1 := by kernel_rfl
theorem one_u64 : Tryz.prog.cellsOf 23 = 1 := by kernel_rfl
theorem items_u8 (w : World) (f : Nat → Nat) (d : Nat) : ∀ l : List Nat, (∀ i, i ∈ l → i < 8) → (Op.eqItems (d + 1) 5 1 (u8s f) (u8s f) l).run Tryz.prog w = .ok true w
  | [], _ => by simp [Op.eqItems]
  | i :: l, h => by
    have hi := h i (List.mem_cons_self)
    have p1 := run_part_plain (P := Tryz.prog) w (e := 5) (by kernel_rfl) (xs := u8s f) (off := i * 1) (by rw [Nat.mul_one]; exact u8s_at f i hi)
    have p3 := run_equalIn_int (P := Tryz.prog) w d 5 .u8 .u8 (f i : Nat) (f i : Nat) Tryz.underlying5
    have ih := items_u8 w f d l (fun j hj => h j (List.mem_cons_of_mem _ hj))
    have e : (((f i : Nat) : Int) == ((f i : Nat) : Int)) = true := by simp
    simp only [Op.eqItems, Sem.run_bind, p1, p3, Result.andThen_ok, e]
    simpa using ih
theorem items_u64 (w : World) (f : Nat → Nat) (d : Nat) : ∀ l : List Nat, (∀ i, i ∈ l → i < 8) → (Op.eqItems (d + 1) 23 1 (u64s f) (u64s f) l).run Tryz.prog w = .ok true w
  | [], _ => by simp [Op.eqItems]
  | i :: l, h => by
    have hi := h i (List.mem_cons_self)
    have p1 := run_part_plain (P := Tryz.prog) w (e := 23) (by kernel_rfl) (xs := u64s f) (off := i * 1) (by rw [Nat.mul_one]; exact u64s_at f i hi)
    have p3 := run_equalIn_int (P := Tryz.prog) w d 23 .u64 .u64 (f i : Nat) (f i : Nat) Tryz.underlying23
    have ih := items_u64 w f d l (fun j hj => h j (List.mem_cons_of_mem _ hj))
    have e : (((f i : Nat) : Int) == ((f i : Nat) : Int)) = true := by simp
    simp only [Op.eqItems, Sem.run_bind, p1, p3, Result.andThen_ok, e]
    simpa using ih
theorem q_b {w : World} {f : FuncId} {args : Array Value} {b : Bool} {dd : Nat} {os : Array Obj} (h : Calls Tryz.prog f args (grow (redrawn w dd) os) (RetB b (grow (redrawn w dd) os))) :
    Calls Tryz.prog f args (grow (redrawn w dd) os) fun e w'' => e = .returned (.bool b) ∧ ∃ p : Regrown, w'' = grow (redrawn w p.d) p.os := Calls.regrown_of h
end Go.Proofs.YthhlcchofilimaaGreatDoor.Y
