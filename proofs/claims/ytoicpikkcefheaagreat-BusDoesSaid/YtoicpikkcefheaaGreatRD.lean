/- The document's plic: the best source of a context. -/
import Derived.Test.YtoicpikkcefheaaGreatRB
import Derived.Deep.LoopGhost
namespace Go.Proofs.YtoicpikkcefheaaGreat.P
open Go.ChangeShapes Go.WideShapes Go.ChangeAt Go.RowKit Go.Sort
open M (Fp Dj Cw Up Th)
set_option linter.unusedVariables false
set_option linter.unusedSimpArgs false
set_option maxRecDepth 20000
theorem row_from1 {S : St} {c r : Nat} (h0 : S.st 0 = 0) : rowF S c r 9 0 = rowF S c r 8 1 := by
  show (bif hitB S c r 0 then some 0 else rowF S c r 8 1) = _
  have : hitB S c r 0 = false := by unfold hitB; rw [h0]; simp
  rw [this]; rfl
theorem bit_div (x n : Nat) : (x / 2 ^ n % 2 == 1) = x.testBit n := by
  rw [Nat.testBit_eq_decide_div_mod_eq]
  rw [Bool.eq_iff_iff]; simp
set_option maxRecDepth 100000 in
set_option maxHeartbeats 2000000 in
theorem best_r (b e p t ce cp ct u v s c : Nat) (S : St) (w : World) (h : Hid (IsRP w b e p t ce cp ct u v s S)) (hc : c < 2) :
    Calls Tryz.prog 99 #[.pointer (some ⟨b, 0, none⟩), .int .i64 c] w (RetI (best S c) w) := by
  have c2 : (c : Int) < 2 := by omega
  have c20 : ((c : Nat) : Int).toNat = c := by omega
  have hce := h.out.raw.hce
  have hcp := h.out.raw.hcp
  have hen := h.out.ok.2.1 c
  have hv := h.out.bv.lt
  have a1 : bits .and .u64 (v : Int) (S.en c : Int) = ((v &&& S.en c : Nat) : Int) := bits_and_u64_nat v (S.en c) (by omega) (by omega)
  have HT : Hid (∀ n, n < 9 → ((v &&& S.en c) / 2 ^ n % 2 == 1) = (S.st n == 1 && takeB S c n)) := fun n hn => by
    rw [bit_div, Nat.testBit_and, h.out.bv.at hn]
    unfold takeB; rw [bit_div]
  obtain ⟨x, hx⟩ : ∃ x, x = v &&& S.en c := ⟨_, rfl⟩
  rw [← hx] at a1 HT
  have xl : Hid (x < 18446744073709551616) := by show _ < _; rw [hx]; exact Nat.lt_of_le_of_lt Nat.and_le_left (by omega)
  have HE := Lib.hid (h.out.raw.en c hc).1
  have H1 := Lib.hid h.out.raw.c1
  have H3 := Lib.hid h.out.raw.c3
  have H4 := Lib.hid h.out.raw.c4
  have HP := Lib.hid (fun n hn => (h.out.raw.pr n hn).1)
  have H0 := Lib.hid h.out.inv.2.2.1
  clear hx hen hv hce hcp h
  go_enter Tryz.func99, Tryz.ntmps99
  go_wp2_with fail
  go_loopg [5] 7 (fun g s5 wx => s5 = .int .u64 g ∧ g ≤ 7 ∧ Hid (bestF S c 7 = bestF S c g) ∧ Hid (Below w.heap.size w wx))
  case atStart => exact ⟨rfl, by omega, rfl, Below.refl _ _⟩
  case round =>
    obtain ⟨rfl, hg7, HB, HW⟩ := hrel
    cases gk with
    | zero =>
      go_wp2_with fail
      go_ret
      exact ⟨by rw [show best S c = 0 from HB.out]; rfl, HW.out⟩
    | succ r =>
      have hgt : (0 : Int) < ((r + 1 : Nat) : Int) := by omega
      have hr6 : (r : Int) ≤ 6 := by omega
      have HR0 : Hid (bestF S c (r + 1) = orF (rowF S c (r + 1) 8 1) (bestF S c r)) := by
        show orF (rowF S c (r + 1) 9 0) (bestF S c r) = _
        rw [row_from1 H0.out]
      go_wp2_with fail
      go_loopg [6] 8 (fun g s6 wx => ∃ k : Nat, k + g = 9 ∧ 1 ≤ k ∧ s6 = .int .i64 k ∧ Hid (rowF S c (r + 1) 8 1 = rowF S c (r + 1) g k) ∧ Hid (Below w.heap.size w wx))
      case atStart => exact ⟨1, rfl, by omega, rfl, rfl, HW⟩
      case round =>
        obtain ⟨k, hk, hk1, rfl, HR, HX⟩ := hrel
        cases gk with
        | zero =>
          obtain rfl : k = 9 := by omega
          have HN : Hid (bestF S c 7 = bestF S c r) := by show _ = _; rw [HB.out, HR0.out, HR.out]; rfl
          go_wp2_with fail
          go_roundg r
          case measure => omega
          case rel => exact ⟨by go_num, by omega, HN, HX⟩
        | succ g =>
          have k8 : (k : Int) ≤ 8 := by omega
          have k9 : (k : Int) < 9 := by omega
          have k0 : ((k : Nat) : Int).toNat = k := by omega
          obtain ⟨wo, hwo⟩ : ∃ wo : World, wo = wr := ⟨_, rfl⟩
          rw [← hwo] at HX ⊢
          clear hwo
          have bc := fun {a : Addr} {y : Value} (q : w.cell? a = some y) => ((HX.out.cell (block_lt_of_cell q)).trans q : wo.cell? a = some y)
          have K1 := cell_regrown (bc H1.out)
          have K2 := cell_regrown (bc H3.out)
          have K3 := cell_regrown (bc H4.out)
          have K4 := cell_regrown (bc HE.out)
          have K5 := cell_regrown (bc (HP.out k (by omega)))
          have ht := HT.out k (by omega)
          have s1 := shr1 x k xl.out
          obtain ⟨y, hy⟩ : ∃ y, y = x / 2 ^ k % 2 := ⟨_, rfl⟩
          rw [← hy] at ht s1
          have HM : Hid (rowF S c (r + 1) (g + 1) k = bif hitB S c (r + 1) k then some k else rowF S c (r + 1) g (k + 1)) := rfl
          obtain ⟨T, hT⟩ : ∃ T, T = (S.st k == 1 && takeB S c k) := ⟨_, rfl⟩
          obtain ⟨pk, hp⟩ : ∃ pk, pk = S.pr k := ⟨_, rfl⟩
          have hh : hitB S c (r + 1) k = (pk == r + 1 && T) := by unfold hitB; rw [← hp, ← hT]
          rw [← hp] at K5
          rw [← hT] at ht
          have HH := Lib.hid hh
          have hyT : ((y : Int) == 1) = T := (cast_beq y 1).trans ht
          clear hy hT hp hh ht bc
          cases T with
          | false =>
            have HN : Hid (rowF S c (r + 1) 8 1 = rowF S c (r + 1) g (k + 1)) := by show _ = _; rw [HR.out, HM.out, HH.out, Bool.and_false]; rfl
            go_wp2_with fail
            refine wp_region_quiet_below (by kernel_rfl) (by kernel_rfl) ?_
            repeat (go_big_quiet_step (fail))
            refine wpQuiet_nil ?_
            intro _ hw'
            obtain ⟨⟨dq, osq⟩, hw''⟩ := hw'
            subst hw''
            have hb := below_regrown wo dq osq
            have HX2 := Lib.hid (HX.out.trans (hb.mono HX.out.size))
            generalize grow (redrawn wo dq) osq = w5 at *
            clear K1 K2 K3 K4 K5 hb
            go_wp2_with fail
            go_roundg g
            case measure => omega
            case rel => exact ⟨k + 1, by omega, by omega, by go_num, HN, HX2⟩
          | true =>
            by_cases hpk : pk = r + 1
            · have e1 : ((pk : Int) == ((r + 1 : Nat) : Int)) = true := by rw [beq_iff_eq]; omega
              have e1' : (pk : Int) = (r : Int) + 1 := by omega
              have HN : Hid (best S c = k) := by
                show bestF S c 7 = k
                rw [HB.out, HR0.out, HR.out, HM.out, HH.out, hpk]; simp [orF]
              go_wp2_with fail
              refine wp_region_quiet_below (by kernel_rfl) (by kernel_rfl) ?_
              repeat (go_big_quiet_step (fail))
              refine wpQuiet_nil ?_
              intro _ hw'
              obtain ⟨⟨dq, osq⟩, hw''⟩ := hw'
              subst hw''
              have hb := below_regrown wo dq osq
              have HX2 := Lib.hid (HX.out.trans (hb.mono HX.out.size))
              generalize grow (redrawn wo dq) osq = w5 at *
              clear K1 K2 K3 K4 K5 hb
              go_wp2_with fail
              go_ret
              exact ⟨by rw [HN.out]; rfl, HX2.out⟩
            · have e1 : ((pk : Int) == ((r + 1 : Nat) : Int)) = false := by rw [beq_eq_false_iff_ne]; omega
              have e2 : ((pk : Int) == (r : Int) + 1) = false := by rw [beq_eq_false_iff_ne]; omega
              have HN : Hid (rowF S c (r + 1) 8 1 = rowF S c (r + 1) g (k + 1)) := by show _ = _; rw [HR.out, HM.out, HH.out, show (pk == r + 1) = false by simp [hpk]]; rfl
              go_wp2_with fail
              refine wp_region_quiet_below (by kernel_rfl) (by kernel_rfl) ?_
              repeat (go_big_quiet_step (fail))
              refine wpQuiet_nil ?_
              intro _ hw'
              obtain ⟨⟨dq, osq⟩, hw''⟩ := hw'
              subst hw''
              have hb := below_regrown wo dq osq
              have HX2 := Lib.hid (HX.out.trans (hb.mono HX.out.size))
              generalize grow (redrawn wo dq) osq = w5 at *
              clear K1 K2 K3 K4 K5 hb
              go_wp2_with fail
              go_roundg g
              case measure => omega
              case rel => exact ⟨k + 1, by omega, by omega, by go_num, HN, HX2⟩
end Go.Proofs.YtoicpikkcefheaaGreat.P
