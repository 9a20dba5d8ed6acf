/- The walk of CsrModes. -/
import Derived.Test.YtmlbobjbkbcabaaC2
import Derived.Deep.LoopGhost
import Derived.Deep.RegionWith
import Derived.Deep.Cut
import Derived.Deep.CutRange
import Derived.Deep.DeepCutAuto
import Derived.Deep.CutBlock
namespace Go.Proofs.Ytmlbobjbkbcabaa
open Go.ChangeShapes Go.WideShapes Go.ChangeAt Go.RowKit Go.Sort P
set_option linter.unusedVariables false
set_option linter.unusedSimpArgs false
set_option maxRecDepth 100000 in
set_option maxHeartbeats 1000000 in
theorem modes_core (S : Nat → Nat) (n : Int) (F : Int → Bool → Bool) (X : Nat) (hM : Hid (∀ m b u, Calls Try.prog 12 #[.agg (cs S), .int .i64 m, .int .i64 n, .bool b] u (RetB (F m b) u))) (hR : Hid (∀ u, Calls Try.prog 14 #[.agg (cs S), .int .i64 n, .int .u64 18446744073709551615, .int .u64 18446744073709551615] u (RetU X u)))
    (hK : Hid (∀ b, MayK (F 0 b) (F 1 b) (F 3 b) (lowI n) (fixB n) b)) (hC : Hid (∀ m, F m true = true → F m false = true)) (hX : Hid (F 3 false = false → X = 0 ∨ (1 ≤ n ∧ n ≤ 3))) (w : World) :
    Calls Try.prog 9 #[.agg (cs S), .int .i64 n] w (RetB true w) := by
  obtain ⟨W0, hW⟩ : ∃ W0, W0 = w.alloc (Obj.cells (cs S) 26) := ⟨_, rfl⟩
  have R : Hid (Row W0 w.heap.size 26 (cs S)) := by show Row _ _ _ _; rw [hW]; exact row_new _ _ _
  have HB : Hid (Below w.heap.size w W0) := by show Below _ _ _; rw [hW]; exact (Below.refl _ _).alloc (Nat.le_refl _) _
  have HZ : Hid (w.heap.size + 1 ≤ W0.heap.size) := by show _ ≤ _; rw [hW, sz_alloc]; exact Nat.le_refl _
  have HW := Lib.hid hW
  clear hW
  go_enter Try.func9, Try.ntmps9
  go_wp2_with fail
  rw [show w.alloc (Obj.cells (cs S) 26) = W0 from HW.out.symm]
  clear HW
  refine (awake_c _).mono ?_; rintro e w1 ⟨rfl, hb⟩
  replace R := Lib.hid (R.out.below hb (by have := HZ.out; omega))
  replace HB := Lib.hid (below_step hb HB.out HB.out.size)
  replace HZ : Hid (w.heap.size + 1 ≤ w1.heap.size) := Nat.le_trans HZ.out hb.size
  clear hb
  go_wp2_with fail
  have HL : Hid (Row (w1.alloc (Obj.cells #[.bool false, .bool true] 4)) w1.heap.size 4 #[.bool false, .bool true]) := row_new _ _ _
  replace R : Hid (Row (w1.alloc (Obj.cells #[.bool false, .bool true] 4)) w.heap.size 26 (cs S)) := row_old R.out _
  replace HB : Hid (Below w.heap.size w (w1.alloc (Obj.cells #[.bool false, .bool true] 4))) := HB.out.alloc HB.out.size _
  have HS : Hid (w.heap.size < w1.heap.size ∧ w1.heap.size < (w1.alloc (Obj.cells #[.bool false, .bool true] 4)).heap.size) := ⟨HZ.out, by rw [sz_alloc]; omega⟩
  clear HZ
  generalize w1.alloc (Obj.cells #[.bool false, .bool true] 4) = w2 at R HB HL HS ⊢
  generalize w1.heap.size = lb at HL HS ⊢
  clear w1
  go_loopw [14] (fun iv wr => ∃ (k : Nat), k ≤ 2 ∧ iv = .int .i64 k ∧ Hid (Row wr w.heap.size 26 (cs S)) ∧ Hid (Row wr lb 4 #[.bool false, .bool true]) ∧ Hid (Below w.heap.size w wr) ∧ Hid (w.heap.size < lb ∧ lb < wr.heap.size)) (fun iv _ => 2 - (intOf iv).toNat)
  case atStart => exact ⟨0, by decide, rfl, R, HL, HB, HS⟩
  case round =>
    clear R HL HB HS
    obtain ⟨k, hk, rfl, R, HL, HB, HS⟩ := hrel
    by_cases hlt : k < 2
    · obtain ⟨b, hb⟩ : ∃ b : Bool, b = (k == 1) := ⟨_, rfl⟩
      have cl : wr.cell? ⟨lb, k, none⟩ = some (.bool b) := by
        rw [HL.out.cell k, hb]
        rcases (by omega : k = 0 ∨ k = 1) with rfl | rfl <;> rfl
      have HBk := Lib.hid hb
      clear hb
      have kk : (k : Int) < 2 := by omega
      have kk1 : IntKind.i64.wrap ((k : Int) + 1) = (k : Int) + 1 := IntWalk.i64_in _ (by omega)
      go_upto_region 6 with fail
      have q0 := fun dd os => q_b (w := wr) (dd := dd) (os := os) (hM.out 0 b _)
      have q1 := fun dd os => q_b (w := wr) (dd := dd) (os := os) (hM.out 1 b _)
      have q2 := fun dd os => q_b (w := wr) (dd := dd) (os := os) (hM.out 3 b _)
      refine wp_region_quiet_below (by kernel_rfl) (by kernel_rfl) ?_
      repeat (first
        | go_big_quiet_skip
        | (go_big_quiet_want; first
            | (refine quiet_load_row 26 _ rfl w.heap.size rfl 26 (cs S) _ R.out Try.underlying26 rfl (infoS _) ?_; simp only [Act.put, List.setIfInBounds_toArray, List.set_cons_succ, List.set_cons_zero]; go_big_quiet_on)
            | (go_big_quiet_op; go_big_quiet_on)))
      (go_big_quiet_want; go_big_quiet_op; go_big_quiet_call ((go_at_call 12; exact q0 _ _)))
      repeat (first
        | go_big_quiet_skip
        | (go_big_quiet_want; first
            | (refine quiet_load_row 26 _ rfl w.heap.size rfl 26 (cs S) _ R.out Try.underlying26 rfl (infoS _) ?_; simp only [Act.put, List.setIfInBounds_toArray, List.set_cons_succ, List.set_cons_zero]; go_big_quiet_on)
            | (go_big_quiet_op; go_big_quiet_on)))
      (go_big_quiet_want; go_big_quiet_op; go_big_quiet_call ((go_at_call 12; exact q1 _ _)))
      repeat (first
        | go_big_quiet_skip
        | (go_big_quiet_want; first
            | (refine quiet_load_row 26 _ rfl w.heap.size rfl 26 (cs S) _ R.out Try.underlying26 rfl (infoS _) ?_; simp only [Act.put, List.setIfInBounds_toArray, List.set_cons_succ, List.set_cons_zero]; go_big_quiet_on)
            | (go_big_quiet_op; go_big_quiet_on)))
      (go_big_quiet_want; go_big_quiet_op; go_big_quiet_call ((go_at_call 12; exact q2 _ _)))
      repeat (first
        | go_big_quiet_skip
        | (go_big_quiet_want; first
            | (refine quiet_load_row 26 _ rfl w.heap.size rfl 26 (cs S) _ R.out Try.underlying26 rfl (infoS _) ?_; simp only [Act.put, List.setIfInBounds_toArray, List.set_cons_succ, List.set_cons_zero]; go_big_quiet_on)
            | (go_big_quiet_op; go_big_quiet_on)))
      refine wpQuiet_nil ?_
      intro _ hw'
      obtain ⟨⟨dq, osq⟩, hw''⟩ := hw'
      subst hw''
      have hbl := below_regrown wr dq osq
      replace R := Lib.hid (R.out.below hbl (by have := HS.out; omega))
      replace HL := Lib.hid (HL.out.below hbl HS.out.2)
      replace HB := Lib.hid (below_step hbl HB.out HB.out.size)
      replace HS : Hid (w.heap.size < lb ∧ lb < (grow (redrawn wr dq) osq).heap.size) := ⟨HS.out.1, Nat.lt_of_lt_of_le HS.out.2 hbl.size⟩
      generalize grow (redrawn wr dq) osq = w5 at R HL HB HS ⊢
      clear cl hbl q0 q1 q2
      have h1 := hK.out b
      have h2 : Hid (b = true → (F 0 b = true → F 0 false = true) ∧ (F 3 b = true → F 3 false = true)) := fun hb => by subst hb; exact ⟨hC.out 0, hC.out 3⟩
      obtain ⟨U, eU⟩ : ∃ U, U = F 0 b := ⟨_, rfl⟩
      obtain ⟨V, eV⟩ : ∃ V, V = F 1 b := ⟨_, rfl⟩
      obtain ⟨M, eM⟩ : ∃ M, M = F 3 b := ⟨_, rfl⟩
      rw [← eU, ← eV, ← eM] at h1
      rw [← eU, ← eM] at h2 ⊢
      rw [← eV]
      clear eU eV eM
      have fL : U = true → bits .and .i64 (n / 256) 3 = 0 := fun h => (h1.1 h).2
      have fG : V = true → ¬ bits .and .i64 (n / 256) 3 > 1 := fun h => (h1.2.1 h).2
      have fF : b = true → M = true → ¬ bits .and .i64 (n / 1024) 3 = 3 := fun h h' => by have := h1.2.2 h h'; unfold fixB at this; simpa using this
      have fUV : U = true → V = true := fun h => (h1.1 h).1
      have fVM : V = true → M = true := fun h => (h1.2.1 h).1
      have fC : b = true → (U = true → F 0 false = true) ∧ (M = true → F 3 false = true) := h2
      clear h1 h2
      have FL := Lib.hid fL
      have FG := Lib.hid fG
      have FF := Lib.hid fF
      have FUV := Lib.hid fUV
      have FVM := Lib.hid fVM
      have FC := Lib.hid fC
      clear fL fG fF fUV fVM fC
      cases U
      · cases V
        · cases M
          · cases b
            · go_wp2_with fail
              exact ⟨⟨k + 1, by omega, rfl, R, HL, HB, HS⟩, by show 2 - ((k : Int) + 1).toNat < 2 - ((k : Int)).toNat; omega⟩
            · go_wp2_with fail
              exact ⟨⟨k + 1, by omega, rfl, R, HL, HB, HS⟩, by show 2 - ((k : Int) + 1).toNat < 2 - ((k : Int)).toNat; omega⟩
          · cases b
            · go_wp2_with fail
              exact ⟨⟨k + 1, by omega, rfl, R, HL, HB, HS⟩, by show 2 - ((k : Int) + 1).toNat < 2 - ((k : Int)).toNat; omega⟩
            · have g3 := FF.out rfl rfl
              have e3 := (FC.out rfl).2 rfl
              go_wp2_with (refine wpList_load_rowG rfl 26 _ rfl w.heap.size rfl 26 (cs S) (0, 0) _ R.out Try.underlying26 rfl (infoS _) ?_)
              have hcal := hM.out 3 false w5
              rw [e3] at hcal
              refine hcal.mono ?_; rintro e w6 ⟨rfl, hbl⟩
              clear hcal
              replace R := Lib.hid (R.out.below hbl (by have := HS.out; omega))
              replace HL := Lib.hid (HL.out.below hbl HS.out.2)
              replace HB := Lib.hid (below_step hbl HB.out HB.out.size)
              replace HS : Hid (w.heap.size < lb ∧ lb < w6.heap.size) := ⟨HS.out.1, Nat.lt_of_lt_of_le HS.out.2 hbl.size⟩
              clear hbl
              go_wp2_with fail
              exact ⟨⟨k + 1, by omega, rfl, R, HL, HB, HS⟩, by show 2 - ((k : Int) + 1).toNat < 2 - ((k : Int)).toNat; omega⟩
        · cases M
          · exact absurd (FVM.out rfl) (by decide)
          · cases b
            · have g2 := FG.out rfl
              go_wp2_with fail
              exact ⟨⟨k + 1, by omega, rfl, R, HL, HB, HS⟩, by show 2 - ((k : Int) + 1).toNat < 2 - ((k : Int)).toNat; omega⟩
            · have g2 := FG.out rfl
              have g3 := FF.out rfl rfl
              have e3 := (FC.out rfl).2 rfl
              go_wp2_with (refine wpList_load_rowG rfl 26 _ rfl w.heap.size rfl 26 (cs S) (0, 0) _ R.out Try.underlying26 rfl (infoS _) ?_)
              have hcal := hM.out 3 false w5
              rw [e3] at hcal
              refine hcal.mono ?_; rintro e w6 ⟨rfl, hbl⟩
              clear hcal
              replace R := Lib.hid (R.out.below hbl (by have := HS.out; omega))
              replace HL := Lib.hid (HL.out.below hbl HS.out.2)
              replace HB := Lib.hid (below_step hbl HB.out HB.out.size)
              replace HS : Hid (w.heap.size < lb ∧ lb < w6.heap.size) := ⟨HS.out.1, Nat.lt_of_lt_of_le HS.out.2 hbl.size⟩
              clear hbl
              go_wp2_with fail
              exact ⟨⟨k + 1, by omega, rfl, R, HL, HB, HS⟩, by show 2 - ((k : Int) + 1).toNat < 2 - ((k : Int)).toNat; omega⟩
      · cases V
        · exact absurd (FUV.out rfl) (by decide)
        · cases M
          · exact absurd (FVM.out rfl) (by decide)
          · cases b
            · have g1 := FL.out rfl
              have g2 := FG.out rfl
              go_wp2_with fail
              exact ⟨⟨k + 1, by omega, rfl, R, HL, HB, HS⟩, by show 2 - ((k : Int) + 1).toNat < 2 - ((k : Int)).toNat; omega⟩
            · have g1 := FL.out rfl
              have g2 := FG.out rfl
              have g3 := FF.out rfl rfl
              have e0 := (FC.out rfl).1 rfl
              have e3 := (FC.out rfl).2 rfl
              go_wp2_with (refine wpList_load_rowG rfl 26 _ rfl w.heap.size rfl 26 (cs S) (0, 0) _ R.out Try.underlying26 rfl (infoS _) ?_)
              have hcal := hM.out 0 false w5
              rw [e0] at hcal
              refine hcal.mono ?_; rintro e w6 ⟨rfl, hbl⟩
              clear hcal
              replace R := Lib.hid (R.out.below hbl (by have := HS.out; omega))
              replace HL := Lib.hid (HL.out.below hbl HS.out.2)
              replace HB := Lib.hid (below_step hbl HB.out HB.out.size)
              replace HS : Hid (w.heap.size < lb ∧ lb < w6.heap.size) := ⟨HS.out.1, Nat.lt_of_lt_of_le HS.out.2 hbl.size⟩
              clear hbl
              go_wp2_with (refine wpList_load_rowG rfl 26 _ rfl w.heap.size rfl 26 (cs S) (0, 0) _ R.out Try.underlying26 rfl (infoS _) ?_)
              have hcal := hM.out 3 false w6
              rw [e3] at hcal
              refine hcal.mono ?_; rintro e w7 ⟨rfl, hbl⟩
              clear hcal
              replace R := Lib.hid (R.out.below hbl (by have := HS.out; omega))
              replace HL := Lib.hid (HL.out.below hbl HS.out.2)
              replace HB := Lib.hid (below_step hbl HB.out HB.out.size)
              replace HS : Hid (w.heap.size < lb ∧ lb < w7.heap.size) := ⟨HS.out.1, Nat.lt_of_lt_of_le HS.out.2 hbl.size⟩
              clear hbl
              go_wp2_with fail
              exact ⟨⟨k + 1, by omega, rfl, R, HL, HB, HS⟩, by show 2 - ((k : Int) + 1).toNat < 2 - ((k : Int)).toNat; omega⟩
    · obtain rfl : k = 2 := by omega
      have HX0 := hX
      clear hX
      go_wp2_with (refine wpList_load_rowG rfl 26 _ rfl w.heap.size rfl 26 (cs S) (0, 0) _ R.out Try.underlying26 rfl (infoS _) ?_)
      refine (hM.out 3 false wr).mono ?_; rintro e w6 ⟨rfl, hbl⟩
      replace R := Lib.hid (R.out.below hbl (by have := HS.out; omega))
      replace HL := Lib.hid (HL.out.below hbl HS.out.2)
      replace HB := Lib.hid (below_step hbl HB.out HB.out.size)
      replace HS : Hid (w.heap.size < lb ∧ lb < w6.heap.size) := ⟨HS.out.1, Nat.lt_of_lt_of_le HS.out.2 hbl.size⟩
      clear hbl
      cases hF : F 3 false
      case true =>
        go_wp2_with fail
        go_ret
        exact retB_mk rfl HB.out
      case false =>
        have hx := HX0.out hF
        go_wp2_with (refine wpList_load_rowG rfl 26 _ rfl w.heap.size rfl 26 (cs S) (0, 0) _ R.out Try.underlying26 rfl (infoS _) ?_)
        refine (hR.out w6).mono ?_; rintro e w7 ⟨rfl, hbl⟩
        replace R := Lib.hid (R.out.below hbl (by have := HS.out; omega))
        replace HL := Lib.hid (HL.out.below hbl HS.out.2)
        replace HB := Lib.hid (below_step hbl HB.out HB.out.size)
        replace HS : Hid (w.heap.size < lb ∧ lb < w7.heap.size) := ⟨HS.out.1, Nat.lt_of_lt_of_le HS.out.2 hbl.size⟩
        clear hbl
        by_cases h0 : X = 0
        · subst h0
          go_wp2_with fail
          go_ret
          exact retB_mk rfl HB.out
        · have hx' : 1 ≤ n ∧ n ≤ 3 := by rcases hx with h | h; exact absurd h h0; exact h
          have n1 := hx'.1
          have n2 := hx'.2
          have x0 : ¬ (X : Int) = 0 := by omega
          clear hx hx'
          go_wp2_with fail
          go_ret
          exact retB_mk rfl HB.out
end Go.Proofs.Ytmlbobjbkbcabaa
