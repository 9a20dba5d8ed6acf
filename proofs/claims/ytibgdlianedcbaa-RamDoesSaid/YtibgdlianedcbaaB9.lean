/- within: is each page of a memory the same one in another? -/
import Derived.Test.YtibgdlianedcbaaM3
namespace Go.Proofs.Ytibgdlianedcbaa
open Go.Maps Go.WideMaps Go.ChangeShapes Go.WideShapes Go.ChangeAt Go.RowKit
set_option linter.unusedVariables false
set_option linter.unusedSimpArgs false
theorem quiet_zero_page {o : Oper} {a : Act} {C : World → Prop} {K : Act → Prop} (ho : o.op = .build 61 #[]) (h : K (a.put o.dst (.agg (pgA (fun _ => 0))))) : o.quiet Try.prog a C K :=
  ⟨_, fun w _ => by
    have hb := page_built
    unfold Oper.quietAt execOp
    simp only [ho]
    have hr := run_build (P := Try.prog) w 61 #[] _ hb
    simp [Sem.run_bind, hr, Oper.quietUpon], h⟩
/-- What has been compared so far. -/
def Done (D : DataW Unit) (F G : Nat → Nat) (left : Lit → Bool) : Prop := ∀ s, s < 18446744073709551616 → Maps.has D (keyL s) = true → left (keyL s) = false → ∀ i, i < 4096 → F (s + i) = G (s + i)
def RetWi (D : DataW Unit) (F G : Nat → Nat) (W : World) (e : Ending) (w' : World) : Prop := ∃ x, e = .returned (.bool x) ∧ Below W.heap.size W w' ∧ (x = true → Done D F G (fun _ => false)) ∧ (x = false → ∃ y, 2147483648 ≤ y ∧ y < 2148532224 ∧ F y ≠ G y)
theorem within_step {D : DataW Unit} {F G : Nat → Nat} {left : Lit → Bool} {s : Nat} (h : Done D F G left) (hs : s < 18446744073709551616 ∧ s % 4096 = 0 ∧ 2147483648 ≤ s ∧ s < 2148532224) (e : ∀ i, i < 4096 → F (s + i) = G (s + i)) : Done D F G (fun z => left z && !z.sameKey (keyL s)) := by
  intro t ht hh hl
  by_cases c : t = s
  · subst c; exact e
  · refine h t ht hh ?_
    have : (keyL t).sameKey (keyL s) = false := by
      cases k : (keyL t).sameKey (keyL s)
      · rfl
      · exact absurd (keyL_inj ht hs.1 ((sameKey_L t s).1 k)) c
    have hl' : (left (keyL t) && !(keyL t).sameKey (keyL s)) = false := hl
    rw [this] at hl'
    simpa using hl'
theorem eqv_of {F G : Nat → Nat} {s : Nat} (h : eqPg (fun i => F (s + i)) (fun i => G (s + i)) = !false) : ∀ i, i < 4096 → F (s + i) = G (s + i) := (eqPg_true _ _).1 h
theorem eqv_zero {F G : Nat → Nat} {s : Nat} (h : eqPg (fun i => F (s + i)) (fun _ => 0) = !false) (hz : ∀ i, i < 4096 → G (s + i) = 0) : ∀ i, i < 4096 → F (s + i) = G (s + i) := fun i hi => by
  rw [hz i hi]; exact (eqPg_true _ _).1 h i hi
theorem ne_gen {f g : Nat → Nat} (h : eqPg f g = !true) : ∃ i, i < 4096 ∧ f i ≠ g i := by
  apply Classical.byContradiction
  intro hn
  have : eqPg f g = true := (eqPg_true f g).2 (fun i hi => Classical.byContradiction (fun he => hn ⟨i, hi, he⟩))
  rw [this] at h; cases h
theorem ne_of {F G : Nat → Nat} {s : Nat} (h : eqPg (fun i => F (s + i)) (fun i => G (s + i)) = !true) : ∃ i, i < 4096 ∧ F (s + i) ≠ G (s + i) := ne_gen h
theorem ne_zero {F G : Nat → Nat} {s : Nat} (h : eqPg (fun i => F (s + i)) (fun _ => 0) = !true) (hz : ∀ i, i < 4096 → G (s + i) = 0) : ∃ i, i < 4096 ∧ F (s + i) ≠ G (s + i) := by
  obtain ⟨i, hi, h⟩ := ne_gen h
  exact ⟨i, hi, by rw [hz i hi]; exact h⟩
theorem nev_of {F G : Nat → Nat} {s : Nat} (hs : s % 4096 = 0 ∧ 2147483648 ≤ s ∧ s < 2148532224) (h : ∃ i, i < 4096 ∧ F (s + i) ≠ G (s + i)) : ∃ y, 2147483648 ≤ y ∧ y < 2148532224 ∧ F y ≠ G y := by
  obtain ⟨i, hi, h⟩ := h
  exact ⟨s + i, by omega, by omega, h⟩
set_option maxRecDepth 100000 in
set_option maxHeartbeats 4000000 in
theorem within_c (S T : Nat → Prop) (m b o c : Nat) (D E : DataW Unit) (F G : Nat → Nat) (w : World) (hM : Hid (MemD S w m b D F)) (hN : Hid (MemD T w o c E G)) : Calls Try.prog 31 #[.pointer (some ⟨m, 0, none⟩), .pointer (some ⟨o, 0, none⟩)] w (RetWi D F G w) := by
  have hcm := hM.out.2.2.1
  go_enter Try.func31, Try.ntmps31
  go_wp2_with (at_range; refine wpList_range_own _ rfl _ 47 rfl 58 59 lawSpot Try.underlying47 pageR b (cntD D) D rfl hM.out.2.2.2.2.2.1 ?_; intro w0 hrg0 hg0 hs0)
  go_frame
  have HRG := Lib.hid hrg0
  have HG0' := Lib.hid hg0
  clear hrg0 hg0 hs0 hcm
  go_loopw [4] (fun _ wr => ∃ (left : Lit → Bool) (cnt : Nat), wr.ranges Try.prog 58 pageR b w.heap.size (cntD D) D left cnt ∧ Below w.heap.size w wr ∧ Done D F G left) (fun _ wr => wr.rangeLeft b w.heap.size)
  case atStart =>
    exact ⟨_, _, HRG.out, (Below.refl _ _).grown HG0'.out (Nat.le_refl _) (fun j hj => by cases hj), fun s hs hh hl => by rw [hh] at hl; cases hl⟩
  case round =>
    obtain ⟨left, cnt, hrg, hbw, hdn⟩ := hrel
    have HD := Lib.hid hdn
    have HBw := Lib.hid hbw
    have hMr : Hid (MemD S wr m b D F) := hM.out.kept (T := fun _ => False) (Own.below hbw) (fun _ _ h => h)
    clear hdn hbw
    go_wp2_with (at_next; refine wpList_next_pages rfl _ rfl S m b w.heap.size D F left cnt hMr.out rfl hrg ?_ ?_)
    · intro _ hl0
      have HL := Lib.hid hl0
      clear hl0
      go_wp2_with fail
      go_ret
      exact ⟨true, rfl, HBw.out, fun _ s hs hh _ => HD.out s hs hh (HL.out _), fun h => by cases h⟩
    · intro s p w1 cnt1 hs hlk hh hat hrg1 hlt hg1 hs1 hen
      have HR1 := Lib.hid hrg1
      have HW1 : Hid (Below w.heap.size w w1) := HBw.out.grown hg1 HBw.out.size (fun j hj => by cases hj; exact Nat.le_refl _)
      have hMw : Hid (MemD S w1 m b D F) := hM.out.kept (T := fun _ => False) (Own.below HW1.out) (fun _ _ h => h)
      have hNw : Hid (MemD T w1 o c E G) := hN.out.kept (T := fun _ => False) (Own.below HW1.out) (fun _ _ h => h)
      have hr6 := hM.out.2.2.2.2.2.2.2 s p hs hh hat
      have HS : Hid (s < 18446744073709551616 ∧ s % 4096 = 0 ∧ 2147483648 ≤ s ∧ s < 2148532224) := ⟨hs, hr6.2.2.2⟩
      have HPg : Hid (PageIs w1 p (fun i => F (s + i))) := by
        obtain ⟨p2, q1, q2⟩ := hMw.out.2.2.2.2.2.2.1.1 s hs hh
        have : p2 = p := by have := q1.symm.trans hat; unfold pageD at this; simp at this; omega
        rw [← this]; exact q2
      have HLT := Lib.hid hlt
      clear hrg1 hg1 hs1 hr6 hs hlk hh hat
      go_wp2_with fail
      have hbA : Below w1.heap.size w1 (w1.alloc (Obj.cells #[.int .u64 s] 58)) := Below.alloc (Below.refl _ _) (Nat.le_refl _) _
      have hNa : Hid (MemD T (w1.alloc (Obj.cells #[.int .u64 s] 58)) o c E G) := hNw.out.kept (T := fun _ => False) (Own.below hbA) (fun _ _ h => h)
      have HR2a : Hid ((w1.alloc (Obj.cells #[.int .u64 s] 58)).ranges Try.prog 58 pageR b w.heap.size (cntD D) D (fun z => left z && !z.sameKey (keyL s)) cnt1) := HR1.out.alloc _
      have HWa : Hid (Below w.heap.size w (w1.alloc (Obj.cells #[.int .u64 s] 58))) := HW1.out.alloc HW1.out.size _
      have HPa : Hid (PageIs (w1.alloc (Obj.cells #[.int .u64 s] 58)) p (fun i => F (s + i))) := HPg.out.kept (grown_below hbA) (by simp)
      have hco : w1.cell? ⟨o, 0, none⟩ = some (.map (some c)) := hNw.out.2.2.1
      have hol := hNw.out.1
      have hon : ¬ o = w1.heap.size := by omega
      clear hbA
      rcases hNa.out.look s HS.out.1 with ⟨q, hh, hq, hpq, hl, hl2⟩ | ⟨hh, hl⟩
      · have HPqa := Lib.hid hpq
        clear hh hq hpq hl2
        go_quiet (fail)
        have HPp : Hid (PageIs ((w1.alloc (Obj.cells #[.int .u64 s] 58)).drewN nq) p (fun i => F (s + i))) := HPa.out.kept (grown_below (below_drewN (Below.refl _ _) _)) (by simp)
        have HPq : Hid (PageIs ((w1.alloc (Obj.cells #[.int .u64 s] 58)).drewN nq) q (fun i => G (s + i))) := HPqa.out.kept (grown_below (below_drewN (Below.refl _ _) _)) (by simp)
        have HR2 : Hid (((w1.alloc (Obj.cells #[.int .u64 s] 58)).drewN nq).ranges Try.prog 58 pageR b w.heap.size (cntD D) D (fun z => left z && !z.sameKey (keyL s)) cnt1) := HR2a.out.kept (grown_below (below_drewN (Below.refl _ _) _)) (by simp) (by simp)
        have HWq : Hid (Below w.heap.size w ((w1.alloc (Obj.cells #[.int .u64 s] 58)).drewN nq)) := below_drewN HWa.out _
        clear hl
        go_wp2_with fail
        cases h2 : eqPg (fun i => F (s + i)) (fun i => G (s + i))
        · have HE : Hid (eqPg (fun i => F (s + i)) (fun i => G (s + i)) = !true) := h2
          refine wp_region_quiet_lit (by kernel_rfl) (by kernel_rfl) ?_
          repeat (first
            | go_big_quiet_skip
            | (go_big_quiet_want; first
                | (refine quiet_load_page _ rfl p rfl _ HPp.out ?_; simp only [Act.put, List.setIfInBounds_toArray, List.set_cons_succ, List.set_cons_zero]; go_big_quiet_on)
                | (refine quiet_load_page _ rfl q rfl _ HPq.out ?_; simp only [Act.put, List.setIfInBounds_toArray, List.set_cons_succ, List.set_cons_zero]; go_big_quiet_on)
                | (refine quiet_neq_page _ _ _ rfl _ _ rfl rfl true HE.out ?_; simp only [Act.put, List.setIfInBounds_toArray, List.set_cons_succ, List.set_cons_zero]; go_big_quiet_on)
                | (go_big_quiet_op; go_big_quiet_on)))
          refine wpQuiet_nil ?_
          intro _ hw'
          obtain ⟨nq2, hw''⟩ := hw'
          subst hw''
          go_wp2_with fail
          go_ret
          exact ⟨false, rfl, by exact below_drewN HWq.out _, (fun h => by cases h), fun _ => nev_of HS.out.2 (ne_of HE.out)⟩
        · have HE : Hid (eqPg (fun i => F (s + i)) (fun i => G (s + i)) = !false) := h2
          refine wp_region_quiet_lit (by kernel_rfl) (by kernel_rfl) ?_
          repeat (first
            | go_big_quiet_skip
            | (go_big_quiet_want; first
                | (refine quiet_load_page _ rfl p rfl _ HPp.out ?_; simp only [Act.put, List.setIfInBounds_toArray, List.set_cons_succ, List.set_cons_zero]; go_big_quiet_on)
                | (refine quiet_load_page _ rfl q rfl _ HPq.out ?_; simp only [Act.put, List.setIfInBounds_toArray, List.set_cons_succ, List.set_cons_zero]; go_big_quiet_on)
                | (refine quiet_neq_page _ _ _ rfl _ _ rfl rfl false HE.out ?_; simp only [Act.put, List.setIfInBounds_toArray, List.set_cons_succ, List.set_cons_zero]; go_big_quiet_on)
                | (go_big_quiet_op; go_big_quiet_on)))
          refine wpQuiet_nil ?_
          intro _ hw'
          obtain ⟨nq2, hw''⟩ := hw'
          subst hw''
          go_wp2_with fail
          go_roundw
          case rel => exact ⟨_, cnt1, HR2.out.kept (grown_below (below_drewN (Below.refl _ _) _)) (by simp) (by simp), by exact below_drewN HWq.out _, within_step HD.out HS.out (eqv_of HE.out)⟩
          case measure => rw [(HR2.out.kept (grown_below (below_drewN (Below.refl _ _) _)) (by simp) (by simp)).left_eq, hrg.left_eq]; exact hlt
      · have HZ : Hid (∀ i, i < 4096 → G (s + i) = 0) := fun i hi => hN.out.2.2.2.2.2.2.1.2.1 s HS.out.1 HS.out.2.1 hh i hi
        have HG0 := HZ
        clear hh
        go_quiet (fail)
        have HPp : Hid (PageIs ((w1.alloc (Obj.cells #[.int .u64 s] 58)).drewN nq) p (fun i => F (s + i))) := HPa.out.kept (grown_below (below_drewN (Below.refl _ _) _)) (by simp)
        have HR2 : Hid (((w1.alloc (Obj.cells #[.int .u64 s] 58)).drewN nq).ranges Try.prog 58 pageR b w.heap.size (cntD D) D (fun z => left z && !z.sameKey (keyL s)) cnt1) := HR2a.out.kept (grown_below (below_drewN (Below.refl _ _) _)) (by simp) (by simp)
        have HWq : Hid (Below w.heap.size w ((w1.alloc (Obj.cells #[.int .u64 s] 58)).drewN nq)) := below_drewN HWa.out _
        clear hl
        go_wp2_with fail
        cases h2 : eqPg (fun i => F (s + i)) (fun _ => 0)
        · have HE : Hid (eqPg (fun i => F (s + i)) (fun _ => 0) = !true) := h2
          refine wp_region_quiet_lit (by kernel_rfl) (by kernel_rfl) ?_
          repeat (first
            | go_big_quiet_skip
            | (go_big_quiet_want; first
                | (refine quiet_load_page _ rfl p rfl _ HPp.out ?_; simp only [Act.put, List.setIfInBounds_toArray, List.set_cons_succ, List.set_cons_zero]; go_big_quiet_on)
                | (refine quiet_neq_page _ _ _ rfl _ _ rfl rfl true HE.out ?_; simp only [Act.put, List.setIfInBounds_toArray, List.set_cons_succ, List.set_cons_zero]; go_big_quiet_on)
                | (refine quiet_zero_page rfl ?_; simp only [Act.put, List.setIfInBounds_toArray, List.set_cons_succ, List.set_cons_zero]; go_big_quiet_on)
                | (go_big_quiet_op; go_big_quiet_on)))
          refine wpQuiet_nil ?_
          intro _ hw'
          obtain ⟨nq2, hw''⟩ := hw'
          subst hw''
          go_wp2_with fail
          go_ret
          exact ⟨false, rfl, by exact below_drewN HWq.out _, (fun h => by cases h), fun _ => nev_of HS.out.2 (ne_zero HE.out HG0.out)⟩
        · have HE : Hid (eqPg (fun i => F (s + i)) (fun _ => 0) = !false) := h2
          refine wp_region_quiet_lit (by kernel_rfl) (by kernel_rfl) ?_
          repeat (first
            | go_big_quiet_skip
            | (go_big_quiet_want; first
                | (refine quiet_load_page _ rfl p rfl _ HPp.out ?_; simp only [Act.put, List.setIfInBounds_toArray, List.set_cons_succ, List.set_cons_zero]; go_big_quiet_on)
                | (refine quiet_neq_page _ _ _ rfl _ _ rfl rfl false HE.out ?_; simp only [Act.put, List.setIfInBounds_toArray, List.set_cons_succ, List.set_cons_zero]; go_big_quiet_on)
                | (refine quiet_zero_page rfl ?_; simp only [Act.put, List.setIfInBounds_toArray, List.set_cons_succ, List.set_cons_zero]; go_big_quiet_on)
                | (go_big_quiet_op; go_big_quiet_on)))
          refine wpQuiet_nil ?_
          intro _ hw'
          obtain ⟨nq2, hw''⟩ := hw'
          subst hw''
          go_wp2_with fail
          go_roundw
          case rel => exact ⟨_, cnt1, HR2.out.kept (grown_below (below_drewN (Below.refl _ _) _)) (by simp) (by simp), by exact below_drewN HWq.out _, within_step HD.out HS.out (eqv_zero HE.out HG0.out)⟩
          case measure => rw [(HR2.out.kept (grown_below (below_drewN (Below.refl _ _) _)) (by simp) (by simp)).left_eq, hrg.left_eq]; exact hlt
end Go.Proofs.Ytibgdlianedcbaa
