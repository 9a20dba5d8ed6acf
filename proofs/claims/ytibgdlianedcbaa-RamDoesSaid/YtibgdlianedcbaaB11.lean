/- Copy: a memory of its own with the same bytes. -/
import Derived.Test.YtibgdlianedcbaaB10
namespace Go.Proofs.Ytibgdlianedcbaa
open Go.Maps Go.WideMaps Go.ChangeShapes Go.WideShapes Go.ChangeAt Go.RowKit
set_option linter.unusedVariables false
set_option linter.unusedSimpArgs false
def RetD (W : World) (e : Ending) (w' : World) : Prop := ∃ m b, e = .returned (.pointer (some ⟨m, 0, none⟩)) ∧ MemD (fun i => i = b ∨ i = m) w' m b (.map []) (fun _ => 0) ∧ W.heap.size ≤ b ∧ b < w'.heap.size ∧ W.heap.size ≤ m ∧ Below W.heap.size W w'
theorem new_d (w : World) : Calls Try.prog 8 #[] w (RetD w) := by
  have hmm := @run_makeMap_plain Try.prog
  go_enter Try.func8, Try.ntmps8
  go_wp2_with fail
  go_ret
  refine ⟨w.heap.size + 1, w.heap.size, rfl, ⟨?_, Or.inr rfl, ?_, Or.inl rfl, by omega, ?_, laid_nil _, fun s p _ hh _ => by cases hh⟩, Nat.le_refl _, by simp; omega, by omega, Below.alloc (Below.alloc (Below.refl _ _) (Nat.le_refl _) _) (by simp) _⟩
  · simp
  · rw [World.cell?_alloc_at _ _ _ _ (by simp)]; rfl
  · rw [cnt_nil]; exact (World.ownsMap_made _ _ _ _).kept (World.grownBy_alloc _ _ none) (by simp)
theorem grown_none {w w' : World} (h : w.grownBy w' none) : Below w.heap.size w w' := (Below.refl _ _).grown h (Nat.le_refl _) (fun j hj => by cases hj)
theorem zero_pgA (w : World) : (zeroValue 61).run Try.prog w = .ok (.agg (pgA (fun _ => 0))) w := by rw [pgA_zero]; kernel_rfl
theorem setRow1 (w : World) (A : Obj) (c c' : Array Value) (t : TypeId) : ((w.alloc A).alloc (.cells c t)).setRow (w.heap.size + 1) c' = (w.alloc A).alloc (.cells c' t) := by
  have := World.setRow_alloc_new (w.alloc A) c c' t
  rwa [sz_alloc] at this
/-- What has been copied: the pages that are no longer to come. -/
def Copied (D E : DataW Unit) (F G : Nat → Nat) (left : Lit → Bool) : Prop := ∀ s, s < 18446744073709551616 → Maps.has E (keyL s) = (Maps.has D (keyL s) && !left (keyL s)) ∧ (Maps.has E (keyL s) = true → ∀ i, i < 4096 → G (s + i) = F (s + i))
theorem copy_end {S T : Nat → Prop} {w w' : World} {m b o c : Nat} {D E : DataW Unit} {F G : Nat → Nat} {left : Lit → Bool} (hM : MemD S w m b D F) (hN : MemD T w' o c E G) (hC : Copied D E F G left) (hl : ∀ kl, left kl = false) : MemD T w' o c E F := by
  refine hN.congr (fun s i hs ha hi => ?_)
  obtain ⟨h1, h2⟩ := hC s hs
  rw [hl, Bool.not_false, Bool.and_true] at h1
  cases hE : Maps.has E (keyL s)
  · rw [hE] at h1
    rw [hN.2.2.2.2.2.2.1.2.1 s hs ha hE i hi, hM.2.2.2.2.2.2.1.2.1 s hs ha h1.symm i hi]
  · exact h2 hE i hi
theorem copy_step {D E : DataW Unit} {F G : Nat → Nat} {left : Lit → Bool} {s : Nat} {d : DataW Unit} (hE : Maps.IsMap E) (h : Copied D E F G left) (hs : s < 18446744073709551616 ∧ s % 4096 = 0 ∧ 2147483648 ≤ s ∧ s < 2148532224) (hh : Maps.has D (keyL s) = true) (h4 : ∀ t, t < 18446744073709551616 → Maps.has E (keyL t) = true → t % 4096 = 0) :
    Copied D (E.put (keyL s) d) F (fun x => if s ≤ x ∧ x < s + 4096 then F (s + (x - s)) else G x) (fun z => left z && !z.sameKey (keyL s)) := by
  intro t ht
  by_cases e : t = s
  · subst e
    have hk : (keyL t).sameKey (keyL t) = true := (sameKey_L t t).2 rfl
    refine ⟨?_, fun _ i hi => ?_⟩
    · rw [Maps.has_put_same hE (by trivial)]
      show true = (Maps.has D (keyL t) && !(left (keyL t) && !(keyL t).sameKey (keyL t)))
      rw [hk, hh]; simp
    show (if t ≤ t + i ∧ t + i < t + 4096 then F (t + (t + i - t)) else G (t + i)) = F (t + i)
    rw [if_pos (by omega), Nat.add_sub_cancel_left]
  · have hk : (keyL t).sameKey (keyL s) = false := by
      cases k : (keyL t).sameKey (keyL s)
      · rfl
      · exact absurd (keyL_inj ht hs.1 ((sameKey_L t s).1 k)) e
    rw [Maps.has_put_other (keyL_ne (wfU ht) (wfU hs.1) e)]
    obtain ⟨h1, h2⟩ := h t ht
    refine ⟨?_, fun hE2 i hi => ?_⟩
    · rw [h1]
      show _ = (Maps.has D (keyL t) && !(left (keyL t) && !(keyL t).sameKey (keyL s)))
      rw [hk]; simp
    have := h4 t ht hE2
    show (if s ≤ t + i ∧ t + i < s + 4096 then F (s + (t + i - s)) else G (t + i)) = F (t + i)
    rw [if_neg (by omega)]
    exact h2 hE2 i hi
set_option maxRecDepth 100000 in
set_option maxHeartbeats 4000000 in
theorem copy_c (S : Nat → Prop) (m : Nat) (F : Nat → Nat) (w : World) (hM : Hid (MemS S w m F)) : Calls Try.prog 21 #[.pointer (some ⟨m, 0, none⟩)] w (RetS F w) := by
  obtain ⟨b, D, hm⟩ := hM.out
  have HM := Lib.hid hm
  clear hm
  have hz := fun w => zero_pgA w
  go_enter Try.func21, Try.ntmps21
  go_wp2_with fail
  refine (new_d w).mono ?_; rintro e w1 ⟨o, c, rfl, hN, hc, hcl, ho, hb1⟩
  have HN := Lib.hid hN; have HB1 := Lib.hid hb1
  have HC : Hid (w.heap.size ≤ c ∧ c < w1.heap.size ∧ w.heap.size ≤ o ∧ o < w1.heap.size) := ⟨hc, hcl, ho, hN.1⟩
  have hM1 : Hid (MemD S w1 m b D F) := HM.out.kept (T := fun _ => False) (Own.below hb1) (fun _ _ h => h)
  have hcm := hM1.out.2.2.1
  clear hN hb1 hc hcl ho
  go_wp2_with (at_range; refine wpList_range_own _ rfl _ 47 rfl 58 59 lawSpot Try.underlying47 pageR b (cntD D) D rfl hM1.out.2.2.2.2.2.1 ?_; intro w0 hrg0 hg0 hs0)
  go_frame
  have HRG := Lib.hid hrg0
  have HG0 := Lib.hid hg0
  have HS0 := Lib.hid hs0
  clear hrg0 hg0 hs0 hcm
  go_loopw [5] (fun _ wr => ∃ (left : Lit → Bool) (cnt : Nat) (T : Nat → Prop) (E : DataW Unit) (G : Nat → Nat), wr.ranges Try.prog 58 pageR b w1.heap.size (cntD D) D left cnt ∧ Hid (MemD T wr o c E G) ∧ Hid (∀ i, T i → w.heap.size ≤ i ∧ i < wr.heap.size ∧ i ≠ w1.heap.size) ∧ Hid (Below w.heap.size w wr) ∧ Hid (Copied D E F G left) ∧ Hid (w1.heap.size < wr.heap.size)) (fun _ wr => wr.rangeLeft b w1.heap.size)
  case atStart =>
    refine ⟨_, _, fun i => i = c ∨ i = o, .map [], fun _ => 0, HRG.out, ?_, ?_, ?_, ?_, ?_⟩
    · exact HN.out.kept (T := fun _ => False) (Own.below (grown_none HG0.out)) (fun _ _ h => h)
    · intro i hi
      have := HC.out; have := HS0.out
      rcases hi with rfl | rfl <;> omega
    · exact HB1.out.trans ((grown_none HG0.out).mono HB1.out.size)
    · intro s hs
      refine ⟨?_, fun h => by cases h⟩
      show false = _
      cases Maps.has D (keyL s) <;> rfl
    · show _ < _
      rw [HS0.out]; omega
  case round =>
    obtain ⟨left, cnt, T, E, G, hrg, hN, hT, hW, hC, hZ⟩ := hrel
    have hMr : Hid (MemD S wr m b D F) := HM.out.kept (T := fun _ => False) (Own.below hW.out) (fun _ _ h => h)
    go_wp2_with (at_next; refine wpList_next_pages rfl _ rfl S m b w1.heap.size D F left cnt hMr.out rfl hrg ?_ ?_)
    · intro _ hl0
      have HL := Lib.hid hl0
      clear hl0
      go_wp2_with fail
      go_ret
      refine ⟨o, T, rfl, ⟨c, E, copy_end HM.out hN.out hC.out HL.out⟩, fun i hi => ?_, hW.out⟩
      have := hT.out i hi
      exact ⟨this.1, this.2.1⟩
    · intro s p w2 cnt1 hs hlk hh hat hrg1 hlt hg1 hs1 hen
      have HR1 := Lib.hid hrg1
      have HSZ : Hid (w2.heap.size = wr.heap.size) := hs1
      have HZ2 : Hid (w1.heap.size < w2.heap.size) := by show _ < _; rw [hs1]; exact hZ.out
      have HW2 : Hid (Below w.heap.size w w2) := hW.out.grown hg1 hW.out.size (fun j hj => by cases hj; exact HB1.out.size)
      have hMw : Hid (MemD S w2 m b D F) := HM.out.kept (T := fun _ => False) (Own.below HW2.out) (fun _ _ h => h)
      have hNw : Hid (MemD T w2 o c E G) := hN.out.kept (T := fun i => i = w1.heap.size) (Own.grown hg1 rfl) (fun i hi e => (hT.out i hi).2.2 e)
      have hr6 := HM.out.2.2.2.2.2.2.2 s p hs hh hat
      have HS : Hid (s < 18446744073709551616 ∧ s % 4096 = 0 ∧ 2147483648 ≤ s ∧ s < 2148532224) := ⟨hs, hr6.2.2.2⟩
      have HPg : Hid (PageIs w2 p (fun i => F (s + i))) := by
        obtain ⟨p2, q1, q2⟩ := hMw.out.2.2.2.2.2.2.1.1 s hs hh
        have : p2 = p := by have := q1.symm.trans hat; unfold pageD at this; simp at this; omega
        rw [← this]; exact q2
      have HLT := Lib.hid hlt
      have HHH : Hid (Maps.has D (keyL s) = true ∧ left (keyL s) = true) := ⟨hh, hlk⟩
      clear hrg1 hg1 hs1 hr6 hs hlk hh hat hlt
      have hbA : Below w2.heap.size w2 (w2.alloc (Obj.cells #[.int .u64 s] 58)) := Below.alloc (Below.refl _ _) (Nat.le_refl _) _
      have HPa : Hid (PageIs (w2.alloc (Obj.cells #[.int .u64 s] 58)) p (fun i => F (s + i))) := HPg.out.kept (grown_below hbA) (by simp)
      have hco : w2.cell? ⟨o, 0, none⟩ = some (.map (some c)) := hNw.out.2.2.1
      have hol := hNw.out.1
      have hon : ¬ o = w2.heap.size := by omega
      have hon1 : ¬ o = w2.heap.size + 1 := by omega
      have hon2 : ¬ w2.heap.size = w2.heap.size + 1 := by omega
      clear hbA
      go_wp2_with (first
        | (refine wpList_load_page rfl _ rfl p rfl _ HPa.out ?_)
        | (refine wpList_store_row rfl 61 _ _ rfl (w2.heap.size + 1) (pgA (fun i => F (s + i))) rfl rfl 61 (pgA (fun _ => 0)) (heap_alloc2_new _ _ _) (info_page _) (by rw [pgA_size, pgA_size]) (pgA_one _) ?_; rw [setRow1]))
      go_frame
      have hNd : MemD T (((w2.alloc (Obj.cells #[.int .u64 s] 58)).alloc (Obj.cells (pgA (fun i => F (s + i))) 61)).drew) o c E G := hNw.out.kept (T := fun _ => False) (Own.below (by exact (below_drewN (Below.alloc (Below.alloc (Below.refl _ _) (Nat.le_refl _) _) (by rw [sz_alloc]; omega) _) 1))) (fun _ _ h => h)
      have hpgn : PageIs (((w2.alloc (Obj.cells #[.int .u64 s] 58)).alloc (Obj.cells (pgA (fun i => F (s + i))) 61)).drew) (w2.heap.size + 1) (fun i => F (s + i)) := by
        have h := page_new (w2.alloc (Obj.cells #[.int .u64 s] 58)) (fun i => F (s + i)) 61
        rw [sz_alloc] at h
        exact h.kept (grown_below (below_drewN (Below.refl _ _) 1)) (by simp)
      obtain ⟨w3, hrun, hst, hmt⟩ := hNd.2.2.2.2.2.1.store lawSpot Try.underlying47 (Nat.lt_of_le_of_lt (cnt_le E) (by decide)) (keySpot s (wfU HS.out.1)) (pageR_mk (w2.heap.size + 1))
      have hrun' : (Instr.mapUpdate 47 (.map (some c)) (.agg #[.int .u64 s]) (.pointer (some ⟨w2.heap.size + 1, 0, none⟩))).run Try.prog (((w2.alloc (Obj.cells #[.int .u64 s] 58)).alloc (Obj.cells (pgA (fun i => F (s + i))) 61)).drew) = .ok () w3 := hrun
      clear hrun
      have HND := Lib.hid hNd; have HPN := Lib.hid hpgn; have HST := Lib.hid hst; have HMT := Lib.hid hmt
      clear hNd hpgn hst hmt
      go_region
      go_wp2_with fail
      obtain ⟨i0, hi0, hsi⟩ : ∃ i0, i0 < 256 ∧ s = 2147483648 + 4096 * i0 := ⟨(s - 2147483648) / 4096, by have := HS.out; omega, by have := HS.out; omega⟩
      have hEh : Maps.has E (keyL s) = false := by rw [(hC.out s HS.out.1).1, HHH.out.2]; simp
      have hnT : ¬ T (w2.heap.size + 1) := fun h => by have := (hT.out _ h).2.1; have := HSZ.out; omega
      have hd3 := HND.out.putG s i0 (w2.heap.size + 1) hi0 hsi hEh (fun i => F (s + i)) HPN.out hnT HST.out HMT.out
      have hg3 := HMT.out.grown
      have hsz3 := hg3.size
      rw [show ((w2.alloc (Obj.cells #[.int .u64 s] 58)).alloc (Obj.cells (pgA (fun i => F (s + i))) 61)).drew.heap.size = w2.heap.size + 2 by show ((w2.alloc (Obj.cells #[.int .u64 s] 58)).alloc (Obj.cells (pgA (fun i => F (s + i))) 61)).heap.size = _; rw [sz_alloc, sz_alloc]] at hsz3
      have hbS : b < w.heap.size := by
        obtain ⟨es, clock, q, -⟩ := HM.out.2.2.2.2.2.1
        exact (Array.getElem?_eq_some_iff.1 q).1
      have hcb : c ≠ b := by have := HC.out; omega
      have hcr : c ≠ w1.heap.size := by have := HC.out; omega
      have hr3 := (((HR1.out.alloc (Obj.cells #[.int .u64 s] 58)).alloc (Obj.cells (pgA (fun i => F (s + i))) 61)).kept (grown_below (below_drewN (Below.refl _ _) 1)) (by simp) (by simp)).kept hg3 (by intro e; injection e with e; exact hcb e.symm) (by intro e; injection e with e; exact hcr e.symm)
      go_roundw
      case rel =>
        refine ⟨_, cnt1, _, _, _, hr3, hd3, fun i hi => ?_, ?_, copy_step hNw.out.2.2.2.2.2.1.isMap hC.out HS.out HHH.out.1 (fun t ht h => ?_), ?_⟩
        · have := HSZ.out; have := HZ2.out; have := HC.out; have := HB1.out.size
          rcases hi with hi | hi
          · have := hT.out i hi; omega
          · omega
        · have h4 : Below w.heap.size w (((w2.alloc (Obj.cells #[.int .u64 s] 58)).alloc (Obj.cells (pgA (fun i => F (s + i))) 61)).drew) := below_drewN ((HW2.out.alloc HW2.out.size _).alloc (by rw [sz_alloc]; have := HW2.out.size; omega) _) 1
          exact h4.grown hg3 h4.size (fun j hj => by cases hj; exact HC.out.1)
        · obtain ⟨p2, q1, -⟩ := hNw.out.2.2.2.2.2.2.1.1 t ht h
          exact (hNw.out.2.2.2.2.2.2.2 t p2 ht h q1).2.2.2.1
        · show _ < _
          have := HZ2.out
          omega
      case measure => rw [hr3.left_eq, hrg.left_eq]; exact HLT.out
end Go.Proofs.Ytibgdlianedcbaa
