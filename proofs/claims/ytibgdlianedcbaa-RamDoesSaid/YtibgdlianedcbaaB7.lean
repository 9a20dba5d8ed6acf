/- put: a row is laid over the memory's bytes, page by page; new pages are made. -/
import Derived.Test.YtibgdlianedcbaaB6
namespace Go.Proofs.Ytibgdlianedcbaa
open Go.Maps Go.WideMaps Go.ChangeShapes Go.WideShapes Go.ChangeAt Go.RowKit
set_option linter.unusedVariables false
set_option linter.unusedSimpArgs false
def Laying (S : Nat → Prop) (w : World) (m a k : Nat) (F R : Nat → Nat) (wr : World) : Prop := ∃ S', MemS S' wr m (layF F a k R) ∧ Own S w wr ∧ ∀ i, S' i → i < wr.heap.size ∧ (S i ∨ w.heap.size ≤ i)
theorem os_cells (g : Nat) : ∀ (vs : List Value) (o : Nat) (w : World), (w.setCells g o vs).os = w.os ∧ (w.setCells g o vs).tape = w.tape ∧ (w.setCells g o vs).output = w.output
  | [], _, _ => ⟨rfl, rfl, rfl⟩
  | v :: vs, o, w => os_cells g vs (o + 1) (w.setCell ⟨g, o, none⟩ v)
theorem Own.cells {S : Nat → Prop} {w X : World} {p : Nat} (h : Own S w X) (hp : S p ∨ w.heap.size ≤ p) (f : Nat) (cs : List Value) : Own S w (X.setCells p f cs) := by
  obtain ⟨a, b, c⟩ := os_cells p cs f X
  refine ⟨a.trans h.os, b.trans h.tape, c.trans h.output, by rw [size_cells]; exact h.size, fun i hi hn => ?_⟩
  rw [heap_cells p cs f X i (by rintro rfl; rcases hp with hp | hp; exact hn hp; omega)]
  exact h.block i hi hn
theorem copy_row (p f g x l cap t : Nat) (R : Nat → Nat) (w : World) (ht : t = min l (4096 - f)) (hft : f + t ≤ 4096) (hrow : ∀ j, j < t → w.cell? ⟨g, x + j, none⟩ = some (.int .u8 (R j))) (G : Nat → Nat) (hp : PageIs w p G) :
    (Builtin.copy_ #[22, 22] 3 #[.slice (some ⟨p, f, none⟩) (4096 - f) (4096 - f), .slice (some ⟨g, x, none⟩) l cap]).run Try.prog w = .ok (.int .i64 t) (w.setCells p f ((List.range t).map (fun i => (.int .u8 (R i : Nat) : Value)))) := by
  have hl : ((List.range t).map (fun i => (.int .u8 (R i : Nat) : Value))).length = t := by simp
  have := run_copy_cells (P := Try.prog) w 22 22 3 5 p f (4096 - f) (4096 - f) ⟨g, x, none⟩ l cap ((List.range t).map (fun i => (.int .u8 (R i : Nat) : Value))) Try.underlying22 (by kernel_rfl) (by rw [hl]; exact ht)
    (fun j v hj => ?_) (fun j hj => by rw [(hp.2 (f + j) (by rw [hl] at hj; omega)).1]; rfl) (fun j hj => (hp.2 (f + j) (by rw [hl] at hj; omega)).2) (fun v hv => ?_)
  · rw [hl] at this; exact this
  · have hjt : j < t := by
      have := List.getElem?_eq_some_iff.1 hj
      obtain ⟨q, -⟩ := this
      rw [hl] at q; exact q
    rw [List.getElem?_map, List.getElem?_range hjt] at hj
    simp at hj
    subst hj
    have q := hrow j hjt
    by_cases hj0 : j = 0
    · subst hj0; simpa [Addr.add] using q
    · simpa [Addr.add, hj0] using q
  · simp at hv
    obtain ⟨i, -, rfl⟩ := hv
    rfl
theorem zero_page : ∃ Z : Array Value, (∀ w, (zeroValue 61).run Try.prog w = .ok (.agg Z) w) ∧ ∀ i, i < 4096 → Z[i]? = some (.int .u8 ((0 : Nat) : Int)) :=
  ⟨Array.replicate 4096 (.int .u8 0), fun w => by kernel_rfl, fun i hi => by rw [Array.getElem?_replicate, if_pos hi]; rfl⟩
theorem put_round {S : Nat → Prop} {w wz : World} {m g o n a k t c y : Nat} {F R : Nat → Nat} (hy : a + k = y) (hn : 2147483648 ≤ a ∧ a + n ≤ 2148532224) (hT : k + t ≤ n) (ht : 0 < t) (hnc : n ≤ c) (hX : Laying S w m a (k + t) F R wz) :
    (∃ k1 x : Nat, k1 ≤ n ∧ Value.int IntKind.u64 (IntKind.u64.wrap ((y : Int) + (t : Int))) = Value.int IntKind.u64 ((a + k1 : Nat) : Int) ∧
      Value.slice (if c - k = t then some ⟨g, o + k, none⟩ else some ⟨g, o + k + t, none⟩) (n - k - t) (c - k - t) = Value.slice (some ⟨g, x, none⟩) (n - k1) (c - k1) ∧ Hid (k1 < n → x = o + k1) ∧
      Hid (Laying S w m a k1 F R wz)) ∧ n - k - t < n - k := by
  refine ⟨⟨k + t, if c - k = t then o + k else o + k + t, hT, ?_, ?_, ?_, hX⟩, by omega⟩
  · congr 1
    rw [IntKind.wrap_u64]; omega
  · rw [Nat.sub_sub, Nat.sub_sub]
    split <;> rfl
  · show k + t < n → _
    intro h
    rw [if_neg (by omega)]; omega
set_option maxRecDepth 100000 in
set_option maxHeartbeats 2000000 in
theorem put_c (S : Nat → Prop) (m g o n c a : Nat) (F R : Nat → Nat) (w : World) (hM : Hid (MemS S w m F)) (hSb : Hid (∀ i, S i → i < w.heap.size)) (hg : Hid (g < w.heap.size ∧ ¬ S g)) (hn : Hid (2147483648 ≤ a ∧ a + n ≤ 2148532224)) (hnc : Hid (n ≤ c ∧ n < 4611686018427387904)) (hr : Hid (∀ i, i < n → w.cell? ⟨g, o + i, none⟩ = some (.int .u8 (R i)))) :
    Calls Try.prog 25 #[.pointer (some ⟨m, 0, none⟩), .int .u64 a, .slice (some ⟨g, o, none⟩) n c] w (fun e w' => e = .returned (.tuple #[]) ∧ Laying S w m a n F R w') := by
  go_enter Try.func25, Try.ntmps25
  go_wp2_with fail
  go_loopw [1, 2] (fun v1 v2 wr => ∃ k x : Nat, k ≤ n ∧ v1 = .int .u64 ((a + k : Nat) : Int) ∧ v2 = .slice (some ⟨g, x, none⟩) (n - k) (c - k) ∧ Hid (k < n → x = o + k) ∧ Hid (Laying S w m a k F R wr)) (fun _ v2 _ => match v2 with | .slice _ l _ => l | _ => 0)
  case atStart =>
    exact ⟨0, o, by omega, rfl, rfl, fun _ => rfl, S, by rw [layF_zero]; exact hM.out, Own.refl _ _, fun _ h => ⟨hSb.out _ h, Or.inl h⟩⟩
  case round =>
    obtain ⟨k, x, hk, rfl, rfl, hx, hL⟩ := hrel
    by_cases hlt : k < n
    · obtain rfl : x = o + k := hx.out hlt
      have hlt' : (0 : Int) < ((n - k : Nat) : Int) := by omega
      obtain ⟨S', ⟨b, D, hD⟩, hO, hS⟩ := hL.out
      have HD := Lib.hid hD; have HO := Lib.hid hO; have HS := Lib.hid hS
      clear hD hO hS
      obtain ⟨f, hf⟩ : ∃ f, (a + k) % 4096 = f := ⟨_, rfl⟩
      obtain ⟨s, hs⟩ : ∃ s, (a + k) / 4096 * 4096 = s := ⟨_, rfl⟩
      have hak : Hid (a + k = s + f) := by show _ = _; omega
      have hs1 : Hid (s % 4096 = 0 ∧ s < 18446744073709551616 ∧ f < 4096 ∧ a + k < 18446744073709551616) := ⟨by omega, by have := hn.out; omega, by omega, by have := hn.out; omega⟩
      obtain ⟨y, hy⟩ : ∃ y, a + k = y := ⟨_, rfl⟩
      have hyx : Hid (a + k = y) := hy
      rw [hy] at hf hs
      go_wp2_with fail
      refine (find_n y s f (Lib.hid (by have h := hs1.out.2.2.2; have := hyx.out; omega)) hs hf _).mono ?_; rintro e w1 ⟨rfl, hb1⟩
      have HB1 := Lib.hid hb1
      have HD1 : Hid (MemD S' (w1.alloc (Obj.cells #[.int .u64 s] 58)) m b D (layF F a k R)) := HD.out.kept (T := fun _ => False) (Own.below (hb1.alloc hb1.size _)) (fun _ _ h => h)
      clear hs hf hb1 hy
      have hcb := HD1.out.2.2.1
      have hmb : ¬ m = w1.heap.size := by
        have h1 := HD.out.1; have h2 := HB1.out.size; omega
      have hmb' : ¬ w1.heap.size = m := by omega
      rcases HD1.out.look s hs1.out.2.1 with ⟨p, hh, hp, hpg, hl, hl2⟩ | ⟨hh, hl⟩
      · have HH := Lib.hid hh; have HP := Lib.hid hp; have HG := Lib.hid hpg
        clear hh hp hpg
        go_wp2_with fail
        go_quiet (fail)
        go_wp2_with fail
        obtain ⟨t, ht⟩ : ∃ t, t = min (n - k) (4096 - f) := ⟨_, rfl⟩
        have HT : Hid (f + t ≤ 4096 ∧ k + t ≤ n ∧ 0 < t) := by have := hs1.out.2.2.1; show _ ∧ _ ∧ _; omega
        have hx1 : Below wr.heap.size wr ((w1.alloc (Obj.cells #[.int .u64 s] 58)).drewN (nq + 1)) := below_drewN (HB1.out.alloc HB1.out.size _) _
        have hd2 : MemD S' ((w1.alloc (Obj.cells #[.int .u64 s] 58)).drewN (nq + 1)) m b D (layF F a k R) := HD.out.kept (T := fun _ => False) (Own.below hx1) (fun _ _ h => h)
        have hpg2 : PageIs ((w1.alloc (Obj.cells #[.int .u64 s] 58)).drewN (nq + 1)) p (fun i => layF F a k R (s + i)) := HG.out.kept (grown_below (below_drewN (Below.refl _ _) _)) (by simp)
        have how : Own S w ((w1.alloc (Obj.cells #[.int .u64 s] 58)).drewN (nq + 1)) := HO.out.trans (Own.below hx1)
        have hsx := hx1.size
        have hcp := copy_row p f g (o + k) (n - k) (c - k) t (fun i => R (k + i)) ((w1.alloc (Obj.cells #[.int .u64 s] 58)).drewN (nq + 1)) ht HT.out.1 (fun j hj => by
          rw [World.cell?_of_block (w := w) (a := ⟨g, o + k + j, none⟩) (how.block g hg.out.1 hg.out.2), Nat.add_assoc]
          exact hr.out (k + j) (by have := HT.out.2.1; omega)) _ hpg2
        have HX : Hid (Laying S w m a (k + t) F R (((w1.alloc (Obj.cells #[.int .u64 s] 58)).drewN (nq + 1)).setCells p f ((List.range t).map (fun i => (.int .u8 (R (k + i) : Nat) : Value))))) := by
          have h := hd2.lay s p f t hs1.out.2.1 HH.out HP.out HT.out.1 (fun i => R (k + i)) _ rfl
          have e := layF_more F a k t s f R hak.out
          refine ⟨S', ⟨b, D, ?_⟩, how.cells (HS.out p (hd2.2.2.2.2.2.2.2 s p hs1.out.2.1 HH.out HP.out).1).2 _ _, fun i hi => ⟨by rw [size_cells]; exact Nat.lt_of_lt_of_le (HS.out i hi).1 hsx, (HS.out i hi).2⟩⟩
          rw [← e]; exact h
        clear hx1 hd2 hpg2 how hsx
        have HTT := Lib.hid ht
        clear ht
        have f1 : (f : Int) ≤ 4096 := by have := hs1.out.2.2.1; omega
        have nf : ¬ (4096 = f) := by have := hs1.out.2.2.1; omega
        have t1 : (t : Int) ≤ ((n - k : Nat) : Int) := by have := HT.out.2.1; omega
        go_region
        go_wp2_with fail
        rw [show IntKind.u64.wrap (t : Int) = (t : Int) by rw [IntKind.wrap_u64]; have := HT.out.1; omega]
        exact put_round hyx.out hn.out HT.out.2.1 HT.out.2.2 hnc.out.1 HX.out
      · have HH := Lib.hid hh
        clear hh
        go_wp2_with fail
        go_quiet (fail)
        go_wp2_with fail
        obtain ⟨Z, hZ, hZ2⟩ := zero_page
        have HZ2 := Lib.hid hZ2
        clear hZ2
        have hsz : ((w1.alloc (Obj.cells #[.int .u64 s] 58)).drewN (nq + 1)).heap.size = w1.heap.size + 1 := by rw [sz_drewN, sz_alloc]
        have hx0 : Below wr.heap.size wr (((w1.alloc (Obj.cells #[.int .u64 s] 58)).drewN (nq + 1)).alloc (Obj.cells Z 61)) := Below.alloc (below_drewN (HB1.out.alloc HB1.out.size _) _) (by rw [hsz]; have := HB1.out.size; omega) _
        have hd1 : MemD S' (((w1.alloc (Obj.cells #[.int .u64 s] 58)).drewN (nq + 1)).alloc (Obj.cells Z 61)) m b D (layF F a k R) := HD.out.kept (T := fun _ => False) (Own.below hx0) (fun _ _ h => h)
        have hpg : PageIs (((w1.alloc (Obj.cells #[.int .u64 s] 58)).drewN (nq + 1)).alloc (Obj.cells Z 61)) (w1.heap.size + 1) (fun _ => 0) := by
          refine ⟨by rw [sz_alloc, hsz]; omega, fun i hi => ⟨?_, ?_⟩⟩
          · rw [World.cell?_alloc_at _ _ _ _ hsz.symm]; exact HZ2.out i hi
          · rw [World.frozen?_alloc_at _ _ _ _ hsz.symm]
        obtain ⟨w2, hrun, hst, hmt⟩ := hd1.2.2.2.2.2.1.store lawSpot Try.underlying47 (Nat.lt_of_le_of_lt (cnt_le D) (by decide)) (keySpot s (wfU hs1.out.2.1)) (pageR_mk (w1.heap.size + 1))
        have hrun' : (Instr.mapUpdate 47 (.map (some b)) (.agg #[.int .u64 s]) (.pointer (some ⟨w1.heap.size + 1, 0, none⟩))).run Try.prog (((w1.alloc (Obj.cells #[.int .u64 s] 58)).drewN (nq + 1)).alloc (Obj.cells Z 61)) = .ok () w2 := hrun
        clear hrun
        have hc1 : (((w1.alloc (Obj.cells #[.int .u64 s] 58)).drewN (nq + 1)).alloc (Obj.cells Z 61)).cell? ⟨m, 0, none⟩ = some (.map (some b)) := hd1.2.2.1
        have hmc : ¬ m = w1.heap.size + 1 := by have h1 := HD.out.1; have h2 := HB1.out.size; omega
        have hmc' : ¬ w1.heap.size + 1 = m := by omega
        have hnn : ¬ w1.heap.size = w1.heap.size + 1 := by omega
        have HH1 := Lib.hid hd1; have HP1 := Lib.hid hpg; have HX0 := Lib.hid hx0
        clear hd1 hpg hx0
        go_region
        have hg2 := hmt.grown
        obtain ⟨i0, hi0, hsi⟩ : ∃ i0, i0 < 256 ∧ s = 2147483648 + 4096 * i0 := ⟨(s - 2147483648) / 4096, by have := hs1.out; have := hak.out; have := hn.out; omega, by have := hs1.out; have := hak.out; have := hn.out; omega⟩
        have hnS : ¬ S' (w1.heap.size + 1) := fun h => by have := (HS.out _ h).1; have := HB1.out.size; omega
        have hd3 := HH1.out.put s i0 (w1.heap.size + 1) hi0 hsi HH.out HP1.out hnS hst hmt
        clear hsi hi0
        have hbl : b < w1.heap.size := by
          obtain ⟨es, clock, q, -⟩ := HD.out.2.2.2.2.2.1
          have := (Array.getElem?_eq_some_iff.1 q).1
          exact Nat.lt_of_lt_of_le this HB1.out.size
        have hsz2 := hg2.size
        rw [sz_alloc, hsz] at hsz2
        have hsp : w2.cell? ⟨w1.heap.size, 0, none⟩ = some (.int .u64 s) := by
          rw [World.cell?_of_block (w := (((w1.alloc (Obj.cells #[.int .u64 s] 58)).drewN (nq + 1)).alloc (Obj.cells Z 61))) (a := ⟨w1.heap.size, 0, none⟩) (hg2.block w1.heap.size (by rw [sz_alloc, hsz]; omega) (by intro e; injection e with e; omega))]
          rw [(Below.alloc (Below.refl ((w1.alloc (Obj.cells #[.int .u64 s] 58)).drewN (nq + 1)).heap.size ((w1.alloc (Obj.cells #[.int .u64 s] 58)).drewN (nq + 1))) (Nat.le_refl _) (Obj.cells Z 61)).cell (p := ⟨w1.heap.size, 0, none⟩) (by show w1.heap.size < _; rw [hsz]; omega)]
          show (w1.alloc (Obj.cells #[.int .u64 s] 58)).cell? ⟨w1.heap.size, 0, none⟩ = _
          rw [World.cell?_alloc_at _ _ _ _ rfl]; rfl
        have hcb2 := hd3.2.2.1
        have hnew : Maps.has (D.put (keyL s) (pageD (w1.heap.size + 1))) (keyL s) = true := Maps.has_put_same HH1.out.2.2.2.2.2.1.isMap (by trivial) _
        rcases hd3.look s hs1.out.2.1 with ⟨p, hh', hp, hpg', -, hl2⟩ | ⟨hh', -⟩
        · have HH2 := Lib.hid hh'; have HP := Lib.hid hp; have HG := Lib.hid hpg'
          have hl3 : (Instr.lookup 47 (.map (some b)) (.agg #[.int .u64 s]) false).run Try.prog w2.drew = .ok (.pointer (some ⟨p, 0, none⟩)) w2.drew := hl2 1
          clear hh' hp hpg' hl2 hnew
          obtain ⟨t, ht⟩ : ∃ t, t = min (n - k) (4096 - f) := ⟨_, rfl⟩
          have HT : Hid (f + t ≤ 4096 ∧ k + t ≤ n ∧ 0 < t) := by have := hs1.out.2.2.1; show _ ∧ _ ∧ _; omega
          have hd2 := hd3.kept (T := fun _ => False) (w' := w2.drew) (Own.below (below_drewN (Below.refl _ _) 1)) (fun _ _ h => h)
          have hpg2 : PageIs w2.drew p (fun i => layF F a k R (s + i)) := HG.out.kept (grown_below (below_drewN (Below.refl _ _) 1)) (by simp)
          have h01 := HO.out.trans (Own.below HX0.out)
          have hbS := (HS.out b HD.out.2.2.2.1).2
          have how : Own S w w2.drew := ⟨hg2.os.trans h01.os, hg2.tape.trans h01.tape, hg2.output.trans h01.output, Nat.le_trans h01.size hg2.size, fun i hi hnS' => (hg2.block i (Nat.lt_of_lt_of_le hi h01.size) (by intro e; injection e with e; subst e; rcases hbS with q | q; exact hnS' q; omega)).trans (h01.block i hi hnS')⟩
          have hcp := copy_row p f g (o + k) (n - k) (c - k) t (fun i => R (k + i)) w2.drew ht HT.out.1 (fun j hj => by
            rw [World.cell?_of_block (w := w) (a := ⟨g, o + k + j, none⟩) (how.block g hg.out.1 hg.out.2), Nat.add_assoc]
            exact hr.out (k + j) (by have := HT.out.2.1; omega)) _ hpg2
          have HX : Hid (Laying S w m a (k + t) F R (w2.drew.setCells p f ((List.range t).map (fun i => (.int .u8 (R (k + i) : Nat) : Value))))) := by
            have h := hd2.lay s p f t hs1.out.2.1 HH2.out HP.out HT.out.1 (fun i => R (k + i)) _ rfl
            have e := layF_more F a k t s f R hak.out
            have hin : ∀ i, (S' i ∨ i = w1.heap.size + 1) → i < w2.heap.size ∧ (S i ∨ w.heap.size ≤ i) := fun i hi => by
              rcases hi with hi | rfl
              · obtain ⟨q1, q2⟩ := HS.out i hi
                exact ⟨by have := HB1.out.size; omega, q2⟩
              · exact ⟨by omega, Or.inr (by have q1 : w.heap.size ≤ wr.heap.size := HO.out.size; have q2 : wr.heap.size ≤ w1.heap.size := HB1.out.size; omega)⟩
            have hpS := (hd2.2.2.2.2.2.2.2 s p hs1.out.2.1 HH2.out HP.out).1
            have hlay : MemS (fun i => S' i ∨ i = w1.heap.size + 1) (w2.drew.setCells p f ((List.range t).map (fun i => (.int .u8 (R (k + i) : Nat) : Value)))) m (layF F a (k + t) R) := by
              refine ⟨b, D.put (keyL s) (pageD (w1.heap.size + 1)), ?_⟩
              rw [← e]; exact h
            exact ⟨fun i => S' i ∨ i = w1.heap.size + 1, hlay, how.cells (hin p hpS).2 f _, fun i hi => ⟨by rw [size_cells]; exact (hin i hi).1, (hin i hi).2⟩⟩
          have HHc := Lib.hid hcb2; have HHs := Lib.hid hsp
          clear hd2 hpg2 how hd3 hst hmt hrun' hc1 hg2 h01 hbS hZ hsz hsz2 hbl hl hcb
          have HTT := Lib.hid ht
          clear ht
          have f1 : (f : Int) ≤ 4096 := by have := hs1.out.2.2.1; omega
          have nf : ¬ (4096 = f) := by have := hs1.out.2.2.1; omega
          have t1 : (t : Int) ≤ ((n - k : Nat) : Int) := by have := HT.out.2.1; omega
          go_wp2_with fail
          go_region
          go_wp2_with fail
          rw [show IntKind.u64.wrap (t : Int) = (t : Int) by rw [IntKind.wrap_u64]; have := HT.out.1; omega]
          exact put_round hyx.out hn.out HT.out.2.1 HT.out.2.2 hnc.out.1 HX.out
        · rw [hnew] at hh'
          cases hh'
    · obtain rfl : k = n := by omega
      have hlt' : ¬ ((0 : Int) < ((k - k : Nat) : Int)) := by omega
      go_wp2_with fail
      go_end0
      exact ⟨rfl, hL.out⟩
end Go.Proofs.Ytibgdlianedcbaa
