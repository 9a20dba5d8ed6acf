/- The document's Find. -/
import Derived.Test.YtdplcdgdndeopaaR2
namespace Go.Proofs.Ytdplcdgdndeopaa
open Go.ChangeShapes Go.WideShapes Go.ChangeAt Go.RowKit Go.Sort
set_option linter.unusedVariables false
set_option linter.unusedSimpArgs false
theorem results_row2 {P : Program} {fn : Func} {p x : Tmp} {ty : TypeId} (h : fn.results = #[.cell p ty, .tmp x]) (tmps : Array Value) (w : World) (g : Nat) (t : TypeId) (cs : Array Value) (fr : Nat × Nat) (d : TypeDesc)
    (hp : tmps.getD p undef = .pointer (some ⟨g, 0, none⟩)) (hg : w.heap[g]? = some (.cells cs t fr))
    (hu : P.underlying ty = some d) (hd : (match d with | .struct _ | .array _ _ => true | _ => false) = true) (hi : (P.info? ty).map (·.size) = some cs.size) :
    (results fn tmps).run P w = .ok (.tuple #[.agg cs, tmps.getD x undef]) w := by
  have hp' : tmps[p]?.getD undef = .pointer (some ⟨g, 0, none⟩) := by simpa using hp
  simp [results, h, hp', asAddr, run_loadVar_row w g t ty cs fr d hg hu hd hi]
theorem info_en (x : En) : (Try.prog.info? 36).map (·.size) = some x.v.size := by show _ = some 5; kernel_rfl
theorem one_en (x : En) : x.v.all (·.oneCell') = true := by simp [En.v, Value.oneCell']
def RetF (x : En) (b : Bool) (W : World) (e : Ending) (w' : World) : Prop := e = .returned (.tuple #[.agg x.v, .bool b]) ∧ Below W.heap.size W w'
set_option maxRecDepth 100000 in
set_option maxHeartbeats 2000000 in
theorem findr_c (b L cl I ci : Nat) (X : St) (hX : Hid X.Ok) (s a : Nat) (hs : Hid (s < 18446744073709551616)) (ha : Hid (a < 18446744073709551616)) (w : World) (h : Hid (TRat b L cl I ci X w)) :
    Calls Try.prog 15 #[.pointer (some ⟨b, 0, none⟩), .int .u64 (s : Nat), .int .u64 (a : Nat)] w (RetF (findE X s a) (findB X s a) w) := by
  obtain ⟨W0, hW0⟩ : ∃ W0, W0 = w.alloc (Obj.cells E0.v 36) := ⟨_, rfl⟩
  have HB : Hid (Below w.heap.size w W0) := by show Below _ _ _; rw [hW0]; exact (Below.refl _ _).alloc (Nat.le_refl _) _
  have RL : Hid (Row W0 w.heap.size 36 E0.v) := by show Row _ _ _ _; rw [hW0]; exact row_new _ _ _
  have LG : Hid (w.heap.size < W0.heap.size) := by show _ < _; rw [hW0, sz_alloc]; exact Nat.lt_succ_self _
  replace h := Lib.hid (h.out.below HB.out)
  have HW := Lib.hid hW0
  clear hW0
  go_enter Try.func15, Try.ntmps15
  go_upto_region 1 with fail
  rw [show w.alloc (Obj.cells #[.int .u64 0, .int .i64 0, .int .u64 0, .bool false, .int .u64 0] 36) = W0 from HW.out.symm]
  clear HW
  go_wp2_with fail
  go_loopg [8] 8 (fun gg i wr => ∃ k : Nat, k + gg = 8 ∧ i = .int .i64 k ∧ Hid (∀ j, j < k → findP X s a j = false) ∧ Hid (Below w.heap.size w wr ∧ Row wr w.heap.size 36 E0.v ∧ w.heap.size < wr.heap.size ∧ TRat b L cl I ci X wr))
  case atStart => exact ⟨0, rfl, rfl, fun j hj => absurd hj (Nat.not_lt_zero _), HB.out, RL.out, LG.out, h.out⟩
  case round =>
    obtain ⟨k, hk, rfl, hp, hr⟩ := hrel
    clear HB RL LG h
    cases gk with
    | zero =>
      obtain rfl : k = 8 := by omega
      go_wp2_with (refine wpList_store_rowP (fun wx => Below w.heap.size w wx ∧ Row wx w.heap.size 36 E0.v) rfl 36 _ _ rfl w.heap.size E0.v rfl rfl 36 E0.v hr.out.2.1 (info_en _) rfl (one_en _) ⟨below_setRow hr.out.1 (Nat.le_refl _) _, hr.out.2.1.setRow _⟩ ?_; rintro wz ⟨hb2, hr2⟩)
      refine bodyPost_ret (results_row2 rfl _ _ w.heap.size 36 E0.v (0, 0) _ rfl hr2 Try.underlying36 rfl (info_en _)) rfl ?_
      have hn : findN X s a = none := fst_no (fun i h1 h2 => hp.out i (by omega))
      refine ⟨?_, hb2⟩
      unfold findE findB
      rw [hn]; rfl
    | succ gg =>
      have h8 : k < 8 := by omega
      obtain ⟨hb, hrow, hlt, ht⟩ := hr.out
      have c0 : wr.cell? ⟨b, 0, none⟩ = some (.slice (some ⟨L, 0, none⟩) 8 cl) := (ht.rb.cell 0).trans rfl
      have hwf := hX.out.e k
      cases hx : X.e k with
      | mk ad lv sp gl lf =>
        rw [hx] at hwf
        obtain ⟨e0, e1, e2, e3, e4⟩ := ht.en5 k h8 hx
        have HH := Lib.hid (has_c ⟨ad, lv, sp, gl, lf⟩ hwf.lv hwf.wf.ad a ha.out wr)
        have HP : Hid (findP X s a k = (X.is k && hasB ⟨ad, lv, sp, gl, lf⟩ a && (gl || sp == s))) := by show _ = _; unfold findP meantB; rw [hx]
        have HX := Lib.hid hx
        generalize hasB ⟨ad, lv, sp, gl, lf⟩ a = hv at HH HP
        simp only [En.v] at HH
        clear hb hrow hlt ht hwf hx
        go_wp2_with fail
        refine HH.out.mono ?_; rintro e w1 ⟨rfl, hb⟩
        have h2 := hr.out.2.2.2.below hb
        have HR : Hid (Below w.heap.size w w1 ∧ Row w1 w.heap.size 36 E0.v ∧ w.heap.size < w1.heap.size ∧ TRat b L cl I ci X w1) := ⟨below_step hb hr.out.1 hr.out.1.size, hr.out.2.1.below hb hr.out.2.2.1, Nat.lt_of_lt_of_le hr.out.2.2.1 hb.size, h2⟩
        clear e0 e1 e2 e3 e4 c0 hr HH hb
        have c0 : w1.cell? ⟨b, 0, none⟩ = some (.slice (some ⟨L, 0, none⟩) 8 cl) := (h2.rb.cell 0).trans rfl
        have c1 : w1.cell? ⟨b, 1, none⟩ = some (.slice (some ⟨I, 0, none⟩) 8 ci) := (h2.rb.cell 1).trans rfl
        obtain ⟨e0, e1, e2, e3, e4⟩ := h2.en5 k h8 HX.out
        have ei := h2.is k h8
        have fq : ((sp : Int) == (s : Int)) = (sp == s) := cast_beq sp s
        generalize X.is k = iv at HP ei
        generalize (sp == s) = q at HP fq
        clear h2
        have next : findP X s a k = false → Hid (∀ j, j < k + 1 → findP X s a j = false) := fun hf j hj => by
          by_cases e : j = k
          · subst e; exact hf
          · exact hp.out j (by omega)
        have done : findP X s a k = true → findE X s a = ⟨ad, lv, sp, gl, lf⟩ ∧ findB X s a = true := fun hf => by
          have hn : findN X s a = some k := fst_eq (Nat.zero_le _) (by omega) hf (fun i h1 h2 => hp.out i h2)
          unfold findE findB
          rw [hn]; exact ⟨HX.out, rfl⟩
        have NX := Lib.hid next
        have DN := Lib.hid done
        clear next done
        have fin : ∀ (x : Bool), True := fun _ => trivial
        clear fin
        cases iv
        · have hf : Hid (findP X s a k = false) := HP.out
          go_wp2_with fail
          go_roundg gg
          case measure => omega
          case rel => exact ⟨k + 1, by omega, by rfl, NX.out hf.out, HR.out⟩
        cases hv
        · have hf : Hid (findP X s a k = false) := HP.out
          go_wp2_with fail
          go_roundg gg
          case measure => omega
          case rel => exact ⟨k + 1, by omega, by rfl, NX.out hf.out, HR.out⟩
        cases gl
        · cases q
          · have hf : Hid (findP X s a k = false) := HP.out
            go_wp2_with fail
            go_roundg gg
            case measure => omega
            case rel => exact ⟨k + 1, by omega, by rfl, NX.out hf.out, HR.out⟩
          · have hf : Hid (findP X s a k = true) := HP.out
            go_wp2_with (refine wpList_store_rowP (fun wx => Below w.heap.size w wx ∧ Row wx w.heap.size 36 (En.v ⟨ad, lv, sp, false, lf⟩)) rfl 36 _ _ rfl w.heap.size (En.v ⟨ad, lv, sp, false, lf⟩) rfl rfl 36 E0.v HR.out.2.1 (info_en _) rfl (one_en _) ⟨below_setRow HR.out.1 (Nat.le_refl _) _, HR.out.2.1.setRow _⟩ ?_; rintro wz ⟨hb2, hr2⟩)
            (try simp only [Exit.inBlock, Exit.then])
            refine bodyPost_ret (results_row2 rfl _ _ w.heap.size 36 (En.v ⟨ad, lv, sp, false, lf⟩) (0, 0) _ rfl hr2 Try.underlying36 rfl (info_en _)) rfl ?_
            obtain ⟨q1, q2⟩ := DN.out hf.out
            exact ⟨by rw [q1, q2]; rfl, hb2⟩
        · have hf : Hid (findP X s a k = true) := HP.out
          go_wp2_with (refine wpList_store_rowP (fun wx => Below w.heap.size w wx ∧ Row wx w.heap.size 36 (En.v ⟨ad, lv, sp, true, lf⟩)) rfl 36 _ _ rfl w.heap.size (En.v ⟨ad, lv, sp, true, lf⟩) rfl rfl 36 E0.v HR.out.2.1 (info_en _) rfl (one_en _) ⟨below_setRow HR.out.1 (Nat.le_refl _) _, HR.out.2.1.setRow _⟩ ?_; rintro wz ⟨hb2, hr2⟩)
          (try simp only [Exit.inBlock, Exit.then])
          refine bodyPost_ret (results_row2 rfl _ _ w.heap.size 36 (En.v ⟨ad, lv, sp, true, lf⟩) (0, 0) _ rfl hr2 Try.underlying36 rfl (info_en _)) rfl ?_
          obtain ⟨q1, q2⟩ := DN.out hf.out
          exact ⟨by rw [q1, q2]; rfl, hb2⟩
end Go.Proofs.Ytdplcdgdndeopaa
