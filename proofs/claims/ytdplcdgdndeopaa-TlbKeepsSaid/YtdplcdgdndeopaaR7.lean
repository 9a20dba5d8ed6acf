/- The document's All. -/
import Derived.Test.YtdplcdgdndeopaaR6
import Derived.Test.YtdplcdgdndeopaaB
namespace Go.Proofs.Ytdplcdgdndeopaa
open Go.ChangeShapes Go.WideShapes Go.ChangeAt Go.RowKit Go.Sort
set_option linter.unusedVariables false
set_option linter.unusedSimpArgs false
def allK (X : St) (k : Nat) : List En := ((List.range k).filter X.is).map X.e
theorem allK_y (X : St) (k : Nat) (h : X.is k = true) : allK X (k + 1) = allK X k ++ [X.e k] := by
  unfold allK
  rw [List.range_succ, List.filter_append, List.map_append]
  simp [h]
theorem allK_n (X : St) (k : Nat) (h : X.is k = false) : allK X (k + 1) = allK X k := by
  unfold allK
  rw [List.range_succ, List.filter_append, List.map_append]
  simp [h]
theorem allK_len (X : St) (k : Nat) : (allK X k).length ≤ k := by
  unfold allK
  rw [List.length_map]
  exact Nat.le_trans (List.length_filter_le _ _) (by rw [List.length_range]; exact Nat.le_refl _)
theorem TRat.belowB {b L cl I ci B : Nat} {X : St} {w w' : World} (h : TRat b L cl I ci X w) (hb : Below B w w') (h1 : b < B) (h2 : L < B) (h3 : I < B) : TRat b L cl I ci X w' :=
  ⟨h.bL, h.bI, h.LI, Nat.lt_of_lt_of_le h.lb hb.size, Nat.lt_of_lt_of_le h.lL hb.size, Nat.lt_of_lt_of_le h.lI hb.size, h.kl, h.ki, h.rb.below hb h1, h.rL.below hb h2, h.rI.below hb h3⟩
def RetL (t : TypeId) (L : List En) (w : World) (e : Ending) (w' : World) : Prop := ∃ v, e = .returned v ∧ OwnE t w' w.heap.size v L ∧ Below w.heap.size w w'
set_option maxRecDepth 100000 in
set_option maxHeartbeats 4000000 in
theorem all_c (b L cl I ci : Nat) (X : St) (w : World) (h : Hid (TRat b L cl I ci X w)) : Calls Try.prog 21 #[.pointer (some ⟨b, 0, none⟩)] w (RetL 36 (allS X) w) := by
  have hlt : Hid (b < w.heap.size ∧ L < w.heap.size ∧ I < w.heap.size) := ⟨h.out.lb, h.out.lL, h.out.lI⟩
  go_enter Try.func21, Try.ntmps21
  go_wp2_with fail
  have h0 : Hid (OwnE 36 (w.alloc (Obj.cells #[] 36)) w.heap.size (.slice (some ⟨w.heap.size, 0, none⟩) 0 0) (allK X 0) ∧ Below w.heap.size w (w.alloc (Obj.cells #[] 36)) ∧ TRat b L cl I ci X (w.alloc (Obj.cells #[] 36))) :=
    ⟨own_built _ w w.heap.size 0 #[] [] (Nat.le_refl _) rfl (by decide) rfl, (Below.refl _ _).alloc (Nat.le_refl _) _, h.out.below ((Below.refl _ _).alloc (Nat.le_refl _) _)⟩
  go_loopg [3, 4] 8 (fun gg o i wr => ∃ (k : Nat) (v : Value), k + gg = 8 ∧ v = o ∧ i = .int .i64 k ∧ Hid (OwnE 36 wr w.heap.size v (allK X k) ∧ Below w.heap.size w wr ∧ TRat b L cl I ci X wr))
  case atStart => exact ⟨0, _, rfl, rfl, rfl, h0.out⟩
  case round =>
    obtain ⟨k, v, hk, rfl, rfl, hr⟩ := hrel
    clear h h0
    cases gk with
    | zero =>
      obtain rfl : k = 8 := by omega
      go_wp2_with fail
      go_ret
      exact ⟨_, rfl, hr.out.1, hr.out.2.1⟩
    | succ gg =>
      have h8 : k < 8 := by omega
      have ht := hr.out.2.2
      have c0 : wr.cell? ⟨b, 0, none⟩ = some (.slice (some ⟨L, 0, none⟩) 8 cl) := (ht.rb.cell 0).trans rfl
      have c1 : wr.cell? ⟨b, 1, none⟩ = some (.slice (some ⟨I, 0, none⟩) 8 ci) := (ht.rb.cell 1).trans rfl
      have ei := ht.is k h8
      cases hx : X.e k with
      | mk ad lv sp gl lf =>
        obtain ⟨e0, e1, e2, e3, e4⟩ := ht.en5 k h8 hx
        have AY := Lib.hid (allK_y X k)
        have AN := Lib.hid (allK_n X k)
        rw [hx] at AY
        have HL := Lib.hid (allK_len X k)
        clear ht hx
        obtain ⟨iv, hiv⟩ : ∃ iv, X.is k = iv := ⟨_, rfl⟩
        rw [hiv] at ei
        have HI := Lib.hid hiv
        clear hiv
        cases iv
        · have F := Lib.hid (AN.out HI.out)
          go_wp2_with fail
          go_roundg gg
          case measure => omega
          case rel => exact ⟨k + 1, v, by omega, rfl, by rfl, by rw [F.out]; exact hr.out⟩
        · have F := Lib.hid (AY.out HI.out)
          have hba : Below wr.heap.size wr (wr.alloc (Obj.cells #[.int .u64 (ad : Nat), .int .i64 lv, .int .u64 (sp : Nat), .bool gl, .int .u64 (lf : Nat)] 36)) := (Below.refl _ _).alloc (Nat.le_refl _) _
          have HBA := Lib.hid hba
          clear hba AY AN
          go_wp2_with (refine append_e infoR rfl _ _ rfl w.heap.size v (allK X k) rfl (hr.out.1.below HBA.out) (by have := HL.out; omega) wr.heap.size (.slice (some ⟨wr.heap.size, 0, none⟩) 1 1) [⟨ad, lv, sp, gl, lf⟩] rfl (own_built _ wr wr.heap.size 1 _ [⟨ad, lv, sp, gl, lf⟩] (Nat.le_refl _) rfl (by decide) rfl) ⟨Nat.one_pos, (by decide : 1 ≤ 500)⟩ (Nat.le_trans hr.out.2.1.size HBA.out.size) (by have := HL.out; show ((allK X k).length + 1) * 40 ≤ _; omega) ?_; intro v2 w2 q1 q2 q3)
          have hb2 : Below w.heap.size wr w2 := below_step ((hr.out.1.below HBA.out).grown q2 (Nat.le_trans hr.out.2.1.size HBA.out.size)) (HBA.out.mono hr.out.2.1.size) (Nat.le_refl _)
          have HR : Hid (OwnE 36 w2 w.heap.size v2 (allK X (k + 1)) ∧ Below w.heap.size w w2 ∧ TRat b L cl I ci X w2) := ⟨by rw [F.out]; exact q1, hr.out.2.1.trans hb2, hr.out.2.2.belowB hb2 hlt.out.1 hlt.out.2.1 hlt.out.2.2⟩
          clear q1 q2 q3 hb2 hr e0 e1 e2 e3 e4 c0 c1 ei HBA
          go_wp2_with fail
          go_roundg gg
          case measure => omega
          case rel => exact ⟨k + 1, v2, by omega, rfl, by rfl, HR.out⟩
end Go.Proofs.Ytdplcdgdndeopaa
