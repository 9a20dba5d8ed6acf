/- The document's place. -/
import Derived.Test.YtdplcdgdndeopaaR3
namespace Go.Proofs.Ytdplcdgdndeopaa
open Go.ChangeShapes Go.WideShapes Go.ChangeAt Go.RowKit Go.Sort
set_option linter.unusedVariables false
set_option linter.unusedSimpArgs false
/-- Of b, L, I only the seed may be another one. -/
def RetPl (b L cl I ci : Nat) (X : St) (n sd : Nat) (w : World) (e : Ending) (w' : World) : Prop := e = .returned (.int .i64 (n : Nat)) ∧ TRat b L cl I ci ⟨X.e, X.is, sd⟩ w' ∧ Own (fun k => k = b) w w'
def takenB (X : St) (x : En) (n : Nat) : Bool := X.is n && sameB (X.e n) x
theorem place_1 {X : St} {x : En} {k : Nat} (h8 : k < 8) (hp : ∀ j, j < k → takenB X x j = false) (hf : takenB X x k = true) : placeN X x = (k, X.sd) := by
  unfold placeN
  rw [show fst (fun n => X.is n && sameB (X.e n) x) 0 8 = some k from fst_eq (Nat.zero_le _) (by omega) hf (fun i h1 h2 => hp i h2)]
theorem place_2 {X : St} {x : En} {k : Nat} (h8 : k < 8) (hp : ∀ j, j < 8 → takenB X x j = false) (hq : ∀ j, j < k → (!X.is j) = false) (hf : (!X.is k) = true) : placeN X x = (k, X.sd) := by
  unfold placeN
  rw [show fst (fun n => X.is n && sameB (X.e n) x) 0 8 = none from fst_no (fun i h1 h2 => hp i (by omega)), show fst (fun n => !X.is n) 0 8 = some k from fst_eq (Nat.zero_le _) (by omega) hf (fun i h1 h2 => hq i h2)]
theorem place_3 {X : St} {x : En} (hp : ∀ j, j < 8 → takenB X x j = false) (hq : ∀ j, j < 8 → (!X.is j) = false) : placeN X x = (sdN X.sd / 2305843009213693952, sdN X.sd) := by
  unfold placeN
  rw [show fst (fun n => X.is n && sameB (X.e n) x) 0 8 = none from fst_no (fun i h1 h2 => hp i (by omega)), show fst (fun n => !X.is n) 0 8 = none from fst_no (fun i h1 h2 => hq i (by omega))]
theorem sd_eq (s : Nat) : IntKind.u64.wrap (IntKind.u64.wrap (6364136223846793005 * (s : Int)) + 1442695040888963407) = ((sdN s : Nat) : Int) := by
  unfold sdN
  simp only [IntKind.wrap_u64]; omega
theorem shr_eq (s : Nat) : wrap64 (((sdN s : Nat) : Int) / 2305843009213693952) = ((sdN s / 2305843009213693952 : Nat) : Int) := by
  have : sdN s < 18446744073709551616 := Nat.mod_lt _ (by decide)
  unfold wrap64; omega
theorem TRat.seed {b L cl I ci : Nat} {X : St} {w : World} (h : TRat b L cl I ci X w) (s : Nat) : TRat b L cl I ci ⟨X.e, X.is, s⟩ (w.setCell ⟨b, 2, none⟩ (.int .u64 (s : Nat))) :=
  ⟨h.bL, h.bI, h.LI, by rw [sz_set]; exact h.lb, by rw [sz_set]; exact h.lL, by rw [sz_set]; exact h.lI, h.kl, h.ki, h.rb.set 2 _, h.rL.set_ne h.bL _ _, h.rI.set_ne h.bI _ _⟩
/-- What holds between the rounds. -/
structure Rd (b L cl I ci : Nat) (X : St) (x : En) (w wr : World) : Prop where
  out : Below w.heap.size w wr
  re : Row wr w.heap.size 36 x.v
  lt : w.heap.size < wr.heap.size
  t : TRat b L cl I ci X wr
theorem Rd.below {b L cl I ci : Nat} {X : St} {x : En} {w wr w' : World} (h : Rd b L cl I ci X x w wr) (hb : Below wr.heap.size wr w') : Rd b L cl I ci X x w w' :=
  ⟨below_step hb h.out h.out.size, h.re.below hb h.lt, Nat.lt_of_lt_of_le h.lt hb.size, h.t.below hb⟩
theorem ret_pl {b L cl I ci : Nat} {X : St} {x : En} {w w' : World} {k : Nat} (h : Rd b L cl I ci X x w w') (hb : b < w.heap.size) (hk : placeN X x = (k, X.sd)) : RetPl b L cl I ci X (placeN X x).1 (placeN X x).2 w (.returned (.int .i64 (k : Nat))) w' := by
  rw [hk]; exact ⟨rfl, h.t, Own.below h.out⟩
set_option maxRecDepth 100000 in
set_option maxHeartbeats 4000000 in
theorem place_c (b L cl I ci : Nat) (X : St) (x : En) (w : World) (h : Hid (TRat b L cl I ci X w)) : Calls Try.prog 28 #[.pointer (some ⟨b, 0, none⟩), .agg x.v] w (RetPl b L cl I ci X (placeN X x).1 (placeN X x).2 w) := by
  obtain ⟨W0, hW0⟩ : ∃ W0, W0 = w.alloc (Obj.cells x.v 36) := ⟨_, rfl⟩
  have hb0 : Below w.heap.size w W0 := by rw [hW0]; exact (Below.refl _ _).alloc (Nat.le_refl _) _
  have HD : Hid (Rd b L cl I ci X x w W0) := ⟨hb0, by rw [hW0]; exact row_new _ _ _, by rw [hW0, sz_alloc]; exact Nat.lt_succ_self _, h.out.below hb0⟩
  have hlb : Hid (b < w.heap.size) := h.out.lb
  have HW := Lib.hid hW0
  clear hW0 hb0 h
  obtain ⟨ad', lv', sp', gl', lf'⟩ := x
  go_enter Try.func28, Try.ntmps28
  go_upto_region 1 with fail
  rw [show w.alloc (Obj.cells (En.v ⟨ad', lv', sp', gl', lf'⟩) 36) = W0 from HW.out.symm]
  clear HW
  obtain ⟨eb, heb⟩ : ∃ eb, w.heap.size = eb := ⟨_, rfl⟩
  rw [heb]
  have HE := Lib.hid heb
  clear heb
  go_wp2_with fail
  go_loopg [5] 8 (fun gg i wr => ∃ k : Nat, k + gg = 8 ∧ i = .int .i64 k ∧ Hid (∀ j, j < k → takenB X ⟨ad', lv', sp', gl', lf'⟩ j = false) ∧ Hid (Rd b L cl I ci X ⟨ad', lv', sp', gl', lf'⟩ w wr))
  case atStart => exact ⟨0, rfl, rfl, fun j hj => absurd hj (Nat.not_lt_zero _), HD.out⟩
  case round =>
    obtain ⟨k, hk, rfl, hp, hr⟩ := hrel
    clear HD
    cases gk with
    | zero =>
      obtain rfl : k = 8 := by omega
      go_wp2_with fail
      go_loopg [7] 8 (fun gg i wx => ∃ k : Nat, k + gg = 8 ∧ i = .int .i64 k ∧ Hid (∀ j, j < k → (!X.is j) = false) ∧ Hid (Rd b L cl I ci X ⟨ad', lv', sp', gl', lf'⟩ w wx))
      case atStart => exact ⟨0, rfl, rfl, fun j hj => absurd hj (Nat.not_lt_zero _), hr.out⟩
      case round =>
        obtain ⟨k, hk, rfl, hq, hs⟩ := hrel
        clear hr
        cases gk with
        | zero =>
          obtain rfl : k = 8 := by omega
          have hd := hs.out
          have ht := hd.t
          have s0 : wr.cell? ⟨b, 2, none⟩ = some (.int .u64 (X.sd : Nat)) := (ht.rb.cell 2).trans rfl
          have s1 := ht.rb.fz 2
          have E1 := sd_eq X.sd
          have E2 := shr_eq X.sd
          have E3 := Lib.hid (place_3 (X := X) (x := ⟨ad', lv', sp', gl', lf'⟩) hp.out hq.out)
          have SD := Lib.hid (ht.seed (sdN X.sd))
          have OW : Hid (Own (fun k => k = b) w (wr.setCell ⟨b, 2, none⟩ (.int .u64 (sdN X.sd : Nat)))) := own_set (Own.below hd.out) b 2 _ rfl
          generalize sdN X.sd = z at E1 E2 E3 SD OW
          clear hd ht hs hp hq
          go_wp2_with fail
          go_ret
          rw [E3.out]
          exact ⟨rfl, SD.out, OW.out⟩
        | succ gg =>
          have h8 : k < 8 := by omega
          have ht := hs.out.t
          have c1 : wr.cell? ⟨b, 1, none⟩ = some (.slice (some ⟨I, 0, none⟩) 8 ci) := (ht.rb.cell 1).trans rfl
          have ei := ht.is k h8
          have NX : Hid ((!X.is k) = false → ∀ j, j < k + 1 → (!X.is j) = false) := fun hf j hj => by
            by_cases e : j = k
            · subst e; exact hf
            · exact hq.out j (by omega)
          have DN := Lib.hid (fun hf => place_2 (X := X) (x := ⟨ad', lv', sp', gl', lf'⟩) h8 hp.out hq.out hf)
          obtain ⟨iv, hiv⟩ : ∃ iv, X.is k = iv := ⟨_, rfl⟩
          rw [hiv] at ei
          have HI := Lib.hid hiv
          clear ht hiv
          cases iv
          · go_wp2_with fail
            go_ret
            exact ret_pl hs.out hlb.out (DN.out (by rw [HI.out]; rfl))
          · go_wp2_with fail
            go_roundg gg
            case measure => omega
            case rel => exact ⟨k + 1, by omega, by rfl, NX.out (by rw [HI.out]; rfl), hs.out⟩
    | succ gg =>
      have h8 : k < 8 := by omega
      have ht := hr.out.t
      have c0 : wr.cell? ⟨b, 0, none⟩ = some (.slice (some ⟨L, 0, none⟩) 8 cl) := (ht.rb.cell 0).trans rfl
      cases hx : X.e k with
      | mk ad lv sp gl lf =>
        obtain ⟨e0, e1, e2, e3, e4⟩ := ht.en5 k h8 hx
        have HP : Hid (takenB X ⟨ad', lv', sp', gl', lf'⟩ k = (X.is k && (ad == ad' && lv == lv' && gl == gl' && (gl' || sp == sp')))) := by show _ = _; unfold takenB sameB; rw [hx]
        have hbn : Below wr.heap.size wr ((wr.alloc (Obj.cells E0.v 36)).setRow wr.heap.size (En.v ⟨ad, lv, sp, gl, lf⟩)) := below_setRow ((Below.refl _ _).alloc (Nat.le_refl _) _) (Nat.le_refl _) _
        have HBN := Lib.hid hbn
        clear hx ht hbn
        go_upto_region 5 with (refine wpList_store_rowP (fun wx => Below wr.heap.size wr wx ∧ Row wx wr.heap.size 36 (En.v ⟨ad, lv, sp, gl, lf⟩) ∧ wr.heap.size < wx.heap.size) rfl 36 _ _ rfl wr.heap.size (En.v ⟨ad, lv, sp, gl, lf⟩) rfl rfl 36 E0.v (row_new _ _ _) (info_en _) rfl (one_en _) ⟨HBN.out, (row_new _ _ _).setRow _, by rw [sz_setRow, sz_alloc]; exact Nat.lt_succ_self _⟩ ?_; rintro w1 ⟨hb, hg, hl⟩)
        have HR := Lib.hid (hr.out.below hb)
        clear e0 e1 e2 e3 e4 c0 hr HBN hb
        have c1 : w1.cell? ⟨b, 1, none⟩ = some (.slice (some ⟨I, 0, none⟩) 8 ci) := (HR.out.t.rb.cell 1).trans rfl
        have ei := HR.out.t.is k h8
        have g0 : w1.cell? ⟨wr.heap.size, 0, none⟩ = some (.int .u64 (ad : Nat)) := (hg.cell 0).trans rfl
        have g1 : w1.cell? ⟨wr.heap.size, 1, none⟩ = some (.int .i64 lv) := (hg.cell 1).trans rfl
        have g2 : w1.cell? ⟨wr.heap.size, 2, none⟩ = some (.int .u64 (sp : Nat)) := (hg.cell 2).trans rfl
        have g3 : w1.cell? ⟨wr.heap.size, 3, none⟩ = some (.bool gl) := (hg.cell 3).trans rfl
        have hre := HR.out.re
        rw [HE.out] at hre
        have y0 : w1.cell? ⟨eb, 0, none⟩ = some (.int .u64 (ad' : Nat)) := (hre.cell 0).trans rfl
        have y1 : w1.cell? ⟨eb, 1, none⟩ = some (.int .i64 lv') := (hre.cell 1).trans rfl
        have y2 : w1.cell? ⟨eb, 2, none⟩ = some (.int .u64 (sp' : Nat)) := (hre.cell 2).trans rfl
        have y3 : w1.cell? ⟨eb, 3, none⟩ = some (.bool gl') := (hre.cell 3).trans rfl
        clear hre hg hl
        generalize wr.heap.size = gb at g0 g1 g2 g3 ⊢
        have fa : ((ad : Int) == (ad' : Int)) = (ad == ad') := cast_beq ad ad'
        have fs : ((sp : Int) == (sp' : Int)) = (sp == sp') := cast_beq sp sp'
        have fl : (lv == lv') = (lv == lv') := rfl
        generalize (ad == ad') = qa at HP fa
        generalize (sp == sp') = qs at HP fs
        obtain ⟨ql, hql⟩ : ∃ ql, (lv == lv') = ql := ⟨_, rfl⟩
        rw [hql] at HP
        clear fl
        generalize X.is k = iv at HP ei
        have NX : Hid (takenB X ⟨ad', lv', sp', gl', lf'⟩ k = false → ∀ j, j < k + 1 → takenB X ⟨ad', lv', sp', gl', lf'⟩ j = false) := fun hf j hj => by
          by_cases e : j = k
          · subst e; exact hf
          · exact hp.out j (by omega)
        have DN := Lib.hid (fun hf => place_1 (X := X) (x := ⟨ad', lv', sp', gl', lf'⟩) h8 hp.out hf)
        cases iv
        · go_wp2_with fail
          go_roundg gg
          case measure => omega
          case rel => exact ⟨k + 1, by omega, by rfl, NX.out HP.out, HR.out⟩
        cases qa
        · go_wp2_with fail
          go_roundg gg
          case measure => omega
          case rel => exact ⟨k + 1, by omega, by rfl, NX.out HP.out, HR.out⟩
        cases ql
        · go_wp2_with fail
          go_roundg gg
          case measure => omega
          case rel => exact ⟨k + 1, by omega, by rfl, NX.out HP.out, HR.out⟩
        cases gl <;> cases gl'
        · cases qs
          · go_wp2_with fail
            go_roundg gg
            case measure => omega
            case rel => exact ⟨k + 1, by omega, by rfl, NX.out HP.out, HR.out⟩
          · go_wp2_with fail
            go_ret
            exact ret_pl HR.out hlb.out (DN.out HP.out)
        · go_wp2_with fail
          go_roundg gg
          case measure => omega
          case rel => exact ⟨k + 1, by omega, by rfl, NX.out HP.out, HR.out⟩
        · go_wp2_with fail
          go_roundg gg
          case measure => omega
          case rel => exact ⟨k + 1, by omega, by rfl, NX.out HP.out, HR.out⟩
        · go_wp2_with fail
          go_ret
          exact ret_pl HR.out hlb.out (DN.out HP.out)
end Go.Proofs.Ytdplcdgdndeopaa
