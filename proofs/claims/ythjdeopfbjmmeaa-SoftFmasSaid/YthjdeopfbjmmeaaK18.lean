/- The reference's Add, Sub. -/
import Derived.Test.YthjdeopfbjmmeaaK17
import Derived.Test.YthjdeopfbjmmeaaL6
namespace Go.Proofs.Ythjdeopfbjmmeaa
open Go.ChangeShapes Go.WideShapes Go.ChangeAt Go.RowKit
set_option linter.unusedVariables false
set_option linter.unusedSimpArgs false
/-- A row of words at a block. -/
def Lst (w : World) (g : Nat) (L : List Nat) : Prop := g < w.heap.size ∧ ∀ o, o < L.length → w.cell? ⟨g, o, none⟩ = some (.int .u64 (L.getD o 0 : Nat))
theorem Lst.below {W w' : World} {g : Nat} {L : List Nat} (H : Lst W g L) (hb : Below W.heap.size W w') : Lst w' g L :=
  ⟨Nat.lt_of_lt_of_le H.1 hb.size, fun o ho => by rw [hb.cell (p := ⟨g, o, none⟩) H.1]; exact H.2 o ho⟩
theorem lst_2 (w : World) (a b : Nat) (t : TypeId) : Lst (w.alloc (Obj.cells #[.int .u64 a, .int .u64 b] t)) w.heap.size [a, b] := by
  refine ⟨by rw [sz_alloc]; omega, fun o ho => ?_⟩
  rw [World.cell?_alloc_at _ _ _ _ rfl]
  match o, ho with
  | 0, _ => rfl
  | 1, _ => rfl
theorem lst_1 (w : World) (a : Nat) (t : TypeId) : Lst (w.alloc (Obj.cells #[.int .u64 a] t)) w.heap.size [a] := by
  refine ⟨by rw [sz_alloc]; omega, fun o ho => ?_⟩
  rw [World.cell?_alloc_at _ _ _ _ rfl]
  match o, ho with
  | 0, _ => rfl
theorem lst_3 (w : World) (a b c : Nat) (t : TypeId) : Lst (w.alloc (Obj.cells #[.int .u64 a, .int .u64 b, .int .u64 c] t)) w.heap.size [a, b, c] := by
  refine ⟨by rw [sz_alloc]; omega, fun o ho => ?_⟩
  rw [World.cell?_alloc_at _ _ _ _ rfl]
  match o, ho with
  | 0, _ => rfl
  | 1, _ => rfl
  | 2, _ => rfl
theorem odd_l (sz : Int) (d : Bool) (hs : Hid (Sz sz d)) (g : Nat) (L : List Nat) (n : Nat) (inv : Bool) (w : World) (h : Lst w g L) (hn : n = L.length) (hL : L.length ≤ 10) (hl : ∀ o, o < L.length → L.getD o 0 < 18446744073709551616) :
    Calls Try.prog 37 #[.int .i64 sz, .slice (some ⟨g, 0, none⟩) n n, .bool inv] w (RetO (oddV d L inv) w) := by
  subst hn
  exact odd_s sz d hs g L.length L inv w h.1 hL (Nat.le_refl _) h.2 hl
theorem get2 {a b : Nat} (ha : a < 18446744073709551616) (hb : b < 18446744073709551616) : ∀ o, o < [a, b].length → [a, b].getD o 0 < 18446744073709551616 := by
  intro o ho
  match o, ho with
  | 0, _ => exact ha
  | 1, _ => exact hb
theorem get1 {a : Nat} (ha : a < 18446744073709551616) : ∀ o, o < [a].length → [a].getD o 0 < 18446744073709551616 := by
  intro o ho
  match o, ho with
  | 0, _ => exact ha
theorem get3 {a b c : Nat} (ha : a < 18446744073709551616) (hb : b < 18446744073709551616) (hc : c < 18446744073709551616) : ∀ o, o < [a, b, c].length → [a, b, c].getD o 0 < 18446744073709551616 := by
  intro o ho
  match o, ho with
  | 0, _ => exact ha
  | 1, _ => exact hb
  | 2, _ => exact hc
theorem cls_of {d : Bool} {a : Nat} (hn : nanB d a = false) (hi : isInf d a = false) : (readN d a).cls ≤ 1 := by
  obtain ⟨hc, -⟩ := class_cases d a
  rcases hc with ⟨h, h1, h2, -⟩ | ⟨h, h1, -⟩ | ⟨h, h1, -⟩ | ⟨h, -⟩ | ⟨h, -⟩
  · rw [h2] at hi; cases hi
  · rw [h1] at hn; cases hn
  · rw [h1] at hn; cases hn
  · omega
  · omega
theorem odd_no {d : Bool} {L : List Nat} {inv : Bool} {r : Nat} {f : Int} (h : oddV d L inv = (r, f, false)) : ∀ x ∈ L, nanB d x = false := by
  unfold oddV at h
  split at h
  · cases h
  · have h2 : L.any (nanB d) = false := by cases h' : L.any (nanB d); rfl; rw [h'] at h; cases h
    intro x hx
    cases hq : nanB d x
    · rfl
    · have : L.any (nanB d) = true := List.any_eq_true.2 ⟨x, hx, hq⟩
      rw [h2] at this; cases this
set_option maxRecDepth 100000 in
set_option maxHeartbeats 8000000 in
theorem Add_r (sz : Int) (d : Bool) (hs : Hid (Sz sz d)) (rm : Int) (h5 : 0 ≤ rm) (h3 : rm < 5) (a b : Nat) (ha : Hid (a < 18446744073709551616)) (hb : Hid (b < 18446744073709551616)) (w : World) :
    Calls Try.prog 14 #[.int .i64 sz, .int .i64 rm, .int .u64 a, .int .u64 b] w (RetP (sumF d rm (readN d a) (readN d b)) w) := by
  cases hia : isInf d a <;> cases hib : isInf d b
  · have HIA := Lib.hid hia; have HIB := Lib.hid hib; clear hia hib
    obtain ⟨r, f, is, ho⟩ : ∃ r f is, oddV d [a, b] false = (r, f, is) := ⟨_, _, _, rfl⟩
    have HADD : Hid (sumF d rm (readN d a) (readN d b) = if is then (r, f) else sumR d rm (ofN d a) (ofN d b)) := by show _ = _; rw [add_ref d rm a b ha.out hb.out, HIA.out, HIB.out]; show (if (oddV d [a, b] false).2.2 = true then ((oddV d [a, b] false).1, (oddV d [a, b] false).2.1) else sumR d rm (ofN d a) (ofN d b)) = _; rw [ho]
    have HO := Lib.hid ho; clear ho
    go_enter Try.func14, Try.ntmps14
    go_wp2_with fail
    refine (right_s sz d hs rm h5 h3 _).mono ?_; rintro e0 w1 ⟨rfl, bq⟩
    have hbw := bq; clear bq
    go_wp2_with fail
    have HL := Lib.hid (lst_2 w1 a b 22)
    have hbw := hbw.trans ((below_one w1 (Obj.cells #[.int .u64 a, .int .u64 b] 22)).mono hbw.size)
    refine (inf_s sz d hs a ha _).mono ?_; rintro e0 w2 ⟨rfl, bq⟩
    rw [HIA.out]
    have HL := Lib.hid (HL.out.below bq)
    have hbw := hbw.trans (bq.mono hbw.size)
    go_wp2_with fail
    refine (odd_l sz d hs _ [a, b] _ _ _ HL.out rfl (by simp) (get2 ha.out hb.out)).mono ?_; rintro e0 w9 ⟨rfl, bq⟩
    rw [HO.out]
    have hbw := hbw.trans (bq.mono hbw.size)
    clear HL
    cases is
    · have HF : Hid (sumF d rm (readN d a) (readN d b) = sumR d rm (ofN d a) (ofN d b)) := HADD.out
      go_wp2_with fail
      refine (inf_s sz d hs a ha _).mono ?_; rintro e0 wq ⟨rfl, bq⟩
      rw [HIA.out]
      replace hbw := hbw.trans (bq.mono hbw.size)
      clear bq
      have HCA := Lib.hid (ofN_finQ d a (cls_of (odd_no HO.out a (by simp)) HIA.out))
      have HCB := Lib.hid (ofN_finQ d b (cls_of (odd_no HO.out b (by simp)) HIB.out))
      have ea1 : -2200 ≤ ofE d a := by have := HCA.out.2.2.1; omega
      have ea2 : ofE d a ≤ 2000 := by have := HCA.out.2.2.2; omega
      have eb1 : -2200 ≤ ofE d b := by have := HCB.out.2.2.1; omega
      have eb2 : ofE d b ≤ 2000 := by have := HCB.out.2.2.2; omega
      go_wp2_with fail
      refine (inf_s sz d hs b hb _).mono ?_; rintro e0 wq ⟨rfl, bq⟩
      rw [HIB.out]
      replace hbw := hbw.trans (bq.mono hbw.size)
      clear bq
      go_wp2_with fail
      refine (of_s sz d hs a ha _).mono ?_; rintro e0 w10 ⟨g1, n1, p1, rfl, hA1, bq⟩
      have hbw := hbw.trans (bq.mono hbw.size)
      go_wp2_with fail
      refine (of_s sz d hs b hb _).mono ?_; rintro e0 w11 ⟨g2, n2, p2, rfl, hB1, bq2⟩
      have hbw := hbw.trans (bq2.mono hbw.size)
      have hA2 := Lib.hid (big_below hA1.out bq2 (Nat.le_refl _))
      clear hA1
      go_wp2_with fail
      refine (sum_s _ sz d hs rm h5 h3 (ofN d a) (ofN d b) _ _ _ _ g1 n1 p1 g2 n2 p2 (ofM d a) (ofM d b) (Lib.hid ⟨rfl, rfl, rfl⟩) (Lib.hid ⟨rfl, rfl, rfl⟩) hA2 hB1 (Lib.hid (Nat.lt_of_lt_of_le HCA.out.2.1 (Nat.pow_le_pow_right (by decide) (by decide)))) (Lib.hid (Nat.lt_of_lt_of_le HCB.out.2.1 (Nat.pow_le_pow_right (by decide) (by decide)))) ea1 ea2 eb1 eb2).mono ?_; rintro e0 w12 ⟨rfl, bq3⟩
      have hbw := hbw.trans (bq3.mono hbw.size)
      go_wp2_with fail
      go_ret2
      exact retP_mk (by rw [HF.out]) (by rw [HF.out]) hbw
    · have HF : Hid (sumF d rm (readN d a) (readN d b) = (r, f)) := HADD.out
      go_wp2_with fail
      go_ret2
      exact retP_mk (by rw [HF.out]) (by rw [HF.out]) hbw
  · have HIA := Lib.hid hia; have HIB := Lib.hid hib; clear hia hib
    obtain ⟨r, f, is, ho⟩ : ∃ r f is, oddV d [a, b] false = (r, f, is) := ⟨_, _, _, rfl⟩
    have HADD : Hid (sumF d rm (readN d a) (readN d b) = if is then (r, f) else (maskB d b, 0)) := by show _ = _; rw [add_ref d rm a b ha.out hb.out, HIA.out, HIB.out]; show (if (oddV d [a, b] false).2.2 = true then ((oddV d [a, b] false).1, (oddV d [a, b] false).2.1) else (maskB d b, 0)) = _; rw [ho]
    have HO := Lib.hid ho; clear ho
    go_enter Try.func14, Try.ntmps14
    go_wp2_with fail
    refine (right_s sz d hs rm h5 h3 _).mono ?_; rintro e0 w1 ⟨rfl, bq⟩
    have hbw := bq; clear bq
    go_wp2_with fail
    have HL := Lib.hid (lst_2 w1 a b 22)
    have hbw := hbw.trans ((below_one w1 (Obj.cells #[.int .u64 a, .int .u64 b] 22)).mono hbw.size)
    refine (inf_s sz d hs a ha _).mono ?_; rintro e0 w2 ⟨rfl, bq⟩
    rw [HIA.out]
    have HL := Lib.hid (HL.out.below bq)
    have hbw := hbw.trans (bq.mono hbw.size)
    go_wp2_with fail
    refine (odd_l sz d hs _ [a, b] _ _ _ HL.out rfl (by simp) (get2 ha.out hb.out)).mono ?_; rintro e0 w9 ⟨rfl, bq⟩
    rw [HO.out]
    have hbw := hbw.trans (bq.mono hbw.size)
    clear HL
    cases is
    · have HF : Hid (sumF d rm (readN d a) (readN d b) = (maskB d b, 0)) := HADD.out
      go_wp2_with fail
      refine (inf_s sz d hs a ha _).mono ?_; rintro e0 wq ⟨rfl, bq⟩
      rw [HIA.out]
      replace hbw := hbw.trans (bq.mono hbw.size)
      clear bq
      go_wp2_with fail
      refine (inf_s sz d hs b hb _).mono ?_; rintro e0 wq ⟨rfl, bq⟩
      rw [HIB.out]
      replace hbw := hbw.trans (bq.mono hbw.size)
      clear bq
      go_wp2_with fail
      refine (mask_s sz d hs b hb _).mono ?_; rintro e0 wq ⟨rfl, bq⟩
      replace hbw := hbw.trans (bq.mono hbw.size)
      clear bq
      go_wp2_with fail
      go_ret2
      exact retP_mk (by rw [HF.out]) (by rw [HF.out]) hbw
    · have HF : Hid (sumF d rm (readN d a) (readN d b) = (r, f)) := HADD.out
      go_wp2_with fail
      go_ret2
      exact retP_mk (by rw [HF.out]) (by rw [HF.out]) hbw
  · have HIA := Lib.hid hia; have HIB := Lib.hid hib; clear hia hib
    obtain ⟨r, f, is, ho⟩ : ∃ r f is, oddV d [a, b] false = (r, f, is) := ⟨_, _, _, rfl⟩
    have HADD : Hid (sumF d rm (readN d a) (readN d b) = if is then (r, f) else (maskB d a, 0)) := by show _ = _; rw [add_ref d rm a b ha.out hb.out, HIA.out, HIB.out]; show (if (oddV d [a, b] false).2.2 = true then ((oddV d [a, b] false).1, (oddV d [a, b] false).2.1) else (maskB d a, 0)) = _; rw [ho]
    have HO := Lib.hid ho; clear ho
    go_enter Try.func14, Try.ntmps14
    go_wp2_with fail
    refine (right_s sz d hs rm h5 h3 _).mono ?_; rintro e0 w1 ⟨rfl, bq⟩
    have hbw := bq; clear bq
    go_wp2_with fail
    have HL := Lib.hid (lst_2 w1 a b 22)
    have hbw := hbw.trans ((below_one w1 (Obj.cells #[.int .u64 a, .int .u64 b] 22)).mono hbw.size)
    refine (inf_s sz d hs a ha _).mono ?_; rintro e0 w2 ⟨rfl, bq⟩
    rw [HIA.out]
    have HL := Lib.hid (HL.out.below bq)
    have hbw := hbw.trans (bq.mono hbw.size)
    go_wp2_with fail
    refine (inf_s sz d hs b hb _).mono ?_; rintro e0 wq ⟨rfl, bq⟩
    rw [HIB.out]
    replace HL := Lib.hid (HL.out.below bq)
    replace hbw := hbw.trans (bq.mono hbw.size)
    clear bq
    go_wp2_with fail
    refine (odd_l sz d hs _ [a, b] _ _ _ HL.out rfl (by simp) (get2 ha.out hb.out)).mono ?_; rintro e0 w9 ⟨rfl, bq⟩
    rw [HO.out]
    have hbw := hbw.trans (bq.mono hbw.size)
    clear HL
    cases is
    · have HF : Hid (sumF d rm (readN d a) (readN d b) = (maskB d a, 0)) := HADD.out
      go_wp2_with fail
      refine (inf_s sz d hs a ha _).mono ?_; rintro e0 wq ⟨rfl, bq⟩
      rw [HIA.out]
      replace hbw := hbw.trans (bq.mono hbw.size)
      clear bq
      go_wp2_with fail
      refine (mask_s sz d hs a ha _).mono ?_; rintro e0 wq ⟨rfl, bq⟩
      replace hbw := hbw.trans (bq.mono hbw.size)
      clear bq
      go_wp2_with fail
      go_ret2
      exact retP_mk (by rw [HF.out]) (by rw [HF.out]) hbw
    · have HF : Hid (sumF d rm (readN d a) (readN d b) = (r, f)) := HADD.out
      go_wp2_with fail
      go_ret2
      exact retP_mk (by rw [HF.out]) (by rw [HF.out]) hbw
  · cases hsa : decide (a / signB d % 2 = 1) <;> cases hsb : decide (b / signB d % 2 = 1)
    · have HIA := Lib.hid hia; have HIB := Lib.hid hib; have HSA := Lib.hid hsa; have HSB := Lib.hid hsb; clear hia hib hsa hsb
      obtain ⟨r, f, is, ho⟩ : ∃ r f is, oddV d [a, b] false = (r, f, is) := ⟨_, _, _, rfl⟩
      have HADD : Hid (sumF d rm (readN d a) (readN d b) = if is then (r, f) else (maskB d a, 0)) := by show _ = _; rw [add_ref d rm a b ha.out hb.out, HIA.out, HIB.out, (show sgB d a = _ from HSA.out), (show sgB d b = _ from HSB.out)]; show (if (oddV d [a, b] false).2.2 = true then ((oddV d [a, b] false).1, (oddV d [a, b] false).2.1) else (maskB d a, 0)) = _; rw [ho]
      have HO := Lib.hid ho; clear ho
      go_enter Try.func14, Try.ntmps14
      go_wp2_with fail
      refine (right_s sz d hs rm h5 h3 _).mono ?_; rintro e0 w1 ⟨rfl, bq⟩
      have hbw := bq; clear bq
      go_wp2_with fail
      have HL := Lib.hid (lst_2 w1 a b 22)
      have hbw := hbw.trans ((below_one w1 (Obj.cells #[.int .u64 a, .int .u64 b] 22)).mono hbw.size)
      refine (inf_s sz d hs a ha _).mono ?_; rintro e0 w2 ⟨rfl, bq⟩
      rw [HIA.out]
      have HL := Lib.hid (HL.out.below bq)
      have hbw := hbw.trans (bq.mono hbw.size)
      go_wp2_with fail
      refine (inf_s sz d hs b hb _).mono ?_; rintro e0 wq ⟨rfl, bq⟩
      rw [HIB.out]
      replace HL := Lib.hid (HL.out.below bq)
      replace hbw := hbw.trans (bq.mono hbw.size)
      clear bq
      go_wp2_with fail
      refine (minused_s sz d hs a ha _).mono ?_; rintro e0 wq ⟨rfl, bq⟩
      rw [HSA.out]
      replace HL := Lib.hid (HL.out.below bq)
      replace hbw := hbw.trans (bq.mono hbw.size)
      clear bq
      go_wp2_with fail
      refine (minused_s sz d hs b hb _).mono ?_; rintro e0 wq ⟨rfl, bq⟩
      rw [HSB.out]
      replace HL := Lib.hid (HL.out.below bq)
      replace hbw := hbw.trans (bq.mono hbw.size)
      clear bq
      go_wp2_with fail
      refine (odd_l sz d hs _ [a, b] _ _ _ HL.out rfl (by simp) (get2 ha.out hb.out)).mono ?_; rintro e0 w9 ⟨rfl, bq⟩
      rw [HO.out]
      have hbw := hbw.trans (bq.mono hbw.size)
      clear HL
      cases is
      · have HF : Hid (sumF d rm (readN d a) (readN d b) = (maskB d a, 0)) := HADD.out
        go_wp2_with fail
        refine (inf_s sz d hs a ha _).mono ?_; rintro e0 wq ⟨rfl, bq⟩
        rw [HIA.out]
        replace hbw := hbw.trans (bq.mono hbw.size)
        clear bq
        go_wp2_with fail
        refine (mask_s sz d hs a ha _).mono ?_; rintro e0 wq ⟨rfl, bq⟩
        replace hbw := hbw.trans (bq.mono hbw.size)
        clear bq
        go_wp2_with fail
        go_ret2
        exact retP_mk (by rw [HF.out]) (by rw [HF.out]) hbw
      · have HF : Hid (sumF d rm (readN d a) (readN d b) = (r, f)) := HADD.out
        go_wp2_with fail
        go_ret2
        exact retP_mk (by rw [HF.out]) (by rw [HF.out]) hbw
    · have HIA := Lib.hid hia; have HIB := Lib.hid hib; have HSA := Lib.hid hsa; have HSB := Lib.hid hsb; clear hia hib hsa hsb
      obtain ⟨r, f, is, ho⟩ : ∃ r f is, oddV d [a, b] true = (r, f, is) := ⟨_, _, _, rfl⟩
      have HADD : Hid (sumF d rm (readN d a) (readN d b) = if is then (r, f) else (maskB d a, 0)) := by show _ = _; rw [add_ref d rm a b ha.out hb.out, HIA.out, HIB.out, (show sgB d a = _ from HSA.out), (show sgB d b = _ from HSB.out)]; show (if (oddV d [a, b] true).2.2 = true then ((oddV d [a, b] true).1, (oddV d [a, b] true).2.1) else (maskB d a, 0)) = _; rw [ho]
      have HO := Lib.hid ho; clear ho
      go_enter Try.func14, Try.ntmps14
      go_wp2_with fail
      refine (right_s sz d hs rm h5 h3 _).mono ?_; rintro e0 w1 ⟨rfl, bq⟩
      have hbw := bq; clear bq
      go_wp2_with fail
      have HL := Lib.hid (lst_2 w1 a b 22)
      have hbw := hbw.trans ((below_one w1 (Obj.cells #[.int .u64 a, .int .u64 b] 22)).mono hbw.size)
      refine (inf_s sz d hs a ha _).mono ?_; rintro e0 w2 ⟨rfl, bq⟩
      rw [HIA.out]
      have HL := Lib.hid (HL.out.below bq)
      have hbw := hbw.trans (bq.mono hbw.size)
      go_wp2_with fail
      refine (inf_s sz d hs b hb _).mono ?_; rintro e0 wq ⟨rfl, bq⟩
      rw [HIB.out]
      replace HL := Lib.hid (HL.out.below bq)
      replace hbw := hbw.trans (bq.mono hbw.size)
      clear bq
      go_wp2_with fail
      refine (minused_s sz d hs a ha _).mono ?_; rintro e0 wq ⟨rfl, bq⟩
      rw [HSA.out]
      replace HL := Lib.hid (HL.out.below bq)
      replace hbw := hbw.trans (bq.mono hbw.size)
      clear bq
      go_wp2_with fail
      refine (minused_s sz d hs b hb _).mono ?_; rintro e0 wq ⟨rfl, bq⟩
      rw [HSB.out]
      replace HL := Lib.hid (HL.out.below bq)
      replace hbw := hbw.trans (bq.mono hbw.size)
      clear bq
      go_wp2_with fail
      refine (odd_l sz d hs _ [a, b] _ _ _ HL.out rfl (by simp) (get2 ha.out hb.out)).mono ?_; rintro e0 w9 ⟨rfl, bq⟩
      rw [HO.out]
      have hbw := hbw.trans (bq.mono hbw.size)
      clear HL
      cases is
      · have HF : Hid (sumF d rm (readN d a) (readN d b) = (maskB d a, 0)) := HADD.out
        go_wp2_with fail
        refine (inf_s sz d hs a ha _).mono ?_; rintro e0 wq ⟨rfl, bq⟩
        rw [HIA.out]
        replace hbw := hbw.trans (bq.mono hbw.size)
        clear bq
        go_wp2_with fail
        refine (mask_s sz d hs a ha _).mono ?_; rintro e0 wq ⟨rfl, bq⟩
        replace hbw := hbw.trans (bq.mono hbw.size)
        clear bq
        go_wp2_with fail
        go_ret2
        exact retP_mk (by rw [HF.out]) (by rw [HF.out]) hbw
      · have HF : Hid (sumF d rm (readN d a) (readN d b) = (r, f)) := HADD.out
        go_wp2_with fail
        go_ret2
        exact retP_mk (by rw [HF.out]) (by rw [HF.out]) hbw
    · have HIA := Lib.hid hia; have HIB := Lib.hid hib; have HSA := Lib.hid hsa; have HSB := Lib.hid hsb; clear hia hib hsa hsb
      obtain ⟨r, f, is, ho⟩ : ∃ r f is, oddV d [a, b] true = (r, f, is) := ⟨_, _, _, rfl⟩
      have HADD : Hid (sumF d rm (readN d a) (readN d b) = if is then (r, f) else (maskB d a, 0)) := by show _ = _; rw [add_ref d rm a b ha.out hb.out, HIA.out, HIB.out, (show sgB d a = _ from HSA.out), (show sgB d b = _ from HSB.out)]; show (if (oddV d [a, b] true).2.2 = true then ((oddV d [a, b] true).1, (oddV d [a, b] true).2.1) else (maskB d a, 0)) = _; rw [ho]
      have HO := Lib.hid ho; clear ho
      go_enter Try.func14, Try.ntmps14
      go_wp2_with fail
      refine (right_s sz d hs rm h5 h3 _).mono ?_; rintro e0 w1 ⟨rfl, bq⟩
      have hbw := bq; clear bq
      go_wp2_with fail
      have HL := Lib.hid (lst_2 w1 a b 22)
      have hbw := hbw.trans ((below_one w1 (Obj.cells #[.int .u64 a, .int .u64 b] 22)).mono hbw.size)
      refine (inf_s sz d hs a ha _).mono ?_; rintro e0 w2 ⟨rfl, bq⟩
      rw [HIA.out]
      have HL := Lib.hid (HL.out.below bq)
      have hbw := hbw.trans (bq.mono hbw.size)
      go_wp2_with fail
      refine (inf_s sz d hs b hb _).mono ?_; rintro e0 wq ⟨rfl, bq⟩
      rw [HIB.out]
      replace HL := Lib.hid (HL.out.below bq)
      replace hbw := hbw.trans (bq.mono hbw.size)
      clear bq
      go_wp2_with fail
      refine (minused_s sz d hs a ha _).mono ?_; rintro e0 wq ⟨rfl, bq⟩
      rw [HSA.out]
      replace HL := Lib.hid (HL.out.below bq)
      replace hbw := hbw.trans (bq.mono hbw.size)
      clear bq
      go_wp2_with fail
      refine (minused_s sz d hs b hb _).mono ?_; rintro e0 wq ⟨rfl, bq⟩
      rw [HSB.out]
      replace HL := Lib.hid (HL.out.below bq)
      replace hbw := hbw.trans (bq.mono hbw.size)
      clear bq
      go_wp2_with fail
      refine (odd_l sz d hs _ [a, b] _ _ _ HL.out rfl (by simp) (get2 ha.out hb.out)).mono ?_; rintro e0 w9 ⟨rfl, bq⟩
      rw [HO.out]
      have hbw := hbw.trans (bq.mono hbw.size)
      clear HL
      cases is
      · have HF : Hid (sumF d rm (readN d a) (readN d b) = (maskB d a, 0)) := HADD.out
        go_wp2_with fail
        refine (inf_s sz d hs a ha _).mono ?_; rintro e0 wq ⟨rfl, bq⟩
        rw [HIA.out]
        replace hbw := hbw.trans (bq.mono hbw.size)
        clear bq
        go_wp2_with fail
        refine (mask_s sz d hs a ha _).mono ?_; rintro e0 wq ⟨rfl, bq⟩
        replace hbw := hbw.trans (bq.mono hbw.size)
        clear bq
        go_wp2_with fail
        go_ret2
        exact retP_mk (by rw [HF.out]) (by rw [HF.out]) hbw
      · have HF : Hid (sumF d rm (readN d a) (readN d b) = (r, f)) := HADD.out
        go_wp2_with fail
        go_ret2
        exact retP_mk (by rw [HF.out]) (by rw [HF.out]) hbw
    · have HIA := Lib.hid hia; have HIB := Lib.hid hib; have HSA := Lib.hid hsa; have HSB := Lib.hid hsb; clear hia hib hsa hsb
      obtain ⟨r, f, is, ho⟩ : ∃ r f is, oddV d [a, b] false = (r, f, is) := ⟨_, _, _, rfl⟩
      have HADD : Hid (sumF d rm (readN d a) (readN d b) = if is then (r, f) else (maskB d a, 0)) := by show _ = _; rw [add_ref d rm a b ha.out hb.out, HIA.out, HIB.out, (show sgB d a = _ from HSA.out), (show sgB d b = _ from HSB.out)]; show (if (oddV d [a, b] false).2.2 = true then ((oddV d [a, b] false).1, (oddV d [a, b] false).2.1) else (maskB d a, 0)) = _; rw [ho]
      have HO := Lib.hid ho; clear ho
      go_enter Try.func14, Try.ntmps14
      go_wp2_with fail
      refine (right_s sz d hs rm h5 h3 _).mono ?_; rintro e0 w1 ⟨rfl, bq⟩
      have hbw := bq; clear bq
      go_wp2_with fail
      have HL := Lib.hid (lst_2 w1 a b 22)
      have hbw := hbw.trans ((below_one w1 (Obj.cells #[.int .u64 a, .int .u64 b] 22)).mono hbw.size)
      refine (inf_s sz d hs a ha _).mono ?_; rintro e0 w2 ⟨rfl, bq⟩
      rw [HIA.out]
      have HL := Lib.hid (HL.out.below bq)
      have hbw := hbw.trans (bq.mono hbw.size)
      go_wp2_with fail
      refine (inf_s sz d hs b hb _).mono ?_; rintro e0 wq ⟨rfl, bq⟩
      rw [HIB.out]
      replace HL := Lib.hid (HL.out.below bq)
      replace hbw := hbw.trans (bq.mono hbw.size)
      clear bq
      go_wp2_with fail
      refine (minused_s sz d hs a ha _).mono ?_; rintro e0 wq ⟨rfl, bq⟩
      rw [HSA.out]
      replace HL := Lib.hid (HL.out.below bq)
      replace hbw := hbw.trans (bq.mono hbw.size)
      clear bq
      go_wp2_with fail
      refine (minused_s sz d hs b hb _).mono ?_; rintro e0 wq ⟨rfl, bq⟩
      rw [HSB.out]
      replace HL := Lib.hid (HL.out.below bq)
      replace hbw := hbw.trans (bq.mono hbw.size)
      clear bq
      go_wp2_with fail
      refine (odd_l sz d hs _ [a, b] _ _ _ HL.out rfl (by simp) (get2 ha.out hb.out)).mono ?_; rintro e0 w9 ⟨rfl, bq⟩
      rw [HO.out]
      have hbw := hbw.trans (bq.mono hbw.size)
      clear HL
      cases is
      · have HF : Hid (sumF d rm (readN d a) (readN d b) = (maskB d a, 0)) := HADD.out
        go_wp2_with fail
        refine (inf_s sz d hs a ha _).mono ?_; rintro e0 wq ⟨rfl, bq⟩
        rw [HIA.out]
        replace hbw := hbw.trans (bq.mono hbw.size)
        clear bq
        go_wp2_with fail
        refine (mask_s sz d hs a ha _).mono ?_; rintro e0 wq ⟨rfl, bq⟩
        replace hbw := hbw.trans (bq.mono hbw.size)
        clear bq
        go_wp2_with fail
        go_ret2
        exact retP_mk (by rw [HF.out]) (by rw [HF.out]) hbw
      · have HF : Hid (sumF d rm (readN d a) (readN d b) = (r, f)) := HADD.out
        go_wp2_with fail
        go_ret2
        exact retP_mk (by rw [HF.out]) (by rw [HF.out]) hbw
theorem noughtV_sign (d : Bool) : noughtV d true = signB d := by cases d <;> rfl
set_option maxRecDepth 100000 in
theorem Sub_r (sz : Int) (d : Bool) (hs : Hid (Sz sz d)) (rm : Int) (h5 : 0 ≤ rm) (h3 : rm < 5) (a b : Nat) (ha : Hid (a < 18446744073709551616)) (hb : Hid (b < 18446744073709551616)) (w : World) :
    Calls Try.prog 16 #[.int .i64 sz, .int .i64 rm, .int .u64 a, .int .u64 b] w (RetP (sumF d rm (readN d a) (readN d (xorB d b))) w) := by
  have hX : bits .xor .u64 (b : Int) (signB d : Int) = (xorB d b : Int) := u64_xor_nat b (signB d) hb.out (signB_lt d)
  have HX := Lib.hid hX; clear hX
  have hxl : Hid (xorB d b < 18446744073709551616) := xorB_lt hb.out
  go_enter Try.func16, Try.ntmps16
  go_wp2_with fail
  refine (right_s sz d hs rm h5 h3 _).mono ?_; rintro e0 w1 ⟨rfl, bq⟩
  go_wp2_with fail
  refine (nought_s sz d hs true _).mono ?_; rintro e0 w2 ⟨rfl, h8⟩; replace h8 := h8.symm; subst h8
  rw [noughtV_sign]
  go_wp2_with fail
  rw [HX.out]
  refine (Add_r sz d hs rm h5 h3 a (xorB d b) ha hxl _).mono ?_; rintro e0 w3 ⟨rfl, b3⟩
  go_wp2_with fail
  go_ret2
  exact retP_mk rfl rfl (bq.trans (b3.mono bq.size))
end Go.Proofs.Ythjdeopfbjmmeaa
