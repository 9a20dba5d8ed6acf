/- The walk of RamEqual. -/
import Derived.Test.YtibgdlianedcbaaE2
namespace Go.Proofs.Ytibgdlianedcbaa
open Go.Maps Go.WideMaps Go.ChangeShapes Go.WideShapes Go.ChangeAt Go.RowKit
set_option linter.unusedVariables false
set_option linter.unusedSimpArgs false
theorem pages_any {S : Nat → Prop} {m : Nat} {F : Nat → Nat} {w : World} (hM : Hid (MemS S w m F)) : Calls Try.prog 18 #[.pointer (some ⟨m, 0, none⟩)] w (RetPg F w) :=
  pages_c S m F w hM (sort_ok _ (Nat.lt_of_le_of_lt (pages_len F) (by decide)))
theorem same_self (F : Nat → Nat) : sameV F F = true := (sameV_true _ _).2 (fun _ _ _ => rfl)

set_option maxRecDepth 100000 in
set_option maxHeartbeats 8000000 in
theorem equal_big (w : World) (sa : Option Addr) (g o0 n cap : Nat) (R : Nat → Nat) (a : Nat) (z : Int) (v : Nat) (hsa : Hid (0 < n → sa = some ⟨g, o0, none⟩ ∧ g < w.heap.size)) (hnc : Hid (n ≤ cap)) (hr : Hid (∀ i, i < n → w.cell? ⟨g, o0 + i, none⟩ = some (.int .u8 (R i)))) (hR : Hid (∀ i, R i < 256)) (ha : Hid (a < 18446744073709551616)) (hv : Hid (v < 256)) (hn1 : (1048576 : Int) < n) (hn2 : (n : Int) ≤ 9223372036854775807) :
    Calls Try.prog 6 #[.slice sa n cap, .int .u64 a, .int .i64 z, .int .u8 v] w (RetB true w) := by
  have v8 : (v : Int) < 256 := by have := hv.out; omega
  go_enter Try.func6, Try.ntmps6
  go_wp2_with fail
  refine (fixed_c w).mono ?_; rintro e w1 ⟨rfl, hb1⟩
  have HB := Lib.hid hb1; clear hb1
  go_wp2_with fail
  refine (new_s w1).mono ?_; rintro e w2 ⟨m, S, rfl, hM, hSS, hb⟩
  have HM := Lib.hid hM
  have HT : Hid (∀ i, S i → w.heap.size ≤ i ∧ i < w2.heap.size) := fun i hi => ⟨Nat.le_trans HB.out.size (hSS i hi).1, (hSS i hi).2⟩
  replace HB := Lib.hid (HB.out.trans (hb.mono HB.out.size)); clear hb hM hSS
  go_wp2_with fail
  refine (lay_big m n cap sa w2 hn1).mono ?_; rintro e w3 ⟨rfl, hb⟩
  replace HM := Lib.hid (HM.out.below hb)
  replace HB := Lib.hid (HB.out.trans (hb.mono HB.out.size)); clear hb
  have hn3 : decide ((1048576 : Int) < n) = true := decide_eq_true hn1
  go_wp2_with fail
  refine (pages_any HM).mono ?_; rintro e w4 ⟨v1, rfl, hv1, hb⟩
  rw [pages_none] at hv1
  obtain ⟨a1, c1, rfl, hA⟩ := hv1.open
  replace HB := Lib.hid (HB.out.trans (hb.mono HB.out.size)); clear hb hA hv1
  go_wp2_with fail
  go_ret
  exact retB_mk rfl HB.out
set_option maxRecDepth 100000 in
set_option maxHeartbeats 8000000 in
theorem equal_no (w : World) (sa : Option Addr) (g o0 n cap : Nat) (R : Nat → Nat) (a : Nat) (z : Int) (v : Nat) (hsa : Hid (0 < n → sa = some ⟨g, o0, none⟩ ∧ g < w.heap.size)) (hnc : Hid (n ≤ cap)) (hr : Hid (∀ i, i < n → w.cell? ⟨g, o0 + i, none⟩ = some (.int .u8 (R i)))) (hR : Hid (∀ i, R i < 256)) (ha : Hid (a < 18446744073709551616)) (hv : Hid (v < 256)) (hn1 : Hid (n ≤ 1048576)) (hz : Hid (hasV a z = false)) :
    Calls Try.prog 6 #[.slice sa n cap, .int .u64 a, .int .i64 z, .int .u8 v] w (RetB true w) := by
  have v8 : (v : Int) < 256 := by have := hv.out; omega
  go_enter Try.func6, Try.ntmps6
  go_wp2_with fail
  refine (fixed_c w).mono ?_; rintro e w1 ⟨rfl, hb1⟩
  have HB := Lib.hid hb1; clear hb1
  go_wp2_with fail
  refine (new_s w1).mono ?_; rintro e w2 ⟨m, S, rfl, hM, hSS, hb⟩
  have HM := Lib.hid hM
  have HT : Hid (∀ i, S i → w.heap.size ≤ i ∧ i < w2.heap.size) := fun i hi => ⟨Nat.le_trans HB.out.size (hSS i hi).1, (hSS i hi).2⟩
  replace HB := Lib.hid (HB.out.trans (hb.mono HB.out.size)); clear hb hM hSS
  go_wp2_with fail
  refine (lay_u S m g o0 n cap sa R w2 HM (Lib.hid (fun i h => (HT.out i h).2)) (Lib.hid (fun h => ⟨(hsa.out h).1, Nat.lt_of_lt_of_le (hsa.out h).2 HB.out.size, fun q => by have := (HT.out g q).1; have := (hsa.out h).2; omega⟩)) hn1 hnc (Lib.hid (fun i hi => by rw [HB.out.cell (p := ⟨g, o0 + i, none⟩) (hsa.out (by omega)).2]; exact hr.out i hi))).mono ?_; rintro e w3 ⟨rfl, hl⟩
  obtain ⟨S3, hM3, ho3, hS3⟩ := hl
  have hF := lay_lt hR.out 2147483648 n
  obtain ⟨F, hFF⟩ : ∃ F, layF (fun _ => 0) 2147483648 n R = F := ⟨_, rfl⟩
  rw [hFF] at hM3 hF
  have HF := Lib.hid hF
  have HM3 := Lib.hid hM3
  have HT3 : Hid (∀ i, S3 i → w.heap.size ≤ i ∧ i < w3.heap.size) := fun i hi => ⟨(hS3 i hi).2.elim (fun q => (HT.out i q).1) (fun q => Nat.le_trans HB.out.size q), (hS3 i hi).1⟩
  replace HB := Lib.hid (below_own HB.out ho3 (fun i hi => (HT.out i hi).1) HB.out.size)
  clear HM HT hM3 ho3 hS3 hF hFF
  go_wp2_with fail
  refine (copy_c S3 m F w3 HM3).mono ?_; rintro e w4 ⟨o, T, rfl, hN, hTT, hb⟩
  have HN := Lib.hid hN
  have HST : Hid (∀ i, S3 i → ¬ T i) := fun i h1 h2 => by have := (HT3.out i h1).2; have := (hTT i h2).1; omega
  have HU : Hid (∀ i, T i → w.heap.size ≤ i ∧ i < w4.heap.size) := fun i hi => ⟨Nat.le_trans HB.out.size (hTT i hi).1, (hTT i hi).2⟩
  have HM := Lib.hid (HM3.out.below hb)
  have HT : Hid (∀ i, S3 i → w.heap.size ≤ i ∧ i < w4.heap.size) := fun i hi => ⟨(HT3.out i hi).1, Nat.lt_of_lt_of_le (HT3.out i hi).2 hb.size⟩
  replace HB := Lib.hid (HB.out.trans (hb.mono HB.out.size)); clear hb hN hTT HM3 HT3
  go_wp2_with fail
  refine ((read_a m a a z F w4 (Lib.hid HM.out.mem) (Lib.hid ⟨rfl, ha.out⟩) HF).mono (fun _ _ h => retR_to (x' := readV F a z) (ok' := false) rfl hz.out h)).mono ?_; rintro e w5 ⟨rfl, hb⟩
  replace HM := Lib.hid (HM.out.below hb)
  replace HN := Lib.hid (HN.out.below hb)
  replace HT : Hid (∀ i, S3 i → w.heap.size ≤ i ∧ i < w5.heap.size) := fun i hi => ⟨(HT.out i hi).1, Nat.lt_of_lt_of_le (HT.out i hi).2 hb.size⟩
  replace HU : Hid (∀ i, T i → w.heap.size ≤ i ∧ i < w5.heap.size) := fun i hi => ⟨(HU.out i hi).1, Nat.lt_of_lt_of_le (HU.out i hi).2 hb.size⟩
  replace HB := Lib.hid (HB.out.trans (hb.mono HB.out.size)); clear hb
  generalize readV F a z = x
  go_wp2_with fail
  refine (write_a T o a 1 z F w5 HN (Lib.hid (fun i h => (HU.out i h).2)) ha (Lib.hid (by decide)) false hz F (Lib.hid (wrF_no F a z 1 hz.out))).mono ?_; rintro e w6 ⟨rfl, S9, hM9, ho9, hS9⟩
  replace HM := Lib.hid (HM.out.kept ho9 (fun i h1 h2 => HST.out i h1 h2))
  replace HN := Lib.hid hM9
  have HST9 : Hid (∀ i, S3 i → ¬ S9 i) := fun i h1 h2 => (hS9 i h2).2.elim (fun q => HST.out i h1 q) (fun q => by have := (HT.out i h1).2; omega)
  have HT9 : Hid (∀ i, S9 i → w.heap.size ≤ i ∧ i < w6.heap.size) := fun i hi => ⟨(hS9 i hi).2.elim (fun q => (HU.out i q).1) (fun q => Nat.le_trans HB.out.size q), (hS9 i hi).1⟩
  replace HT : Hid (∀ i, S3 i → w.heap.size ≤ i ∧ i < w6.heap.size) := fun i hi => ⟨(HT.out i hi).1, Nat.lt_of_lt_of_le (HT.out i hi).2 ho9.size⟩
  replace HB := Lib.hid (below_own HB.out ho9 (fun i hi => (HU.out i hi).1) HB.out.size)
  clear HU HST hM9 ho9 hS9
  have HU := HT9; have HST := HST9; clear HT9 HST9
  clear T
  obtain ⟨T, hT9⟩ : ∃ X, X = S9 := ⟨_, rfl⟩
  subst hT9
  go_wp2_with fail
  refine ((same_c S3 T m o F F w6 HM HN).mono (fun _ _ h => retB_to (x' := true) (same_self F) h)).mono ?_; rintro e w7 ⟨rfl, hb⟩
  replace HM := Lib.hid (HM.out.below hb)
  replace HN := Lib.hid (HN.out.below hb)
  replace HT : Hid (∀ i, S3 i → w.heap.size ≤ i ∧ i < w7.heap.size) := fun i hi => ⟨(HT.out i hi).1, Nat.lt_of_lt_of_le (HT.out i hi).2 hb.size⟩
  replace HU : Hid (∀ i, T i → w.heap.size ≤ i ∧ i < w7.heap.size) := fun i hi => ⟨(HU.out i hi).1, Nat.lt_of_lt_of_le (HU.out i hi).2 hb.size⟩
  replace HB := Lib.hid (HB.out.trans (hb.mono HB.out.size)); clear hb
  go_wp2_with fail
  go_ret
  exact retB_mk rfl HB.out
set_option maxRecDepth 100000 in
set_option maxHeartbeats 8000000 in
theorem equal_yes (w : World) (sa : Option Addr) (g o0 n cap : Nat) (R : Nat → Nat) (a : Nat) (z : Int) (v : Nat) (hsa : Hid (0 < n → sa = some ⟨g, o0, none⟩ ∧ g < w.heap.size)) (hnc : Hid (n ≤ cap)) (hr : Hid (∀ i, i < n → w.cell? ⟨g, o0 + i, none⟩ = some (.int .u8 (R i)))) (hR : Hid (∀ i, R i < 256)) (ha : Hid (a < 18446744073709551616)) (hv : Hid (v < 256)) (hn1 : Hid (n ≤ 1048576)) (hz : Hid (hasV a z = true)) :
    Calls Try.prog 6 #[.slice sa n cap, .int .u64 a, .int .i64 z, .int .u8 v] w (RetB true w) := by
  have v8 : (v : Int) < 256 := by have := hv.out; omega
  go_enter Try.func6, Try.ntmps6
  go_wp2_with fail
  refine (fixed_c w).mono ?_; rintro e w1 ⟨rfl, hb1⟩
  have HB := Lib.hid hb1; clear hb1
  go_wp2_with fail
  refine (new_s w1).mono ?_; rintro e w2 ⟨m, S, rfl, hM, hSS, hb⟩
  have HM := Lib.hid hM
  have HT : Hid (∀ i, S i → w.heap.size ≤ i ∧ i < w2.heap.size) := fun i hi => ⟨Nat.le_trans HB.out.size (hSS i hi).1, (hSS i hi).2⟩
  replace HB := Lib.hid (HB.out.trans (hb.mono HB.out.size)); clear hb hM hSS
  go_wp2_with fail
  refine (lay_u S m g o0 n cap sa R w2 HM (Lib.hid (fun i h => (HT.out i h).2)) (Lib.hid (fun h => ⟨(hsa.out h).1, Nat.lt_of_lt_of_le (hsa.out h).2 HB.out.size, fun q => by have := (HT.out g q).1; have := (hsa.out h).2; omega⟩)) hn1 hnc (Lib.hid (fun i hi => by rw [HB.out.cell (p := ⟨g, o0 + i, none⟩) (hsa.out (by omega)).2]; exact hr.out i hi))).mono ?_; rintro e w3 ⟨rfl, hl⟩
  obtain ⟨S3, hM3, ho3, hS3⟩ := hl
  have hF := lay_lt hR.out 2147483648 n
  obtain ⟨F, hFF⟩ : ∃ F, layF (fun _ => 0) 2147483648 n R = F := ⟨_, rfl⟩
  rw [hFF] at hM3 hF
  have HF := Lib.hid hF
  have HM3 := Lib.hid hM3
  have HT3 : Hid (∀ i, S3 i → w.heap.size ≤ i ∧ i < w3.heap.size) := fun i hi => ⟨(hS3 i hi).2.elim (fun q => (HT.out i q).1) (fun q => Nat.le_trans HB.out.size q), (hS3 i hi).1⟩
  replace HB := Lib.hid (below_own HB.out ho3 (fun i hi => (HT.out i hi).1) HB.out.size)
  clear HM HT hM3 ho3 hS3 hF hFF
  go_wp2_with fail
  refine (copy_c S3 m F w3 HM3).mono ?_; rintro e w4 ⟨o, T, rfl, hN, hTT, hb⟩
  have HN := Lib.hid hN
  have HST : Hid (∀ i, S3 i → ¬ T i) := fun i h1 h2 => by have := (HT3.out i h1).2; have := (hTT i h2).1; omega
  have HU : Hid (∀ i, T i → w.heap.size ≤ i ∧ i < w4.heap.size) := fun i hi => ⟨Nat.le_trans HB.out.size (hTT i hi).1, (hTT i hi).2⟩
  have HM := Lib.hid (HM3.out.below hb)
  have HT : Hid (∀ i, S3 i → w.heap.size ≤ i ∧ i < w4.heap.size) := fun i hi => ⟨(HT3.out i hi).1, Nat.lt_of_lt_of_le (HT3.out i hi).2 hb.size⟩
  replace HB := Lib.hid (HB.out.trans (hb.mono HB.out.size)); clear hb hN hTT HM3 HT3
  go_wp2_with fail
  refine ((read_a m a a z F w4 (Lib.hid HM.out.mem) (Lib.hid ⟨rfl, ha.out⟩) HF).mono (fun _ _ h => retR_to (x' := readV F a z) (ok' := true) rfl hz.out h)).mono ?_; rintro e w5 ⟨rfl, hb⟩
  replace HM := Lib.hid (HM.out.below hb)
  replace HN := Lib.hid (HN.out.below hb)
  replace HT : Hid (∀ i, S3 i → w.heap.size ≤ i ∧ i < w5.heap.size) := fun i hi => ⟨(HT.out i hi).1, Nat.lt_of_lt_of_le (HT.out i hi).2 hb.size⟩
  replace HU : Hid (∀ i, T i → w.heap.size ≤ i ∧ i < w5.heap.size) := fun i hi => ⟨(HU.out i hi).1, Nat.lt_of_lt_of_le (HU.out i hi).2 hb.size⟩
  replace HB := Lib.hid (HB.out.trans (hb.mono HB.out.size)); clear hb
  obtain ⟨x, hx⟩ : ∃ x, x = readV F a z := ⟨_, rfl⟩
  have HX : Hid (wrF F a z x = F ∧ x < 18446744073709551616) := by rw [hx]; exact ⟨wr_read HF.out hz.out, readV_lt HF.out a z⟩
  rw [← hx]
  clear hx
  have H1 : Hid (hasV a 1 = true) := has_one hz.out
  go_wp2_with fail
  refine (write_a T o a x z F w5 HN (Lib.hid (fun i h => (HU.out i h).2)) ha (Lib.hid HX.out.2) true hz F (Lib.hid HX.out.1)).mono ?_; rintro e w6 ⟨rfl, S9, hM9, ho9, hS9⟩
  replace HM := Lib.hid (HM.out.kept ho9 (fun i h1 h2 => HST.out i h1 h2))
  replace HN := Lib.hid hM9
  have HST9 : Hid (∀ i, S3 i → ¬ S9 i) := fun i h1 h2 => (hS9 i h2).2.elim (fun q => HST.out i h1 q) (fun q => by have := (HT.out i h1).2; omega)
  have HT9 : Hid (∀ i, S9 i → w.heap.size ≤ i ∧ i < w6.heap.size) := fun i hi => ⟨(hS9 i hi).2.elim (fun q => (HU.out i q).1) (fun q => Nat.le_trans HB.out.size q), (hS9 i hi).1⟩
  replace HT : Hid (∀ i, S3 i → w.heap.size ≤ i ∧ i < w6.heap.size) := fun i hi => ⟨(HT.out i hi).1, Nat.lt_of_lt_of_le (HT.out i hi).2 ho9.size⟩
  replace HB := Lib.hid (below_own HB.out ho9 (fun i hi => (HU.out i hi).1) HB.out.size)
  clear HU HST hM9 ho9 hS9
  have HU := HT9; have HST := HST9; clear HT9 HST9
  clear T
  obtain ⟨T, hT9⟩ : ∃ X, X = S9 := ⟨_, rfl⟩
  subst hT9
  go_wp2_with fail
  refine ((same_c S3 T m o F F w6 HM HN).mono (fun _ _ h => retB_to (x' := true) (same_self F) h)).mono ?_; rintro e w7 ⟨rfl, hb⟩
  replace HM := Lib.hid (HM.out.below hb)
  replace HN := Lib.hid (HN.out.below hb)
  replace HT : Hid (∀ i, S3 i → w.heap.size ≤ i ∧ i < w7.heap.size) := fun i hi => ⟨(HT.out i hi).1, Nat.lt_of_lt_of_le (HT.out i hi).2 hb.size⟩
  replace HU : Hid (∀ i, T i → w.heap.size ≤ i ∧ i < w7.heap.size) := fun i hi => ⟨(HU.out i hi).1, Nat.lt_of_lt_of_le (HU.out i hi).2 hb.size⟩
  replace HB := Lib.hid (HB.out.trans (hb.mono HB.out.size)); clear hb
  go_wp2_with fail
  refine ((same_c T S3 o m F F w7 HN HM).mono (fun _ _ h => retB_to (x' := true) (same_self F) h)).mono ?_; rintro e w8 ⟨rfl, hb⟩
  replace HM := Lib.hid (HM.out.below hb)
  replace HN := Lib.hid (HN.out.below hb)
  replace HT : Hid (∀ i, S3 i → w.heap.size ≤ i ∧ i < w8.heap.size) := fun i hi => ⟨(HT.out i hi).1, Nat.lt_of_lt_of_le (HT.out i hi).2 hb.size⟩
  replace HU : Hid (∀ i, T i → w.heap.size ≤ i ∧ i < w8.heap.size) := fun i hi => ⟨(HU.out i hi).1, Nat.lt_of_lt_of_le (HU.out i hi).2 hb.size⟩
  replace HB := Lib.hid (HB.out.trans (hb.mono HB.out.size)); clear hb
  go_wp2_with fail
  refine ((read_a m a a 1 F w8 (Lib.hid HM.out.mem) (Lib.hid ⟨rfl, ha.out⟩) HF).mono (fun _ _ h => retR_to (x' := F a) (ok' := true) (read1 F a H1.out) H1.out h)).mono ?_; rintro e w9 ⟨rfl, hb⟩
  replace HM := Lib.hid (HM.out.below hb)
  replace HN := Lib.hid (HN.out.below hb)
  replace HT : Hid (∀ i, S3 i → w.heap.size ≤ i ∧ i < w9.heap.size) := fun i hi => ⟨(HT.out i hi).1, Nat.lt_of_lt_of_le (HT.out i hi).2 hb.size⟩
  replace HU : Hid (∀ i, T i → w.heap.size ≤ i ∧ i < w9.heap.size) := fun i hi => ⟨(HU.out i hi).1, Nat.lt_of_lt_of_le (HU.out i hi).2 hb.size⟩
  replace HB := Lib.hid (HB.out.trans (hb.mono HB.out.size)); clear hb
  obtain ⟨G, hG⟩ : ∃ G, wrF F a 1 v = G := ⟨_, rfl⟩
  have HG := Lib.hid hG
  have HS1 : Hid (sameV F G = decide (F a = v) ∧ sameV G F = decide (F a = v)) := by rw [← hG]; exact same_one HF.out H1.out v hv.out
  have HBK : Hid (wrF G a 1 (F a) = F) := by rw [← hG]; exact wr_back HF.out H1.out v hv.out
  obtain ⟨f, hf⟩ : ∃ f, f = F a := ⟨_, rfl⟩
  have HFA : Hid (f < 256) := by rw [hf]; exact HF.out a
  rw [← hf] at HS1 HBK ⊢
  have f8 : (f : Int) < 256 := by have := HFA.out; omega
  clear hf hG
  obtain ⟨t, ht⟩ : ∃ t, decide (f = v) = t := ⟨_, rfl⟩
  rw [ht] at HS1
  have hb1 : ((f : Int) == (v : Int)) = t := by
    rw [← ht]
    by_cases c : f = v
    · rw [c, decide_eq_true rfl]; exact beq_self_eq_true _
    · rw [decide_eq_false c, beq_eq_false_iff_ne]; omega
  have hb2 : (f == v) = t := by
    rw [← ht]
    by_cases c : f = v
    · rw [c, decide_eq_true rfl]; exact beq_self_eq_true _
    · rw [decide_eq_false c, beq_eq_false_iff_ne]; exact c
  clear ht
  go_wp2_with fail
  refine (write_a T o a v 1 F w9 HN (Lib.hid (fun i h => (HU.out i h).2)) ha (Lib.hid (by have := hv.out; omega)) true H1 G (Lib.hid HG.out)).mono ?_; rintro e w10 ⟨rfl, S9, hM9, ho9, hS9⟩
  replace HM := Lib.hid (HM.out.kept ho9 (fun i h1 h2 => HST.out i h1 h2))
  replace HN := Lib.hid hM9
  have HST9 : Hid (∀ i, S3 i → ¬ S9 i) := fun i h1 h2 => (hS9 i h2).2.elim (fun q => HST.out i h1 q) (fun q => by have := (HT.out i h1).2; omega)
  have HT9 : Hid (∀ i, S9 i → w.heap.size ≤ i ∧ i < w10.heap.size) := fun i hi => ⟨(hS9 i hi).2.elim (fun q => (HU.out i q).1) (fun q => Nat.le_trans HB.out.size q), (hS9 i hi).1⟩
  replace HT : Hid (∀ i, S3 i → w.heap.size ≤ i ∧ i < w10.heap.size) := fun i hi => ⟨(HT.out i hi).1, Nat.lt_of_lt_of_le (HT.out i hi).2 ho9.size⟩
  replace HB := Lib.hid (below_own HB.out ho9 (fun i hi => (HU.out i hi).1) HB.out.size)
  clear HU HST hM9 ho9 hS9
  have HU := HT9; have HST := HST9; clear HT9 HST9
  clear T
  obtain ⟨T, hT9⟩ : ∃ X, X = S9 := ⟨_, rfl⟩
  subst hT9
  go_wp2_with fail
  refine ((same_c S3 T m o F G w10 HM HN).mono (fun _ _ h => retB_to (x' := t) HS1.out.1 h)).mono ?_; rintro e w11 ⟨rfl, hb⟩
  replace HM := Lib.hid (HM.out.below hb)
  replace HN := Lib.hid (HN.out.below hb)
  replace HT : Hid (∀ i, S3 i → w.heap.size ≤ i ∧ i < w11.heap.size) := fun i hi => ⟨(HT.out i hi).1, Nat.lt_of_lt_of_le (HT.out i hi).2 hb.size⟩
  replace HU : Hid (∀ i, T i → w.heap.size ≤ i ∧ i < w11.heap.size) := fun i hi => ⟨(HU.out i hi).1, Nat.lt_of_lt_of_le (HU.out i hi).2 hb.size⟩
  replace HB := Lib.hid (HB.out.trans (hb.mono HB.out.size)); clear hb
  cases t
  · go_wp2_with fail
    refine ((same_c T S3 o m G F w11 HN HM).mono (fun _ _ h => retB_to (x' := false) HS1.out.2 h)).mono ?_; rintro e w12 ⟨rfl, hb⟩
    replace HM := Lib.hid (HM.out.below hb)
    replace HN := Lib.hid (HN.out.below hb)
    replace HT : Hid (∀ i, S3 i → w.heap.size ≤ i ∧ i < w12.heap.size) := fun i hi => ⟨(HT.out i hi).1, Nat.lt_of_lt_of_le (HT.out i hi).2 hb.size⟩
    replace HU : Hid (∀ i, T i → w.heap.size ≤ i ∧ i < w12.heap.size) := fun i hi => ⟨(HU.out i hi).1, Nat.lt_of_lt_of_le (HU.out i hi).2 hb.size⟩
    replace HB := Lib.hid (HB.out.trans (hb.mono HB.out.size)); clear hb
    go_wp2_with fail
    refine ((same_c S3 T m o F G w12 HM HN).mono (fun _ _ h => retB_to (x' := false) HS1.out.1 h)).mono ?_; rintro e w13 ⟨rfl, hb⟩
    replace HM := Lib.hid (HM.out.below hb)
    replace HN := Lib.hid (HN.out.below hb)
    replace HT : Hid (∀ i, S3 i → w.heap.size ≤ i ∧ i < w13.heap.size) := fun i hi => ⟨(HT.out i hi).1, Nat.lt_of_lt_of_le (HT.out i hi).2 hb.size⟩
    replace HU : Hid (∀ i, T i → w.heap.size ≤ i ∧ i < w13.heap.size) := fun i hi => ⟨(HU.out i hi).1, Nat.lt_of_lt_of_le (HU.out i hi).2 hb.size⟩
    replace HB := Lib.hid (HB.out.trans (hb.mono HB.out.size)); clear hb
    go_wp2_with fail
    refine (write_a T o a f 1 G w13 HN (Lib.hid (fun i h => (HU.out i h).2)) ha (Lib.hid (by have := HFA.out; omega)) true H1 F (Lib.hid HBK.out)).mono ?_; rintro e w14 ⟨rfl, S9, hM9, ho9, hS9⟩
    replace HM := Lib.hid (HM.out.kept ho9 (fun i h1 h2 => HST.out i h1 h2))
    replace HN := Lib.hid hM9
    have HST9 : Hid (∀ i, S3 i → ¬ S9 i) := fun i h1 h2 => (hS9 i h2).2.elim (fun q => HST.out i h1 q) (fun q => by have := (HT.out i h1).2; omega)
    have HT9 : Hid (∀ i, S9 i → w.heap.size ≤ i ∧ i < w14.heap.size) := fun i hi => ⟨(hS9 i hi).2.elim (fun q => (HU.out i q).1) (fun q => Nat.le_trans HB.out.size q), (hS9 i hi).1⟩
    replace HT : Hid (∀ i, S3 i → w.heap.size ≤ i ∧ i < w14.heap.size) := fun i hi => ⟨(HT.out i hi).1, Nat.lt_of_lt_of_le (HT.out i hi).2 ho9.size⟩
    replace HB := Lib.hid (below_own HB.out ho9 (fun i hi => (HU.out i hi).1) HB.out.size)
    clear HU HST hM9 ho9 hS9
    have HU := HT9; have HST := HST9; clear HT9 HST9
    clear T
    obtain ⟨T, hT9⟩ : ∃ X, X = S9 := ⟨_, rfl⟩
    subst hT9
    go_wp2_with fail
    refine ((same_c S3 T m o F F w14 HM HN).mono (fun _ _ h => retB_to (x' := true) (same_self F) h)).mono ?_; rintro e w15 ⟨rfl, hb⟩
    replace HM := Lib.hid (HM.out.below hb)
    replace HN := Lib.hid (HN.out.below hb)
    replace HT : Hid (∀ i, S3 i → w.heap.size ≤ i ∧ i < w15.heap.size) := fun i hi => ⟨(HT.out i hi).1, Nat.lt_of_lt_of_le (HT.out i hi).2 hb.size⟩
    replace HU : Hid (∀ i, T i → w.heap.size ≤ i ∧ i < w15.heap.size) := fun i hi => ⟨(HU.out i hi).1, Nat.lt_of_lt_of_le (HU.out i hi).2 hb.size⟩
    replace HB := Lib.hid (HB.out.trans (hb.mono HB.out.size)); clear hb
    go_wp2_with fail
    refine (pages_any HM).mono ?_; rintro e w16 ⟨u1, rfl, hv1, hb⟩
    obtain ⟨a1, c1, rfl, hA⟩ := hv1.open
    have HA1 := Lib.hid hA; clear hA hv1
    replace HM := Lib.hid (HM.out.below hb)
    replace HN := Lib.hid (HN.out.below hb)
    replace HT : Hid (∀ i, S3 i → w.heap.size ≤ i ∧ i < w16.heap.size) := fun i hi => ⟨(HT.out i hi).1, Nat.lt_of_lt_of_le (HT.out i hi).2 hb.size⟩
    replace HU : Hid (∀ i, T i → w.heap.size ≤ i ∧ i < w16.heap.size) := fun i hi => ⟨(HU.out i hi).1, Nat.lt_of_lt_of_le (HU.out i hi).2 hb.size⟩
    replace HB := Lib.hid (HB.out.trans (hb.mono HB.out.size)); clear hb
    go_wp2_with fail
    refine (pages_any HN).mono ?_; rintro e w17 ⟨u2, rfl, hv1, hb⟩
    replace HA1 := Lib.hid (HA1.out.below hb)
    obtain ⟨a2, c2, rfl, hA⟩ := hv1.open
    have HA2 := Lib.hid hA; clear hA hv1
    replace HM := Lib.hid (HM.out.below hb)
    replace HN := Lib.hid (HN.out.below hb)
    replace HT : Hid (∀ i, S3 i → w.heap.size ≤ i ∧ i < w17.heap.size) := fun i hi => ⟨(HT.out i hi).1, Nat.lt_of_lt_of_le (HT.out i hi).2 hb.size⟩
    replace HU : Hid (∀ i, T i → w.heap.size ≤ i ∧ i < w17.heap.size) := fun i hi => ⟨(HU.out i hi).1, Nat.lt_of_lt_of_le (HU.out i hi).2 hb.size⟩
    replace HB := Lib.hid (HB.out.trans (hb.mono HB.out.size)); clear hb
    go_wp2_with fail
    refine ((list_c a1 a2 _ _ c1 c2 (pagesL F) (pagesL F) w17 rfl rfl HA1 HA2 (by have := pages_len F; show _ < _; omega)).mono (fun _ _ h => retB_to (x' := true) (by simp) h)).mono ?_; rintro e w99 ⟨rfl, hb⟩
    replace HB := Lib.hid (HB.out.trans (hb.mono HB.out.size)); clear hb
    go_wp2_with fail
    go_ret
    exact retB_mk rfl HB.out
  · go_wp2_with fail
    refine ((same_c T S3 o m G F w11 HN HM).mono (fun _ _ h => retB_to (x' := true) HS1.out.2 h)).mono ?_; rintro e w12 ⟨rfl, hb⟩
    replace HM := Lib.hid (HM.out.below hb)
    replace HN := Lib.hid (HN.out.below hb)
    replace HT : Hid (∀ i, S3 i → w.heap.size ≤ i ∧ i < w12.heap.size) := fun i hi => ⟨(HT.out i hi).1, Nat.lt_of_lt_of_le (HT.out i hi).2 hb.size⟩
    replace HU : Hid (∀ i, T i → w.heap.size ≤ i ∧ i < w12.heap.size) := fun i hi => ⟨(HU.out i hi).1, Nat.lt_of_lt_of_le (HU.out i hi).2 hb.size⟩
    replace HB := Lib.hid (HB.out.trans (hb.mono HB.out.size)); clear hb
    go_wp2_with fail
    refine ((same_c S3 T m o F G w12 HM HN).mono (fun _ _ h => retB_to (x' := true) HS1.out.1 h)).mono ?_; rintro e w13 ⟨rfl, hb⟩
    replace HM := Lib.hid (HM.out.below hb)
    replace HN := Lib.hid (HN.out.below hb)
    replace HT : Hid (∀ i, S3 i → w.heap.size ≤ i ∧ i < w13.heap.size) := fun i hi => ⟨(HT.out i hi).1, Nat.lt_of_lt_of_le (HT.out i hi).2 hb.size⟩
    replace HU : Hid (∀ i, T i → w.heap.size ≤ i ∧ i < w13.heap.size) := fun i hi => ⟨(HU.out i hi).1, Nat.lt_of_lt_of_le (HU.out i hi).2 hb.size⟩
    replace HB := Lib.hid (HB.out.trans (hb.mono HB.out.size)); clear hb
    go_wp2_with fail
    refine (write_a T o a f 1 G w13 HN (Lib.hid (fun i h => (HU.out i h).2)) ha (Lib.hid (by have := HFA.out; omega)) true H1 F (Lib.hid HBK.out)).mono ?_; rintro e w14 ⟨rfl, S9, hM9, ho9, hS9⟩
    replace HM := Lib.hid (HM.out.kept ho9 (fun i h1 h2 => HST.out i h1 h2))
    replace HN := Lib.hid hM9
    have HST9 : Hid (∀ i, S3 i → ¬ S9 i) := fun i h1 h2 => (hS9 i h2).2.elim (fun q => HST.out i h1 q) (fun q => by have := (HT.out i h1).2; omega)
    have HT9 : Hid (∀ i, S9 i → w.heap.size ≤ i ∧ i < w14.heap.size) := fun i hi => ⟨(hS9 i hi).2.elim (fun q => (HU.out i q).1) (fun q => Nat.le_trans HB.out.size q), (hS9 i hi).1⟩
    replace HT : Hid (∀ i, S3 i → w.heap.size ≤ i ∧ i < w14.heap.size) := fun i hi => ⟨(HT.out i hi).1, Nat.lt_of_lt_of_le (HT.out i hi).2 ho9.size⟩
    replace HB := Lib.hid (below_own HB.out ho9 (fun i hi => (HU.out i hi).1) HB.out.size)
    clear HU HST hM9 ho9 hS9
    have HU := HT9; have HST := HST9; clear HT9 HST9
    clear T
    obtain ⟨T, hT9⟩ : ∃ X, X = S9 := ⟨_, rfl⟩
    subst hT9
    go_wp2_with fail
    refine ((same_c S3 T m o F F w14 HM HN).mono (fun _ _ h => retB_to (x' := true) (same_self F) h)).mono ?_; rintro e w15 ⟨rfl, hb⟩
    replace HM := Lib.hid (HM.out.below hb)
    replace HN := Lib.hid (HN.out.below hb)
    replace HT : Hid (∀ i, S3 i → w.heap.size ≤ i ∧ i < w15.heap.size) := fun i hi => ⟨(HT.out i hi).1, Nat.lt_of_lt_of_le (HT.out i hi).2 hb.size⟩
    replace HU : Hid (∀ i, T i → w.heap.size ≤ i ∧ i < w15.heap.size) := fun i hi => ⟨(HU.out i hi).1, Nat.lt_of_lt_of_le (HU.out i hi).2 hb.size⟩
    replace HB := Lib.hid (HB.out.trans (hb.mono HB.out.size)); clear hb
    go_wp2_with fail
    refine (pages_any HM).mono ?_; rintro e w16 ⟨u1, rfl, hv1, hb⟩
    obtain ⟨a1, c1, rfl, hA⟩ := hv1.open
    have HA1 := Lib.hid hA; clear hA hv1
    replace HM := Lib.hid (HM.out.below hb)
    replace HN := Lib.hid (HN.out.below hb)
    replace HT : Hid (∀ i, S3 i → w.heap.size ≤ i ∧ i < w16.heap.size) := fun i hi => ⟨(HT.out i hi).1, Nat.lt_of_lt_of_le (HT.out i hi).2 hb.size⟩
    replace HU : Hid (∀ i, T i → w.heap.size ≤ i ∧ i < w16.heap.size) := fun i hi => ⟨(HU.out i hi).1, Nat.lt_of_lt_of_le (HU.out i hi).2 hb.size⟩
    replace HB := Lib.hid (HB.out.trans (hb.mono HB.out.size)); clear hb
    go_wp2_with fail
    refine (pages_any HN).mono ?_; rintro e w17 ⟨u2, rfl, hv1, hb⟩
    replace HA1 := Lib.hid (HA1.out.below hb)
    obtain ⟨a2, c2, rfl, hA⟩ := hv1.open
    have HA2 := Lib.hid hA; clear hA hv1
    replace HM := Lib.hid (HM.out.below hb)
    replace HN := Lib.hid (HN.out.below hb)
    replace HT : Hid (∀ i, S3 i → w.heap.size ≤ i ∧ i < w17.heap.size) := fun i hi => ⟨(HT.out i hi).1, Nat.lt_of_lt_of_le (HT.out i hi).2 hb.size⟩
    replace HU : Hid (∀ i, T i → w.heap.size ≤ i ∧ i < w17.heap.size) := fun i hi => ⟨(HU.out i hi).1, Nat.lt_of_lt_of_le (HU.out i hi).2 hb.size⟩
    replace HB := Lib.hid (HB.out.trans (hb.mono HB.out.size)); clear hb
    go_wp2_with fail
    refine ((list_c a1 a2 _ _ c1 c2 (pagesL F) (pagesL F) w17 rfl rfl HA1 HA2 (by have := pages_len F; show _ < _; omega)).mono (fun _ _ h => retB_to (x' := true) (by simp) h)).mono ?_; rintro e w99 ⟨rfl, hb⟩
    replace HB := Lib.hid (HB.out.trans (hb.mono HB.out.size)); clear hb
    go_wp2_with fail
    go_ret
    exact retB_mk rfl HB.out
theorem equal_core (w : World) (sa : Option Addr) (g o0 n cap : Nat) (R : Nat → Nat) (a : Nat) (z : Int) (v : Nat) (hsa : Hid (0 < n → sa = some ⟨g, o0, none⟩ ∧ g < w.heap.size)) (hnc : Hid (n ≤ cap)) (hr : Hid (∀ i, i < n → w.cell? ⟨g, o0 + i, none⟩ = some (.int .u8 (R i)))) (hR : Hid (∀ i, R i < 256)) (ha : Hid (a < 18446744073709551616)) (hv : Hid (v < 256)) (hn : Hid (n ≤ 9223372036854775807)) :
    Calls Try.prog 6 #[.slice sa n cap, .int .u64 a, .int .i64 z, .int .u8 v] w (RetB true w) := by
  by_cases h : n ≤ 1048576
  · cases hz : hasV a z
    · exact equal_no w sa g o0 n cap R a z v hsa hnc hr hR ha hv h hz
    · exact equal_yes w sa g o0 n cap R a z v hsa hnc hr hR ha hv h hz
  · exact equal_big w sa g o0 n cap R a z v hsa hnc hr hR ha hv (by omega) (by have := hn.out; omega)
end Go.Proofs.Ytibgdlianedcbaa
