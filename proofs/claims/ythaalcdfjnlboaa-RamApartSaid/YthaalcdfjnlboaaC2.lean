/- The walk of RamApart. -/
import Derived.Test.YthaalcdfjnlboaaC1
namespace Go.Proofs.Ythaalcdfjnlboaa
open Go.Maps Go.WideMaps Go.ChangeShapes Go.WideShapes Go.ChangeAt Go.RowKit
set_option linter.unusedVariables false
set_option linter.unusedSimpArgs false
theorem nodup_len : ∀ (L M : List Nat), L.Nodup → (∀ x, x ∈ L → x ∈ M) → L.length ≤ M.length
  | [], M, _, _ => Nat.zero_le _
  | x :: L, M, hn, h => by
    have hx := h x (List.mem_cons_self)
    obtain ⟨h1, h2⟩ := List.nodup_cons.1 hn
    have ih := nodup_len L (M.erase x) h2 (fun y hy => (List.mem_erase_of_ne (by rintro rfl; exact h1 hy)).2 (h y (List.mem_cons_of_mem _ hy)))
    rw [List.length_erase_of_mem hx] at ih
    have := List.length_pos_of_mem hx
    show L.length + 1 ≤ M.length
    omega
/-- Two writes make at most four pages. -/
theorem few_pages (xa xb va vb : Nat) (za zb : Int) : (pagesL (wrF (wrF (fun _ => 0) xa za va) xb zb vb)).length ≤ 12 := by
  refine Nat.le_trans (nodup_len _ [xa / 4096 * 4096, (xa + za.toNat - 1) / 4096 * 4096, xb / 4096 * 4096, (xb + zb.toNat - 1) / 4096 * 4096] (pages_nodup _) (fun s hs => ?_)) (by show 4 ≤ 12; decide)
  rw [pages_mem] at hs
  obtain ⟨⟨h1, h2, h3⟩, h4⟩ := hs
  have h5 : eqPg (fun i => wrF (wrF (fun _ => 0) xa za va) xb zb vb (s + i)) (fun _ => 0) = !true := h4
  obtain ⟨i, hi, hne⟩ := ne_gen h5
  have h8 : ∀ a z, hasV a z = true → z.toNat = 1 ∨ z.toNat = 2 ∨ z.toNat = 4 ∨ z.toNat = 8 := fun a z h => by
    unfold hasV at h
    have := (of_decide_eq_true h).1
    omega
  have key : ∀ (F : Nat → Nat) (a v : Nat) (z : Int) (x : Nat), wrF F a z v x ≠ 0 → (a ≤ x ∧ x < a + z.toNat ∧ 0 < z.toNat ∧ z.toNat ≤ 8) ∨ F x ≠ 0 := fun F a v z x h => by
    unfold wrF at h
    by_cases c : hasV a z = true
    · rw [if_pos c] at h
      unfold layF at h
      by_cases d : a ≤ x ∧ x < a + z.toNat
      · left; have := h8 a z c; omega
      · rw [if_neg d] at h; right; exact h
    · rw [if_neg c] at h; right; exact h
  have hne' : wrF (wrF (fun _ => 0) xa za va) xb zb vb (s + i) ≠ 0 := hne
  rcases key _ _ _ _ _ hne' with h | h
  · have : s = xb / 4096 * 4096 ∨ s = (xb + zb.toNat - 1) / 4096 * 4096 := by omega
    rcases this with rfl | rfl <;> simp
  · rcases key _ _ _ _ _ h with h | h
    · have : s = xa / 4096 * 4096 ∨ s = (xa + za.toNat - 1) / 4096 * 4096 := by omega
      rcases this with rfl | rfl <;> simp
    · exact absurd rfl h
theorem apart_eq (F : Nat → Nat) (xa xb va vb na nb : Nat) (h : xa + na ≤ xb ∨ xb + nb ≤ xa) : wrF (wrF F xb nb vb) xa na va = wrF (wrF F xa na va) xb nb vb := by
  funext x
  by_cases c1 : xa ≤ x ∧ x < xa + na
  · cases ha : hasV xa na
    · rw [wrF_no _ _ _ _ ha, wrF_no F _ _ _ ha]
    · rw [wrF_in _ _ _ _ _ ha c1.1 c1.2, wrF_out _ _ _ _ _ (by omega), wrF_in _ _ _ _ _ ha c1.1 c1.2]
  · rw [wrF_out _ _ _ _ _ (by omega)]
    by_cases c2 : xb ≤ x ∧ x < xb + nb
    · cases hb : hasV xb nb
      · rw [wrF_no F _ _ _ hb, wrF_no _ _ _ _ hb, wrF_out _ _ _ _ _ (by omega)]
      · rw [wrF_in _ _ _ _ _ hb c2.1 c2.2, wrF_in _ _ _ _ _ hb c2.1 c2.2]
    · rw [wrF_out _ _ _ _ _ (by omega), wrF_out _ _ _ _ _ (by omega), wrF_out _ _ _ _ _ (by omega)]
theorem pages_few {S : Nat → Prop} {m : Nat} {F : Nat → Nat} {w : World} (hM : Hid (MemS S w m F)) (h : (pagesL F).length ≤ 12) : Calls Try.prog 18 #[.pointer (some ⟨m, 0, none⟩)] w (RetPg F w) :=
  pages_c S m F w hM (sort_few _ h)

set_option maxRecDepth 100000 in
set_option maxHeartbeats 8000000 in
theorem apart_ff (w : World) (ka kb : Int) (za : Int) (zb : Int) (xa xb va vb la lb ca cb : Nat) (pa pb : Option Addr) (ha : Hid (xa < 18446744073709551616 ∧ va < 18446744073709551616)) (hb : Hid (xb < 18446744073709551616 ∧ vb < 18446744073709551616)) (hoa : Hid (hasV xa za = false)) (hob : Hid (hasV xb zb = false)) :
    Calls Try.prog 5 #[.agg #[.int .i64 ka, .int .u64 xa, .int .i64 za, .int .u64 va, .slice pa la ca], .agg #[.int .i64 kb, .int .u64 xb, .int .i64 zb, .int .u64 vb, .slice pb lb cb]] w (RetB true w) := by
  obtain ⟨F1, hF1⟩ : ∃ F, wrF (fun _ => 0) xa za va = F := ⟨_, rfl⟩
  obtain ⟨F2, hF2⟩ : ∃ F, wrF F1 xb zb vb = F := ⟨_, rfl⟩
  obtain ⟨G1, hG1⟩ : ∃ F, wrF (fun _ => 0) xb zb vb = F := ⟨_, rfl⟩
  have hG2 : wrF G1 xa za va = F2 := by rw [← hF2, ← hG1, wrF_no _ _ _ _ hob.out, wrF_no _ _ _ _ hoa.out, wrF_no _ _ _ _ hob.out, ← hF1, wrF_no _ _ _ _ hoa.out]
  have HFEW : Hid ((pagesL F2).length ≤ 12) := by rw [← hF2, ← hF1]; exact few_pages xa xb va vb za zb
  have HF1 := Lib.hid hF1; have HF2 := Lib.hid hF2; have HG1 := Lib.hid hG1; have HG2 := Lib.hid hG2
  clear hF1 hF2 hG1 hG2
  go_enter Try.func5, Try.ntmps5
  go_wp2_with fail
  have HW : Hid (Below w.heap.size w ((w.alloc (Obj.cells #[.int .i64 ka, .int .u64 xa, .int .i64 za, .int .u64 va, .slice pa la ca] 32)).alloc (Obj.cells #[.int .i64 kb, .int .u64 xb, .int .i64 zb, .int .u64 vb, .slice pb lb cb] 32))) := Below.alloc (Below.alloc (Below.refl _ _) (Nat.le_refl _) _) (by rw [sz_alloc]; omega) _
  have HA : Hid (∀ i, i < 5 → ((w.alloc (Obj.cells #[.int .i64 ka, .int .u64 xa, .int .i64 za, .int .u64 va, .slice pa la ca] 32)).alloc (Obj.cells #[.int .i64 kb, .int .u64 xb, .int .i64 zb, .int .u64 vb, .slice pb lb cb] 32)).cell? ⟨w.heap.size, i, none⟩ = (#[.int .i64 ka, .int .u64 xa, .int .i64 za, .int .u64 va, .slice pa la ca] : Array Value)[i]?) := fun i hi => by rw [World.cell?_alloc_past _ _ _ (by rw [sz_alloc]; show w.heap.size < w.heap.size + 1; omega), World.cell?_alloc_at _ _ _ _ rfl]
  have HC : Hid (∀ i, i < 5 → ((w.alloc (Obj.cells #[.int .i64 ka, .int .u64 xa, .int .i64 za, .int .u64 va, .slice pa la ca] 32)).alloc (Obj.cells #[.int .i64 kb, .int .u64 xb, .int .i64 zb, .int .u64 vb, .slice pb lb cb] 32)).cell? ⟨w.heap.size + 1, i, none⟩ = (#[.int .i64 kb, .int .u64 xb, .int .i64 zb, .int .u64 vb, .slice pb lb cb] : Array Value)[i]?) := fun i hi => by rw [World.cell?_alloc_at _ _ _ _ (sz_alloc _ _).symm]
  have HSZ : Hid (((w.alloc (Obj.cells #[.int .i64 ka, .int .u64 xa, .int .i64 za, .int .u64 va, .slice pa la ca] 32)).alloc (Obj.cells #[.int .i64 kb, .int .u64 xb, .int .i64 zb, .int .u64 vb, .slice pb lb cb] 32)).heap.size = w.heap.size + 2) := by show _ = _; rw [sz_alloc, sz_alloc]
  generalize ((w.alloc (Obj.cells #[.int .i64 ka, .int .u64 xa, .int .i64 za, .int .u64 va, .slice pa la ca] 32)).alloc (Obj.cells #[.int .i64 kb, .int .u64 xb, .int .i64 zb, .int .u64 vb, .slice pb lb cb] 32)) = W at *
  refine (fixed_c W).mono ?_; rintro e w1 ⟨rfl, hb1⟩
  have HB := Lib.hid hb1; clear hb1
  go_wp2_with fail
  refine (new_s w1).mono ?_; rintro e w2 ⟨m, S, rfl, hM, hSS, hb⟩
  have HM := Lib.hid hM
  have HT : Hid (∀ i, S i → W.heap.size ≤ i ∧ i < w2.heap.size) := fun i hi => ⟨Nat.le_trans HB.out.size (hSS i hi).1, (hSS i hi).2⟩
  replace HB := Lib.hid (HB.out.trans (hb.mono HB.out.size)); clear hb hM hSS
  go_wp2_with fail
  refine (new_s w2).mono ?_; rintro e w3 ⟨o, T, rfl, hN, hTT, hb⟩
  have HN := Lib.hid hN
  have HST : Hid (∀ i, S i → ¬ T i) := fun i h1 h2 => by have := (HT.out i h1).2; have := (hTT i h2).1; omega
  have HU : Hid (∀ i, T i → W.heap.size ≤ i ∧ i < w3.heap.size) := fun i hi => ⟨Nat.le_trans HB.out.size (hTT i hi).1, (hTT i hi).2⟩
  replace HM := Lib.hid (HM.out.below hb)
  replace HT : Hid (∀ i, S i → W.heap.size ≤ i ∧ i < w3.heap.size) := fun i hi => ⟨(HT.out i hi).1, Nat.lt_of_lt_of_le (HT.out i hi).2 hb.size⟩
  replace HB := Lib.hid (HB.out.trans (hb.mono HB.out.size)); clear hb hN hTT
  have ya1 : w3.cell? ⟨w.heap.size, 1, none⟩ = some (.int .u64 xa) := by rw [HB.out.cell (p := ⟨w.heap.size, 1, none⟩) (by show w.heap.size < W.heap.size; rw [HSZ.out]; omega), HA.out 1 (by decide)]; rfl
  have ya2 : w3.cell? ⟨w.heap.size, 2, none⟩ = some (.int .i64 za) := by rw [HB.out.cell (p := ⟨w.heap.size, 2, none⟩) (by show w.heap.size < W.heap.size; rw [HSZ.out]; omega), HA.out 2 (by decide)]; rfl
  have ya3 : w3.cell? ⟨w.heap.size, 3, none⟩ = some (.int .u64 va) := by rw [HB.out.cell (p := ⟨w.heap.size, 3, none⟩) (by show w.heap.size < W.heap.size; rw [HSZ.out]; omega), HA.out 3 (by decide)]; rfl
  go_wp2_with fail
  refine (write_a S m xa va za (fun _ => 0) w3 HM (Lib.hid (fun i h => (HT.out i h).2)) (Lib.hid ha.out.1) (Lib.hid ha.out.2) false hoa F1 HF1).mono ?_; rintro e w4 ⟨rfl, S9, hM9, ho9, hS9⟩
  clear ya1 ya2 ya3
  replace HN := Lib.hid (HN.out.kept ho9 (fun i h1 h2 => HST.out i h2 h1))
  replace HM := Lib.hid hM9
  have HST9 : Hid (∀ i, S9 i → ¬ T i) := fun i h1 h2 => (hS9 i h1).2.elim (fun q => HST.out i q h2) (fun q => by have := (HU.out i h2).2; omega)
  have HT9 : Hid (∀ i, S9 i → W.heap.size ≤ i ∧ i < w4.heap.size) := fun i hi => ⟨(hS9 i hi).2.elim (fun q => (HT.out i q).1) (fun q => Nat.le_trans HB.out.size q), (hS9 i hi).1⟩
  replace HU : Hid (∀ i, T i → W.heap.size ≤ i ∧ i < w4.heap.size) := fun i hi => ⟨(HU.out i hi).1, Nat.lt_of_lt_of_le (HU.out i hi).2 ho9.size⟩
  replace HB := Lib.hid (below_own HB.out ho9 (fun i hi => (HT.out i hi).1) HB.out.size)
  clear HT HST hM9 ho9 hS9
  have HT := HT9; have HST := HST9; clear HT9 HST9
  clear S
  obtain ⟨S, hS9⟩ : ∃ X, X = S9 := ⟨_, rfl⟩
  subst hS9
  have yb1 : w4.cell? ⟨w.heap.size + 1, 1, none⟩ = some (.int .u64 xb) := by rw [HB.out.cell (p := ⟨w.heap.size + 1, 1, none⟩) (by show w.heap.size + 1 < W.heap.size; rw [HSZ.out]; omega), HC.out 1 (by decide)]; rfl
  have yb2 : w4.cell? ⟨w.heap.size + 1, 2, none⟩ = some (.int .i64 zb) := by rw [HB.out.cell (p := ⟨w.heap.size + 1, 2, none⟩) (by show w.heap.size + 1 < W.heap.size; rw [HSZ.out]; omega), HC.out 2 (by decide)]; rfl
  have yb3 : w4.cell? ⟨w.heap.size + 1, 3, none⟩ = some (.int .u64 vb) := by rw [HB.out.cell (p := ⟨w.heap.size + 1, 3, none⟩) (by show w.heap.size + 1 < W.heap.size; rw [HSZ.out]; omega), HC.out 3 (by decide)]; rfl
  go_wp2_with fail
  refine (write_a S m xb vb zb F1 w4 HM (Lib.hid (fun i h => (HT.out i h).2)) (Lib.hid hb.out.1) (Lib.hid hb.out.2) false hob F2 HF2).mono ?_; rintro e w5 ⟨rfl, S9, hM9, ho9, hS9⟩
  clear yb1 yb2 yb3
  replace HN := Lib.hid (HN.out.kept ho9 (fun i h1 h2 => HST.out i h2 h1))
  replace HM := Lib.hid hM9
  have HST9 : Hid (∀ i, S9 i → ¬ T i) := fun i h1 h2 => (hS9 i h1).2.elim (fun q => HST.out i q h2) (fun q => by have := (HU.out i h2).2; omega)
  have HT9 : Hid (∀ i, S9 i → W.heap.size ≤ i ∧ i < w5.heap.size) := fun i hi => ⟨(hS9 i hi).2.elim (fun q => (HT.out i q).1) (fun q => Nat.le_trans HB.out.size q), (hS9 i hi).1⟩
  replace HU : Hid (∀ i, T i → W.heap.size ≤ i ∧ i < w5.heap.size) := fun i hi => ⟨(HU.out i hi).1, Nat.lt_of_lt_of_le (HU.out i hi).2 ho9.size⟩
  replace HB := Lib.hid (below_own HB.out ho9 (fun i hi => (HT.out i hi).1) HB.out.size)
  clear HT HST hM9 ho9 hS9
  have HT := HT9; have HST := HST9; clear HT9 HST9
  clear S
  obtain ⟨S, hS9⟩ : ∃ X, X = S9 := ⟨_, rfl⟩
  subst hS9
  have yb1 : w5.cell? ⟨w.heap.size + 1, 1, none⟩ = some (.int .u64 xb) := by rw [HB.out.cell (p := ⟨w.heap.size + 1, 1, none⟩) (by show w.heap.size + 1 < W.heap.size; rw [HSZ.out]; omega), HC.out 1 (by decide)]; rfl
  have yb2 : w5.cell? ⟨w.heap.size + 1, 2, none⟩ = some (.int .i64 zb) := by rw [HB.out.cell (p := ⟨w.heap.size + 1, 2, none⟩) (by show w.heap.size + 1 < W.heap.size; rw [HSZ.out]; omega), HC.out 2 (by decide)]; rfl
  have yb3 : w5.cell? ⟨w.heap.size + 1, 3, none⟩ = some (.int .u64 vb) := by rw [HB.out.cell (p := ⟨w.heap.size + 1, 3, none⟩) (by show w.heap.size + 1 < W.heap.size; rw [HSZ.out]; omega), HC.out 3 (by decide)]; rfl
  go_wp2_with fail
  refine (write_a T o xb vb zb (fun _ => 0) w5 HN (Lib.hid (fun i h => (HU.out i h).2)) (Lib.hid hb.out.1) (Lib.hid hb.out.2) false hob G1 HG1).mono ?_; rintro e w6 ⟨rfl, S9, hM9, ho9, hS9⟩
  clear yb1 yb2 yb3
  replace HM := Lib.hid (HM.out.kept ho9 (fun i h1 h2 => HST.out i h1 h2))
  replace HN := Lib.hid hM9
  have HST9 : Hid (∀ i, S i → ¬ S9 i) := fun i h1 h2 => (hS9 i h2).2.elim (fun q => HST.out i h1 q) (fun q => by have := (HT.out i h1).2; omega)
  have HT9 : Hid (∀ i, S9 i → W.heap.size ≤ i ∧ i < w6.heap.size) := fun i hi => ⟨(hS9 i hi).2.elim (fun q => (HU.out i q).1) (fun q => Nat.le_trans HB.out.size q), (hS9 i hi).1⟩
  replace HT : Hid (∀ i, S i → W.heap.size ≤ i ∧ i < w6.heap.size) := fun i hi => ⟨(HT.out i hi).1, Nat.lt_of_lt_of_le (HT.out i hi).2 ho9.size⟩
  replace HB := Lib.hid (below_own HB.out ho9 (fun i hi => (HU.out i hi).1) HB.out.size)
  clear HU HST hM9 ho9 hS9
  have HU := HT9; have HST := HST9; clear HT9 HST9
  clear T
  obtain ⟨T, hT9⟩ : ∃ X, X = S9 := ⟨_, rfl⟩
  subst hT9
  have ya1 : w6.cell? ⟨w.heap.size, 1, none⟩ = some (.int .u64 xa) := by rw [HB.out.cell (p := ⟨w.heap.size, 1, none⟩) (by show w.heap.size < W.heap.size; rw [HSZ.out]; omega), HA.out 1 (by decide)]; rfl
  have ya2 : w6.cell? ⟨w.heap.size, 2, none⟩ = some (.int .i64 za) := by rw [HB.out.cell (p := ⟨w.heap.size, 2, none⟩) (by show w.heap.size < W.heap.size; rw [HSZ.out]; omega), HA.out 2 (by decide)]; rfl
  have ya3 : w6.cell? ⟨w.heap.size, 3, none⟩ = some (.int .u64 va) := by rw [HB.out.cell (p := ⟨w.heap.size, 3, none⟩) (by show w.heap.size < W.heap.size; rw [HSZ.out]; omega), HA.out 3 (by decide)]; rfl
  go_wp2_with fail
  refine (write_a T o xa va za G1 w6 HN (Lib.hid (fun i h => (HU.out i h).2)) (Lib.hid ha.out.1) (Lib.hid ha.out.2) false hoa F2 HG2).mono ?_; rintro e w7 ⟨rfl, S9, hM9, ho9, hS9⟩
  clear ya1 ya2 ya3
  replace HM := Lib.hid (HM.out.kept ho9 (fun i h1 h2 => HST.out i h1 h2))
  replace HN := Lib.hid hM9
  have HST9 : Hid (∀ i, S i → ¬ S9 i) := fun i h1 h2 => (hS9 i h2).2.elim (fun q => HST.out i h1 q) (fun q => by have := (HT.out i h1).2; omega)
  have HT9 : Hid (∀ i, S9 i → W.heap.size ≤ i ∧ i < w7.heap.size) := fun i hi => ⟨(hS9 i hi).2.elim (fun q => (HU.out i q).1) (fun q => Nat.le_trans HB.out.size q), (hS9 i hi).1⟩
  replace HT : Hid (∀ i, S i → W.heap.size ≤ i ∧ i < w7.heap.size) := fun i hi => ⟨(HT.out i hi).1, Nat.lt_of_lt_of_le (HT.out i hi).2 ho9.size⟩
  replace HB := Lib.hid (below_own HB.out ho9 (fun i hi => (HU.out i hi).1) HB.out.size)
  clear HU HST hM9 ho9 hS9
  have HU := HT9; have HST := HST9; clear HT9 HST9
  clear T
  obtain ⟨T, hT9⟩ : ∃ X, X = S9 := ⟨_, rfl⟩
  subst hT9
  go_wp2_with fail
  refine ((same_c S T m o F2 F2 w7 HM HN).mono (fun _ _ h => retB_to (x' := true) ((sameV_true _ _).2 (fun _ _ _ => rfl)) h)).mono ?_; rintro e w8 ⟨rfl, hb⟩
  replace HM := Lib.hid (HM.out.below hb)
  replace HN := Lib.hid (HN.out.below hb)
  replace HB := Lib.hid (HB.out.trans (hb.mono HB.out.size)); clear hb
  go_wp2_with fail
  refine ((same_c T S o m F2 F2 w8 HN HM).mono (fun _ _ h => retB_to (x' := true) ((sameV_true _ _).2 (fun _ _ _ => rfl)) h)).mono ?_; rintro e w9 ⟨rfl, hb⟩
  replace HM := Lib.hid (HM.out.below hb)
  replace HN := Lib.hid (HN.out.below hb)
  replace HB := Lib.hid (HB.out.trans (hb.mono HB.out.size)); clear hb
  go_wp2_with fail
  refine (pages_few HM HFEW.out).mono ?_; rintro e w10 ⟨u1, rfl, hv, hb⟩
  obtain ⟨a1, c1, rfl, hA⟩ := hv.open
  have HA1 := Lib.hid hA; clear hA hv
  replace HM := Lib.hid (HM.out.below hb)
  replace HN := Lib.hid (HN.out.below hb)
  replace HB := Lib.hid (HB.out.trans (hb.mono HB.out.size)); clear hb
  go_wp2_with fail
  refine (pages_few HN HFEW.out).mono ?_; rintro e w11 ⟨u2, rfl, hv, hb⟩
  replace HA1 := Lib.hid (HA1.out.below hb)
  obtain ⟨a2, c2, rfl, hA⟩ := hv.open
  have HA2 := Lib.hid hA; clear hA hv
  replace HM := Lib.hid (HM.out.below hb)
  replace HN := Lib.hid (HN.out.below hb)
  replace HB := Lib.hid (HB.out.trans (hb.mono HB.out.size)); clear hb
  go_wp2_with fail
  refine ((list_c a1 a2 _ _ c1 c2 (pagesL F2) (pagesL F2) w11 rfl rfl HA1 HA2 (by have := HFEW.out; show _ < _; omega)).mono (fun _ _ h => retB_to (x' := true) (by simp) h)).mono ?_; rintro e w99 ⟨rfl, hb⟩
  replace HB := Lib.hid (HB.out.trans (hb.mono HB.out.size)); clear hb
  go_wp2_with fail
  go_ret
  exact retB_mk rfl (HW.out.trans (HB.out.mono HW.out.size))
set_option maxRecDepth 100000 in
set_option maxHeartbeats 8000000 in
theorem apart_ft (w : World) (ka kb : Int) (za : Int) (nb : Nat) (xa xb va vb la lb ca cb : Nat) (pa pb : Option Addr) (ha : Hid (xa < 18446744073709551616 ∧ va < 18446744073709551616)) (hb : Hid (xb < 18446744073709551616 ∧ vb < 18446744073709551616)) (hoa : Hid (hasV xa za = false)) (hob : Hid (hasV xb (nb : Int) = true)) :
    Calls Try.prog 5 #[.agg #[.int .i64 ka, .int .u64 xa, .int .i64 za, .int .u64 va, .slice pa la ca], .agg #[.int .i64 kb, .int .u64 xb, .int .i64 (nb : Int), .int .u64 vb, .slice pb lb cb]] w (RetB true w) := by
  have qb : (nb : Int) ≤ 8 ∧ (0 : Int) ≤ nb ∧ (xb : Int) ≤ 2148532224 ∧ (nb = 1 ∨ nb = 2 ∨ nb = 4 ∨ nb = 8) := by
    have h := hob.out
    unfold hasV at h
    have := of_decide_eq_true h
    omega
  obtain ⟨nb8, nb0, xbl, -⟩ := qb
  obtain ⟨F1, hF1⟩ : ∃ F, wrF (fun _ => 0) xa za va = F := ⟨_, rfl⟩
  obtain ⟨F2, hF2⟩ : ∃ F, wrF F1 xb (nb : Int) vb = F := ⟨_, rfl⟩
  obtain ⟨G1, hG1⟩ : ∃ F, wrF (fun _ => 0) xb (nb : Int) vb = F := ⟨_, rfl⟩
  have hG2 : wrF G1 xa za va = F2 := by rw [wrF_no _ _ _ _ hoa.out, ← hF2, ← hG1, ← hF1, wrF_no _ xa _ _ hoa.out]
  have HFEW : Hid ((pagesL F2).length ≤ 12) := by rw [← hF2, ← hF1]; exact few_pages xa xb va vb za (nb : Int)
  have HF1 := Lib.hid hF1; have HF2 := Lib.hid hF2; have HG1 := Lib.hid hG1; have HG2 := Lib.hid hG2
  clear hF1 hF2 hG1 hG2
  go_enter Try.func5, Try.ntmps5
  go_wp2_with fail
  have HW : Hid (Below w.heap.size w ((w.alloc (Obj.cells #[.int .i64 ka, .int .u64 xa, .int .i64 za, .int .u64 va, .slice pa la ca] 32)).alloc (Obj.cells #[.int .i64 kb, .int .u64 xb, .int .i64 (nb : Int), .int .u64 vb, .slice pb lb cb] 32))) := Below.alloc (Below.alloc (Below.refl _ _) (Nat.le_refl _) _) (by rw [sz_alloc]; omega) _
  have HA : Hid (∀ i, i < 5 → ((w.alloc (Obj.cells #[.int .i64 ka, .int .u64 xa, .int .i64 za, .int .u64 va, .slice pa la ca] 32)).alloc (Obj.cells #[.int .i64 kb, .int .u64 xb, .int .i64 (nb : Int), .int .u64 vb, .slice pb lb cb] 32)).cell? ⟨w.heap.size, i, none⟩ = (#[.int .i64 ka, .int .u64 xa, .int .i64 za, .int .u64 va, .slice pa la ca] : Array Value)[i]?) := fun i hi => by rw [World.cell?_alloc_past _ _ _ (by rw [sz_alloc]; show w.heap.size < w.heap.size + 1; omega), World.cell?_alloc_at _ _ _ _ rfl]
  have HC : Hid (∀ i, i < 5 → ((w.alloc (Obj.cells #[.int .i64 ka, .int .u64 xa, .int .i64 za, .int .u64 va, .slice pa la ca] 32)).alloc (Obj.cells #[.int .i64 kb, .int .u64 xb, .int .i64 (nb : Int), .int .u64 vb, .slice pb lb cb] 32)).cell? ⟨w.heap.size + 1, i, none⟩ = (#[.int .i64 kb, .int .u64 xb, .int .i64 (nb : Int), .int .u64 vb, .slice pb lb cb] : Array Value)[i]?) := fun i hi => by rw [World.cell?_alloc_at _ _ _ _ (sz_alloc _ _).symm]
  have HSZ : Hid (((w.alloc (Obj.cells #[.int .i64 ka, .int .u64 xa, .int .i64 za, .int .u64 va, .slice pa la ca] 32)).alloc (Obj.cells #[.int .i64 kb, .int .u64 xb, .int .i64 (nb : Int), .int .u64 vb, .slice pb lb cb] 32)).heap.size = w.heap.size + 2) := by show _ = _; rw [sz_alloc, sz_alloc]
  generalize ((w.alloc (Obj.cells #[.int .i64 ka, .int .u64 xa, .int .i64 za, .int .u64 va, .slice pa la ca] 32)).alloc (Obj.cells #[.int .i64 kb, .int .u64 xb, .int .i64 (nb : Int), .int .u64 vb, .slice pb lb cb] 32)) = W at *
  refine (fixed_c W).mono ?_; rintro e w1 ⟨rfl, hb1⟩
  have HB := Lib.hid hb1; clear hb1
  go_wp2_with fail
  refine (new_s w1).mono ?_; rintro e w2 ⟨m, S, rfl, hM, hSS, hb⟩
  have HM := Lib.hid hM
  have HT : Hid (∀ i, S i → W.heap.size ≤ i ∧ i < w2.heap.size) := fun i hi => ⟨Nat.le_trans HB.out.size (hSS i hi).1, (hSS i hi).2⟩
  replace HB := Lib.hid (HB.out.trans (hb.mono HB.out.size)); clear hb hM hSS
  go_wp2_with fail
  refine (new_s w2).mono ?_; rintro e w3 ⟨o, T, rfl, hN, hTT, hb⟩
  have HN := Lib.hid hN
  have HST : Hid (∀ i, S i → ¬ T i) := fun i h1 h2 => by have := (HT.out i h1).2; have := (hTT i h2).1; omega
  have HU : Hid (∀ i, T i → W.heap.size ≤ i ∧ i < w3.heap.size) := fun i hi => ⟨Nat.le_trans HB.out.size (hTT i hi).1, (hTT i hi).2⟩
  replace HM := Lib.hid (HM.out.below hb)
  replace HT : Hid (∀ i, S i → W.heap.size ≤ i ∧ i < w3.heap.size) := fun i hi => ⟨(HT.out i hi).1, Nat.lt_of_lt_of_le (HT.out i hi).2 hb.size⟩
  replace HB := Lib.hid (HB.out.trans (hb.mono HB.out.size)); clear hb hN hTT
  have ya1 : w3.cell? ⟨w.heap.size, 1, none⟩ = some (.int .u64 xa) := by rw [HB.out.cell (p := ⟨w.heap.size, 1, none⟩) (by show w.heap.size < W.heap.size; rw [HSZ.out]; omega), HA.out 1 (by decide)]; rfl
  have ya2 : w3.cell? ⟨w.heap.size, 2, none⟩ = some (.int .i64 za) := by rw [HB.out.cell (p := ⟨w.heap.size, 2, none⟩) (by show w.heap.size < W.heap.size; rw [HSZ.out]; omega), HA.out 2 (by decide)]; rfl
  have ya3 : w3.cell? ⟨w.heap.size, 3, none⟩ = some (.int .u64 va) := by rw [HB.out.cell (p := ⟨w.heap.size, 3, none⟩) (by show w.heap.size < W.heap.size; rw [HSZ.out]; omega), HA.out 3 (by decide)]; rfl
  go_wp2_with fail
  refine (write_a S m xa va za (fun _ => 0) w3 HM (Lib.hid (fun i h => (HT.out i h).2)) (Lib.hid ha.out.1) (Lib.hid ha.out.2) false hoa F1 HF1).mono ?_; rintro e w4 ⟨rfl, S9, hM9, ho9, hS9⟩
  clear ya1 ya2 ya3
  replace HN := Lib.hid (HN.out.kept ho9 (fun i h1 h2 => HST.out i h2 h1))
  replace HM := Lib.hid hM9
  have HST9 : Hid (∀ i, S9 i → ¬ T i) := fun i h1 h2 => (hS9 i h1).2.elim (fun q => HST.out i q h2) (fun q => by have := (HU.out i h2).2; omega)
  have HT9 : Hid (∀ i, S9 i → W.heap.size ≤ i ∧ i < w4.heap.size) := fun i hi => ⟨(hS9 i hi).2.elim (fun q => (HT.out i q).1) (fun q => Nat.le_trans HB.out.size q), (hS9 i hi).1⟩
  replace HU : Hid (∀ i, T i → W.heap.size ≤ i ∧ i < w4.heap.size) := fun i hi => ⟨(HU.out i hi).1, Nat.lt_of_lt_of_le (HU.out i hi).2 ho9.size⟩
  replace HB := Lib.hid (below_own HB.out ho9 (fun i hi => (HT.out i hi).1) HB.out.size)
  clear HT HST hM9 ho9 hS9
  have HT := HT9; have HST := HST9; clear HT9 HST9
  clear S
  obtain ⟨S, hS9⟩ : ∃ X, X = S9 := ⟨_, rfl⟩
  subst hS9
  have yb1 : w4.cell? ⟨w.heap.size + 1, 1, none⟩ = some (.int .u64 xb) := by rw [HB.out.cell (p := ⟨w.heap.size + 1, 1, none⟩) (by show w.heap.size + 1 < W.heap.size; rw [HSZ.out]; omega), HC.out 1 (by decide)]; rfl
  have yb2 : w4.cell? ⟨w.heap.size + 1, 2, none⟩ = some (.int .i64 (nb : Int)) := by rw [HB.out.cell (p := ⟨w.heap.size + 1, 2, none⟩) (by show w.heap.size + 1 < W.heap.size; rw [HSZ.out]; omega), HC.out 2 (by decide)]; rfl
  have yb3 : w4.cell? ⟨w.heap.size + 1, 3, none⟩ = some (.int .u64 vb) := by rw [HB.out.cell (p := ⟨w.heap.size + 1, 3, none⟩) (by show w.heap.size + 1 < W.heap.size; rw [HSZ.out]; omega), HC.out 3 (by decide)]; rfl
  go_wp2_with fail
  refine (write_a S m xb vb (nb : Int) F1 w4 HM (Lib.hid (fun i h => (HT.out i h).2)) (Lib.hid hb.out.1) (Lib.hid hb.out.2) true hob F2 HF2).mono ?_; rintro e w5 ⟨rfl, S9, hM9, ho9, hS9⟩
  clear yb1 yb2 yb3
  replace HN := Lib.hid (HN.out.kept ho9 (fun i h1 h2 => HST.out i h2 h1))
  replace HM := Lib.hid hM9
  have HST9 : Hid (∀ i, S9 i → ¬ T i) := fun i h1 h2 => (hS9 i h1).2.elim (fun q => HST.out i q h2) (fun q => by have := (HU.out i h2).2; omega)
  have HT9 : Hid (∀ i, S9 i → W.heap.size ≤ i ∧ i < w5.heap.size) := fun i hi => ⟨(hS9 i hi).2.elim (fun q => (HT.out i q).1) (fun q => Nat.le_trans HB.out.size q), (hS9 i hi).1⟩
  replace HU : Hid (∀ i, T i → W.heap.size ≤ i ∧ i < w5.heap.size) := fun i hi => ⟨(HU.out i hi).1, Nat.lt_of_lt_of_le (HU.out i hi).2 ho9.size⟩
  replace HB := Lib.hid (below_own HB.out ho9 (fun i hi => (HT.out i hi).1) HB.out.size)
  clear HT HST hM9 ho9 hS9
  have HT := HT9; have HST := HST9; clear HT9 HST9
  clear S
  obtain ⟨S, hS9⟩ : ∃ X, X = S9 := ⟨_, rfl⟩
  subst hS9
  have yb1 : w5.cell? ⟨w.heap.size + 1, 1, none⟩ = some (.int .u64 xb) := by rw [HB.out.cell (p := ⟨w.heap.size + 1, 1, none⟩) (by show w.heap.size + 1 < W.heap.size; rw [HSZ.out]; omega), HC.out 1 (by decide)]; rfl
  have yb2 : w5.cell? ⟨w.heap.size + 1, 2, none⟩ = some (.int .i64 (nb : Int)) := by rw [HB.out.cell (p := ⟨w.heap.size + 1, 2, none⟩) (by show w.heap.size + 1 < W.heap.size; rw [HSZ.out]; omega), HC.out 2 (by decide)]; rfl
  have yb3 : w5.cell? ⟨w.heap.size + 1, 3, none⟩ = some (.int .u64 vb) := by rw [HB.out.cell (p := ⟨w.heap.size + 1, 3, none⟩) (by show w.heap.size + 1 < W.heap.size; rw [HSZ.out]; omega), HC.out 3 (by decide)]; rfl
  go_wp2_with fail
  refine (write_a T o xb vb (nb : Int) (fun _ => 0) w5 HN (Lib.hid (fun i h => (HU.out i h).2)) (Lib.hid hb.out.1) (Lib.hid hb.out.2) true hob G1 HG1).mono ?_; rintro e w6 ⟨rfl, S9, hM9, ho9, hS9⟩
  clear yb1 yb2 yb3
  replace HM := Lib.hid (HM.out.kept ho9 (fun i h1 h2 => HST.out i h1 h2))
  replace HN := Lib.hid hM9
  have HST9 : Hid (∀ i, S i → ¬ S9 i) := fun i h1 h2 => (hS9 i h2).2.elim (fun q => HST.out i h1 q) (fun q => by have := (HT.out i h1).2; omega)
  have HT9 : Hid (∀ i, S9 i → W.heap.size ≤ i ∧ i < w6.heap.size) := fun i hi => ⟨(hS9 i hi).2.elim (fun q => (HU.out i q).1) (fun q => Nat.le_trans HB.out.size q), (hS9 i hi).1⟩
  replace HT : Hid (∀ i, S i → W.heap.size ≤ i ∧ i < w6.heap.size) := fun i hi => ⟨(HT.out i hi).1, Nat.lt_of_lt_of_le (HT.out i hi).2 ho9.size⟩
  replace HB := Lib.hid (below_own HB.out ho9 (fun i hi => (HU.out i hi).1) HB.out.size)
  clear HU HST hM9 ho9 hS9
  have HU := HT9; have HST := HST9; clear HT9 HST9
  clear T
  obtain ⟨T, hT9⟩ : ∃ X, X = S9 := ⟨_, rfl⟩
  subst hT9
  have ya1 : w6.cell? ⟨w.heap.size, 1, none⟩ = some (.int .u64 xa) := by rw [HB.out.cell (p := ⟨w.heap.size, 1, none⟩) (by show w.heap.size < W.heap.size; rw [HSZ.out]; omega), HA.out 1 (by decide)]; rfl
  have ya2 : w6.cell? ⟨w.heap.size, 2, none⟩ = some (.int .i64 za) := by rw [HB.out.cell (p := ⟨w.heap.size, 2, none⟩) (by show w.heap.size < W.heap.size; rw [HSZ.out]; omega), HA.out 2 (by decide)]; rfl
  have ya3 : w6.cell? ⟨w.heap.size, 3, none⟩ = some (.int .u64 va) := by rw [HB.out.cell (p := ⟨w.heap.size, 3, none⟩) (by show w.heap.size < W.heap.size; rw [HSZ.out]; omega), HA.out 3 (by decide)]; rfl
  go_wp2_with fail
  refine (write_a T o xa va za G1 w6 HN (Lib.hid (fun i h => (HU.out i h).2)) (Lib.hid ha.out.1) (Lib.hid ha.out.2) false hoa F2 HG2).mono ?_; rintro e w7 ⟨rfl, S9, hM9, ho9, hS9⟩
  clear ya1 ya2 ya3
  replace HM := Lib.hid (HM.out.kept ho9 (fun i h1 h2 => HST.out i h1 h2))
  replace HN := Lib.hid hM9
  have HST9 : Hid (∀ i, S i → ¬ S9 i) := fun i h1 h2 => (hS9 i h2).2.elim (fun q => HST.out i h1 q) (fun q => by have := (HT.out i h1).2; omega)
  have HT9 : Hid (∀ i, S9 i → W.heap.size ≤ i ∧ i < w7.heap.size) := fun i hi => ⟨(hS9 i hi).2.elim (fun q => (HU.out i q).1) (fun q => Nat.le_trans HB.out.size q), (hS9 i hi).1⟩
  replace HT : Hid (∀ i, S i → W.heap.size ≤ i ∧ i < w7.heap.size) := fun i hi => ⟨(HT.out i hi).1, Nat.lt_of_lt_of_le (HT.out i hi).2 ho9.size⟩
  replace HB := Lib.hid (below_own HB.out ho9 (fun i hi => (HU.out i hi).1) HB.out.size)
  clear HU HST hM9 ho9 hS9
  have HU := HT9; have HST := HST9; clear HT9 HST9
  clear T
  obtain ⟨T, hT9⟩ : ∃ X, X = S9 := ⟨_, rfl⟩
  subst hT9
  go_wp2_with fail
  refine ((same_c S T m o F2 F2 w7 HM HN).mono (fun _ _ h => retB_to (x' := true) ((sameV_true _ _).2 (fun _ _ _ => rfl)) h)).mono ?_; rintro e w8 ⟨rfl, hb⟩
  replace HM := Lib.hid (HM.out.below hb)
  replace HN := Lib.hid (HN.out.below hb)
  replace HB := Lib.hid (HB.out.trans (hb.mono HB.out.size)); clear hb
  go_wp2_with fail
  refine ((same_c T S o m F2 F2 w8 HN HM).mono (fun _ _ h => retB_to (x' := true) ((sameV_true _ _).2 (fun _ _ _ => rfl)) h)).mono ?_; rintro e w9 ⟨rfl, hb⟩
  replace HM := Lib.hid (HM.out.below hb)
  replace HN := Lib.hid (HN.out.below hb)
  replace HB := Lib.hid (HB.out.trans (hb.mono HB.out.size)); clear hb
  go_wp2_with fail
  refine (pages_few HM HFEW.out).mono ?_; rintro e w10 ⟨u1, rfl, hv, hb⟩
  obtain ⟨a1, c1, rfl, hA⟩ := hv.open
  have HA1 := Lib.hid hA; clear hA hv
  replace HM := Lib.hid (HM.out.below hb)
  replace HN := Lib.hid (HN.out.below hb)
  replace HB := Lib.hid (HB.out.trans (hb.mono HB.out.size)); clear hb
  go_wp2_with fail
  refine (pages_few HN HFEW.out).mono ?_; rintro e w11 ⟨u2, rfl, hv, hb⟩
  replace HA1 := Lib.hid (HA1.out.below hb)
  obtain ⟨a2, c2, rfl, hA⟩ := hv.open
  have HA2 := Lib.hid hA; clear hA hv
  replace HM := Lib.hid (HM.out.below hb)
  replace HN := Lib.hid (HN.out.below hb)
  replace HB := Lib.hid (HB.out.trans (hb.mono HB.out.size)); clear hb
  go_wp2_with fail
  refine ((list_c a1 a2 _ _ c1 c2 (pagesL F2) (pagesL F2) w11 rfl rfl HA1 HA2 (by have := HFEW.out; show _ < _; omega)).mono (fun _ _ h => retB_to (x' := true) (by simp) h)).mono ?_; rintro e w99 ⟨rfl, hb⟩
  replace HB := Lib.hid (HB.out.trans (hb.mono HB.out.size)); clear hb
  go_wp2_with fail
  go_ret
  exact retB_mk rfl (HW.out.trans (HB.out.mono HW.out.size))
set_option maxRecDepth 100000 in
set_option maxHeartbeats 8000000 in
theorem apart_tf (w : World) (ka kb : Int) (na : Nat) (zb : Int) (xa xb va vb la lb ca cb : Nat) (pa pb : Option Addr) (ha : Hid (xa < 18446744073709551616 ∧ va < 18446744073709551616)) (hb : Hid (xb < 18446744073709551616 ∧ vb < 18446744073709551616)) (hoa : Hid (hasV xa (na : Int) = true)) (hob : Hid (hasV xb zb = false)) :
    Calls Try.prog 5 #[.agg #[.int .i64 ka, .int .u64 xa, .int .i64 (na : Int), .int .u64 va, .slice pa la ca], .agg #[.int .i64 kb, .int .u64 xb, .int .i64 zb, .int .u64 vb, .slice pb lb cb]] w (RetB true w) := by
  have qa : (na : Int) ≤ 8 ∧ (0 : Int) ≤ na ∧ (xa : Int) ≤ 2148532224 ∧ (na = 1 ∨ na = 2 ∨ na = 4 ∨ na = 8) := by
    have h := hoa.out
    unfold hasV at h
    have := of_decide_eq_true h
    omega
  obtain ⟨na8, na0, xal, -⟩ := qa
  obtain ⟨F1, hF1⟩ : ∃ F, wrF (fun _ => 0) xa (na : Int) va = F := ⟨_, rfl⟩
  obtain ⟨F2, hF2⟩ : ∃ F, wrF F1 xb zb vb = F := ⟨_, rfl⟩
  obtain ⟨G1, hG1⟩ : ∃ F, wrF (fun _ => 0) xb zb vb = F := ⟨_, rfl⟩
  have hG2 : wrF G1 xa (na : Int) va = F2 := by rw [← hF2, wrF_no _ xb _ _ hob.out, ← hG1, wrF_no _ xb _ _ hob.out, hF1]
  have HFEW : Hid ((pagesL F2).length ≤ 12) := by rw [← hF2, ← hF1]; exact few_pages xa xb va vb (na : Int) zb
  have HF1 := Lib.hid hF1; have HF2 := Lib.hid hF2; have HG1 := Lib.hid hG1; have HG2 := Lib.hid hG2
  clear hF1 hF2 hG1 hG2
  go_enter Try.func5, Try.ntmps5
  go_wp2_with fail
  have HW : Hid (Below w.heap.size w ((w.alloc (Obj.cells #[.int .i64 ka, .int .u64 xa, .int .i64 (na : Int), .int .u64 va, .slice pa la ca] 32)).alloc (Obj.cells #[.int .i64 kb, .int .u64 xb, .int .i64 zb, .int .u64 vb, .slice pb lb cb] 32))) := Below.alloc (Below.alloc (Below.refl _ _) (Nat.le_refl _) _) (by rw [sz_alloc]; omega) _
  have HA : Hid (∀ i, i < 5 → ((w.alloc (Obj.cells #[.int .i64 ka, .int .u64 xa, .int .i64 (na : Int), .int .u64 va, .slice pa la ca] 32)).alloc (Obj.cells #[.int .i64 kb, .int .u64 xb, .int .i64 zb, .int .u64 vb, .slice pb lb cb] 32)).cell? ⟨w.heap.size, i, none⟩ = (#[.int .i64 ka, .int .u64 xa, .int .i64 (na : Int), .int .u64 va, .slice pa la ca] : Array Value)[i]?) := fun i hi => by rw [World.cell?_alloc_past _ _ _ (by rw [sz_alloc]; show w.heap.size < w.heap.size + 1; omega), World.cell?_alloc_at _ _ _ _ rfl]
  have HC : Hid (∀ i, i < 5 → ((w.alloc (Obj.cells #[.int .i64 ka, .int .u64 xa, .int .i64 (na : Int), .int .u64 va, .slice pa la ca] 32)).alloc (Obj.cells #[.int .i64 kb, .int .u64 xb, .int .i64 zb, .int .u64 vb, .slice pb lb cb] 32)).cell? ⟨w.heap.size + 1, i, none⟩ = (#[.int .i64 kb, .int .u64 xb, .int .i64 zb, .int .u64 vb, .slice pb lb cb] : Array Value)[i]?) := fun i hi => by rw [World.cell?_alloc_at _ _ _ _ (sz_alloc _ _).symm]
  have HSZ : Hid (((w.alloc (Obj.cells #[.int .i64 ka, .int .u64 xa, .int .i64 (na : Int), .int .u64 va, .slice pa la ca] 32)).alloc (Obj.cells #[.int .i64 kb, .int .u64 xb, .int .i64 zb, .int .u64 vb, .slice pb lb cb] 32)).heap.size = w.heap.size + 2) := by show _ = _; rw [sz_alloc, sz_alloc]
  generalize ((w.alloc (Obj.cells #[.int .i64 ka, .int .u64 xa, .int .i64 (na : Int), .int .u64 va, .slice pa la ca] 32)).alloc (Obj.cells #[.int .i64 kb, .int .u64 xb, .int .i64 zb, .int .u64 vb, .slice pb lb cb] 32)) = W at *
  refine (fixed_c W).mono ?_; rintro e w1 ⟨rfl, hb1⟩
  have HB := Lib.hid hb1; clear hb1
  go_wp2_with fail
  refine (new_s w1).mono ?_; rintro e w2 ⟨m, S, rfl, hM, hSS, hb⟩
  have HM := Lib.hid hM
  have HT : Hid (∀ i, S i → W.heap.size ≤ i ∧ i < w2.heap.size) := fun i hi => ⟨Nat.le_trans HB.out.size (hSS i hi).1, (hSS i hi).2⟩
  replace HB := Lib.hid (HB.out.trans (hb.mono HB.out.size)); clear hb hM hSS
  go_wp2_with fail
  refine (new_s w2).mono ?_; rintro e w3 ⟨o, T, rfl, hN, hTT, hb⟩
  have HN := Lib.hid hN
  have HST : Hid (∀ i, S i → ¬ T i) := fun i h1 h2 => by have := (HT.out i h1).2; have := (hTT i h2).1; omega
  have HU : Hid (∀ i, T i → W.heap.size ≤ i ∧ i < w3.heap.size) := fun i hi => ⟨Nat.le_trans HB.out.size (hTT i hi).1, (hTT i hi).2⟩
  replace HM := Lib.hid (HM.out.below hb)
  replace HT : Hid (∀ i, S i → W.heap.size ≤ i ∧ i < w3.heap.size) := fun i hi => ⟨(HT.out i hi).1, Nat.lt_of_lt_of_le (HT.out i hi).2 hb.size⟩
  replace HB := Lib.hid (HB.out.trans (hb.mono HB.out.size)); clear hb hN hTT
  have ya1 : w3.cell? ⟨w.heap.size, 1, none⟩ = some (.int .u64 xa) := by rw [HB.out.cell (p := ⟨w.heap.size, 1, none⟩) (by show w.heap.size < W.heap.size; rw [HSZ.out]; omega), HA.out 1 (by decide)]; rfl
  have ya2 : w3.cell? ⟨w.heap.size, 2, none⟩ = some (.int .i64 (na : Int)) := by rw [HB.out.cell (p := ⟨w.heap.size, 2, none⟩) (by show w.heap.size < W.heap.size; rw [HSZ.out]; omega), HA.out 2 (by decide)]; rfl
  have ya3 : w3.cell? ⟨w.heap.size, 3, none⟩ = some (.int .u64 va) := by rw [HB.out.cell (p := ⟨w.heap.size, 3, none⟩) (by show w.heap.size < W.heap.size; rw [HSZ.out]; omega), HA.out 3 (by decide)]; rfl
  go_wp2_with fail
  refine (write_a S m xa va (na : Int) (fun _ => 0) w3 HM (Lib.hid (fun i h => (HT.out i h).2)) (Lib.hid ha.out.1) (Lib.hid ha.out.2) true hoa F1 HF1).mono ?_; rintro e w4 ⟨rfl, S9, hM9, ho9, hS9⟩
  clear ya1 ya2 ya3
  replace HN := Lib.hid (HN.out.kept ho9 (fun i h1 h2 => HST.out i h2 h1))
  replace HM := Lib.hid hM9
  have HST9 : Hid (∀ i, S9 i → ¬ T i) := fun i h1 h2 => (hS9 i h1).2.elim (fun q => HST.out i q h2) (fun q => by have := (HU.out i h2).2; omega)
  have HT9 : Hid (∀ i, S9 i → W.heap.size ≤ i ∧ i < w4.heap.size) := fun i hi => ⟨(hS9 i hi).2.elim (fun q => (HT.out i q).1) (fun q => Nat.le_trans HB.out.size q), (hS9 i hi).1⟩
  replace HU : Hid (∀ i, T i → W.heap.size ≤ i ∧ i < w4.heap.size) := fun i hi => ⟨(HU.out i hi).1, Nat.lt_of_lt_of_le (HU.out i hi).2 ho9.size⟩
  replace HB := Lib.hid (below_own HB.out ho9 (fun i hi => (HT.out i hi).1) HB.out.size)
  clear HT HST hM9 ho9 hS9
  have HT := HT9; have HST := HST9; clear HT9 HST9
  clear S
  obtain ⟨S, hS9⟩ : ∃ X, X = S9 := ⟨_, rfl⟩
  subst hS9
  have yb1 : w4.cell? ⟨w.heap.size + 1, 1, none⟩ = some (.int .u64 xb) := by rw [HB.out.cell (p := ⟨w.heap.size + 1, 1, none⟩) (by show w.heap.size + 1 < W.heap.size; rw [HSZ.out]; omega), HC.out 1 (by decide)]; rfl
  have yb2 : w4.cell? ⟨w.heap.size + 1, 2, none⟩ = some (.int .i64 zb) := by rw [HB.out.cell (p := ⟨w.heap.size + 1, 2, none⟩) (by show w.heap.size + 1 < W.heap.size; rw [HSZ.out]; omega), HC.out 2 (by decide)]; rfl
  have yb3 : w4.cell? ⟨w.heap.size + 1, 3, none⟩ = some (.int .u64 vb) := by rw [HB.out.cell (p := ⟨w.heap.size + 1, 3, none⟩) (by show w.heap.size + 1 < W.heap.size; rw [HSZ.out]; omega), HC.out 3 (by decide)]; rfl
  go_wp2_with fail
  refine (write_a S m xb vb zb F1 w4 HM (Lib.hid (fun i h => (HT.out i h).2)) (Lib.hid hb.out.1) (Lib.hid hb.out.2) false hob F2 HF2).mono ?_; rintro e w5 ⟨rfl, S9, hM9, ho9, hS9⟩
  clear yb1 yb2 yb3
  replace HN := Lib.hid (HN.out.kept ho9 (fun i h1 h2 => HST.out i h2 h1))
  replace HM := Lib.hid hM9
  have HST9 : Hid (∀ i, S9 i → ¬ T i) := fun i h1 h2 => (hS9 i h1).2.elim (fun q => HST.out i q h2) (fun q => by have := (HU.out i h2).2; omega)
  have HT9 : Hid (∀ i, S9 i → W.heap.size ≤ i ∧ i < w5.heap.size) := fun i hi => ⟨(hS9 i hi).2.elim (fun q => (HT.out i q).1) (fun q => Nat.le_trans HB.out.size q), (hS9 i hi).1⟩
  replace HU : Hid (∀ i, T i → W.heap.size ≤ i ∧ i < w5.heap.size) := fun i hi => ⟨(HU.out i hi).1, Nat.lt_of_lt_of_le (HU.out i hi).2 ho9.size⟩
  replace HB := Lib.hid (below_own HB.out ho9 (fun i hi => (HT.out i hi).1) HB.out.size)
  clear HT HST hM9 ho9 hS9
  have HT := HT9; have HST := HST9; clear HT9 HST9
  clear S
  obtain ⟨S, hS9⟩ : ∃ X, X = S9 := ⟨_, rfl⟩
  subst hS9
  have yb1 : w5.cell? ⟨w.heap.size + 1, 1, none⟩ = some (.int .u64 xb) := by rw [HB.out.cell (p := ⟨w.heap.size + 1, 1, none⟩) (by show w.heap.size + 1 < W.heap.size; rw [HSZ.out]; omega), HC.out 1 (by decide)]; rfl
  have yb2 : w5.cell? ⟨w.heap.size + 1, 2, none⟩ = some (.int .i64 zb) := by rw [HB.out.cell (p := ⟨w.heap.size + 1, 2, none⟩) (by show w.heap.size + 1 < W.heap.size; rw [HSZ.out]; omega), HC.out 2 (by decide)]; rfl
  have yb3 : w5.cell? ⟨w.heap.size + 1, 3, none⟩ = some (.int .u64 vb) := by rw [HB.out.cell (p := ⟨w.heap.size + 1, 3, none⟩) (by show w.heap.size + 1 < W.heap.size; rw [HSZ.out]; omega), HC.out 3 (by decide)]; rfl
  go_wp2_with fail
  refine (write_a T o xb vb zb (fun _ => 0) w5 HN (Lib.hid (fun i h => (HU.out i h).2)) (Lib.hid hb.out.1) (Lib.hid hb.out.2) false hob G1 HG1).mono ?_; rintro e w6 ⟨rfl, S9, hM9, ho9, hS9⟩
  clear yb1 yb2 yb3
  replace HM := Lib.hid (HM.out.kept ho9 (fun i h1 h2 => HST.out i h1 h2))
  replace HN := Lib.hid hM9
  have HST9 : Hid (∀ i, S i → ¬ S9 i) := fun i h1 h2 => (hS9 i h2).2.elim (fun q => HST.out i h1 q) (fun q => by have := (HT.out i h1).2; omega)
  have HT9 : Hid (∀ i, S9 i → W.heap.size ≤ i ∧ i < w6.heap.size) := fun i hi => ⟨(hS9 i hi).2.elim (fun q => (HU.out i q).1) (fun q => Nat.le_trans HB.out.size q), (hS9 i hi).1⟩
  replace HT : Hid (∀ i, S i → W.heap.size ≤ i ∧ i < w6.heap.size) := fun i hi => ⟨(HT.out i hi).1, Nat.lt_of_lt_of_le (HT.out i hi).2 ho9.size⟩
  replace HB := Lib.hid (below_own HB.out ho9 (fun i hi => (HU.out i hi).1) HB.out.size)
  clear HU HST hM9 ho9 hS9
  have HU := HT9; have HST := HST9; clear HT9 HST9
  clear T
  obtain ⟨T, hT9⟩ : ∃ X, X = S9 := ⟨_, rfl⟩
  subst hT9
  have ya1 : w6.cell? ⟨w.heap.size, 1, none⟩ = some (.int .u64 xa) := by rw [HB.out.cell (p := ⟨w.heap.size, 1, none⟩) (by show w.heap.size < W.heap.size; rw [HSZ.out]; omega), HA.out 1 (by decide)]; rfl
  have ya2 : w6.cell? ⟨w.heap.size, 2, none⟩ = some (.int .i64 (na : Int)) := by rw [HB.out.cell (p := ⟨w.heap.size, 2, none⟩) (by show w.heap.size < W.heap.size; rw [HSZ.out]; omega), HA.out 2 (by decide)]; rfl
  have ya3 : w6.cell? ⟨w.heap.size, 3, none⟩ = some (.int .u64 va) := by rw [HB.out.cell (p := ⟨w.heap.size, 3, none⟩) (by show w.heap.size < W.heap.size; rw [HSZ.out]; omega), HA.out 3 (by decide)]; rfl
  go_wp2_with fail
  refine (write_a T o xa va (na : Int) G1 w6 HN (Lib.hid (fun i h => (HU.out i h).2)) (Lib.hid ha.out.1) (Lib.hid ha.out.2) true hoa F2 HG2).mono ?_; rintro e w7 ⟨rfl, S9, hM9, ho9, hS9⟩
  clear ya1 ya2 ya3
  replace HM := Lib.hid (HM.out.kept ho9 (fun i h1 h2 => HST.out i h1 h2))
  replace HN := Lib.hid hM9
  have HST9 : Hid (∀ i, S i → ¬ S9 i) := fun i h1 h2 => (hS9 i h2).2.elim (fun q => HST.out i h1 q) (fun q => by have := (HT.out i h1).2; omega)
  have HT9 : Hid (∀ i, S9 i → W.heap.size ≤ i ∧ i < w7.heap.size) := fun i hi => ⟨(hS9 i hi).2.elim (fun q => (HU.out i q).1) (fun q => Nat.le_trans HB.out.size q), (hS9 i hi).1⟩
  replace HT : Hid (∀ i, S i → W.heap.size ≤ i ∧ i < w7.heap.size) := fun i hi => ⟨(HT.out i hi).1, Nat.lt_of_lt_of_le (HT.out i hi).2 ho9.size⟩
  replace HB := Lib.hid (below_own HB.out ho9 (fun i hi => (HU.out i hi).1) HB.out.size)
  clear HU HST hM9 ho9 hS9
  have HU := HT9; have HST := HST9; clear HT9 HST9
  clear T
  obtain ⟨T, hT9⟩ : ∃ X, X = S9 := ⟨_, rfl⟩
  subst hT9
  go_wp2_with fail
  refine ((same_c S T m o F2 F2 w7 HM HN).mono (fun _ _ h => retB_to (x' := true) ((sameV_true _ _).2 (fun _ _ _ => rfl)) h)).mono ?_; rintro e w8 ⟨rfl, hb⟩
  replace HM := Lib.hid (HM.out.below hb)
  replace HN := Lib.hid (HN.out.below hb)
  replace HB := Lib.hid (HB.out.trans (hb.mono HB.out.size)); clear hb
  go_wp2_with fail
  refine ((same_c T S o m F2 F2 w8 HN HM).mono (fun _ _ h => retB_to (x' := true) ((sameV_true _ _).2 (fun _ _ _ => rfl)) h)).mono ?_; rintro e w9 ⟨rfl, hb⟩
  replace HM := Lib.hid (HM.out.below hb)
  replace HN := Lib.hid (HN.out.below hb)
  replace HB := Lib.hid (HB.out.trans (hb.mono HB.out.size)); clear hb
  go_wp2_with fail
  refine (pages_few HM HFEW.out).mono ?_; rintro e w10 ⟨u1, rfl, hv, hb⟩
  obtain ⟨a1, c1, rfl, hA⟩ := hv.open
  have HA1 := Lib.hid hA; clear hA hv
  replace HM := Lib.hid (HM.out.below hb)
  replace HN := Lib.hid (HN.out.below hb)
  replace HB := Lib.hid (HB.out.trans (hb.mono HB.out.size)); clear hb
  go_wp2_with fail
  refine (pages_few HN HFEW.out).mono ?_; rintro e w11 ⟨u2, rfl, hv, hb⟩
  replace HA1 := Lib.hid (HA1.out.below hb)
  obtain ⟨a2, c2, rfl, hA⟩ := hv.open
  have HA2 := Lib.hid hA; clear hA hv
  replace HM := Lib.hid (HM.out.below hb)
  replace HN := Lib.hid (HN.out.below hb)
  replace HB := Lib.hid (HB.out.trans (hb.mono HB.out.size)); clear hb
  go_wp2_with fail
  refine ((list_c a1 a2 _ _ c1 c2 (pagesL F2) (pagesL F2) w11 rfl rfl HA1 HA2 (by have := HFEW.out; show _ < _; omega)).mono (fun _ _ h => retB_to (x' := true) (by simp) h)).mono ?_; rintro e w99 ⟨rfl, hb⟩
  replace HB := Lib.hid (HB.out.trans (hb.mono HB.out.size)); clear hb
  go_wp2_with fail
  go_ret
  exact retB_mk rfl (HW.out.trans (HB.out.mono HW.out.size))
set_option maxRecDepth 100000 in
set_option maxHeartbeats 8000000 in
theorem apart_tt1 (w : World) (ka kb : Int) (na : Nat) (nb : Nat) (xa xb va vb la lb ca cb : Nat) (pa pb : Option Addr) (ha : Hid (xa < 18446744073709551616 ∧ va < 18446744073709551616)) (hb : Hid (xb < 18446744073709551616 ∧ vb < 18446744073709551616)) (hoa : Hid (hasV xa (na : Int) = true)) (hob : Hid (hasV xb (nb : Int) = true)) (hcc : Hid (xb + nb ≤ xa)) :
    Calls Try.prog 5 #[.agg #[.int .i64 ka, .int .u64 xa, .int .i64 (na : Int), .int .u64 va, .slice pa la ca], .agg #[.int .i64 kb, .int .u64 xb, .int .i64 (nb : Int), .int .u64 vb, .slice pb lb cb]] w (RetB true w) := by
  have qa : (na : Int) ≤ 8 ∧ (0 : Int) ≤ na ∧ (xa : Int) ≤ 2148532224 ∧ (na = 1 ∨ na = 2 ∨ na = 4 ∨ na = 8) := by
    have h := hoa.out
    unfold hasV at h
    have := of_decide_eq_true h
    omega
  obtain ⟨na8, na0, xal, -⟩ := qa
  have qb : (nb : Int) ≤ 8 ∧ (0 : Int) ≤ nb ∧ (xb : Int) ≤ 2148532224 ∧ (nb = 1 ∨ nb = 2 ∨ nb = 4 ∨ nb = 8) := by
    have h := hob.out
    unfold hasV at h
    have := of_decide_eq_true h
    omega
  obtain ⟨nb8, nb0, xbl, -⟩ := qb
  have wa : IntKind.u64.wrap (na : Int) = (na : Int) := by rw [IntKind.wrap_u64]; omega
  have wb : IntKind.u64.wrap (nb : Int) = (nb : Int) := by rw [IntKind.wrap_u64]; omega
  have wa2 : IntKind.u64.wrap ((xa : Int) + (na : Int)) = (xa : Int) + (na : Int) := by rw [IntKind.wrap_u64]; omega
  have wb2 : IntKind.u64.wrap ((xb : Int) + (nb : Int)) = (xb : Int) + (nb : Int) := by rw [IntKind.wrap_u64]; omega
  have t1 : ¬ ((xa : Int) < (xb : Int) + (nb : Int)) := by have := hcc.out; omega
  obtain ⟨F1, hF1⟩ : ∃ F, wrF (fun _ => 0) xa (na : Int) va = F := ⟨_, rfl⟩
  obtain ⟨F2, hF2⟩ : ∃ F, wrF F1 xb (nb : Int) vb = F := ⟨_, rfl⟩
  obtain ⟨G1, hG1⟩ : ∃ F, wrF (fun _ => 0) xb (nb : Int) vb = F := ⟨_, rfl⟩
  have hG2 : wrF G1 xa (na : Int) va = F2 := by rw [← hG1, ← hF2, ← hF1]; exact apart_eq _ xa xb va vb na nb (by have := hcc.out; omega)
  have HFEW : Hid ((pagesL F2).length ≤ 12) := by rw [← hF2, ← hF1]; exact few_pages xa xb va vb (na : Int) (nb : Int)
  have HF1 := Lib.hid hF1; have HF2 := Lib.hid hF2; have HG1 := Lib.hid hG1; have HG2 := Lib.hid hG2
  clear hF1 hF2 hG1 hG2
  go_enter Try.func5, Try.ntmps5
  go_wp2_with fail
  have HW : Hid (Below w.heap.size w ((w.alloc (Obj.cells #[.int .i64 ka, .int .u64 xa, .int .i64 (na : Int), .int .u64 va, .slice pa la ca] 32)).alloc (Obj.cells #[.int .i64 kb, .int .u64 xb, .int .i64 (nb : Int), .int .u64 vb, .slice pb lb cb] 32))) := Below.alloc (Below.alloc (Below.refl _ _) (Nat.le_refl _) _) (by rw [sz_alloc]; omega) _
  have HA : Hid (∀ i, i < 5 → ((w.alloc (Obj.cells #[.int .i64 ka, .int .u64 xa, .int .i64 (na : Int), .int .u64 va, .slice pa la ca] 32)).alloc (Obj.cells #[.int .i64 kb, .int .u64 xb, .int .i64 (nb : Int), .int .u64 vb, .slice pb lb cb] 32)).cell? ⟨w.heap.size, i, none⟩ = (#[.int .i64 ka, .int .u64 xa, .int .i64 (na : Int), .int .u64 va, .slice pa la ca] : Array Value)[i]?) := fun i hi => by rw [World.cell?_alloc_past _ _ _ (by rw [sz_alloc]; show w.heap.size < w.heap.size + 1; omega), World.cell?_alloc_at _ _ _ _ rfl]
  have HC : Hid (∀ i, i < 5 → ((w.alloc (Obj.cells #[.int .i64 ka, .int .u64 xa, .int .i64 (na : Int), .int .u64 va, .slice pa la ca] 32)).alloc (Obj.cells #[.int .i64 kb, .int .u64 xb, .int .i64 (nb : Int), .int .u64 vb, .slice pb lb cb] 32)).cell? ⟨w.heap.size + 1, i, none⟩ = (#[.int .i64 kb, .int .u64 xb, .int .i64 (nb : Int), .int .u64 vb, .slice pb lb cb] : Array Value)[i]?) := fun i hi => by rw [World.cell?_alloc_at _ _ _ _ (sz_alloc _ _).symm]
  have HSZ : Hid (((w.alloc (Obj.cells #[.int .i64 ka, .int .u64 xa, .int .i64 (na : Int), .int .u64 va, .slice pa la ca] 32)).alloc (Obj.cells #[.int .i64 kb, .int .u64 xb, .int .i64 (nb : Int), .int .u64 vb, .slice pb lb cb] 32)).heap.size = w.heap.size + 2) := by show _ = _; rw [sz_alloc, sz_alloc]
  generalize ((w.alloc (Obj.cells #[.int .i64 ka, .int .u64 xa, .int .i64 (na : Int), .int .u64 va, .slice pa la ca] 32)).alloc (Obj.cells #[.int .i64 kb, .int .u64 xb, .int .i64 (nb : Int), .int .u64 vb, .slice pb lb cb] 32)) = W at *
  refine (fixed_c W).mono ?_; rintro e w1 ⟨rfl, hb1⟩
  have HB := Lib.hid hb1; clear hb1
  go_wp2_with fail
  refine (new_s w1).mono ?_; rintro e w2 ⟨m, S, rfl, hM, hSS, hb⟩
  have HM := Lib.hid hM
  have HT : Hid (∀ i, S i → W.heap.size ≤ i ∧ i < w2.heap.size) := fun i hi => ⟨Nat.le_trans HB.out.size (hSS i hi).1, (hSS i hi).2⟩
  replace HB := Lib.hid (HB.out.trans (hb.mono HB.out.size)); clear hb hM hSS
  go_wp2_with fail
  refine (new_s w2).mono ?_; rintro e w3 ⟨o, T, rfl, hN, hTT, hb⟩
  have HN := Lib.hid hN
  have HST : Hid (∀ i, S i → ¬ T i) := fun i h1 h2 => by have := (HT.out i h1).2; have := (hTT i h2).1; omega
  have HU : Hid (∀ i, T i → W.heap.size ≤ i ∧ i < w3.heap.size) := fun i hi => ⟨Nat.le_trans HB.out.size (hTT i hi).1, (hTT i hi).2⟩
  replace HM := Lib.hid (HM.out.below hb)
  replace HT : Hid (∀ i, S i → W.heap.size ≤ i ∧ i < w3.heap.size) := fun i hi => ⟨(HT.out i hi).1, Nat.lt_of_lt_of_le (HT.out i hi).2 hb.size⟩
  replace HB := Lib.hid (HB.out.trans (hb.mono HB.out.size)); clear hb hN hTT
  have ya1 : w3.cell? ⟨w.heap.size, 1, none⟩ = some (.int .u64 xa) := by rw [HB.out.cell (p := ⟨w.heap.size, 1, none⟩) (by show w.heap.size < W.heap.size; rw [HSZ.out]; omega), HA.out 1 (by decide)]; rfl
  have ya2 : w3.cell? ⟨w.heap.size, 2, none⟩ = some (.int .i64 (na : Int)) := by rw [HB.out.cell (p := ⟨w.heap.size, 2, none⟩) (by show w.heap.size < W.heap.size; rw [HSZ.out]; omega), HA.out 2 (by decide)]; rfl
  have ya3 : w3.cell? ⟨w.heap.size, 3, none⟩ = some (.int .u64 va) := by rw [HB.out.cell (p := ⟨w.heap.size, 3, none⟩) (by show w.heap.size < W.heap.size; rw [HSZ.out]; omega), HA.out 3 (by decide)]; rfl
  go_wp2_with fail
  refine (write_a S m xa va (na : Int) (fun _ => 0) w3 HM (Lib.hid (fun i h => (HT.out i h).2)) (Lib.hid ha.out.1) (Lib.hid ha.out.2) true hoa F1 HF1).mono ?_; rintro e w4 ⟨rfl, S9, hM9, ho9, hS9⟩
  clear ya1 ya2 ya3
  replace HN := Lib.hid (HN.out.kept ho9 (fun i h1 h2 => HST.out i h2 h1))
  replace HM := Lib.hid hM9
  have HST9 : Hid (∀ i, S9 i → ¬ T i) := fun i h1 h2 => (hS9 i h1).2.elim (fun q => HST.out i q h2) (fun q => by have := (HU.out i h2).2; omega)
  have HT9 : Hid (∀ i, S9 i → W.heap.size ≤ i ∧ i < w4.heap.size) := fun i hi => ⟨(hS9 i hi).2.elim (fun q => (HT.out i q).1) (fun q => Nat.le_trans HB.out.size q), (hS9 i hi).1⟩
  replace HU : Hid (∀ i, T i → W.heap.size ≤ i ∧ i < w4.heap.size) := fun i hi => ⟨(HU.out i hi).1, Nat.lt_of_lt_of_le (HU.out i hi).2 ho9.size⟩
  replace HB := Lib.hid (below_own HB.out ho9 (fun i hi => (HT.out i hi).1) HB.out.size)
  clear HT HST hM9 ho9 hS9
  have HT := HT9; have HST := HST9; clear HT9 HST9
  clear S
  obtain ⟨S, hS9⟩ : ∃ X, X = S9 := ⟨_, rfl⟩
  subst hS9
  have yb1 : w4.cell? ⟨w.heap.size + 1, 1, none⟩ = some (.int .u64 xb) := by rw [HB.out.cell (p := ⟨w.heap.size + 1, 1, none⟩) (by show w.heap.size + 1 < W.heap.size; rw [HSZ.out]; omega), HC.out 1 (by decide)]; rfl
  have yb2 : w4.cell? ⟨w.heap.size + 1, 2, none⟩ = some (.int .i64 (nb : Int)) := by rw [HB.out.cell (p := ⟨w.heap.size + 1, 2, none⟩) (by show w.heap.size + 1 < W.heap.size; rw [HSZ.out]; omega), HC.out 2 (by decide)]; rfl
  have yb3 : w4.cell? ⟨w.heap.size + 1, 3, none⟩ = some (.int .u64 vb) := by rw [HB.out.cell (p := ⟨w.heap.size + 1, 3, none⟩) (by show w.heap.size + 1 < W.heap.size; rw [HSZ.out]; omega), HC.out 3 (by decide)]; rfl
  go_wp2_with fail
  refine (write_a S m xb vb (nb : Int) F1 w4 HM (Lib.hid (fun i h => (HT.out i h).2)) (Lib.hid hb.out.1) (Lib.hid hb.out.2) true hob F2 HF2).mono ?_; rintro e w5 ⟨rfl, S9, hM9, ho9, hS9⟩
  clear yb1 yb2 yb3
  replace HN := Lib.hid (HN.out.kept ho9 (fun i h1 h2 => HST.out i h2 h1))
  replace HM := Lib.hid hM9
  have HST9 : Hid (∀ i, S9 i → ¬ T i) := fun i h1 h2 => (hS9 i h1).2.elim (fun q => HST.out i q h2) (fun q => by have := (HU.out i h2).2; omega)
  have HT9 : Hid (∀ i, S9 i → W.heap.size ≤ i ∧ i < w5.heap.size) := fun i hi => ⟨(hS9 i hi).2.elim (fun q => (HT.out i q).1) (fun q => Nat.le_trans HB.out.size q), (hS9 i hi).1⟩
  replace HU : Hid (∀ i, T i → W.heap.size ≤ i ∧ i < w5.heap.size) := fun i hi => ⟨(HU.out i hi).1, Nat.lt_of_lt_of_le (HU.out i hi).2 ho9.size⟩
  replace HB := Lib.hid (below_own HB.out ho9 (fun i hi => (HT.out i hi).1) HB.out.size)
  clear HT HST hM9 ho9 hS9
  have HT := HT9; have HST := HST9; clear HT9 HST9
  clear S
  obtain ⟨S, hS9⟩ : ∃ X, X = S9 := ⟨_, rfl⟩
  subst hS9
  have yb1 : w5.cell? ⟨w.heap.size + 1, 1, none⟩ = some (.int .u64 xb) := by rw [HB.out.cell (p := ⟨w.heap.size + 1, 1, none⟩) (by show w.heap.size + 1 < W.heap.size; rw [HSZ.out]; omega), HC.out 1 (by decide)]; rfl
  have yb2 : w5.cell? ⟨w.heap.size + 1, 2, none⟩ = some (.int .i64 (nb : Int)) := by rw [HB.out.cell (p := ⟨w.heap.size + 1, 2, none⟩) (by show w.heap.size + 1 < W.heap.size; rw [HSZ.out]; omega), HC.out 2 (by decide)]; rfl
  have yb3 : w5.cell? ⟨w.heap.size + 1, 3, none⟩ = some (.int .u64 vb) := by rw [HB.out.cell (p := ⟨w.heap.size + 1, 3, none⟩) (by show w.heap.size + 1 < W.heap.size; rw [HSZ.out]; omega), HC.out 3 (by decide)]; rfl
  go_wp2_with fail
  refine (write_a T o xb vb (nb : Int) (fun _ => 0) w5 HN (Lib.hid (fun i h => (HU.out i h).2)) (Lib.hid hb.out.1) (Lib.hid hb.out.2) true hob G1 HG1).mono ?_; rintro e w6 ⟨rfl, S9, hM9, ho9, hS9⟩
  clear yb1 yb2 yb3
  replace HM := Lib.hid (HM.out.kept ho9 (fun i h1 h2 => HST.out i h1 h2))
  replace HN := Lib.hid hM9
  have HST9 : Hid (∀ i, S i → ¬ S9 i) := fun i h1 h2 => (hS9 i h2).2.elim (fun q => HST.out i h1 q) (fun q => by have := (HT.out i h1).2; omega)
  have HT9 : Hid (∀ i, S9 i → W.heap.size ≤ i ∧ i < w6.heap.size) := fun i hi => ⟨(hS9 i hi).2.elim (fun q => (HU.out i q).1) (fun q => Nat.le_trans HB.out.size q), (hS9 i hi).1⟩
  replace HT : Hid (∀ i, S i → W.heap.size ≤ i ∧ i < w6.heap.size) := fun i hi => ⟨(HT.out i hi).1, Nat.lt_of_lt_of_le (HT.out i hi).2 ho9.size⟩
  replace HB := Lib.hid (below_own HB.out ho9 (fun i hi => (HU.out i hi).1) HB.out.size)
  clear HU HST hM9 ho9 hS9
  have HU := HT9; have HST := HST9; clear HT9 HST9
  clear T
  obtain ⟨T, hT9⟩ : ∃ X, X = S9 := ⟨_, rfl⟩
  subst hT9
  have ya1 : w6.cell? ⟨w.heap.size, 1, none⟩ = some (.int .u64 xa) := by rw [HB.out.cell (p := ⟨w.heap.size, 1, none⟩) (by show w.heap.size < W.heap.size; rw [HSZ.out]; omega), HA.out 1 (by decide)]; rfl
  have ya2 : w6.cell? ⟨w.heap.size, 2, none⟩ = some (.int .i64 (na : Int)) := by rw [HB.out.cell (p := ⟨w.heap.size, 2, none⟩) (by show w.heap.size < W.heap.size; rw [HSZ.out]; omega), HA.out 2 (by decide)]; rfl
  have ya3 : w6.cell? ⟨w.heap.size, 3, none⟩ = some (.int .u64 va) := by rw [HB.out.cell (p := ⟨w.heap.size, 3, none⟩) (by show w.heap.size < W.heap.size; rw [HSZ.out]; omega), HA.out 3 (by decide)]; rfl
  go_wp2_with fail
  refine (write_a T o xa va (na : Int) G1 w6 HN (Lib.hid (fun i h => (HU.out i h).2)) (Lib.hid ha.out.1) (Lib.hid ha.out.2) true hoa F2 HG2).mono ?_; rintro e w7 ⟨rfl, S9, hM9, ho9, hS9⟩
  clear ya1 ya2 ya3
  replace HM := Lib.hid (HM.out.kept ho9 (fun i h1 h2 => HST.out i h1 h2))
  replace HN := Lib.hid hM9
  have HST9 : Hid (∀ i, S i → ¬ S9 i) := fun i h1 h2 => (hS9 i h2).2.elim (fun q => HST.out i h1 q) (fun q => by have := (HT.out i h1).2; omega)
  have HT9 : Hid (∀ i, S9 i → W.heap.size ≤ i ∧ i < w7.heap.size) := fun i hi => ⟨(hS9 i hi).2.elim (fun q => (HU.out i q).1) (fun q => Nat.le_trans HB.out.size q), (hS9 i hi).1⟩
  replace HT : Hid (∀ i, S i → W.heap.size ≤ i ∧ i < w7.heap.size) := fun i hi => ⟨(HT.out i hi).1, Nat.lt_of_lt_of_le (HT.out i hi).2 ho9.size⟩
  replace HB := Lib.hid (below_own HB.out ho9 (fun i hi => (HU.out i hi).1) HB.out.size)
  clear HU HST hM9 ho9 hS9
  have HU := HT9; have HST := HST9; clear HT9 HST9
  clear T
  obtain ⟨T, hT9⟩ : ∃ X, X = S9 := ⟨_, rfl⟩
  subst hT9
  have ya1 : w7.cell? ⟨w.heap.size, 1, none⟩ = some (.int .u64 xa) := by rw [HB.out.cell (p := ⟨w.heap.size, 1, none⟩) (by show w.heap.size < W.heap.size; rw [HSZ.out]; omega), HA.out 1 (by decide)]; rfl
  have ya2 : w7.cell? ⟨w.heap.size, 2, none⟩ = some (.int .i64 (na : Int)) := by rw [HB.out.cell (p := ⟨w.heap.size, 2, none⟩) (by show w.heap.size < W.heap.size; rw [HSZ.out]; omega), HA.out 2 (by decide)]; rfl
  have ya3 : w7.cell? ⟨w.heap.size, 3, none⟩ = some (.int .u64 va) := by rw [HB.out.cell (p := ⟨w.heap.size, 3, none⟩) (by show w.heap.size < W.heap.size; rw [HSZ.out]; omega), HA.out 3 (by decide)]; rfl
  have yb1 : w7.cell? ⟨w.heap.size + 1, 1, none⟩ = some (.int .u64 xb) := by rw [HB.out.cell (p := ⟨w.heap.size + 1, 1, none⟩) (by show w.heap.size + 1 < W.heap.size; rw [HSZ.out]; omega), HC.out 1 (by decide)]; rfl
  have yb2 : w7.cell? ⟨w.heap.size + 1, 2, none⟩ = some (.int .i64 (nb : Int)) := by rw [HB.out.cell (p := ⟨w.heap.size + 1, 2, none⟩) (by show w.heap.size + 1 < W.heap.size; rw [HSZ.out]; omega), HC.out 2 (by decide)]; rfl
  have yb3 : w7.cell? ⟨w.heap.size + 1, 3, none⟩ = some (.int .u64 vb) := by rw [HB.out.cell (p := ⟨w.heap.size + 1, 3, none⟩) (by show w.heap.size + 1 < W.heap.size; rw [HSZ.out]; omega), HC.out 3 (by decide)]; rfl
  go_wp2_with fail
  clear ya1 ya2 ya3 yb1 yb2 yb3
  refine ((same_c S T m o F2 F2 w7 HM HN).mono (fun _ _ h => retB_to (x' := true) ((sameV_true _ _).2 (fun _ _ _ => rfl)) h)).mono ?_; rintro e w8 ⟨rfl, hb⟩
  replace HM := Lib.hid (HM.out.below hb)
  replace HN := Lib.hid (HN.out.below hb)
  replace HB := Lib.hid (HB.out.trans (hb.mono HB.out.size)); clear hb
  go_wp2_with fail
  refine ((same_c T S o m F2 F2 w8 HN HM).mono (fun _ _ h => retB_to (x' := true) ((sameV_true _ _).2 (fun _ _ _ => rfl)) h)).mono ?_; rintro e w9 ⟨rfl, hb⟩
  replace HM := Lib.hid (HM.out.below hb)
  replace HN := Lib.hid (HN.out.below hb)
  replace HB := Lib.hid (HB.out.trans (hb.mono HB.out.size)); clear hb
  go_wp2_with fail
  refine (pages_few HM HFEW.out).mono ?_; rintro e w10 ⟨u1, rfl, hv, hb⟩
  obtain ⟨a1, c1, rfl, hA⟩ := hv.open
  have HA1 := Lib.hid hA; clear hA hv
  replace HM := Lib.hid (HM.out.below hb)
  replace HN := Lib.hid (HN.out.below hb)
  replace HB := Lib.hid (HB.out.trans (hb.mono HB.out.size)); clear hb
  go_wp2_with fail
  refine (pages_few HN HFEW.out).mono ?_; rintro e w11 ⟨u2, rfl, hv, hb⟩
  replace HA1 := Lib.hid (HA1.out.below hb)
  obtain ⟨a2, c2, rfl, hA⟩ := hv.open
  have HA2 := Lib.hid hA; clear hA hv
  replace HM := Lib.hid (HM.out.below hb)
  replace HN := Lib.hid (HN.out.below hb)
  replace HB := Lib.hid (HB.out.trans (hb.mono HB.out.size)); clear hb
  go_wp2_with fail
  refine ((list_c a1 a2 _ _ c1 c2 (pagesL F2) (pagesL F2) w11 rfl rfl HA1 HA2 (by have := HFEW.out; show _ < _; omega)).mono (fun _ _ h => retB_to (x' := true) (by simp) h)).mono ?_; rintro e w99 ⟨rfl, hb⟩
  replace HB := Lib.hid (HB.out.trans (hb.mono HB.out.size)); clear hb
  go_wp2_with fail
  go_ret
  exact retB_mk rfl (HW.out.trans (HB.out.mono HW.out.size))
set_option maxRecDepth 100000 in
set_option maxHeartbeats 8000000 in
theorem apart_tt2 (w : World) (ka kb : Int) (na : Nat) (nb : Nat) (xa xb va vb la lb ca cb : Nat) (pa pb : Option Addr) (ha : Hid (xa < 18446744073709551616 ∧ va < 18446744073709551616)) (hb : Hid (xb < 18446744073709551616 ∧ vb < 18446744073709551616)) (hoa : Hid (hasV xa (na : Int) = true)) (hob : Hid (hasV xb (nb : Int) = true)) (hcc : Hid (xa + na ≤ xb ∧ xa < xb + nb)) :
    Calls Try.prog 5 #[.agg #[.int .i64 ka, .int .u64 xa, .int .i64 (na : Int), .int .u64 va, .slice pa la ca], .agg #[.int .i64 kb, .int .u64 xb, .int .i64 (nb : Int), .int .u64 vb, .slice pb lb cb]] w (RetB true w) := by
  have qa : (na : Int) ≤ 8 ∧ (0 : Int) ≤ na ∧ (xa : Int) ≤ 2148532224 ∧ (na = 1 ∨ na = 2 ∨ na = 4 ∨ na = 8) := by
    have h := hoa.out
    unfold hasV at h
    have := of_decide_eq_true h
    omega
  obtain ⟨na8, na0, xal, -⟩ := qa
  have qb : (nb : Int) ≤ 8 ∧ (0 : Int) ≤ nb ∧ (xb : Int) ≤ 2148532224 ∧ (nb = 1 ∨ nb = 2 ∨ nb = 4 ∨ nb = 8) := by
    have h := hob.out
    unfold hasV at h
    have := of_decide_eq_true h
    omega
  obtain ⟨nb8, nb0, xbl, -⟩ := qb
  have wa : IntKind.u64.wrap (na : Int) = (na : Int) := by rw [IntKind.wrap_u64]; omega
  have wb : IntKind.u64.wrap (nb : Int) = (nb : Int) := by rw [IntKind.wrap_u64]; omega
  have wa2 : IntKind.u64.wrap ((xa : Int) + (na : Int)) = (xa : Int) + (na : Int) := by rw [IntKind.wrap_u64]; omega
  have wb2 : IntKind.u64.wrap ((xb : Int) + (nb : Int)) = (xb : Int) + (nb : Int) := by rw [IntKind.wrap_u64]; omega
  have t1 : (xa : Int) < (xb : Int) + (nb : Int) := by have := hcc.out; omega
  have t2 : ¬ ((xb : Int) < (xa : Int) + (na : Int)) := by have := hcc.out; omega
  obtain ⟨F1, hF1⟩ : ∃ F, wrF (fun _ => 0) xa (na : Int) va = F := ⟨_, rfl⟩
  obtain ⟨F2, hF2⟩ : ∃ F, wrF F1 xb (nb : Int) vb = F := ⟨_, rfl⟩
  obtain ⟨G1, hG1⟩ : ∃ F, wrF (fun _ => 0) xb (nb : Int) vb = F := ⟨_, rfl⟩
  have hG2 : wrF G1 xa (na : Int) va = F2 := by rw [← hG1, ← hF2, ← hF1]; exact apart_eq _ xa xb va vb na nb (by have := hcc.out; omega)
  have HFEW : Hid ((pagesL F2).length ≤ 12) := by rw [← hF2, ← hF1]; exact few_pages xa xb va vb (na : Int) (nb : Int)
  have HF1 := Lib.hid hF1; have HF2 := Lib.hid hF2; have HG1 := Lib.hid hG1; have HG2 := Lib.hid hG2
  clear hF1 hF2 hG1 hG2
  go_enter Try.func5, Try.ntmps5
  go_wp2_with fail
  have HW : Hid (Below w.heap.size w ((w.alloc (Obj.cells #[.int .i64 ka, .int .u64 xa, .int .i64 (na : Int), .int .u64 va, .slice pa la ca] 32)).alloc (Obj.cells #[.int .i64 kb, .int .u64 xb, .int .i64 (nb : Int), .int .u64 vb, .slice pb lb cb] 32))) := Below.alloc (Below.alloc (Below.refl _ _) (Nat.le_refl _) _) (by rw [sz_alloc]; omega) _
  have HA : Hid (∀ i, i < 5 → ((w.alloc (Obj.cells #[.int .i64 ka, .int .u64 xa, .int .i64 (na : Int), .int .u64 va, .slice pa la ca] 32)).alloc (Obj.cells #[.int .i64 kb, .int .u64 xb, .int .i64 (nb : Int), .int .u64 vb, .slice pb lb cb] 32)).cell? ⟨w.heap.size, i, none⟩ = (#[.int .i64 ka, .int .u64 xa, .int .i64 (na : Int), .int .u64 va, .slice pa la ca] : Array Value)[i]?) := fun i hi => by rw [World.cell?_alloc_past _ _ _ (by rw [sz_alloc]; show w.heap.size < w.heap.size + 1; omega), World.cell?_alloc_at _ _ _ _ rfl]
  have HC : Hid (∀ i, i < 5 → ((w.alloc (Obj.cells #[.int .i64 ka, .int .u64 xa, .int .i64 (na : Int), .int .u64 va, .slice pa la ca] 32)).alloc (Obj.cells #[.int .i64 kb, .int .u64 xb, .int .i64 (nb : Int), .int .u64 vb, .slice pb lb cb] 32)).cell? ⟨w.heap.size + 1, i, none⟩ = (#[.int .i64 kb, .int .u64 xb, .int .i64 (nb : Int), .int .u64 vb, .slice pb lb cb] : Array Value)[i]?) := fun i hi => by rw [World.cell?_alloc_at _ _ _ _ (sz_alloc _ _).symm]
  have HSZ : Hid (((w.alloc (Obj.cells #[.int .i64 ka, .int .u64 xa, .int .i64 (na : Int), .int .u64 va, .slice pa la ca] 32)).alloc (Obj.cells #[.int .i64 kb, .int .u64 xb, .int .i64 (nb : Int), .int .u64 vb, .slice pb lb cb] 32)).heap.size = w.heap.size + 2) := by show _ = _; rw [sz_alloc, sz_alloc]
  generalize ((w.alloc (Obj.cells #[.int .i64 ka, .int .u64 xa, .int .i64 (na : Int), .int .u64 va, .slice pa la ca] 32)).alloc (Obj.cells #[.int .i64 kb, .int .u64 xb, .int .i64 (nb : Int), .int .u64 vb, .slice pb lb cb] 32)) = W at *
  refine (fixed_c W).mono ?_; rintro e w1 ⟨rfl, hb1⟩
  have HB := Lib.hid hb1; clear hb1
  go_wp2_with fail
  refine (new_s w1).mono ?_; rintro e w2 ⟨m, S, rfl, hM, hSS, hb⟩
  have HM := Lib.hid hM
  have HT : Hid (∀ i, S i → W.heap.size ≤ i ∧ i < w2.heap.size) := fun i hi => ⟨Nat.le_trans HB.out.size (hSS i hi).1, (hSS i hi).2⟩
  replace HB := Lib.hid (HB.out.trans (hb.mono HB.out.size)); clear hb hM hSS
  go_wp2_with fail
  refine (new_s w2).mono ?_; rintro e w3 ⟨o, T, rfl, hN, hTT, hb⟩
  have HN := Lib.hid hN
  have HST : Hid (∀ i, S i → ¬ T i) := fun i h1 h2 => by have := (HT.out i h1).2; have := (hTT i h2).1; omega
  have HU : Hid (∀ i, T i → W.heap.size ≤ i ∧ i < w3.heap.size) := fun i hi => ⟨Nat.le_trans HB.out.size (hTT i hi).1, (hTT i hi).2⟩
  replace HM := Lib.hid (HM.out.below hb)
  replace HT : Hid (∀ i, S i → W.heap.size ≤ i ∧ i < w3.heap.size) := fun i hi => ⟨(HT.out i hi).1, Nat.lt_of_lt_of_le (HT.out i hi).2 hb.size⟩
  replace HB := Lib.hid (HB.out.trans (hb.mono HB.out.size)); clear hb hN hTT
  have ya1 : w3.cell? ⟨w.heap.size, 1, none⟩ = some (.int .u64 xa) := by rw [HB.out.cell (p := ⟨w.heap.size, 1, none⟩) (by show w.heap.size < W.heap.size; rw [HSZ.out]; omega), HA.out 1 (by decide)]; rfl
  have ya2 : w3.cell? ⟨w.heap.size, 2, none⟩ = some (.int .i64 (na : Int)) := by rw [HB.out.cell (p := ⟨w.heap.size, 2, none⟩) (by show w.heap.size < W.heap.size; rw [HSZ.out]; omega), HA.out 2 (by decide)]; rfl
  have ya3 : w3.cell? ⟨w.heap.size, 3, none⟩ = some (.int .u64 va) := by rw [HB.out.cell (p := ⟨w.heap.size, 3, none⟩) (by show w.heap.size < W.heap.size; rw [HSZ.out]; omega), HA.out 3 (by decide)]; rfl
  go_wp2_with fail
  refine (write_a S m xa va (na : Int) (fun _ => 0) w3 HM (Lib.hid (fun i h => (HT.out i h).2)) (Lib.hid ha.out.1) (Lib.hid ha.out.2) true hoa F1 HF1).mono ?_; rintro e w4 ⟨rfl, S9, hM9, ho9, hS9⟩
  clear ya1 ya2 ya3
  replace HN := Lib.hid (HN.out.kept ho9 (fun i h1 h2 => HST.out i h2 h1))
  replace HM := Lib.hid hM9
  have HST9 : Hid (∀ i, S9 i → ¬ T i) := fun i h1 h2 => (hS9 i h1).2.elim (fun q => HST.out i q h2) (fun q => by have := (HU.out i h2).2; omega)
  have HT9 : Hid (∀ i, S9 i → W.heap.size ≤ i ∧ i < w4.heap.size) := fun i hi => ⟨(hS9 i hi).2.elim (fun q => (HT.out i q).1) (fun q => Nat.le_trans HB.out.size q), (hS9 i hi).1⟩
  replace HU : Hid (∀ i, T i → W.heap.size ≤ i ∧ i < w4.heap.size) := fun i hi => ⟨(HU.out i hi).1, Nat.lt_of_lt_of_le (HU.out i hi).2 ho9.size⟩
  replace HB := Lib.hid (below_own HB.out ho9 (fun i hi => (HT.out i hi).1) HB.out.size)
  clear HT HST hM9 ho9 hS9
  have HT := HT9; have HST := HST9; clear HT9 HST9
  clear S
  obtain ⟨S, hS9⟩ : ∃ X, X = S9 := ⟨_, rfl⟩
  subst hS9
  have yb1 : w4.cell? ⟨w.heap.size + 1, 1, none⟩ = some (.int .u64 xb) := by rw [HB.out.cell (p := ⟨w.heap.size + 1, 1, none⟩) (by show w.heap.size + 1 < W.heap.size; rw [HSZ.out]; omega), HC.out 1 (by decide)]; rfl
  have yb2 : w4.cell? ⟨w.heap.size + 1, 2, none⟩ = some (.int .i64 (nb : Int)) := by rw [HB.out.cell (p := ⟨w.heap.size + 1, 2, none⟩) (by show w.heap.size + 1 < W.heap.size; rw [HSZ.out]; omega), HC.out 2 (by decide)]; rfl
  have yb3 : w4.cell? ⟨w.heap.size + 1, 3, none⟩ = some (.int .u64 vb) := by rw [HB.out.cell (p := ⟨w.heap.size + 1, 3, none⟩) (by show w.heap.size + 1 < W.heap.size; rw [HSZ.out]; omega), HC.out 3 (by decide)]; rfl
  go_wp2_with fail
  refine (write_a S m xb vb (nb : Int) F1 w4 HM (Lib.hid (fun i h => (HT.out i h).2)) (Lib.hid hb.out.1) (Lib.hid hb.out.2) true hob F2 HF2).mono ?_; rintro e w5 ⟨rfl, S9, hM9, ho9, hS9⟩
  clear yb1 yb2 yb3
  replace HN := Lib.hid (HN.out.kept ho9 (fun i h1 h2 => HST.out i h2 h1))
  replace HM := Lib.hid hM9
  have HST9 : Hid (∀ i, S9 i → ¬ T i) := fun i h1 h2 => (hS9 i h1).2.elim (fun q => HST.out i q h2) (fun q => by have := (HU.out i h2).2; omega)
  have HT9 : Hid (∀ i, S9 i → W.heap.size ≤ i ∧ i < w5.heap.size) := fun i hi => ⟨(hS9 i hi).2.elim (fun q => (HT.out i q).1) (fun q => Nat.le_trans HB.out.size q), (hS9 i hi).1⟩
  replace HU : Hid (∀ i, T i → W.heap.size ≤ i ∧ i < w5.heap.size) := fun i hi => ⟨(HU.out i hi).1, Nat.lt_of_lt_of_le (HU.out i hi).2 ho9.size⟩
  replace HB := Lib.hid (below_own HB.out ho9 (fun i hi => (HT.out i hi).1) HB.out.size)
  clear HT HST hM9 ho9 hS9
  have HT := HT9; have HST := HST9; clear HT9 HST9
  clear S
  obtain ⟨S, hS9⟩ : ∃ X, X = S9 := ⟨_, rfl⟩
  subst hS9
  have yb1 : w5.cell? ⟨w.heap.size + 1, 1, none⟩ = some (.int .u64 xb) := by rw [HB.out.cell (p := ⟨w.heap.size + 1, 1, none⟩) (by show w.heap.size + 1 < W.heap.size; rw [HSZ.out]; omega), HC.out 1 (by decide)]; rfl
  have yb2 : w5.cell? ⟨w.heap.size + 1, 2, none⟩ = some (.int .i64 (nb : Int)) := by rw [HB.out.cell (p := ⟨w.heap.size + 1, 2, none⟩) (by show w.heap.size + 1 < W.heap.size; rw [HSZ.out]; omega), HC.out 2 (by decide)]; rfl
  have yb3 : w5.cell? ⟨w.heap.size + 1, 3, none⟩ = some (.int .u64 vb) := by rw [HB.out.cell (p := ⟨w.heap.size + 1, 3, none⟩) (by show w.heap.size + 1 < W.heap.size; rw [HSZ.out]; omega), HC.out 3 (by decide)]; rfl
  go_wp2_with fail
  refine (write_a T o xb vb (nb : Int) (fun _ => 0) w5 HN (Lib.hid (fun i h => (HU.out i h).2)) (Lib.hid hb.out.1) (Lib.hid hb.out.2) true hob G1 HG1).mono ?_; rintro e w6 ⟨rfl, S9, hM9, ho9, hS9⟩
  clear yb1 yb2 yb3
  replace HM := Lib.hid (HM.out.kept ho9 (fun i h1 h2 => HST.out i h1 h2))
  replace HN := Lib.hid hM9
  have HST9 : Hid (∀ i, S i → ¬ S9 i) := fun i h1 h2 => (hS9 i h2).2.elim (fun q => HST.out i h1 q) (fun q => by have := (HT.out i h1).2; omega)
  have HT9 : Hid (∀ i, S9 i → W.heap.size ≤ i ∧ i < w6.heap.size) := fun i hi => ⟨(hS9 i hi).2.elim (fun q => (HU.out i q).1) (fun q => Nat.le_trans HB.out.size q), (hS9 i hi).1⟩
  replace HT : Hid (∀ i, S i → W.heap.size ≤ i ∧ i < w6.heap.size) := fun i hi => ⟨(HT.out i hi).1, Nat.lt_of_lt_of_le (HT.out i hi).2 ho9.size⟩
  replace HB := Lib.hid (below_own HB.out ho9 (fun i hi => (HU.out i hi).1) HB.out.size)
  clear HU HST hM9 ho9 hS9
  have HU := HT9; have HST := HST9; clear HT9 HST9
  clear T
  obtain ⟨T, hT9⟩ : ∃ X, X = S9 := ⟨_, rfl⟩
  subst hT9
  have ya1 : w6.cell? ⟨w.heap.size, 1, none⟩ = some (.int .u64 xa) := by rw [HB.out.cell (p := ⟨w.heap.size, 1, none⟩) (by show w.heap.size < W.heap.size; rw [HSZ.out]; omega), HA.out 1 (by decide)]; rfl
  have ya2 : w6.cell? ⟨w.heap.size, 2, none⟩ = some (.int .i64 (na : Int)) := by rw [HB.out.cell (p := ⟨w.heap.size, 2, none⟩) (by show w.heap.size < W.heap.size; rw [HSZ.out]; omega), HA.out 2 (by decide)]; rfl
  have ya3 : w6.cell? ⟨w.heap.size, 3, none⟩ = some (.int .u64 va) := by rw [HB.out.cell (p := ⟨w.heap.size, 3, none⟩) (by show w.heap.size < W.heap.size; rw [HSZ.out]; omega), HA.out 3 (by decide)]; rfl
  go_wp2_with fail
  refine (write_a T o xa va (na : Int) G1 w6 HN (Lib.hid (fun i h => (HU.out i h).2)) (Lib.hid ha.out.1) (Lib.hid ha.out.2) true hoa F2 HG2).mono ?_; rintro e w7 ⟨rfl, S9, hM9, ho9, hS9⟩
  clear ya1 ya2 ya3
  replace HM := Lib.hid (HM.out.kept ho9 (fun i h1 h2 => HST.out i h1 h2))
  replace HN := Lib.hid hM9
  have HST9 : Hid (∀ i, S i → ¬ S9 i) := fun i h1 h2 => (hS9 i h2).2.elim (fun q => HST.out i h1 q) (fun q => by have := (HT.out i h1).2; omega)
  have HT9 : Hid (∀ i, S9 i → W.heap.size ≤ i ∧ i < w7.heap.size) := fun i hi => ⟨(hS9 i hi).2.elim (fun q => (HU.out i q).1) (fun q => Nat.le_trans HB.out.size q), (hS9 i hi).1⟩
  replace HT : Hid (∀ i, S i → W.heap.size ≤ i ∧ i < w7.heap.size) := fun i hi => ⟨(HT.out i hi).1, Nat.lt_of_lt_of_le (HT.out i hi).2 ho9.size⟩
  replace HB := Lib.hid (below_own HB.out ho9 (fun i hi => (HU.out i hi).1) HB.out.size)
  clear HU HST hM9 ho9 hS9
  have HU := HT9; have HST := HST9; clear HT9 HST9
  clear T
  obtain ⟨T, hT9⟩ : ∃ X, X = S9 := ⟨_, rfl⟩
  subst hT9
  have ya1 : w7.cell? ⟨w.heap.size, 1, none⟩ = some (.int .u64 xa) := by rw [HB.out.cell (p := ⟨w.heap.size, 1, none⟩) (by show w.heap.size < W.heap.size; rw [HSZ.out]; omega), HA.out 1 (by decide)]; rfl
  have ya2 : w7.cell? ⟨w.heap.size, 2, none⟩ = some (.int .i64 (na : Int)) := by rw [HB.out.cell (p := ⟨w.heap.size, 2, none⟩) (by show w.heap.size < W.heap.size; rw [HSZ.out]; omega), HA.out 2 (by decide)]; rfl
  have ya3 : w7.cell? ⟨w.heap.size, 3, none⟩ = some (.int .u64 va) := by rw [HB.out.cell (p := ⟨w.heap.size, 3, none⟩) (by show w.heap.size < W.heap.size; rw [HSZ.out]; omega), HA.out 3 (by decide)]; rfl
  have yb1 : w7.cell? ⟨w.heap.size + 1, 1, none⟩ = some (.int .u64 xb) := by rw [HB.out.cell (p := ⟨w.heap.size + 1, 1, none⟩) (by show w.heap.size + 1 < W.heap.size; rw [HSZ.out]; omega), HC.out 1 (by decide)]; rfl
  have yb2 : w7.cell? ⟨w.heap.size + 1, 2, none⟩ = some (.int .i64 (nb : Int)) := by rw [HB.out.cell (p := ⟨w.heap.size + 1, 2, none⟩) (by show w.heap.size + 1 < W.heap.size; rw [HSZ.out]; omega), HC.out 2 (by decide)]; rfl
  have yb3 : w7.cell? ⟨w.heap.size + 1, 3, none⟩ = some (.int .u64 vb) := by rw [HB.out.cell (p := ⟨w.heap.size + 1, 3, none⟩) (by show w.heap.size + 1 < W.heap.size; rw [HSZ.out]; omega), HC.out 3 (by decide)]; rfl
  go_wp2_with fail
  clear ya1 ya2 ya3 yb1 yb2 yb3
  refine ((same_c S T m o F2 F2 w7 HM HN).mono (fun _ _ h => retB_to (x' := true) ((sameV_true _ _).2 (fun _ _ _ => rfl)) h)).mono ?_; rintro e w8 ⟨rfl, hb⟩
  replace HM := Lib.hid (HM.out.below hb)
  replace HN := Lib.hid (HN.out.below hb)
  replace HB := Lib.hid (HB.out.trans (hb.mono HB.out.size)); clear hb
  go_wp2_with fail
  refine ((same_c T S o m F2 F2 w8 HN HM).mono (fun _ _ h => retB_to (x' := true) ((sameV_true _ _).2 (fun _ _ _ => rfl)) h)).mono ?_; rintro e w9 ⟨rfl, hb⟩
  replace HM := Lib.hid (HM.out.below hb)
  replace HN := Lib.hid (HN.out.below hb)
  replace HB := Lib.hid (HB.out.trans (hb.mono HB.out.size)); clear hb
  go_wp2_with fail
  refine (pages_few HM HFEW.out).mono ?_; rintro e w10 ⟨u1, rfl, hv, hb⟩
  obtain ⟨a1, c1, rfl, hA⟩ := hv.open
  have HA1 := Lib.hid hA; clear hA hv
  replace HM := Lib.hid (HM.out.below hb)
  replace HN := Lib.hid (HN.out.below hb)
  replace HB := Lib.hid (HB.out.trans (hb.mono HB.out.size)); clear hb
  go_wp2_with fail
  refine (pages_few HN HFEW.out).mono ?_; rintro e w11 ⟨u2, rfl, hv, hb⟩
  replace HA1 := Lib.hid (HA1.out.below hb)
  obtain ⟨a2, c2, rfl, hA⟩ := hv.open
  have HA2 := Lib.hid hA; clear hA hv
  replace HM := Lib.hid (HM.out.below hb)
  replace HN := Lib.hid (HN.out.below hb)
  replace HB := Lib.hid (HB.out.trans (hb.mono HB.out.size)); clear hb
  go_wp2_with fail
  refine ((list_c a1 a2 _ _ c1 c2 (pagesL F2) (pagesL F2) w11 rfl rfl HA1 HA2 (by have := HFEW.out; show _ < _; omega)).mono (fun _ _ h => retB_to (x' := true) (by simp) h)).mono ?_; rintro e w99 ⟨rfl, hb⟩
  replace HB := Lib.hid (HB.out.trans (hb.mono HB.out.size)); clear hb
  go_wp2_with fail
  go_ret
  exact retB_mk rfl (HW.out.trans (HB.out.mono HW.out.size))
set_option maxRecDepth 100000 in
set_option maxHeartbeats 8000000 in
theorem apart_tt3 (w : World) (ka kb : Int) (na : Nat) (nb : Nat) (xa xb va vb la lb ca cb : Nat) (pa pb : Option Addr) (ha : Hid (xa < 18446744073709551616 ∧ va < 18446744073709551616)) (hb : Hid (xb < 18446744073709551616 ∧ vb < 18446744073709551616)) (hoa : Hid (hasV xa (na : Int) = true)) (hob : Hid (hasV xb (nb : Int) = true)) (hcc : Hid (xa < xb + nb ∧ xb < xa + na)) :
    Calls Try.prog 5 #[.agg #[.int .i64 ka, .int .u64 xa, .int .i64 (na : Int), .int .u64 va, .slice pa la ca], .agg #[.int .i64 kb, .int .u64 xb, .int .i64 (nb : Int), .int .u64 vb, .slice pb lb cb]] w (RetB true w) := by
  have qa : (na : Int) ≤ 8 ∧ (0 : Int) ≤ na ∧ (xa : Int) ≤ 2148532224 ∧ (na = 1 ∨ na = 2 ∨ na = 4 ∨ na = 8) := by
    have h := hoa.out
    unfold hasV at h
    have := of_decide_eq_true h
    omega
  obtain ⟨na8, na0, xal, -⟩ := qa
  have qb : (nb : Int) ≤ 8 ∧ (0 : Int) ≤ nb ∧ (xb : Int) ≤ 2148532224 ∧ (nb = 1 ∨ nb = 2 ∨ nb = 4 ∨ nb = 8) := by
    have h := hob.out
    unfold hasV at h
    have := of_decide_eq_true h
    omega
  obtain ⟨nb8, nb0, xbl, -⟩ := qb
  have wa : IntKind.u64.wrap (na : Int) = (na : Int) := by rw [IntKind.wrap_u64]; omega
  have wb : IntKind.u64.wrap (nb : Int) = (nb : Int) := by rw [IntKind.wrap_u64]; omega
  have wa2 : IntKind.u64.wrap ((xa : Int) + (na : Int)) = (xa : Int) + (na : Int) := by rw [IntKind.wrap_u64]; omega
  have wb2 : IntKind.u64.wrap ((xb : Int) + (nb : Int)) = (xb : Int) + (nb : Int) := by rw [IntKind.wrap_u64]; omega
  have t1 : (xa : Int) < (xb : Int) + (nb : Int) := by have := hcc.out; omega
  have t2 : (xb : Int) < (xa : Int) + (na : Int) := by have := hcc.out; omega
  obtain ⟨F1, hF1⟩ : ∃ F, wrF (fun _ => 0) xa (na : Int) va = F := ⟨_, rfl⟩
  obtain ⟨F2, hF2⟩ : ∃ F, wrF F1 xb (nb : Int) vb = F := ⟨_, rfl⟩
  obtain ⟨G1, hG1⟩ : ∃ F, wrF (fun _ => 0) xb (nb : Int) vb = F := ⟨_, rfl⟩
  obtain ⟨G2, hG2⟩ : ∃ F, wrF G1 xa (na : Int) va = F := ⟨_, rfl⟩
  have HF1 := Lib.hid hF1; have HF2 := Lib.hid hF2; have HG1 := Lib.hid hG1; have HG2 := Lib.hid hG2
  clear hF1 hF2 hG1 hG2
  go_enter Try.func5, Try.ntmps5
  go_wp2_with fail
  have HW : Hid (Below w.heap.size w ((w.alloc (Obj.cells #[.int .i64 ka, .int .u64 xa, .int .i64 (na : Int), .int .u64 va, .slice pa la ca] 32)).alloc (Obj.cells #[.int .i64 kb, .int .u64 xb, .int .i64 (nb : Int), .int .u64 vb, .slice pb lb cb] 32))) := Below.alloc (Below.alloc (Below.refl _ _) (Nat.le_refl _) _) (by rw [sz_alloc]; omega) _
  have HA : Hid (∀ i, i < 5 → ((w.alloc (Obj.cells #[.int .i64 ka, .int .u64 xa, .int .i64 (na : Int), .int .u64 va, .slice pa la ca] 32)).alloc (Obj.cells #[.int .i64 kb, .int .u64 xb, .int .i64 (nb : Int), .int .u64 vb, .slice pb lb cb] 32)).cell? ⟨w.heap.size, i, none⟩ = (#[.int .i64 ka, .int .u64 xa, .int .i64 (na : Int), .int .u64 va, .slice pa la ca] : Array Value)[i]?) := fun i hi => by rw [World.cell?_alloc_past _ _ _ (by rw [sz_alloc]; show w.heap.size < w.heap.size + 1; omega), World.cell?_alloc_at _ _ _ _ rfl]
  have HC : Hid (∀ i, i < 5 → ((w.alloc (Obj.cells #[.int .i64 ka, .int .u64 xa, .int .i64 (na : Int), .int .u64 va, .slice pa la ca] 32)).alloc (Obj.cells #[.int .i64 kb, .int .u64 xb, .int .i64 (nb : Int), .int .u64 vb, .slice pb lb cb] 32)).cell? ⟨w.heap.size + 1, i, none⟩ = (#[.int .i64 kb, .int .u64 xb, .int .i64 (nb : Int), .int .u64 vb, .slice pb lb cb] : Array Value)[i]?) := fun i hi => by rw [World.cell?_alloc_at _ _ _ _ (sz_alloc _ _).symm]
  have HSZ : Hid (((w.alloc (Obj.cells #[.int .i64 ka, .int .u64 xa, .int .i64 (na : Int), .int .u64 va, .slice pa la ca] 32)).alloc (Obj.cells #[.int .i64 kb, .int .u64 xb, .int .i64 (nb : Int), .int .u64 vb, .slice pb lb cb] 32)).heap.size = w.heap.size + 2) := by show _ = _; rw [sz_alloc, sz_alloc]
  generalize ((w.alloc (Obj.cells #[.int .i64 ka, .int .u64 xa, .int .i64 (na : Int), .int .u64 va, .slice pa la ca] 32)).alloc (Obj.cells #[.int .i64 kb, .int .u64 xb, .int .i64 (nb : Int), .int .u64 vb, .slice pb lb cb] 32)) = W at *
  refine (fixed_c W).mono ?_; rintro e w1 ⟨rfl, hb1⟩
  have HB := Lib.hid hb1; clear hb1
  go_wp2_with fail
  refine (new_s w1).mono ?_; rintro e w2 ⟨m, S, rfl, hM, hSS, hb⟩
  have HM := Lib.hid hM
  have HT : Hid (∀ i, S i → W.heap.size ≤ i ∧ i < w2.heap.size) := fun i hi => ⟨Nat.le_trans HB.out.size (hSS i hi).1, (hSS i hi).2⟩
  replace HB := Lib.hid (HB.out.trans (hb.mono HB.out.size)); clear hb hM hSS
  go_wp2_with fail
  refine (new_s w2).mono ?_; rintro e w3 ⟨o, T, rfl, hN, hTT, hb⟩
  have HN := Lib.hid hN
  have HST : Hid (∀ i, S i → ¬ T i) := fun i h1 h2 => by have := (HT.out i h1).2; have := (hTT i h2).1; omega
  have HU : Hid (∀ i, T i → W.heap.size ≤ i ∧ i < w3.heap.size) := fun i hi => ⟨Nat.le_trans HB.out.size (hTT i hi).1, (hTT i hi).2⟩
  replace HM := Lib.hid (HM.out.below hb)
  replace HT : Hid (∀ i, S i → W.heap.size ≤ i ∧ i < w3.heap.size) := fun i hi => ⟨(HT.out i hi).1, Nat.lt_of_lt_of_le (HT.out i hi).2 hb.size⟩
  replace HB := Lib.hid (HB.out.trans (hb.mono HB.out.size)); clear hb hN hTT
  have ya1 : w3.cell? ⟨w.heap.size, 1, none⟩ = some (.int .u64 xa) := by rw [HB.out.cell (p := ⟨w.heap.size, 1, none⟩) (by show w.heap.size < W.heap.size; rw [HSZ.out]; omega), HA.out 1 (by decide)]; rfl
  have ya2 : w3.cell? ⟨w.heap.size, 2, none⟩ = some (.int .i64 (na : Int)) := by rw [HB.out.cell (p := ⟨w.heap.size, 2, none⟩) (by show w.heap.size < W.heap.size; rw [HSZ.out]; omega), HA.out 2 (by decide)]; rfl
  have ya3 : w3.cell? ⟨w.heap.size, 3, none⟩ = some (.int .u64 va) := by rw [HB.out.cell (p := ⟨w.heap.size, 3, none⟩) (by show w.heap.size < W.heap.size; rw [HSZ.out]; omega), HA.out 3 (by decide)]; rfl
  go_wp2_with fail
  refine (write_a S m xa va (na : Int) (fun _ => 0) w3 HM (Lib.hid (fun i h => (HT.out i h).2)) (Lib.hid ha.out.1) (Lib.hid ha.out.2) true hoa F1 HF1).mono ?_; rintro e w4 ⟨rfl, S9, hM9, ho9, hS9⟩
  clear ya1 ya2 ya3
  replace HN := Lib.hid (HN.out.kept ho9 (fun i h1 h2 => HST.out i h2 h1))
  replace HM := Lib.hid hM9
  have HST9 : Hid (∀ i, S9 i → ¬ T i) := fun i h1 h2 => (hS9 i h1).2.elim (fun q => HST.out i q h2) (fun q => by have := (HU.out i h2).2; omega)
  have HT9 : Hid (∀ i, S9 i → W.heap.size ≤ i ∧ i < w4.heap.size) := fun i hi => ⟨(hS9 i hi).2.elim (fun q => (HT.out i q).1) (fun q => Nat.le_trans HB.out.size q), (hS9 i hi).1⟩
  replace HU : Hid (∀ i, T i → W.heap.size ≤ i ∧ i < w4.heap.size) := fun i hi => ⟨(HU.out i hi).1, Nat.lt_of_lt_of_le (HU.out i hi).2 ho9.size⟩
  replace HB := Lib.hid (below_own HB.out ho9 (fun i hi => (HT.out i hi).1) HB.out.size)
  clear HT HST hM9 ho9 hS9
  have HT := HT9; have HST := HST9; clear HT9 HST9
  clear S
  obtain ⟨S, hS9⟩ : ∃ X, X = S9 := ⟨_, rfl⟩
  subst hS9
  have yb1 : w4.cell? ⟨w.heap.size + 1, 1, none⟩ = some (.int .u64 xb) := by rw [HB.out.cell (p := ⟨w.heap.size + 1, 1, none⟩) (by show w.heap.size + 1 < W.heap.size; rw [HSZ.out]; omega), HC.out 1 (by decide)]; rfl
  have yb2 : w4.cell? ⟨w.heap.size + 1, 2, none⟩ = some (.int .i64 (nb : Int)) := by rw [HB.out.cell (p := ⟨w.heap.size + 1, 2, none⟩) (by show w.heap.size + 1 < W.heap.size; rw [HSZ.out]; omega), HC.out 2 (by decide)]; rfl
  have yb3 : w4.cell? ⟨w.heap.size + 1, 3, none⟩ = some (.int .u64 vb) := by rw [HB.out.cell (p := ⟨w.heap.size + 1, 3, none⟩) (by show w.heap.size + 1 < W.heap.size; rw [HSZ.out]; omega), HC.out 3 (by decide)]; rfl
  go_wp2_with fail
  refine (write_a S m xb vb (nb : Int) F1 w4 HM (Lib.hid (fun i h => (HT.out i h).2)) (Lib.hid hb.out.1) (Lib.hid hb.out.2) true hob F2 HF2).mono ?_; rintro e w5 ⟨rfl, S9, hM9, ho9, hS9⟩
  clear yb1 yb2 yb3
  replace HN := Lib.hid (HN.out.kept ho9 (fun i h1 h2 => HST.out i h2 h1))
  replace HM := Lib.hid hM9
  have HST9 : Hid (∀ i, S9 i → ¬ T i) := fun i h1 h2 => (hS9 i h1).2.elim (fun q => HST.out i q h2) (fun q => by have := (HU.out i h2).2; omega)
  have HT9 : Hid (∀ i, S9 i → W.heap.size ≤ i ∧ i < w5.heap.size) := fun i hi => ⟨(hS9 i hi).2.elim (fun q => (HT.out i q).1) (fun q => Nat.le_trans HB.out.size q), (hS9 i hi).1⟩
  replace HU : Hid (∀ i, T i → W.heap.size ≤ i ∧ i < w5.heap.size) := fun i hi => ⟨(HU.out i hi).1, Nat.lt_of_lt_of_le (HU.out i hi).2 ho9.size⟩
  replace HB := Lib.hid (below_own HB.out ho9 (fun i hi => (HT.out i hi).1) HB.out.size)
  clear HT HST hM9 ho9 hS9
  have HT := HT9; have HST := HST9; clear HT9 HST9
  clear S
  obtain ⟨S, hS9⟩ : ∃ X, X = S9 := ⟨_, rfl⟩
  subst hS9
  have yb1 : w5.cell? ⟨w.heap.size + 1, 1, none⟩ = some (.int .u64 xb) := by rw [HB.out.cell (p := ⟨w.heap.size + 1, 1, none⟩) (by show w.heap.size + 1 < W.heap.size; rw [HSZ.out]; omega), HC.out 1 (by decide)]; rfl
  have yb2 : w5.cell? ⟨w.heap.size + 1, 2, none⟩ = some (.int .i64 (nb : Int)) := by rw [HB.out.cell (p := ⟨w.heap.size + 1, 2, none⟩) (by show w.heap.size + 1 < W.heap.size; rw [HSZ.out]; omega), HC.out 2 (by decide)]; rfl
  have yb3 : w5.cell? ⟨w.heap.size + 1, 3, none⟩ = some (.int .u64 vb) := by rw [HB.out.cell (p := ⟨w.heap.size + 1, 3, none⟩) (by show w.heap.size + 1 < W.heap.size; rw [HSZ.out]; omega), HC.out 3 (by decide)]; rfl
  go_wp2_with fail
  refine (write_a T o xb vb (nb : Int) (fun _ => 0) w5 HN (Lib.hid (fun i h => (HU.out i h).2)) (Lib.hid hb.out.1) (Lib.hid hb.out.2) true hob G1 HG1).mono ?_; rintro e w6 ⟨rfl, S9, hM9, ho9, hS9⟩
  clear yb1 yb2 yb3
  replace HM := Lib.hid (HM.out.kept ho9 (fun i h1 h2 => HST.out i h1 h2))
  replace HN := Lib.hid hM9
  have HST9 : Hid (∀ i, S i → ¬ S9 i) := fun i h1 h2 => (hS9 i h2).2.elim (fun q => HST.out i h1 q) (fun q => by have := (HT.out i h1).2; omega)
  have HT9 : Hid (∀ i, S9 i → W.heap.size ≤ i ∧ i < w6.heap.size) := fun i hi => ⟨(hS9 i hi).2.elim (fun q => (HU.out i q).1) (fun q => Nat.le_trans HB.out.size q), (hS9 i hi).1⟩
  replace HT : Hid (∀ i, S i → W.heap.size ≤ i ∧ i < w6.heap.size) := fun i hi => ⟨(HT.out i hi).1, Nat.lt_of_lt_of_le (HT.out i hi).2 ho9.size⟩
  replace HB := Lib.hid (below_own HB.out ho9 (fun i hi => (HU.out i hi).1) HB.out.size)
  clear HU HST hM9 ho9 hS9
  have HU := HT9; have HST := HST9; clear HT9 HST9
  clear T
  obtain ⟨T, hT9⟩ : ∃ X, X = S9 := ⟨_, rfl⟩
  subst hT9
  have ya1 : w6.cell? ⟨w.heap.size, 1, none⟩ = some (.int .u64 xa) := by rw [HB.out.cell (p := ⟨w.heap.size, 1, none⟩) (by show w.heap.size < W.heap.size; rw [HSZ.out]; omega), HA.out 1 (by decide)]; rfl
  have ya2 : w6.cell? ⟨w.heap.size, 2, none⟩ = some (.int .i64 (na : Int)) := by rw [HB.out.cell (p := ⟨w.heap.size, 2, none⟩) (by show w.heap.size < W.heap.size; rw [HSZ.out]; omega), HA.out 2 (by decide)]; rfl
  have ya3 : w6.cell? ⟨w.heap.size, 3, none⟩ = some (.int .u64 va) := by rw [HB.out.cell (p := ⟨w.heap.size, 3, none⟩) (by show w.heap.size < W.heap.size; rw [HSZ.out]; omega), HA.out 3 (by decide)]; rfl
  go_wp2_with fail
  refine (write_a T o xa va (na : Int) G1 w6 HN (Lib.hid (fun i h => (HU.out i h).2)) (Lib.hid ha.out.1) (Lib.hid ha.out.2) true hoa G2 HG2).mono ?_; rintro e w7 ⟨rfl, S9, hM9, ho9, hS9⟩
  clear ya1 ya2 ya3
  replace HM := Lib.hid (HM.out.kept ho9 (fun i h1 h2 => HST.out i h1 h2))
  replace HN := Lib.hid hM9
  have HST9 : Hid (∀ i, S i → ¬ S9 i) := fun i h1 h2 => (hS9 i h2).2.elim (fun q => HST.out i h1 q) (fun q => by have := (HT.out i h1).2; omega)
  have HT9 : Hid (∀ i, S9 i → W.heap.size ≤ i ∧ i < w7.heap.size) := fun i hi => ⟨(hS9 i hi).2.elim (fun q => (HU.out i q).1) (fun q => Nat.le_trans HB.out.size q), (hS9 i hi).1⟩
  replace HT : Hid (∀ i, S i → W.heap.size ≤ i ∧ i < w7.heap.size) := fun i hi => ⟨(HT.out i hi).1, Nat.lt_of_lt_of_le (HT.out i hi).2 ho9.size⟩
  replace HB := Lib.hid (below_own HB.out ho9 (fun i hi => (HU.out i hi).1) HB.out.size)
  clear HU HST hM9 ho9 hS9
  have HU := HT9; have HST := HST9; clear HT9 HST9
  clear T
  obtain ⟨T, hT9⟩ : ∃ X, X = S9 := ⟨_, rfl⟩
  subst hT9
  have ya1 : w7.cell? ⟨w.heap.size, 1, none⟩ = some (.int .u64 xa) := by rw [HB.out.cell (p := ⟨w.heap.size, 1, none⟩) (by show w.heap.size < W.heap.size; rw [HSZ.out]; omega), HA.out 1 (by decide)]; rfl
  have ya2 : w7.cell? ⟨w.heap.size, 2, none⟩ = some (.int .i64 (na : Int)) := by rw [HB.out.cell (p := ⟨w.heap.size, 2, none⟩) (by show w.heap.size < W.heap.size; rw [HSZ.out]; omega), HA.out 2 (by decide)]; rfl
  have ya3 : w7.cell? ⟨w.heap.size, 3, none⟩ = some (.int .u64 va) := by rw [HB.out.cell (p := ⟨w.heap.size, 3, none⟩) (by show w.heap.size < W.heap.size; rw [HSZ.out]; omega), HA.out 3 (by decide)]; rfl
  have yb1 : w7.cell? ⟨w.heap.size + 1, 1, none⟩ = some (.int .u64 xb) := by rw [HB.out.cell (p := ⟨w.heap.size + 1, 1, none⟩) (by show w.heap.size + 1 < W.heap.size; rw [HSZ.out]; omega), HC.out 1 (by decide)]; rfl
  have yb2 : w7.cell? ⟨w.heap.size + 1, 2, none⟩ = some (.int .i64 (nb : Int)) := by rw [HB.out.cell (p := ⟨w.heap.size + 1, 2, none⟩) (by show w.heap.size + 1 < W.heap.size; rw [HSZ.out]; omega), HC.out 2 (by decide)]; rfl
  have yb3 : w7.cell? ⟨w.heap.size + 1, 3, none⟩ = some (.int .u64 vb) := by rw [HB.out.cell (p := ⟨w.heap.size + 1, 3, none⟩) (by show w.heap.size + 1 < W.heap.size; rw [HSZ.out]; omega), HC.out 3 (by decide)]; rfl
  go_wp2_with fail
  go_ret
  exact retB_mk rfl (HW.out.trans (HB.out.mono HW.out.size))
theorem apart_core (w : World) (ka kb za zb : Int) (xa xb va vb la lb ca cb : Nat) (pa pb : Option Addr) (ha : Hid (xa < 18446744073709551616 ∧ va < 18446744073709551616)) (hb : Hid (xb < 18446744073709551616 ∧ vb < 18446744073709551616)) :
    Calls Try.prog 5 #[.agg #[.int .i64 ka, .int .u64 xa, .int .i64 za, .int .u64 va, .slice pa la ca], .agg #[.int .i64 kb, .int .u64 xb, .int .i64 zb, .int .u64 vb, .slice pb lb cb]] w (RetB true w) := by
  have nat_of : ∀ x z, hasV x z = true → ∃ n : Nat, z = n := fun x z h => by
    unfold hasV at h
    have := (of_decide_eq_true h).1
    exact ⟨z.toNat, by omega⟩
  cases h1 : hasV xa za
  · cases h2 : hasV xb zb
    · exact apart_ff w ka kb za zb xa xb va vb la lb ca cb pa pb ha hb h1 h2
    · obtain ⟨nb, rfl⟩ := nat_of _ _ h2
      exact apart_ft w ka kb za nb xa xb va vb la lb ca cb pa pb ha hb h1 h2
  · obtain ⟨na, rfl⟩ := nat_of _ _ h1
    cases h2 : hasV xb zb
    · exact apart_tf w ka kb na zb xa xb va vb la lb ca cb pa pb ha hb h1 h2
    · obtain ⟨nb, rfl⟩ := nat_of _ _ h2
      by_cases c1 : xa < xb + nb
      · by_cases c2 : xb < xa + na
        · exact apart_tt3 w ka kb na nb xa xb va vb la lb ca cb pa pb ha hb h1 h2 ⟨c1, c2⟩
        · exact apart_tt2 w ka kb na nb xa xb va vb la lb ca cb pa pb ha hb h1 h2 ⟨by omega, c1⟩
      · exact apart_tt1 w ka kb na nb xa xb va vb la lb ca cb pa pb ha hb h1 h2 (by show _ ≤ _; omega)
end Go.Proofs.Ythaalcdfjnlboaa
