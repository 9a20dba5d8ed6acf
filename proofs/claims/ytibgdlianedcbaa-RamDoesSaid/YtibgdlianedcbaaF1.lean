/- The answers that the document fixes. -/
import Derived.Test.YtibgdlianedcbaaB15
namespace Go.Proofs.Ytibgdlianedcbaa
open Go.Maps Go.WideMaps Go.ChangeShapes Go.WideShapes Go.ChangeAt Go.RowKit
set_option linter.unusedVariables false
set_option linter.unusedSimpArgs false
theorem retWr_to {S : Nat → Prop} {m : Nat} {ok ok' : Bool} {F F' : Nat → Nat} {W w' : World} {e : Ending} (h : ok = ok') (h2 : F = F') (r : RetWr S m ok F W e w') : RetWr S m ok' F' W e w' := by subst h h2; exact r
theorem retR_to {x x' : Nat} {ok ok' : Bool} {W w' : World} {e : Ending} (h : x = x') (h2 : ok = ok') (r : RetR x ok W e w') : RetR x' ok' W e w' := by subst h h2; exact r
theorem retB_to {x x' : Bool} {W w' : World} {e : Ending} (h : x = x') (r : RetB x W e w') : RetB x' W e w' := by subst h; exact r
theorem byteV_lt (v i : Nat) : byteV v i < 256 := Nat.mod_lt _ (by decide)
theorem wrF_lt {F : Nat → Nat} (h : ∀ i, F i < 256) (a : Nat) (sz : Int) (v : Nat) : ∀ i, wrF F a sz v i < 256 := by
  intro i
  unfold wrF
  split
  · unfold layF
    split
    · exact byteV_lt _ _
    · exact h i
  · exact h i
theorem MemS.below {S : Nat → Prop} {w w' : World} {m : Nat} {F : Nat → Nat} (h : MemS S w m F) (hb : Below w.heap.size w w') : MemS S w' m F := h.kept (T := fun _ => False) (Own.below hb) (fun _ _ h => h)
def FA : Nat → Nat := wrF (fun _ => 0) 2147487742 4 2864434397
def FB : Nat → Nat := wrF FA 2147487742 1 0
theorem FA_eq (x : Nat) : FA x = if 2147487742 ≤ x ∧ x < 2147487746 then byteV 2864434397 (x - 2147487742) else 0 := by
  unfold FA wrF
  rw [if_pos (by decide)]; rfl
theorem FA_lt : ∀ i, FA i < 256 := wrF_lt (fun _ => by show 0 < 256; decide) _ _ _
theorem same_AA : sameV FA FA = true := (sameV_true _ _).2 (fun _ _ _ => rfl)
theorem same_AB : sameV FA FB = false := sameV_false ⟨2147487742, by decide, by decide, by decide⟩
theorem pages_A : pagesL FA = [2147483648, 2147487744] := by
  have hm : ∀ s, s ∈ [2147483648, 2147487744] ↔ s ∈ pagesL FA := by
    intro s
    rw [pages_mem]
    constructor
    · intro h
      have h' : s = 2147483648 ∨ s = 2147487744 := by simpa using h
      rcases h' with rfl | rfl
      · refine ⟨by decide, ?_⟩
        cases e : eqPg (fun i => FA (2147483648 + i)) (fun _ => 0)
        · rfl
        · have := (eqPg_true _ _).1 e 4094 (by decide)
          exact absurd this (by decide)
      · refine ⟨by decide, ?_⟩
        cases e : eqPg (fun i => FA (2147487744 + i)) (fun _ => 0)
        · rfl
        · have := (eqPg_true _ _).1 e 0 (by decide)
          exact absurd this (by decide)
    · rintro ⟨⟨h1, h2, h3⟩, h4⟩
      have h5 : eqPg (fun i => FA (s + i)) (fun _ => 0) = !true := h4
      obtain ⟨i, hi, hne⟩ := ne_gen h5
      have hne' : FA (s + i) ≠ 0 := hne
      rw [FA_eq] at hne'
      by_cases c : 2147487742 ≤ s + i ∧ s + i < 2147487746
      · have : s = 2147483648 ∨ s = 2147487744 := by omega
        simpa using this
      · rw [if_neg c] at hne'
        exact absurd rfl hne'
  obtain ⟨hlen, h⟩ := sorted_pages (L := [2147483648, 2147487744]) (by decide) hm
  rw [← h _ .refl (fun k l h1 h2 h3 => by
    have h3' : l < 2 := h3
    have : k = 0 ∧ l = 1 := by omega
    obtain ⟨rfl, rfl⟩ := this
    decide)]
  rfl
set_option maxRecDepth 100000 in
set_option maxHeartbeats 4000000 in
theorem fixed_c (w : World) : Calls Try.prog 7 #[] w (RetB true w) := by
  go_enter Try.func7, Try.ntmps7
  go_wp2_with fail
  refine (new_s w).mono ?_; rintro e w1 ⟨m, S, rfl, hM, hS, hb1⟩
  have HM := Lib.hid hM; have HS := Lib.hid hS; have HB := Lib.hid hb1
  clear hM hS hb1
  go_wp2_with fail
  refine ((write_c S m 2147487742 2864434397 4 (fun _ => 0) w1 HM (Lib.hid (fun i h => (HS.out i h).2)) (by show _ < _; decide) (by show _ < _; decide)).mono (fun _ _ h => retWr_to (ok' := true) (F' := FA) (by decide) rfl h)).mono ?_; rintro e w2 ⟨rfl, S2, hM2, ho2, hS2⟩
  replace HM := Lib.hid hM2
  have HT : Hid (∀ i, S2 i → w.heap.size ≤ i ∧ i < w2.heap.size) := fun i hi => ⟨(hS2 i hi).2.elim (fun q => (HS.out i q).1) (fun q => Nat.le_trans HB.out.size q), (hS2 i hi).1⟩
  replace HB := Lib.hid (below_own HB.out ho2 (fun i hi => (HS.out i hi).1) HB.out.size)
  clear hM2 ho2 hS2 HS
  go_wp2_with fail
  refine ((read_c m 2147487743 2 FA w2 (Lib.hid HM.out.mem) (by show _ < _; decide) FA_lt).mono (fun _ _ h => retR_to (x' := 48076) (ok' := true) (by decide) (by decide) h)).mono ?_; rintro e w3 ⟨rfl, hb⟩
  replace HM := Lib.hid (HM.out.below hb)
  replace HT : Hid (∀ i, S2 i → w.heap.size ≤ i ∧ i < w3.heap.size) := fun i hi => ⟨(HT.out i hi).1, Nat.lt_of_lt_of_le (HT.out i hi).2 hb.size⟩
  replace HB := Lib.hid (HB.out.trans (hb.mono HB.out.size)); clear hb
  go_wp2_with fail
  refine ((read_c m 2147483647 1 FA w3 (Lib.hid HM.out.mem) (by show _ < _; decide) FA_lt).mono (fun _ _ h => retR_to (x' := 0) (ok' := false) (by decide) (by decide) h)).mono ?_; rintro e w4 ⟨rfl, hb⟩
  replace HM := Lib.hid (HM.out.below hb)
  replace HT : Hid (∀ i, S2 i → w.heap.size ≤ i ∧ i < w4.heap.size) := fun i hi => ⟨(HT.out i hi).1, Nat.lt_of_lt_of_le (HT.out i hi).2 hb.size⟩
  replace HB := Lib.hid (HB.out.trans (hb.mono HB.out.size)); clear hb
  go_wp2_with fail
  refine (copy_c S2 m FA w4 HM).mono ?_; rintro e w5 ⟨o, T, rfl, hN, hTT, hb⟩
  have HN := Lib.hid hN
  have HST : Hid (∀ i, S2 i → ¬ T i) := fun i h1 h2 => by have := (HT.out i h1).2; have := (hTT i h2).1; omega
  have HU : Hid (∀ i, T i → w.heap.size ≤ i ∧ i < w5.heap.size) := fun i hi => ⟨Nat.le_trans HB.out.size (hTT i hi).1, (hTT i hi).2⟩
  replace HM := Lib.hid (HM.out.below hb)
  replace HT : Hid (∀ i, S2 i → w.heap.size ≤ i ∧ i < w5.heap.size) := fun i hi => ⟨(HT.out i hi).1, Nat.lt_of_lt_of_le (HT.out i hi).2 hb.size⟩
  replace HB := Lib.hid (HB.out.trans (hb.mono HB.out.size)); clear hb hN hTT
  go_wp2_with fail
  refine ((same_c S2 T m o FA FA w5 HM HN).mono (fun _ _ h => retB_to (x' := true) same_AA h)).mono ?_; rintro e w6 ⟨rfl, hb⟩
  replace HM := Lib.hid (HM.out.below hb)
  replace HN := Lib.hid (HN.out.below hb)
  replace HT : Hid (∀ i, S2 i → w.heap.size ≤ i ∧ i < w6.heap.size) := fun i hi => ⟨(HT.out i hi).1, Nat.lt_of_lt_of_le (HT.out i hi).2 hb.size⟩
  replace HU : Hid (∀ i, T i → w.heap.size ≤ i ∧ i < w6.heap.size) := fun i hi => ⟨(HU.out i hi).1, Nat.lt_of_lt_of_le (HU.out i hi).2 hb.size⟩
  replace HB := Lib.hid (HB.out.trans (hb.mono HB.out.size)); clear hb
  go_wp2_with fail
  refine ((write_c T o 2147487742 0 1 FA w6 HN (Lib.hid (fun i h => (HU.out i h).2)) (by show _ < _; decide) (by show _ < _; decide)).mono (fun _ _ h => retWr_to (ok' := true) (F' := FB) (by decide) rfl h)).mono ?_; rintro e w7 ⟨rfl, T2, hN2, ho2, hT2⟩
  replace HN := Lib.hid hN2
  replace HM := Lib.hid (HM.out.kept ho2 HST.out)
  replace HT : Hid (∀ i, S2 i → w.heap.size ≤ i ∧ i < w7.heap.size) := fun i hi => ⟨(HT.out i hi).1, Nat.lt_of_lt_of_le (HT.out i hi).2 ho2.size⟩
  replace HB := Lib.hid (below_own HB.out ho2 (fun i hi => (HU.out i hi).1) HB.out.size)
  clear hN2 ho2 hT2 HST HU
  go_wp2_with fail
  refine (pages_c S2 m FA w7 HM (by rw [pages_A]; exact sort_few 2 (by decide))).mono ?_; rintro e w8 ⟨v, rfl, hv, hb⟩
  rw [pages_A] at hv
  obtain ⟨a, c, rfl, hA⟩ := hv.open
  have HA := Lib.hid hA
  replace HM := Lib.hid (HM.out.below hb)
  replace HN := Lib.hid (HN.out.below hb)
  replace HT : Hid (∀ i, S2 i → w.heap.size ≤ i ∧ i < w8.heap.size) := fun i hi => ⟨(HT.out i hi).1, Nat.lt_of_lt_of_le (HT.out i hi).2 hb.size⟩
  replace HB := Lib.hid (HB.out.trans (hb.mono HB.out.size)); clear hb hv hA
  go_wp2_with fail
  have hbA : Below w8.heap.size w8 (w8.alloc (Obj.cells #[.int .u64 2147483648, .int .u64 2147487744] 30)) := Below.alloc (Below.refl _ _) (Nat.le_refl _) _
  have hlist : Hid (IsA (w8.alloc (Obj.cells #[.int .u64 2147483648, .int .u64 2147487744] 30)) (some ⟨w8.heap.size, 0, none⟩) [2147483648, 2147487744]) := fun _ => ⟨_, rfl, by simp, fun i hi => by
    have hi' : i < 2 := hi
    have : i = 0 ∨ i = 1 := by omega
    rcases this with rfl | rfl
    · exact ⟨by rw [World.cell?_alloc_at _ _ _ _ rfl]; rfl, by rw [World.frozen?_alloc_at _ _ _ _ rfl]⟩
    · exact ⟨by rw [World.cell?_alloc_at _ _ _ _ rfl]; rfl, by rw [World.frozen?_alloc_at _ _ _ _ rfl]⟩⟩
  refine ((list_c a (some ⟨w8.heap.size, 0, none⟩) 2 2 c 2 [2147483648, 2147487744] [2147483648, 2147487744] _ rfl rfl (Lib.hid (HA.out.below hbA)) hlist (by show _ < _; decide)).mono (fun _ _ h => retB_to (x' := true) (by decide) h)).mono ?_; rintro e w9 ⟨rfl, hb9⟩
  have hb : Below w8.heap.size w8 w9 := hbA.trans (hb9.mono (by rw [sz_alloc]; omega))
  replace HM := Lib.hid (HM.out.below hb)
  replace HN := Lib.hid (HN.out.below hb)
  replace HT : Hid (∀ i, S2 i → w.heap.size ≤ i ∧ i < w9.heap.size) := fun i hi => ⟨(HT.out i hi).1, Nat.lt_of_lt_of_le (HT.out i hi).2 hb.size⟩
  replace HB := Lib.hid (HB.out.trans (hb.mono HB.out.size)); clear hb hb9 hbA hlist HA
  go_wp2_with fail
  refine ((same_c S2 T2 m o FA FB w9 HM HN).mono (fun _ _ h => retB_to (x' := false) same_AB h)).mono ?_; rintro e w10 ⟨rfl, hb⟩
  replace HM := Lib.hid (HM.out.below hb)
  replace HT : Hid (∀ i, S2 i → w.heap.size ≤ i ∧ i < w10.heap.size) := fun i hi => ⟨(HT.out i hi).1, Nat.lt_of_lt_of_le (HT.out i hi).2 hb.size⟩
  replace HB := Lib.hid (HB.out.trans (hb.mono HB.out.size)); clear hb
  go_wp2_with fail
  refine ((has_c _ 2148532216 (by show _ < _; decide) 8 w10).mono (fun _ _ h => retB_to (x' := true) (by decide) h)).mono ?_; rintro e w11 ⟨rfl, hb⟩
  replace HM := Lib.hid (HM.out.below hb)
  replace HT : Hid (∀ i, S2 i → w.heap.size ≤ i ∧ i < w11.heap.size) := fun i hi => ⟨(HT.out i hi).1, Nat.lt_of_lt_of_le (HT.out i hi).2 hb.size⟩
  replace HB := Lib.hid (HB.out.trans (hb.mono HB.out.size)); clear hb
  go_wp2_with fail
  refine ((has_c _ 2148532217 (by show _ < _; decide) 8 w11).mono (fun _ _ h => retB_to (x' := false) (by decide) h)).mono ?_; rintro e w12 ⟨rfl, hb⟩
  replace HM := Lib.hid (HM.out.below hb)
  replace HT : Hid (∀ i, S2 i → w.heap.size ≤ i ∧ i < w12.heap.size) := fun i hi => ⟨(HT.out i hi).1, Nat.lt_of_lt_of_le (HT.out i hi).2 hb.size⟩
  replace HB := Lib.hid (HB.out.trans (hb.mono HB.out.size)); clear hb
  go_wp2_with fail
  have hbA : Below w12.heap.size w12 (w12.alloc (Obj.cells #[.int .u8 1] 5)) := Below.alloc (Below.refl _ _) (Nat.le_refl _) _
  refine (lay_c S2 m w12.heap.size 0 1 1 FA (fun _ => 1) _ (Lib.hid (HM.out.below hbA)) (Lib.hid (fun i hi => by rw [sz_alloc]; have := (HT.out i hi).2; omega)) (Lib.hid ⟨by rw [sz_alloc]; omega, fun h => by have := (HT.out _ h).2; omega⟩) (by show _ ≤ _; decide) (by show _ ≤ _; decide) (Lib.hid (fun i hi => by
    obtain rfl : i = 0 := by omega
    rw [World.cell?_alloc_at _ _ _ _ rfl]; rfl))).mono ?_; rintro e w13 ⟨rfl, S3, hM3, ho3, hS3⟩
  have HB13 : Hid (Below w.heap.size w w13) := below_own (HB.out.trans (hbA.mono HB.out.size)) ho3 (fun i hi => (HT.out i hi).1) (by rw [sz_alloc]; have := HB.out.size; omega)
  clear hbA hM3 ho3 hS3
  go_wp2_with fail
  go_ret
  exact retB_mk rfl HB13.out
end Go.Proofs.Ytibgdlianedcbaa
