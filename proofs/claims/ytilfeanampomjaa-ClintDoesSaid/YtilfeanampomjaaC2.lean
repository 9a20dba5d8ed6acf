/- The walk of ClintPlaces. -/
import Derived.Test.YtilfeanampomjaaF1
import Derived.Test.YtilfeanampomjaaF2
namespace Go.Proofs.Ytilfeanampomjaa
open Go.ChangeShapes Go.WideShapes Go.ChangeAt Go.RowKit
set_option linter.unusedVariables false
set_option linter.unusedSimpArgs false
theorem rdlo (x v : Nat) : loW x v % 4294967296 = v % 4294967296 := by unfold loW; omega
theorem rdhi (x v : Nat) : hiW x v / 4294967296 = v % 4294967296 := by unfold hiW; omega
theorem now_1 (s a t v : Nat) : rdK 1 (wrS 1 s v) (wrA 1 a v) (wrT 1 t v) = v % 2 := by simp [rdK, wrS, wrA, wrT, rdlo, rdhi]
theorem now_2 (s a t v : Nat) : rdK 2 (wrS 2 s v) (wrA 2 a v) (wrT 2 t v) = v := by simp [rdK, wrS, wrA, wrT, rdlo, rdhi]
theorem now_3 (s a t v : Nat) : rdK 3 (wrS 3 s v) (wrA 3 a v) (wrT 3 t v) = v % 4294967296 := by simp [rdK, wrS, wrA, wrT, rdlo, rdhi]
theorem now_4 (s a t v : Nat) : rdK 4 (wrS 4 s v) (wrA 4 a v) (wrT 4 t v) = v % 4294967296 := by simp [rdK, wrS, wrA, wrT, rdlo, rdhi]
theorem now_5 (s a t v : Nat) : rdK 5 (wrS 5 s v) (wrA 5 a v) (wrT 5 t v) = v := by simp [rdK, wrS, wrA, wrT, rdlo, rdhi]
theorem now_6 (s a t v : Nat) : rdK 6 (wrS 6 s v) (wrA 6 a v) (wrT 6 t v) = v % 4294967296 := by simp [rdK, wrS, wrA, wrT, rdlo, rdhi]
theorem now_7 (s a t v : Nat) : rdK 7 (wrS 7 s v) (wrA 7 a v) (wrT 7 t v) = v % 4294967296 := by simp [rdK, wrS, wrA, wrT, rdlo, rdhi]
def NoP (x : Nat) (p : Int) : Prop := ¬ (x = 0 ∧ p = 4) ∧ ¬ (x = 16384 ∧ p = 8) ∧ ¬ (x = 16384 ∧ p = 4) ∧ ¬ (x = 16388 ∧ p = 4) ∧ ¬ (x = 49144 ∧ p = 8) ∧ ¬ (x = 49144 ∧ p = 4) ∧ ¬ (x = 49148 ∧ p = 4)
theorem read_n (w : World) (b s a t : Nat) (h : IsC w b s a t) (hs : s < 2) (ha : a < 18446744073709551616) (ht : t < 18446744073709551616) (at_ : Nat) (sz : Int) (hx : at_ < 18446744073709551616) (hz : (Lit.int .i64 sz).wf = true) (hn : NoP at_ sz) : Calls Try.prog 13 #[.pointer (some ⟨b, 0, none⟩), .int .u64 at_, .int .i64 sz] w (RetR 0 false w) := read_0 w b s a t h hs ha ht at_ sz hx hz hn.1 hn.2.1 hn.2.2.1 hn.2.2.2.1 hn.2.2.2.2.1 hn.2.2.2.2.2.1 hn.2.2.2.2.2.2
theorem write_n (w : World) (b s a t : Nat) (h : IsC w b s a t) (hs : s < 2) (ha : a < 18446744073709551616) (ht : t < 18446744073709551616) (v : Nat) (hv : v < 18446744073709551616) (at_ : Nat) (sz : Int) (hx : at_ < 18446744073709551616) (hz : (Lit.int .i64 sz).wf = true) (hn : NoP at_ sz) : Calls Try.prog 11 #[.pointer (some ⟨b, 0, none⟩), .int .u64 at_, .int .i64 sz, .int .u64 v] w (RetW false b s a t w) := write_0 w b s a t h hs ha ht v hv at_ sz hx hz hn.1 hn.2.1 hn.2.2.1 hn.2.2.2.1 hn.2.2.2.2.1 hn.2.2.2.2.2.1 hn.2.2.2.2.2.2
set_option maxRecDepth 100000 in
theorem places_1 (v t a : Nat) (hv : Hid (v < 18446744073709551616)) (ht : Hid (t < 18446744073709551616)) (ha : Hid (a < 18446744073709551616)) (w : World) : Calls Try.prog 6 #[.int .u64 0, .int .i64 4, .int .u64 v, .int .u64 t, .int .u64 a] w (RetB true w) := by
  obtain ⟨o, ho⟩ : ∃ o : Nat, 0 = o := ⟨_, rfl⟩
  have HO := Lib.hid ho; clear ho
  obtain ⟨n, hn⟩ : ∃ n, v % 2 = n := ⟨_, rfl⟩
  have E1 : bits .and .u64 (v : Int) 1 = (n : Int) := by rw [and1 v hv.out, hn]
  have HN := Lib.hid hn; clear hn
  go_enter Try.func6, Try.ntmps6
  go_wp2_with fail
  refine (fixed_c _).mono ?_; rintro e0 w1 ⟨rfl, bq⟩
  have HB := Lib.hid bq; clear bq
  go_wp2_with fail
  refine (new_c _).mono ?_; rintro e0 w2 ⟨c, rfl, gc, hc, bq⟩
  have Gc : Hid (w.heap.size ≤ c) := Nat.le_trans HB.out.size gc
  have Hc := Lib.hid hc; clear gc hc
  replace HB := Lib.hid (HB.out.trans (bq.mono HB.out.size)); clear bq
  go_wp2_with fail
  refine ((write_5 _ c 0 18446744073709551615 0 Hc.out (by decide) (by decide) (by decide) t ht.out).mono (fun _ _ h => retW_to (x' := 0) (y' := 18446744073709551615) (z' := t) rfl rfl rfl h)).mono ?_; rintro e0 w3 ⟨rfl, h1, hg⟩
  replace Hc : Hid (IsC w3 c (0) (18446744073709551615) (t)) := h1; clear h1
  replace HB := Lib.hid (HB.out.grown hg HB.out.size (fun k hk => by cases hk; exact Gc.out)); clear hg
  go_wp2_with fail
  refine ((write_2 _ c 0 18446744073709551615 t Hc.out (by decide) (by decide) ht.out a ha.out).mono (fun _ _ h => retW_to (x' := 0) (y' := a) (z' := t) rfl rfl rfl h)).mono ?_; rintro e0 w4 ⟨rfl, h1, hg⟩
  replace Hc : Hid (IsC w4 c (0) (a) (t)) := h1; clear h1
  replace HB := Lib.hid (HB.out.grown hg HB.out.size (fun k hk => by cases hk; exact Gc.out)); clear hg
  go_wp2_with fail
  refine ((read_1 _ c 0 a t Hc.out (by decide) ha.out ht.out).mono (fun _ _ h => retR_to (n' := o) HO.out h)).mono ?_; rintro e0 w5 ⟨rfl, bq⟩
  replace Hc := Lib.hid (Hc.out.below bq)
  replace HB := Lib.hid (HB.out.trans (bq.mono HB.out.size)); clear bq
  go_wp2_with fail
  refine (write_1 _ c 0 a t Hc.out (by decide) ha.out ht.out v hv.out).mono ?_; rintro e0 w6 ⟨rfl, h1, hg⟩
  replace Hc : Hid (IsC w6 c (wrS 1 0 v) (wrA 1 a v) (wrT 1 t v)) := h1; clear h1
  replace HB := Lib.hid (HB.out.grown hg HB.out.size (fun k hk => by cases hk; exact Gc.out)); clear hg
  go_wp2_with fail
  refine ((read_1 _ c (wrS 1 0 v) (wrA 1 a v) (wrT 1 t v) Hc.out (wrS_lt 1 0 v (by decide)) (wrA_lt 1 a v ha.out hv.out) (wrT_lt 1 t v ht.out hv.out)).mono (fun _ _ h => retR_to (n' := n) (Eq.trans (now_1 _ _ _ _) HN.out) h)).mono ?_; rintro e0 w7 ⟨rfl, bq⟩
  replace Hc := Lib.hid (Hc.out.below bq)
  replace HB := Lib.hid (HB.out.trans (bq.mono HB.out.size)); clear bq
  go_wp2_with fail
  refine (read_2 _ c (wrS 1 0 v) (wrA 1 a v) (wrT 1 t v) Hc.out (wrS_lt 1 0 v (by decide)) (wrA_lt 1 a v ha.out hv.out) (wrT_lt 1 t v ht.out hv.out)).mono ?_; rintro e0 w8 ⟨rfl, bq⟩
  replace Hc := Lib.hid (Hc.out.below bq)
  replace HB := Lib.hid (HB.out.trans (bq.mono HB.out.size)); clear bq
  go_wp2_with fail
  refine (read_1 _ c (wrS 1 0 v) (wrA 1 a v) (wrT 1 t v) Hc.out (wrS_lt 1 0 v (by decide)) (wrA_lt 1 a v ha.out hv.out) (wrT_lt 1 t v ht.out hv.out)).mono ?_; rintro e0 w9 ⟨rfl, bq⟩
  replace Hc := Lib.hid (Hc.out.below bq)
  replace HB := Lib.hid (HB.out.trans (bq.mono HB.out.size)); clear bq
  go_wp2_with fail
  go_ret
  exact retB_mk rfl HB.out
set_option maxRecDepth 100000 in
theorem places_2 (v t a : Nat) (hv : Hid (v < 18446744073709551616)) (ht : Hid (t < 18446744073709551616)) (ha : Hid (a < 18446744073709551616)) (w : World) : Calls Try.prog 6 #[.int .u64 16384, .int .i64 8, .int .u64 v, .int .u64 t, .int .u64 a] w (RetB true w) := by
  obtain ⟨o, ho⟩ : ∃ o, a = o := ⟨_, rfl⟩
  have HO := Lib.hid ho; clear ho
  obtain ⟨n, hn⟩ : ∃ n, v = n := ⟨_, rfl⟩
  have E1 : v = n := hn
  have HN := Lib.hid hn; clear hn
  subst E1
  go_enter Try.func6, Try.ntmps6
  go_wp2_with fail
  refine (fixed_c _).mono ?_; rintro e0 w1 ⟨rfl, bq⟩
  have HB := Lib.hid bq; clear bq
  go_wp2_with fail
  refine (new_c _).mono ?_; rintro e0 w2 ⟨c, rfl, gc, hc, bq⟩
  have Gc : Hid (w.heap.size ≤ c) := Nat.le_trans HB.out.size gc
  have Hc := Lib.hid hc; clear gc hc
  replace HB := Lib.hid (HB.out.trans (bq.mono HB.out.size)); clear bq
  go_wp2_with fail
  refine ((write_5 _ c 0 18446744073709551615 0 Hc.out (by decide) (by decide) (by decide) t ht.out).mono (fun _ _ h => retW_to (x' := 0) (y' := 18446744073709551615) (z' := t) rfl rfl rfl h)).mono ?_; rintro e0 w3 ⟨rfl, h1, hg⟩
  replace Hc : Hid (IsC w3 c (0) (18446744073709551615) (t)) := h1; clear h1
  replace HB := Lib.hid (HB.out.grown hg HB.out.size (fun k hk => by cases hk; exact Gc.out)); clear hg
  go_wp2_with fail
  refine ((write_2 _ c 0 18446744073709551615 t Hc.out (by decide) (by decide) ht.out a ha.out).mono (fun _ _ h => retW_to (x' := 0) (y' := a) (z' := t) rfl rfl rfl h)).mono ?_; rintro e0 w4 ⟨rfl, h1, hg⟩
  replace Hc : Hid (IsC w4 c (0) (a) (t)) := h1; clear h1
  replace HB := Lib.hid (HB.out.grown hg HB.out.size (fun k hk => by cases hk; exact Gc.out)); clear hg
  go_wp2_with fail
  refine ((read_2 _ c 0 a t Hc.out (by decide) ha.out ht.out).mono (fun _ _ h => retR_to (n' := o) HO.out h)).mono ?_; rintro e0 w5 ⟨rfl, bq⟩
  replace Hc := Lib.hid (Hc.out.below bq)
  replace HB := Lib.hid (HB.out.trans (bq.mono HB.out.size)); clear bq
  go_wp2_with fail
  refine (write_2 _ c 0 a t Hc.out (by decide) ha.out ht.out v hv.out).mono ?_; rintro e0 w6 ⟨rfl, h1, hg⟩
  replace Hc : Hid (IsC w6 c (wrS 2 0 v) (wrA 2 a v) (wrT 2 t v)) := h1; clear h1
  replace HB := Lib.hid (HB.out.grown hg HB.out.size (fun k hk => by cases hk; exact Gc.out)); clear hg
  go_wp2_with fail
  refine ((read_2 _ c (wrS 2 0 v) (wrA 2 a v) (wrT 2 t v) Hc.out (wrS_lt 2 0 v (by decide)) (wrA_lt 2 a v ha.out hv.out) (wrT_lt 2 t v ht.out hv.out)).mono (fun _ _ h => retR_to (n' := v) rfl h)).mono ?_; rintro e0 w7 ⟨rfl, bq⟩
  replace Hc := Lib.hid (Hc.out.below bq)
  replace HB := Lib.hid (HB.out.trans (bq.mono HB.out.size)); clear bq
  go_wp2_with fail
  refine (read_2 _ c (wrS 2 0 v) (wrA 2 a v) (wrT 2 t v) Hc.out (wrS_lt 2 0 v (by decide)) (wrA_lt 2 a v ha.out hv.out) (wrT_lt 2 t v ht.out hv.out)).mono ?_; rintro e0 w8 ⟨rfl, bq⟩
  replace Hc := Lib.hid (Hc.out.below bq)
  replace HB := Lib.hid (HB.out.trans (bq.mono HB.out.size)); clear bq
  go_wp2_with fail
  refine (read_1 _ c (wrS 2 0 v) (wrA 2 a v) (wrT 2 t v) Hc.out (wrS_lt 2 0 v (by decide)) (wrA_lt 2 a v ha.out hv.out) (wrT_lt 2 t v ht.out hv.out)).mono ?_; rintro e0 w9 ⟨rfl, bq⟩
  replace Hc := Lib.hid (Hc.out.below bq)
  replace HB := Lib.hid (HB.out.trans (bq.mono HB.out.size)); clear bq
  go_wp2_with fail
  go_ret
  exact retB_mk rfl HB.out
set_option maxRecDepth 100000 in
theorem places_3 (v t a : Nat) (hv : Hid (v < 18446744073709551616)) (ht : Hid (t < 18446744073709551616)) (ha : Hid (a < 18446744073709551616)) (w : World) : Calls Try.prog 6 #[.int .u64 16384, .int .i64 4, .int .u64 v, .int .u64 t, .int .u64 a] w (RetB true w) := by
  obtain ⟨o, ho⟩ : ∃ o, a % 4294967296 = o := ⟨_, rfl⟩
  have HO := Lib.hid ho; clear ho
  obtain ⟨n, hn⟩ : ∃ n, v % 4294967296 = n := ⟨_, rfl⟩
  have E1 : bits .and .u64 (v : Int) 4294967295 = (n : Int) := by rw [and32 v hv.out, hn]
  have HN := Lib.hid hn; clear hn
  go_enter Try.func6, Try.ntmps6
  go_wp2_with fail
  refine (fixed_c _).mono ?_; rintro e0 w1 ⟨rfl, bq⟩
  have HB := Lib.hid bq; clear bq
  go_wp2_with fail
  refine (new_c _).mono ?_; rintro e0 w2 ⟨c, rfl, gc, hc, bq⟩
  have Gc : Hid (w.heap.size ≤ c) := Nat.le_trans HB.out.size gc
  have Hc := Lib.hid hc; clear gc hc
  replace HB := Lib.hid (HB.out.trans (bq.mono HB.out.size)); clear bq
  go_wp2_with fail
  refine ((write_5 _ c 0 18446744073709551615 0 Hc.out (by decide) (by decide) (by decide) t ht.out).mono (fun _ _ h => retW_to (x' := 0) (y' := 18446744073709551615) (z' := t) rfl rfl rfl h)).mono ?_; rintro e0 w3 ⟨rfl, h1, hg⟩
  replace Hc : Hid (IsC w3 c (0) (18446744073709551615) (t)) := h1; clear h1
  replace HB := Lib.hid (HB.out.grown hg HB.out.size (fun k hk => by cases hk; exact Gc.out)); clear hg
  go_wp2_with fail
  refine ((write_2 _ c 0 18446744073709551615 t Hc.out (by decide) (by decide) ht.out a ha.out).mono (fun _ _ h => retW_to (x' := 0) (y' := a) (z' := t) rfl rfl rfl h)).mono ?_; rintro e0 w4 ⟨rfl, h1, hg⟩
  replace Hc : Hid (IsC w4 c (0) (a) (t)) := h1; clear h1
  replace HB := Lib.hid (HB.out.grown hg HB.out.size (fun k hk => by cases hk; exact Gc.out)); clear hg
  go_wp2_with fail
  refine ((read_3 _ c 0 a t Hc.out (by decide) ha.out ht.out).mono (fun _ _ h => retR_to (n' := o) HO.out h)).mono ?_; rintro e0 w5 ⟨rfl, bq⟩
  replace Hc := Lib.hid (Hc.out.below bq)
  replace HB := Lib.hid (HB.out.trans (bq.mono HB.out.size)); clear bq
  go_wp2_with fail
  refine (write_3 _ c 0 a t Hc.out (by decide) ha.out ht.out v hv.out).mono ?_; rintro e0 w6 ⟨rfl, h1, hg⟩
  replace Hc : Hid (IsC w6 c (wrS 3 0 v) (wrA 3 a v) (wrT 3 t v)) := h1; clear h1
  replace HB := Lib.hid (HB.out.grown hg HB.out.size (fun k hk => by cases hk; exact Gc.out)); clear hg
  go_wp2_with fail
  refine ((read_3 _ c (wrS 3 0 v) (wrA 3 a v) (wrT 3 t v) Hc.out (wrS_lt 3 0 v (by decide)) (wrA_lt 3 a v ha.out hv.out) (wrT_lt 3 t v ht.out hv.out)).mono (fun _ _ h => retR_to (n' := n) (Eq.trans (now_3 _ _ _ _) HN.out) h)).mono ?_; rintro e0 w7 ⟨rfl, bq⟩
  replace Hc := Lib.hid (Hc.out.below bq)
  replace HB := Lib.hid (HB.out.trans (bq.mono HB.out.size)); clear bq
  go_wp2_with fail
  refine (read_2 _ c (wrS 3 0 v) (wrA 3 a v) (wrT 3 t v) Hc.out (wrS_lt 3 0 v (by decide)) (wrA_lt 3 a v ha.out hv.out) (wrT_lt 3 t v ht.out hv.out)).mono ?_; rintro e0 w8 ⟨rfl, bq⟩
  replace Hc := Lib.hid (Hc.out.below bq)
  replace HB := Lib.hid (HB.out.trans (bq.mono HB.out.size)); clear bq
  go_wp2_with fail
  refine (read_1 _ c (wrS 3 0 v) (wrA 3 a v) (wrT 3 t v) Hc.out (wrS_lt 3 0 v (by decide)) (wrA_lt 3 a v ha.out hv.out) (wrT_lt 3 t v ht.out hv.out)).mono ?_; rintro e0 w9 ⟨rfl, bq⟩
  replace Hc := Lib.hid (Hc.out.below bq)
  replace HB := Lib.hid (HB.out.trans (bq.mono HB.out.size)); clear bq
  go_wp2_with fail
  go_ret
  exact retB_mk rfl HB.out
set_option maxRecDepth 100000 in
theorem places_4 (v t a : Nat) (hv : Hid (v < 18446744073709551616)) (ht : Hid (t < 18446744073709551616)) (ha : Hid (a < 18446744073709551616)) (w : World) : Calls Try.prog 6 #[.int .u64 16388, .int .i64 4, .int .u64 v, .int .u64 t, .int .u64 a] w (RetB true w) := by
  obtain ⟨o, ho⟩ : ∃ o, a / 4294967296 = o := ⟨_, rfl⟩
  have HO := Lib.hid ho; clear ho
  obtain ⟨n, hn⟩ : ∃ n, v % 4294967296 = n := ⟨_, rfl⟩
  have E1 : bits .and .u64 (v : Int) 4294967295 = (n : Int) := by rw [and32 v hv.out, hn]
  have HN := Lib.hid hn; clear hn
  go_enter Try.func6, Try.ntmps6
  go_wp2_with fail
  refine (fixed_c _).mono ?_; rintro e0 w1 ⟨rfl, bq⟩
  have HB := Lib.hid bq; clear bq
  go_wp2_with fail
  refine (new_c _).mono ?_; rintro e0 w2 ⟨c, rfl, gc, hc, bq⟩
  have Gc : Hid (w.heap.size ≤ c) := Nat.le_trans HB.out.size gc
  have Hc := Lib.hid hc; clear gc hc
  replace HB := Lib.hid (HB.out.trans (bq.mono HB.out.size)); clear bq
  go_wp2_with fail
  refine ((write_5 _ c 0 18446744073709551615 0 Hc.out (by decide) (by decide) (by decide) t ht.out).mono (fun _ _ h => retW_to (x' := 0) (y' := 18446744073709551615) (z' := t) rfl rfl rfl h)).mono ?_; rintro e0 w3 ⟨rfl, h1, hg⟩
  replace Hc : Hid (IsC w3 c (0) (18446744073709551615) (t)) := h1; clear h1
  replace HB := Lib.hid (HB.out.grown hg HB.out.size (fun k hk => by cases hk; exact Gc.out)); clear hg
  go_wp2_with fail
  refine ((write_2 _ c 0 18446744073709551615 t Hc.out (by decide) (by decide) ht.out a ha.out).mono (fun _ _ h => retW_to (x' := 0) (y' := a) (z' := t) rfl rfl rfl h)).mono ?_; rintro e0 w4 ⟨rfl, h1, hg⟩
  replace Hc : Hid (IsC w4 c (0) (a) (t)) := h1; clear h1
  replace HB := Lib.hid (HB.out.grown hg HB.out.size (fun k hk => by cases hk; exact Gc.out)); clear hg
  go_wp2_with fail
  refine ((read_4 _ c 0 a t Hc.out (by decide) ha.out ht.out).mono (fun _ _ h => retR_to (n' := o) HO.out h)).mono ?_; rintro e0 w5 ⟨rfl, bq⟩
  replace Hc := Lib.hid (Hc.out.below bq)
  replace HB := Lib.hid (HB.out.trans (bq.mono HB.out.size)); clear bq
  go_wp2_with fail
  refine (write_4 _ c 0 a t Hc.out (by decide) ha.out ht.out v hv.out).mono ?_; rintro e0 w6 ⟨rfl, h1, hg⟩
  replace Hc : Hid (IsC w6 c (wrS 4 0 v) (wrA 4 a v) (wrT 4 t v)) := h1; clear h1
  replace HB := Lib.hid (HB.out.grown hg HB.out.size (fun k hk => by cases hk; exact Gc.out)); clear hg
  go_wp2_with fail
  refine ((read_4 _ c (wrS 4 0 v) (wrA 4 a v) (wrT 4 t v) Hc.out (wrS_lt 4 0 v (by decide)) (wrA_lt 4 a v ha.out hv.out) (wrT_lt 4 t v ht.out hv.out)).mono (fun _ _ h => retR_to (n' := n) (Eq.trans (now_4 _ _ _ _) HN.out) h)).mono ?_; rintro e0 w7 ⟨rfl, bq⟩
  replace Hc := Lib.hid (Hc.out.below bq)
  replace HB := Lib.hid (HB.out.trans (bq.mono HB.out.size)); clear bq
  go_wp2_with fail
  refine (read_2 _ c (wrS 4 0 v) (wrA 4 a v) (wrT 4 t v) Hc.out (wrS_lt 4 0 v (by decide)) (wrA_lt 4 a v ha.out hv.out) (wrT_lt 4 t v ht.out hv.out)).mono ?_; rintro e0 w8 ⟨rfl, bq⟩
  replace Hc := Lib.hid (Hc.out.below bq)
  replace HB := Lib.hid (HB.out.trans (bq.mono HB.out.size)); clear bq
  go_wp2_with fail
  refine (read_1 _ c (wrS 4 0 v) (wrA 4 a v) (wrT 4 t v) Hc.out (wrS_lt 4 0 v (by decide)) (wrA_lt 4 a v ha.out hv.out) (wrT_lt 4 t v ht.out hv.out)).mono ?_; rintro e0 w9 ⟨rfl, bq⟩
  replace Hc := Lib.hid (Hc.out.below bq)
  replace HB := Lib.hid (HB.out.trans (bq.mono HB.out.size)); clear bq
  go_wp2_with fail
  go_ret
  exact retB_mk rfl HB.out
set_option maxRecDepth 100000 in
theorem places_5 (v t a : Nat) (hv : Hid (v < 18446744073709551616)) (ht : Hid (t < 18446744073709551616)) (ha : Hid (a < 18446744073709551616)) (w : World) : Calls Try.prog 6 #[.int .u64 49144, .int .i64 8, .int .u64 v, .int .u64 t, .int .u64 a] w (RetB true w) := by
  obtain ⟨o, ho⟩ : ∃ o, t = o := ⟨_, rfl⟩
  have HO := Lib.hid ho; clear ho
  obtain ⟨n, hn⟩ : ∃ n, v = n := ⟨_, rfl⟩
  have E1 : v = n := hn
  have HN := Lib.hid hn; clear hn
  subst E1
  go_enter Try.func6, Try.ntmps6
  go_wp2_with fail
  refine (fixed_c _).mono ?_; rintro e0 w1 ⟨rfl, bq⟩
  have HB := Lib.hid bq; clear bq
  go_wp2_with fail
  refine (new_c _).mono ?_; rintro e0 w2 ⟨c, rfl, gc, hc, bq⟩
  have Gc : Hid (w.heap.size ≤ c) := Nat.le_trans HB.out.size gc
  have Hc := Lib.hid hc; clear gc hc
  replace HB := Lib.hid (HB.out.trans (bq.mono HB.out.size)); clear bq
  go_wp2_with fail
  refine ((write_5 _ c 0 18446744073709551615 0 Hc.out (by decide) (by decide) (by decide) t ht.out).mono (fun _ _ h => retW_to (x' := 0) (y' := 18446744073709551615) (z' := t) rfl rfl rfl h)).mono ?_; rintro e0 w3 ⟨rfl, h1, hg⟩
  replace Hc : Hid (IsC w3 c (0) (18446744073709551615) (t)) := h1; clear h1
  replace HB := Lib.hid (HB.out.grown hg HB.out.size (fun k hk => by cases hk; exact Gc.out)); clear hg
  go_wp2_with fail
  refine ((write_2 _ c 0 18446744073709551615 t Hc.out (by decide) (by decide) ht.out a ha.out).mono (fun _ _ h => retW_to (x' := 0) (y' := a) (z' := t) rfl rfl rfl h)).mono ?_; rintro e0 w4 ⟨rfl, h1, hg⟩
  replace Hc : Hid (IsC w4 c (0) (a) (t)) := h1; clear h1
  replace HB := Lib.hid (HB.out.grown hg HB.out.size (fun k hk => by cases hk; exact Gc.out)); clear hg
  go_wp2_with fail
  refine ((read_5 _ c 0 a t Hc.out (by decide) ha.out ht.out).mono (fun _ _ h => retR_to (n' := o) HO.out h)).mono ?_; rintro e0 w5 ⟨rfl, bq⟩
  replace Hc := Lib.hid (Hc.out.below bq)
  replace HB := Lib.hid (HB.out.trans (bq.mono HB.out.size)); clear bq
  go_wp2_with fail
  refine (write_5 _ c 0 a t Hc.out (by decide) ha.out ht.out v hv.out).mono ?_; rintro e0 w6 ⟨rfl, h1, hg⟩
  replace Hc : Hid (IsC w6 c (wrS 5 0 v) (wrA 5 a v) (wrT 5 t v)) := h1; clear h1
  replace HB := Lib.hid (HB.out.grown hg HB.out.size (fun k hk => by cases hk; exact Gc.out)); clear hg
  go_wp2_with fail
  refine ((read_5 _ c (wrS 5 0 v) (wrA 5 a v) (wrT 5 t v) Hc.out (wrS_lt 5 0 v (by decide)) (wrA_lt 5 a v ha.out hv.out) (wrT_lt 5 t v ht.out hv.out)).mono (fun _ _ h => retR_to (n' := v) rfl h)).mono ?_; rintro e0 w7 ⟨rfl, bq⟩
  replace Hc := Lib.hid (Hc.out.below bq)
  replace HB := Lib.hid (HB.out.trans (bq.mono HB.out.size)); clear bq
  go_wp2_with fail
  refine (read_2 _ c (wrS 5 0 v) (wrA 5 a v) (wrT 5 t v) Hc.out (wrS_lt 5 0 v (by decide)) (wrA_lt 5 a v ha.out hv.out) (wrT_lt 5 t v ht.out hv.out)).mono ?_; rintro e0 w8 ⟨rfl, bq⟩
  replace Hc := Lib.hid (Hc.out.below bq)
  replace HB := Lib.hid (HB.out.trans (bq.mono HB.out.size)); clear bq
  go_wp2_with fail
  refine (read_1 _ c (wrS 5 0 v) (wrA 5 a v) (wrT 5 t v) Hc.out (wrS_lt 5 0 v (by decide)) (wrA_lt 5 a v ha.out hv.out) (wrT_lt 5 t v ht.out hv.out)).mono ?_; rintro e0 w9 ⟨rfl, bq⟩
  replace Hc := Lib.hid (Hc.out.below bq)
  replace HB := Lib.hid (HB.out.trans (bq.mono HB.out.size)); clear bq
  go_wp2_with fail
  go_ret
  exact retB_mk rfl HB.out
set_option maxRecDepth 100000 in
theorem places_6 (v t a : Nat) (hv : Hid (v < 18446744073709551616)) (ht : Hid (t < 18446744073709551616)) (ha : Hid (a < 18446744073709551616)) (w : World) : Calls Try.prog 6 #[.int .u64 49144, .int .i64 4, .int .u64 v, .int .u64 t, .int .u64 a] w (RetB true w) := by
  obtain ⟨o, ho⟩ : ∃ o, t % 4294967296 = o := ⟨_, rfl⟩
  have HO := Lib.hid ho; clear ho
  obtain ⟨n, hn⟩ : ∃ n, v % 4294967296 = n := ⟨_, rfl⟩
  have E1 : bits .and .u64 (v : Int) 4294967295 = (n : Int) := by rw [and32 v hv.out, hn]
  have HN := Lib.hid hn; clear hn
  go_enter Try.func6, Try.ntmps6
  go_wp2_with fail
  refine (fixed_c _).mono ?_; rintro e0 w1 ⟨rfl, bq⟩
  have HB := Lib.hid bq; clear bq
  go_wp2_with fail
  refine (new_c _).mono ?_; rintro e0 w2 ⟨c, rfl, gc, hc, bq⟩
  have Gc : Hid (w.heap.size ≤ c) := Nat.le_trans HB.out.size gc
  have Hc := Lib.hid hc; clear gc hc
  replace HB := Lib.hid (HB.out.trans (bq.mono HB.out.size)); clear bq
  go_wp2_with fail
  refine ((write_5 _ c 0 18446744073709551615 0 Hc.out (by decide) (by decide) (by decide) t ht.out).mono (fun _ _ h => retW_to (x' := 0) (y' := 18446744073709551615) (z' := t) rfl rfl rfl h)).mono ?_; rintro e0 w3 ⟨rfl, h1, hg⟩
  replace Hc : Hid (IsC w3 c (0) (18446744073709551615) (t)) := h1; clear h1
  replace HB := Lib.hid (HB.out.grown hg HB.out.size (fun k hk => by cases hk; exact Gc.out)); clear hg
  go_wp2_with fail
  refine ((write_2 _ c 0 18446744073709551615 t Hc.out (by decide) (by decide) ht.out a ha.out).mono (fun _ _ h => retW_to (x' := 0) (y' := a) (z' := t) rfl rfl rfl h)).mono ?_; rintro e0 w4 ⟨rfl, h1, hg⟩
  replace Hc : Hid (IsC w4 c (0) (a) (t)) := h1; clear h1
  replace HB := Lib.hid (HB.out.grown hg HB.out.size (fun k hk => by cases hk; exact Gc.out)); clear hg
  go_wp2_with fail
  refine ((read_6 _ c 0 a t Hc.out (by decide) ha.out ht.out).mono (fun _ _ h => retR_to (n' := o) HO.out h)).mono ?_; rintro e0 w5 ⟨rfl, bq⟩
  replace Hc := Lib.hid (Hc.out.below bq)
  replace HB := Lib.hid (HB.out.trans (bq.mono HB.out.size)); clear bq
  go_wp2_with fail
  refine (write_6 _ c 0 a t Hc.out (by decide) ha.out ht.out v hv.out).mono ?_; rintro e0 w6 ⟨rfl, h1, hg⟩
  replace Hc : Hid (IsC w6 c (wrS 6 0 v) (wrA 6 a v) (wrT 6 t v)) := h1; clear h1
  replace HB := Lib.hid (HB.out.grown hg HB.out.size (fun k hk => by cases hk; exact Gc.out)); clear hg
  go_wp2_with fail
  refine ((read_6 _ c (wrS 6 0 v) (wrA 6 a v) (wrT 6 t v) Hc.out (wrS_lt 6 0 v (by decide)) (wrA_lt 6 a v ha.out hv.out) (wrT_lt 6 t v ht.out hv.out)).mono (fun _ _ h => retR_to (n' := n) (Eq.trans (now_6 _ _ _ _) HN.out) h)).mono ?_; rintro e0 w7 ⟨rfl, bq⟩
  replace Hc := Lib.hid (Hc.out.below bq)
  replace HB := Lib.hid (HB.out.trans (bq.mono HB.out.size)); clear bq
  go_wp2_with fail
  refine (read_2 _ c (wrS 6 0 v) (wrA 6 a v) (wrT 6 t v) Hc.out (wrS_lt 6 0 v (by decide)) (wrA_lt 6 a v ha.out hv.out) (wrT_lt 6 t v ht.out hv.out)).mono ?_; rintro e0 w8 ⟨rfl, bq⟩
  replace Hc := Lib.hid (Hc.out.below bq)
  replace HB := Lib.hid (HB.out.trans (bq.mono HB.out.size)); clear bq
  go_wp2_with fail
  refine (read_1 _ c (wrS 6 0 v) (wrA 6 a v) (wrT 6 t v) Hc.out (wrS_lt 6 0 v (by decide)) (wrA_lt 6 a v ha.out hv.out) (wrT_lt 6 t v ht.out hv.out)).mono ?_; rintro e0 w9 ⟨rfl, bq⟩
  replace Hc := Lib.hid (Hc.out.below bq)
  replace HB := Lib.hid (HB.out.trans (bq.mono HB.out.size)); clear bq
  go_wp2_with fail
  go_ret
  exact retB_mk rfl HB.out
set_option maxRecDepth 100000 in
theorem places_7 (v t a : Nat) (hv : Hid (v < 18446744073709551616)) (ht : Hid (t < 18446744073709551616)) (ha : Hid (a < 18446744073709551616)) (w : World) : Calls Try.prog 6 #[.int .u64 49148, .int .i64 4, .int .u64 v, .int .u64 t, .int .u64 a] w (RetB true w) := by
  obtain ⟨o, ho⟩ : ∃ o, t / 4294967296 = o := ⟨_, rfl⟩
  have HO := Lib.hid ho; clear ho
  obtain ⟨n, hn⟩ : ∃ n, v % 4294967296 = n := ⟨_, rfl⟩
  have E1 : bits .and .u64 (v : Int) 4294967295 = (n : Int) := by rw [and32 v hv.out, hn]
  have HN := Lib.hid hn; clear hn
  go_enter Try.func6, Try.ntmps6
  go_wp2_with fail
  refine (fixed_c _).mono ?_; rintro e0 w1 ⟨rfl, bq⟩
  have HB := Lib.hid bq; clear bq
  go_wp2_with fail
  refine (new_c _).mono ?_; rintro e0 w2 ⟨c, rfl, gc, hc, bq⟩
  have Gc : Hid (w.heap.size ≤ c) := Nat.le_trans HB.out.size gc
  have Hc := Lib.hid hc; clear gc hc
  replace HB := Lib.hid (HB.out.trans (bq.mono HB.out.size)); clear bq
  go_wp2_with fail
  refine ((write_5 _ c 0 18446744073709551615 0 Hc.out (by decide) (by decide) (by decide) t ht.out).mono (fun _ _ h => retW_to (x' := 0) (y' := 18446744073709551615) (z' := t) rfl rfl rfl h)).mono ?_; rintro e0 w3 ⟨rfl, h1, hg⟩
  replace Hc : Hid (IsC w3 c (0) (18446744073709551615) (t)) := h1; clear h1
  replace HB := Lib.hid (HB.out.grown hg HB.out.size (fun k hk => by cases hk; exact Gc.out)); clear hg
  go_wp2_with fail
  refine ((write_2 _ c 0 18446744073709551615 t Hc.out (by decide) (by decide) ht.out a ha.out).mono (fun _ _ h => retW_to (x' := 0) (y' := a) (z' := t) rfl rfl rfl h)).mono ?_; rintro e0 w4 ⟨rfl, h1, hg⟩
  replace Hc : Hid (IsC w4 c (0) (a) (t)) := h1; clear h1
  replace HB := Lib.hid (HB.out.grown hg HB.out.size (fun k hk => by cases hk; exact Gc.out)); clear hg
  go_wp2_with fail
  refine ((read_7 _ c 0 a t Hc.out (by decide) ha.out ht.out).mono (fun _ _ h => retR_to (n' := o) HO.out h)).mono ?_; rintro e0 w5 ⟨rfl, bq⟩
  replace Hc := Lib.hid (Hc.out.below bq)
  replace HB := Lib.hid (HB.out.trans (bq.mono HB.out.size)); clear bq
  go_wp2_with fail
  refine (write_7 _ c 0 a t Hc.out (by decide) ha.out ht.out v hv.out).mono ?_; rintro e0 w6 ⟨rfl, h1, hg⟩
  replace Hc : Hid (IsC w6 c (wrS 7 0 v) (wrA 7 a v) (wrT 7 t v)) := h1; clear h1
  replace HB := Lib.hid (HB.out.grown hg HB.out.size (fun k hk => by cases hk; exact Gc.out)); clear hg
  go_wp2_with fail
  refine ((read_7 _ c (wrS 7 0 v) (wrA 7 a v) (wrT 7 t v) Hc.out (wrS_lt 7 0 v (by decide)) (wrA_lt 7 a v ha.out hv.out) (wrT_lt 7 t v ht.out hv.out)).mono (fun _ _ h => retR_to (n' := n) (Eq.trans (now_7 _ _ _ _) HN.out) h)).mono ?_; rintro e0 w7 ⟨rfl, bq⟩
  replace Hc := Lib.hid (Hc.out.below bq)
  replace HB := Lib.hid (HB.out.trans (bq.mono HB.out.size)); clear bq
  go_wp2_with fail
  refine (read_2 _ c (wrS 7 0 v) (wrA 7 a v) (wrT 7 t v) Hc.out (wrS_lt 7 0 v (by decide)) (wrA_lt 7 a v ha.out hv.out) (wrT_lt 7 t v ht.out hv.out)).mono ?_; rintro e0 w8 ⟨rfl, bq⟩
  replace Hc := Lib.hid (Hc.out.below bq)
  replace HB := Lib.hid (HB.out.trans (bq.mono HB.out.size)); clear bq
  go_wp2_with fail
  refine (read_1 _ c (wrS 7 0 v) (wrA 7 a v) (wrT 7 t v) Hc.out (wrS_lt 7 0 v (by decide)) (wrA_lt 7 a v ha.out hv.out) (wrT_lt 7 t v ht.out hv.out)).mono ?_; rintro e0 w9 ⟨rfl, bq⟩
  replace Hc := Lib.hid (Hc.out.below bq)
  replace HB := Lib.hid (HB.out.trans (bq.mono HB.out.size)); clear bq
  go_wp2_with fail
  go_ret
  exact retB_mk rfl HB.out
set_option maxRecDepth 100000 in
theorem places_0 (at_ : Nat) (sz : Int) (hx : Hid (at_ < 18446744073709551616)) (hz : Hid ((Lit.int .i64 sz).wf = true)) (n0 : ¬ (at_ = 0 ∧ sz = 4)) (n1 : ¬ (at_ = 16384 ∧ sz = 8)) (n2 : ¬ (at_ = 16384 ∧ sz = 4)) (n3 : ¬ (at_ = 16388 ∧ sz = 4)) (n4 : ¬ (at_ = 49144 ∧ sz = 8)) (n5 : ¬ (at_ = 49144 ∧ sz = 4)) (n6 : ¬ (at_ = 49148 ∧ sz = 4)) (v t a : Nat) (hv : Hid (v < 18446744073709551616)) (ht : Hid (t < 18446744073709551616)) (ha : Hid (a < 18446744073709551616)) (w : World) : Calls Try.prog 6 #[.int .u64 at_, .int .i64 sz, .int .u64 v, .int .u64 t, .int .u64 a] w (RetB true w) := by
  by_cases h4 : sz = 4
  · subst h4
    have HN : Hid (NoP at_ 4) := ⟨n0, n1, n2, n3, n4, n5, n6⟩
    have d0 : ((at_ : Int) == 0) = false := by rw [beq_eq_false_iff_ne]; intro e; exact n0 ⟨by omega, rfl⟩
    have f0 : decide (at_ = 0) = false := decide_eq_false (fun e => n0 ⟨by omega, rfl⟩)
    have d16384 : ((at_ : Int) == 16384) = false := by rw [beq_eq_false_iff_ne]; intro e; exact n2 ⟨by omega, rfl⟩
    have f16384 : decide ((at_ : Int) = 16384) = false := decide_eq_false (fun e => n2 ⟨by omega, rfl⟩)
    have d16388 : ((at_ : Int) == 16388) = false := by rw [beq_eq_false_iff_ne]; intro e; exact n3 ⟨by omega, rfl⟩
    have f16388 : decide ((at_ : Int) = 16388) = false := decide_eq_false (fun e => n3 ⟨by omega, rfl⟩)
    have d49144 : ((at_ : Int) == 49144) = false := by rw [beq_eq_false_iff_ne]; intro e; exact n5 ⟨by omega, rfl⟩
    have f49144 : decide ((at_ : Int) = 49144) = false := decide_eq_false (fun e => n5 ⟨by omega, rfl⟩)
    have d49148 : ((at_ : Int) == 49148) = false := by rw [beq_eq_false_iff_ne]; intro e; exact n6 ⟨by omega, rfl⟩
    have f49148 : decide ((at_ : Int) = 49148) = false := decide_eq_false (fun e => n6 ⟨by omega, rfl⟩)
    clear n0 n1 n2 n3 n4 n5 n6
    go_enter Try.func6, Try.ntmps6
    go_wp2_with fail
    refine (fixed_c _).mono ?_; rintro e0 w1 ⟨rfl, bq⟩
    have HB := Lib.hid bq; clear bq
    go_wp2_with fail
    refine (new_c _).mono ?_; rintro e0 w2 ⟨c, rfl, gc, hc, bq⟩
    have Gc : Hid (w.heap.size ≤ c) := Nat.le_trans HB.out.size gc
    have Hc := Lib.hid hc; clear gc hc
    replace HB := Lib.hid (HB.out.trans (bq.mono HB.out.size)); clear bq
    go_wp2_with fail
    refine ((write_5 _ c 0 18446744073709551615 0 Hc.out (by decide) (by decide) (by decide) t ht.out).mono (fun _ _ h => retW_to (x' := 0) (y' := 18446744073709551615) (z' := t) rfl rfl rfl h)).mono ?_; rintro e0 w3 ⟨rfl, h1, hg⟩
    replace Hc : Hid (IsC w3 c (0) (18446744073709551615) (t)) := h1; clear h1
    replace HB := Lib.hid (HB.out.grown hg HB.out.size (fun k hk => by cases hk; exact Gc.out)); clear hg
    go_wp2_with fail
    refine ((write_2 _ c 0 18446744073709551615 t Hc.out (by decide) (by decide) ht.out a ha.out).mono (fun _ _ h => retW_to (x' := 0) (y' := a) (z' := t) rfl rfl rfl h)).mono ?_; rintro e0 w4 ⟨rfl, h1, hg⟩
    replace Hc : Hid (IsC w4 c (0) (a) (t)) := h1; clear h1
    replace HB := Lib.hid (HB.out.grown hg HB.out.size (fun k hk => by cases hk; exact Gc.out)); clear hg
    go_wp2_with fail
    refine (read_n _ c 0 a t Hc.out (by decide) ha.out ht.out at_ 4 hx.out hz.out HN.out).mono ?_; rintro e0 w5 ⟨rfl, bq⟩
    replace Hc := Lib.hid (Hc.out.below bq)
    replace HB := Lib.hid (HB.out.trans (bq.mono HB.out.size)); clear bq
    go_wp2_with fail
    refine (write_n _ c 0 a t Hc.out (by decide) ha.out ht.out v hv.out at_ 4 hx.out hz.out HN.out).mono ?_; rintro e0 w6 ⟨rfl, h1, hg⟩
    replace Hc : Hid (IsC w6 c (0) (a) (t)) := h1; clear h1
    replace HB := Lib.hid (HB.out.grown hg HB.out.size (fun k hk => by cases hk; exact Gc.out)); clear hg
    go_wp2_with fail
    refine (read_n _ c 0 a t Hc.out (by decide) ha.out ht.out at_ 4 hx.out hz.out HN.out).mono ?_; rintro e0 w7 ⟨rfl, bq⟩
    replace Hc := Lib.hid (Hc.out.below bq)
    replace HB := Lib.hid (HB.out.trans (bq.mono HB.out.size)); clear bq
    go_wp2_with fail
    refine ((read_2 _ c 0 a t Hc.out (by decide) ha.out ht.out).mono (fun _ _ h => retR_to (n' := a) rfl h)).mono ?_; rintro e0 w8 ⟨rfl, bq⟩
    replace Hc := Lib.hid (Hc.out.below bq)
    replace HB := Lib.hid (HB.out.trans (bq.mono HB.out.size)); clear bq
    go_wp2_with fail
    refine ((read_1 _ c 0 a t Hc.out (by decide) ha.out ht.out).mono (fun _ _ h => retR_to (n' := 0) rfl h)).mono ?_; rintro e0 w9 ⟨rfl, bq⟩
    replace Hc := Lib.hid (Hc.out.below bq)
    replace HB := Lib.hid (HB.out.trans (bq.mono HB.out.size)); clear bq
    go_wp2_with fail
    refine (time_c _ c 0 a t Hc.out).mono ?_; rintro e0 w10 ⟨rfl, bq⟩
    replace Hc := Lib.hid (Hc.out.below bq)
    replace HB := Lib.hid (HB.out.trans (bq.mono HB.out.size)); clear bq
    go_wp2_with fail
    go_ret
    exact retB_mk rfl HB.out
  by_cases h8 : sz = 8
  · subst h8
    have HN : Hid (NoP at_ 8) := ⟨n0, n1, n2, n3, n4, n5, n6⟩
    have d16384 : ((at_ : Int) == 16384) = false := by rw [beq_eq_false_iff_ne]; intro e; exact n1 ⟨by omega, rfl⟩
    have f16384 : decide ((at_ : Int) = 16384) = false := decide_eq_false (fun e => n1 ⟨by omega, rfl⟩)
    have d49144 : ((at_ : Int) == 49144) = false := by rw [beq_eq_false_iff_ne]; intro e; exact n4 ⟨by omega, rfl⟩
    have f49144 : decide ((at_ : Int) = 49144) = false := decide_eq_false (fun e => n4 ⟨by omega, rfl⟩)
    clear n0 n1 n2 n3 n4 n5 n6
    go_enter Try.func6, Try.ntmps6
    go_wp2_with fail
    refine (fixed_c _).mono ?_; rintro e0 w1 ⟨rfl, bq⟩
    have HB := Lib.hid bq; clear bq
    go_wp2_with fail
    refine (new_c _).mono ?_; rintro e0 w2 ⟨c, rfl, gc, hc, bq⟩
    have Gc : Hid (w.heap.size ≤ c) := Nat.le_trans HB.out.size gc
    have Hc := Lib.hid hc; clear gc hc
    replace HB := Lib.hid (HB.out.trans (bq.mono HB.out.size)); clear bq
    go_wp2_with fail
    refine ((write_5 _ c 0 18446744073709551615 0 Hc.out (by decide) (by decide) (by decide) t ht.out).mono (fun _ _ h => retW_to (x' := 0) (y' := 18446744073709551615) (z' := t) rfl rfl rfl h)).mono ?_; rintro e0 w3 ⟨rfl, h1, hg⟩
    replace Hc : Hid (IsC w3 c (0) (18446744073709551615) (t)) := h1; clear h1
    replace HB := Lib.hid (HB.out.grown hg HB.out.size (fun k hk => by cases hk; exact Gc.out)); clear hg
    go_wp2_with fail
    refine ((write_2 _ c 0 18446744073709551615 t Hc.out (by decide) (by decide) ht.out a ha.out).mono (fun _ _ h => retW_to (x' := 0) (y' := a) (z' := t) rfl rfl rfl h)).mono ?_; rintro e0 w4 ⟨rfl, h1, hg⟩
    replace Hc : Hid (IsC w4 c (0) (a) (t)) := h1; clear h1
    replace HB := Lib.hid (HB.out.grown hg HB.out.size (fun k hk => by cases hk; exact Gc.out)); clear hg
    go_wp2_with fail
    refine (read_n _ c 0 a t Hc.out (by decide) ha.out ht.out at_ 8 hx.out hz.out HN.out).mono ?_; rintro e0 w5 ⟨rfl, bq⟩
    replace Hc := Lib.hid (Hc.out.below bq)
    replace HB := Lib.hid (HB.out.trans (bq.mono HB.out.size)); clear bq
    go_wp2_with fail
    refine (write_n _ c 0 a t Hc.out (by decide) ha.out ht.out v hv.out at_ 8 hx.out hz.out HN.out).mono ?_; rintro e0 w6 ⟨rfl, h1, hg⟩
    replace Hc : Hid (IsC w6 c (0) (a) (t)) := h1; clear h1
    replace HB := Lib.hid (HB.out.grown hg HB.out.size (fun k hk => by cases hk; exact Gc.out)); clear hg
    go_wp2_with fail
    refine (read_n _ c 0 a t Hc.out (by decide) ha.out ht.out at_ 8 hx.out hz.out HN.out).mono ?_; rintro e0 w7 ⟨rfl, bq⟩
    replace Hc := Lib.hid (Hc.out.below bq)
    replace HB := Lib.hid (HB.out.trans (bq.mono HB.out.size)); clear bq
    go_wp2_with fail
    refine ((read_2 _ c 0 a t Hc.out (by decide) ha.out ht.out).mono (fun _ _ h => retR_to (n' := a) rfl h)).mono ?_; rintro e0 w8 ⟨rfl, bq⟩
    replace Hc := Lib.hid (Hc.out.below bq)
    replace HB := Lib.hid (HB.out.trans (bq.mono HB.out.size)); clear bq
    go_wp2_with fail
    refine ((read_1 _ c 0 a t Hc.out (by decide) ha.out ht.out).mono (fun _ _ h => retR_to (n' := 0) rfl h)).mono ?_; rintro e0 w9 ⟨rfl, bq⟩
    replace Hc := Lib.hid (Hc.out.below bq)
    replace HB := Lib.hid (HB.out.trans (bq.mono HB.out.size)); clear bq
    go_wp2_with fail
    refine (time_c _ c 0 a t Hc.out).mono ?_; rintro e0 w10 ⟨rfl, bq⟩
    replace Hc := Lib.hid (Hc.out.below bq)
    replace HB := Lib.hid (HB.out.trans (bq.mono HB.out.size)); clear bq
    go_wp2_with fail
    go_ret
    exact retB_mk rfl HB.out
  have d4 : (sz == 4) = false := by rw [beq_eq_false_iff_ne]; exact h4
  have d8 : (sz == 8) = false := by rw [beq_eq_false_iff_ne]; exact h8
  have f4 : decide (sz = 4) = false := decide_eq_false h4
  have f8 : decide (sz = 8) = false := decide_eq_false h8
  clear h4 h8
  have HN : Hid (NoP at_ sz) := ⟨n0, n1, n2, n3, n4, n5, n6⟩
  clear n0 n1 n2 n3 n4 n5 n6
  go_enter Try.func6, Try.ntmps6
  go_wp2_with fail
  refine (fixed_c _).mono ?_; rintro e0 w1 ⟨rfl, bq⟩
  have HB := Lib.hid bq; clear bq
  go_wp2_with fail
  refine (new_c _).mono ?_; rintro e0 w2 ⟨c, rfl, gc, hc, bq⟩
  have Gc : Hid (w.heap.size ≤ c) := Nat.le_trans HB.out.size gc
  have Hc := Lib.hid hc; clear gc hc
  replace HB := Lib.hid (HB.out.trans (bq.mono HB.out.size)); clear bq
  go_wp2_with fail
  refine ((write_5 _ c 0 18446744073709551615 0 Hc.out (by decide) (by decide) (by decide) t ht.out).mono (fun _ _ h => retW_to (x' := 0) (y' := 18446744073709551615) (z' := t) rfl rfl rfl h)).mono ?_; rintro e0 w3 ⟨rfl, h1, hg⟩
  replace Hc : Hid (IsC w3 c (0) (18446744073709551615) (t)) := h1; clear h1
  replace HB := Lib.hid (HB.out.grown hg HB.out.size (fun k hk => by cases hk; exact Gc.out)); clear hg
  go_wp2_with fail
  refine ((write_2 _ c 0 18446744073709551615 t Hc.out (by decide) (by decide) ht.out a ha.out).mono (fun _ _ h => retW_to (x' := 0) (y' := a) (z' := t) rfl rfl rfl h)).mono ?_; rintro e0 w4 ⟨rfl, h1, hg⟩
  replace Hc : Hid (IsC w4 c (0) (a) (t)) := h1; clear h1
  replace HB := Lib.hid (HB.out.grown hg HB.out.size (fun k hk => by cases hk; exact Gc.out)); clear hg
  go_wp2_with fail
  refine (read_n _ c 0 a t Hc.out (by decide) ha.out ht.out at_ sz hx.out hz.out HN.out).mono ?_; rintro e0 w5 ⟨rfl, bq⟩
  replace Hc := Lib.hid (Hc.out.below bq)
  replace HB := Lib.hid (HB.out.trans (bq.mono HB.out.size)); clear bq
  go_wp2_with fail
  refine (write_n _ c 0 a t Hc.out (by decide) ha.out ht.out v hv.out at_ sz hx.out hz.out HN.out).mono ?_; rintro e0 w6 ⟨rfl, h1, hg⟩
  replace Hc : Hid (IsC w6 c (0) (a) (t)) := h1; clear h1
  replace HB := Lib.hid (HB.out.grown hg HB.out.size (fun k hk => by cases hk; exact Gc.out)); clear hg
  go_wp2_with fail
  refine (read_n _ c 0 a t Hc.out (by decide) ha.out ht.out at_ sz hx.out hz.out HN.out).mono ?_; rintro e0 w7 ⟨rfl, bq⟩
  replace Hc := Lib.hid (Hc.out.below bq)
  replace HB := Lib.hid (HB.out.trans (bq.mono HB.out.size)); clear bq
  go_wp2_with fail
  refine ((read_2 _ c 0 a t Hc.out (by decide) ha.out ht.out).mono (fun _ _ h => retR_to (n' := a) rfl h)).mono ?_; rintro e0 w8 ⟨rfl, bq⟩
  replace Hc := Lib.hid (Hc.out.below bq)
  replace HB := Lib.hid (HB.out.trans (bq.mono HB.out.size)); clear bq
  go_wp2_with fail
  refine ((read_1 _ c 0 a t Hc.out (by decide) ha.out ht.out).mono (fun _ _ h => retR_to (n' := 0) rfl h)).mono ?_; rintro e0 w9 ⟨rfl, bq⟩
  replace Hc := Lib.hid (Hc.out.below bq)
  replace HB := Lib.hid (HB.out.trans (bq.mono HB.out.size)); clear bq
  go_wp2_with fail
  refine (time_c _ c 0 a t Hc.out).mono ?_; rintro e0 w10 ⟨rfl, bq⟩
  replace Hc := Lib.hid (Hc.out.below bq)
  replace HB := Lib.hid (HB.out.trans (bq.mono HB.out.size)); clear bq
  go_wp2_with fail
  go_ret
  exact retB_mk rfl HB.out
theorem clintPlaces_walk (a0 a1 a2 a3 a4 : Int) (w0 : (Lit.int .u64 a0).wf = true) (w1 : (Lit.int .i64 a1).wf = true) (w2 : (Lit.int .u64 a2).wf = true) (w3 : (Lit.int .u64 a3).wf = true) (w4 : (Lit.int .u64 a4).wf = true) (w : World) :
    Calls Try.prog 6 #[.int .u64 a0, .int .i64 a1, .int .u64 a2, .int .u64 a3, .int .u64 a4] w (RetB true w) := by
  obtain ⟨x, rfl, hx⟩ := u64_of_wf w0
  obtain ⟨v, rfl, hv⟩ := u64_of_wf w2
  obtain ⟨t, rfl, ht⟩ := u64_of_wf w3
  obtain ⟨a, rfl, ha⟩ := u64_of_wf w4
  rcases kd_cases x a1 with ⟨rfl, rfl, e⟩ | ⟨rfl, rfl, e⟩ | ⟨rfl, rfl, e⟩ | ⟨rfl, rfl, e⟩ | ⟨rfl, rfl, e⟩ | ⟨rfl, rfl, e⟩ | ⟨rfl, rfl, e⟩ | ⟨n0, n1, n2, n3, n4, n5, n6, e⟩
  · exact places_1 v t a hv ht ha w
  · exact places_2 v t a hv ht ha w
  · exact places_3 v t a hv ht ha w
  · exact places_4 v t a hv ht ha w
  · exact places_5 v t a hv ht ha w
  · exact places_6 v t a hv ht ha w
  · exact places_7 v t a hv ht ha w
  · exact places_0 x a1 hx w1 n0 n1 n2 n3 n4 n5 n6 v t a hv ht ha w
end Go.Proofs.Ytilfeanampomjaa
