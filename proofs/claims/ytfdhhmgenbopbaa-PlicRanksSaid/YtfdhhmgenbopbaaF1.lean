/- States stay in bounds; the answers that the document fixes. -/
import Derived.Test.YtfdhhmgenbopbaaB7
namespace Go.Proofs.Ytfdhhmgenbopbaa
open Go.ChangeShapes Go.WideShapes Go.ChangeAt Go.RowKit
set_option linter.unusedVariables false
set_option linter.unusedSimpArgs false
theorem set_all {α : Type} {p : α → Prop} {f : Nat → α} (h : ∀ n, p (f n)) (k : Nat) {x : α} (hx : p x) : ∀ n, p (set f k x n) := by
  intro n; unfold set; split
  · exact hx
  · exact h n
theorem ok0 : OkS S0 := ⟨fun _ => (by decide : 0 < 8), fun _ => (by decide : 0 < 512), fun _ => (by decide : 0 < 8), fun _ => (by decide : 0 < 3)⟩
theorem OkS.setPr {S : St} (h : OkS S) (n v : Nat) (hv : v < 8) : OkS (S.setPr n v) := ⟨set_all (p := (· < 8)) h.1 n hv, h.2.1, h.2.2.1, h.2.2.2⟩
theorem OkS.setEn {S : St} (h : OkS S) (n v : Nat) (hv : v < 512) : OkS (S.setEn n v) := ⟨h.1, set_all (p := (· < 512)) h.2.1 n hv, h.2.2.1, h.2.2.2⟩
theorem OkS.setTh {S : St} (h : OkS S) (n v : Nat) (hv : v < 8) : OkS (S.setTh n v) := ⟨h.1, h.2.1, set_all (p := (· < 8)) h.2.2.1 n hv, h.2.2.2⟩
theorem OkS.setSt {S : St} (h : OkS S) (n v : Nat) (hv : v < 3) : OkS (S.setSt n v) := ⟨h.1, h.2.1, h.2.2.1, set_all (p := (· < 3)) h.2.2.2 n hv⟩
theorem OkS.setUp {S : St} (h : OkS S) (n : Nat) (v : Bool) : OkS (S.setUp n v) := h
theorem OkS.come {S : St} (h : OkS S) (n : Nat) : OkS (comeF S n) := by
  unfold comeF
  cases S.up n && S.st n == 0
  · exact h
  · exact h.setSt n 1 (by decide)
theorem OkS.claim {S : St} (h : OkS S) (c : Nat) : OkS (claimF S c) := by
  unfold claimF
  cases best S c == 0
  · exact h.setSt _ 2 (by decide)
  · exact h
theorem OkS.fin {S : St} (h : OkS S) (c n : Nat) : OkS (finF S c n) := by
  unfold finF
  cases decide (n < 9) && (S.st n == 2 && takeB S c n)
  · exact h
  · exact (h.setSt n 0 (by decide)).come n
theorem retU_to {n n' : Nat} {W w' : World} {e : Ending} (h : n = n') (r : RetU n W e w') : RetU n' W e w' := by subst h; exact r
theorem retR_to {n n' : Nat} {W w' : World} {e : Ending} (h : n = n') (r : RetR n W e w') : RetR n' W e w' := by subst h; exact r
theorem retRC_to {n n' b : Nat} {S S' : St} {W w' : World} {e : Ending} (h : n = n') (h2 : S = S') (r : RetRC n b S W e w') : RetRC n' b S' W e w' := by subst h h2; exact r
theorem retL_to {ok : Bool} {b : Nat} {S S' : St} {W w' : World} {e : Ending} (h : S = S') (r : RetL ok b S W e w') : RetL ok b S' W e w' := by subst h; exact r
def T1 : St := S0.setPr 3 2
def T2 : St := T1.setEn 0 510
def T3 : St := comeF (T2.setUp 3 true) 3
def T4 : St := claimF T3 0
def T5 : St := finF T4 0 3
theorem okT2 : OkS T2 := (ok0.setPr 3 2 (by decide)).setEn 0 510 (by decide)
theorem okT3 : OkS T3 := (okT2.setUp 3 true).come 3
theorem okT4 : OkS T4 := okT3.claim 0
theorem okT5 : OkS T5 := okT4.fin 0 3
set_option maxRecDepth 100000 in
theorem fixed_c (w : World) : Calls Try.prog 5 #[] w (RetB true w) := by
  have t1 : Hid (waitF T3 9 = 8) := by show _ = _; decide
  have t2 : Hid (pendF T3 = 2048) := by show _ = _; decide
  have t3 : Hid (best T3 0 = 3) := by show _ = _; decide
  have t4 : Hid (pendF T4 = 0) := by show _ = _; decide
  have t5 : Hid (pendF T5 = 2048) := by show _ = _; decide
  go_enter Try.func5, Try.ntmps5
  go_wp2_with fail
  refine (new_c _).mono ?_; rintro e0 w1 ⟨c, rfl, gc, hc, bq⟩
  have Gc : Hid (w.heap.size ≤ c) := gc
  have Hc := Lib.hid hc; clear gc hc
  have HB := Lib.hid bq; clear bq

  go_wp2_with fail
  refine ((write_pr c 3 250 12 S0 _ Hc (by show _ < _; decide) (by show _ ∧ _; decide) (by show _ = _; decide)).mono (fun _ _ h => retL_to (S' := T1) rfl h)).mono ?_; rintro e0 w2 ⟨rfl, h1, hg⟩
  replace Hc : Hid (IsP w2 c T1) := h1; clear h1
  replace HB := Lib.hid (HB.out.grown hg HB.out.size (fun k hk => by cases hk; exact Gc.out)); clear hg
  go_wp2_with fail
  refine ((write_en c 0 65535 8192 T1 _ Hc (by show _ < _; decide) (by show _ < _; decide) (by show _ = _; decide)).mono (fun _ _ h => retL_to (S' := T2) rfl h)).mono ?_; rintro e0 w3 ⟨rfl, h1, hg⟩
  replace Hc : Hid (IsP w3 c T2) := h1; clear h1
  replace HB := Lib.hid (HB.out.grown hg HB.out.size (fun k hk => by cases hk; exact Gc.out)); clear hg
  go_wp2_with fail
  refine ((line_c c 3 true T2 _ Hc (by show _ ∧ _; decide)).mono (fun _ _ h => retL_to (S' := T3) rfl h)).mono ?_; rintro e0 w4 ⟨rfl, h1, hg⟩
  replace Hc : Hid (IsP w4 c T3) := h1; clear h1
  replace HB := Lib.hid (HB.out.grown hg HB.out.size (fun k hk => by cases hk; exact Gc.out)); clear hg
  go_wp2_with fail
  refine ((read_wait c T3 _ Hc).mono (fun _ _ h => retR_to (n' := 8) t1.out h)).mono ?_; rintro e0 w5 ⟨rfl, bq⟩
  replace Hc := Lib.hid (Hc.out.below bq)
  replace HB := Lib.hid (HB.out.trans (bq.mono HB.out.size)); clear bq
  go_wp2_with fail
  refine ((pend_c c T3 _ Hc (Lib.hid okT3)).mono (fun _ _ h => retU_to (n' := 2048) t2.out h)).mono ?_; rintro e0 w6 ⟨rfl, bq⟩
  replace Hc := Lib.hid (Hc.out.below bq)
  replace HB := Lib.hid (HB.out.trans (bq.mono HB.out.size)); clear bq
  go_wp2_with fail
  refine (copy_c c T3 _ Hc).mono ?_; rintro e0 w7 ⟨o, rfl, go, ho, bq⟩
  have Lc := Lib.hid Hc.out.1
  replace Hc := Lib.hid (Hc.out.below bq)
  have Nco : Hid (c ≠ o) := by have h1 := Lc.out; show _ ≠ _; omega
  have Noc : Hid (o ≠ c) := by have h1 := Lc.out; show _ ≠ _; omega
  have Go : Hid (w.heap.size ≤ o) := Nat.le_trans HB.out.size go
  have Ho := Lib.hid ho; clear ho go
  replace HB := Lib.hid (HB.out.trans (bq.mono HB.out.size)); clear bq
  go_wp2_with fail
  refine ((read_claim c 0 2097156 T3 _ Hc (Lib.hid okT3) (by show _ < _; decide) (by show _ = _; decide)).mono (fun _ _ h => retRC_to (n' := 3) (S' := T4) t3.out rfl h)).mono ?_; rintro e0 w8 ⟨rfl, h1, hg⟩
  replace Ho := Lib.hid (Ho.out.kept hg (by have := Noc.out; simp; omega))
  replace Hc : Hid (IsP w8 c T4) := h1; clear h1
  replace HB := Lib.hid (HB.out.grown hg HB.out.size (fun k hk => by cases hk; exact Gc.out)); clear hg
  go_wp2_with fail
  refine ((pend_c c T4 _ Hc (Lib.hid okT4)).mono (fun _ _ h => retU_to (n' := 0) t4.out h)).mono ?_; rintro e0 w9 ⟨rfl, bq⟩
  replace Hc := Lib.hid (Hc.out.below bq)
  replace Ho := Lib.hid (Ho.out.below bq)
  replace HB := Lib.hid (HB.out.trans (bq.mono HB.out.size)); clear bq
  go_wp2_with fail
  refine ((pend_c o T3 _ Ho (Lib.hid okT3)).mono (fun _ _ h => retU_to (n' := 2048) t2.out h)).mono ?_; rintro e0 w10 ⟨rfl, bq⟩
  replace Hc := Lib.hid (Hc.out.below bq)
  replace Ho := Lib.hid (Ho.out.below bq)
  replace HB := Lib.hid (HB.out.trans (bq.mono HB.out.size)); clear bq
  go_wp2_with fail
  refine (line_9 c _ _).mono ?_; rintro e0 w11 ⟨rfl, bq⟩
  replace Hc := Lib.hid (Hc.out.below bq)
  replace Ho := Lib.hid (Ho.out.below bq)
  replace HB := Lib.hid (HB.out.trans (bq.mono HB.out.size)); clear bq
  go_wp2_with fail
  refine ((write_fin c 0 3 2097156 T4 _ Hc (Lib.hid okT4) (by show _ < _; decide) (by show _ = _; decide) (by show _ < _; decide)).mono (fun _ _ h => retL_to (S' := T5) rfl h)).mono ?_; rintro e0 w12 ⟨rfl, h1, hg⟩
  replace Ho := Lib.hid (Ho.out.kept hg (by have := Noc.out; simp; omega))
  replace Hc : Hid (IsP w12 c T5) := h1; clear h1
  replace HB := Lib.hid (HB.out.grown hg HB.out.size (fun k hk => by cases hk; exact Gc.out)); clear hg
  go_wp2_with fail
  refine ((pend_c c T5 _ Hc (Lib.hid okT5)).mono (fun _ _ h => retU_to (n' := 2048) t5.out h)).mono ?_; rintro e0 w13 ⟨rfl, bq⟩
  replace Hc := Lib.hid (Hc.out.below bq)
  replace Ho := Lib.hid (Ho.out.below bq)
  replace HB := Lib.hid (HB.out.trans (bq.mono HB.out.size)); clear bq
  go_wp2_with fail
  go_ret
  exact retB_mk rfl HB.out
end Go.Proofs.Ytfdhhmgenbopbaa
