/- The document's Copy. -/
import Derived.Test.YtjjmohhkhadadaaR3
import Derived.Deep.RegionHeld3
namespace Go.Proofs.Ytjjmohhkhadadaa
open Go.ChangeShapes Go.WideShapes Go.ChangeAt Go.RowKit
set_option linter.unusedVariables false
set_option linter.unusedSimpArgs false
theorem le_alloc {n : Nat} {w : World} {o : Obj} (h : n ≤ w.heap.size) : n ≤ (w.alloc o).heap.size := by rw [sz_alloc]; omega
theorem le_set {n : Nat} {w : World} {p : Addr} {u : Value} (h : n ≤ w.heap.size) : n ≤ (w.setCell p u).heap.size := by rw [sz_set]; exact h
theorem run_all {w : World} {a : Option Addr} {n c g o : Nat} {L : List Nat} (h : SlA w a n c g o L) (sa : Option Addr) (ty : TypeId) (hn : n < 70368744177664) :
    ∃ a' c' g' w', (Builtin.append_ #[35, 35] ty #[.slice sa 0 0, .slice a n c]).run Try.prog w = .ok (.slice a' n c') w' ∧ SlA w' a' n c' g' 0 L ∧ Below w.heap.size w w' ∧ (0 < c' → w.heap.size ≤ g') := by
  obtain ⟨i, hi, h1, h2, h3⟩ := i8'
  have hsrc := h.src
  by_cases h0 : n = 0
  · subst h0
    have hL : L = [] := List.length_eq_zero_iff.1 h.len
    subst hL
    exact ⟨sa, 0, 0, w, run_append_nothing (P := Try.prog) w 35 35 ty 5 i Try.underlying35 hi sa 0 0 (Nat.le_refl _) _ (by rw [h1]; exact hsrc), slA_nil _ _ _ _, Below.refl _ _, fun h => absurd h (Nat.lt_irrefl _)⟩
  · have hold : (Builtin.firstCells i.size 0 (.slice sa 0 0)).run Try.prog w.drew = .ok (#[] : Array Value) w.drew := by
      rw [h1]
      exact (slA_nil w.drew sa 0 0).first
    have hg := run_append_grow_src (P := Try.prog) w 35 35 ty 5 i (.int .u8 0) Try.underlying35 hi h3 sa 0 0 [] hold _ n _ (by rw [h1]; exact hsrc) (by omega) (by omega) (growslice_fits (by omega) (by rw [h2]; omega))
    rw [Nat.zero_add] at hg
    have hge := grownCap_ge w n 0 5
    have hl := h.len
    have hnew := slA_new w.drew L (grownCap w n 0 5 - n) (grownCap w n 0 5) 5 (by rw [hl]; omega)
    rw [hl] at hnew
    exact ⟨_, _, _, _, hg, hnew, Below.alloc (below_drewN (Below.refl _ _) 1) (Nat.le_refl _) _, fun _ => Nat.le_refl _⟩
/-- A copy of a slice of its own, as one step of a region that draws. -/
theorem step_all {w : World} {a : Option Addr} {n c g o : Nat} {L : List Nat} {ops : Array Oper} {op : Oper} {A : Act} {K : Act → World → Prop} {Q : Exit → Act → World → Prop} {E : Prop} (hgd : op.guard = none) (s x : Operand)
    (ho : op.op = .call { callee := .builtin .append, args := #[s, x], argTypes := #[35, 35] })
    (h : SlA w a n c g o L) (sa : Option Addr) (hs : A.eval s = .slice sa 0 0) (hx : A.eval x = .slice a n c) (hn : n < 70368744177664)
    (k : ∀ a' c' g' w', SlA w' a' n c' g' 0 L → Below w.heap.size w w' → (0 < c' → w.heap.size ≤ g') → K (A.put op.dst (.slice a' n c')) w') :
    if Region.wanted op (yielded ops A.tmps) = true then Oper.wp Try.prog op A w K Q else E := by
  have hw : Region.wanted op (yielded ops A.tmps) = true := by simp [Region.wanted, hgd]
  rw [if_pos hw]
  obtain ⟨a', c', g', w', hrun, h1, h2, h3⟩ := run_all h sa op.type hn
  unfold Oper.wp
  simp [execOp, ho, resolve, invoke, builtin, hs, hx, hrun, Result.andThen]
  exact k a' c' g' w' h1 h2 h3
def RetRC (N : Nat) (U : Ur) (w : World) (e : Ending) (w' : World) : Prop := ∃ b' R', e = .returned (.pointer (some ⟨b', 0, none⟩)) ∧ IsR R' N w' b' U ∧ (∀ k j, R' k j → w.heap.size ≤ k) ∧ Below w.heap.size w w'
section
variable {R : Nat → Nat → Prop} {N : Nat} {w w' : World} {b : Nat} {U : Ur} {K : List Nat} {r : Nat} {sa : Option Addr} {n c g o : Nat} {ta : Option Addr} {m d h p : Nat}
theorem Af.copied (x : Af R N w b U K r sa n c g o ta m d h p) {a1 a2 : Option Addr} {b' cc gg dd hh : Nat} (hb : Below w.heap.size w w') (h1 : SlA w' a1 n cc gg 0 K) (h2 : SlA w' a2 m dd hh 0 U.sent) (hs : w.heap.size ≤ b' ∧ b' < w'.heap.size) (hg : 0 < cc → w.heap.size ≤ gg ∧ gg ≠ b') (hh2 : 0 < dd → w.heap.size ≤ hh ∧ hh ≠ b') (hgh : 0 < cc → 0 < dd → gg ≠ hh)
    (c0 : w'.cell? ⟨b', 0, none⟩ = some (.slice a1 n cc)) (c1 : w'.cell? ⟨b', 1, none⟩ = some (.slice a2 m dd)) (c2 : w'.cell? ⟨b', 2, none⟩ = some (.int .i64 (r : Nat))) (c3 : w'.cell? ⟨b', 3, none⟩ = some (.int .u64 (U.want : Nat))) (c4 : w'.cell? ⟨b', 4, none⟩ = some (.int .u64 (b2n U.lost : Nat))) (c5 : w'.cell? ⟨b', 5, none⟩ = some (.int .u64 (U.scr : Nat)))
    (fz : ∀ j, j < 6 → w'.frozen? ⟨b', j, none⟩ = false) : RetRC N U w (.returned (.pointer (some ⟨b', 0, none⟩))) w' := by
  refine ⟨b', fun k _ => w.heap.size ≤ k ∧ k < w'.heap.size, rfl, ⟨K, r, a1, n, cc, gg, 0, a2, m, dd, hh, 0, ?_⟩, fun k j hk => hk.1, hb⟩
  exact ⟨hs.2, c0, c1, c2, c3, c4, c5, fz, h1, h2, x.ok, x.left, x.rle, x.nle, x.k8, fun _ => hs, fun i hi => ⟨(hg (by omega)).1, (h1.addr (by omega)).2⟩, fun i hi => ⟨(hh2 (by omega)).1, (h2.addr (by omega)).2⟩, fun k j hk => hk.2, fun h0 => (hg h0).2, fun h0 => (hh2 h0).2, hgh⟩
end
theorem below_alloc2 {w w1 : World} {o : Obj} (h : Below w.heap.size w w1) : Below w.heap.size w (w1.alloc o) := h.alloc h.size o
set_option maxRecDepth 100000 in
set_option maxHeartbeats 4000000 in
theorem copyr_c (R : Nat → Nat → Prop) (N b : Nat) (U : Ur) (w : World) (hU : Hid (IsR R N w b U)) (hN : Hid (N < 70368744177664)) (hn : Hid (U.sent.length < 70368744177664)) : Calls Try.prog 15 #[.pointer (some ⟨b, 0, none⟩)] w (RetRC N U w) := by
  obtain ⟨K, r, sa, n, c, g, o, ta, m, d, h, p, hA⟩ := hU.out
  have n46 : n < 70368744177664 := Nat.lt_of_le_of_lt hA.nle hN.out
  have m46 : m < 70368744177664 := by rw [← hA.s.len]; exact hn.out
  have HA := Lib.hid hA
  clear hA
  go_enter Try.func15, Try.ntmps15
  go_wp2_with fail
  go_region_held3 (fun w' => w'.cell? ⟨b, 0, none⟩ = some (.slice sa n c) ∧ w'.cell? ⟨b, 1, none⟩ = some (.slice ta m d) ∧ w'.cell? ⟨b, 2, none⟩ = some (.int .i64 (r : Nat)) ∧ w'.cell? ⟨b, 3, none⟩ = some (.int .u64 (U.want : Nat)) ∧ w'.cell? ⟨b, 4, none⟩ = some (.int .u64 (b2n U.lost : Nat)) ∧ w'.cell? ⟨b, 5, none⟩ = some (.int .u64 (U.scr : Nat))) (exact HA.out.six (by repeat (first | (with_reducible first | exact Below.refl _ _ | assumption | exact Nat.le_refl _ | refine Below.drew ?_ | refine Below.alloc ?_ ?_ _ | refine Below.setCell ?_ ?_ _ | refine le_alloc ?_ | refine le_set ?_ | refine le_drew ?_ | refine below_step (by assumption) ?_ ?_ | refine le_below (by assumption) ?_) | (dsimp only; omega)))) (first
    | (refine step_all rfl (.tmp 3) (.tmp 7) rfl (HA.out.q.below (by repeat (first | (with_reducible first | exact Below.refl _ _ | assumption | exact Nat.le_refl _ | refine Below.drew ?_ | refine Below.alloc ?_ ?_ _ | refine Below.setCell ?_ ?_ _ | refine le_alloc ?_ | refine le_set ?_ | refine le_drew ?_ | refine below_step (by assumption) ?_ ?_ | refine le_below (by assumption) ?_) | (dsimp only; omega)))) _ rfl rfl n46 ?_; intro a1 cc gg wc q1 hb1 q3; have HC1 := Lib.hid q1; have HC3 := Lib.hid q3; clear q1 q3)
    | (refine step_all rfl (.tmp 9) (.tmp 13) rfl (HA.out.s.below (by repeat (first | (with_reducible first | exact Below.refl _ _ | assumption | exact Nat.le_refl _ | refine Below.drew ?_ | refine Below.alloc ?_ ?_ _ | refine Below.setCell ?_ ?_ _ | refine le_alloc ?_ | refine le_set ?_ | refine le_drew ?_ | refine below_step (by assumption) ?_ ?_ | refine le_below (by assumption) ?_) | (dsimp only; omega)))) _ rfl rfl m46 ?_; intro a2 dd hh ws q1 hb2 q3; have HS1 := Lib.hid q1; have HS3 := Lib.hid q3; clear q1 q3))
  all_goals
    go_wp2_with fail
    go_ret
    have z1 := hb1.size
    have z2 := hb2.size
    simp only [sz_alloc, sz_drew] at z1 z2
    refine HA.out.copied (b' := ws.heap.size) (by repeat (first | (with_reducible first | exact Below.refl _ _ | assumption | exact Nat.le_refl _ | refine Below.drew ?_ | refine Below.alloc ?_ ?_ _ | refine Below.setCell ?_ ?_ _ | refine le_alloc ?_ | refine le_set ?_ | refine le_drew ?_ | refine below_step (by assumption) ?_ ?_ | refine le_below (by assumption) ?_) | (dsimp only; omega))) (HC1.out.below (by repeat (first | (with_reducible first | exact Below.refl _ _ | assumption | exact Nat.le_refl _ | refine Below.drew ?_ | refine Below.alloc ?_ ?_ _ | refine Below.setCell ?_ ?_ _ | refine le_alloc ?_ | refine le_set ?_ | refine le_drew ?_ | refine below_step (by assumption) ?_ ?_ | refine le_below (by assumption) ?_) | (dsimp only; omega)))) (HS1.out.below (by repeat (first | (with_reducible first | exact Below.refl _ _ | assumption | exact Nat.le_refl _ | refine Below.drew ?_ | refine Below.alloc ?_ ?_ _ | refine Below.setCell ?_ ?_ _ | refine le_alloc ?_ | refine le_set ?_ | refine le_drew ?_ | refine below_step (by assumption) ?_ ?_ | refine le_below (by assumption) ?_) | (dsimp only; omega)))) ⟨by omega, by rw [sz_alloc]; omega⟩ (fun h0 => ?_) (fun h0 => ?_) (fun h0 h1 => ?_) (by rw [World.cell?_alloc_at _ _ _ _ rfl]; rfl) (by rw [World.cell?_alloc_at _ _ _ _ rfl]; rfl) (by rw [World.cell?_alloc_at _ _ _ _ rfl]; rfl) (by rw [World.cell?_alloc_at _ _ _ _ rfl]; rfl) (by rw [World.cell?_alloc_at _ _ _ _ rfl]; rfl) (by rw [World.cell?_alloc_at _ _ _ _ rfl]; rfl) (fun j hj => by rw [World.frozen?_alloc_at _ _ _ _ rfl])
    · have := HC3.out h0; have := (HC1.out.addr h0).2; simp only [sz_alloc, sz_drew] at *; omega
    · have := HS3.out h0; have := (HS1.out.addr h0).2; simp only [sz_alloc, sz_drew] at *; omega
    · have := HC3.out h0; have := (HC1.out.addr h0).2; have := HS3.out h1; have := (HS1.out.addr h1).2; simp only [sz_alloc, sz_drew] at *; omega
end Go.Proofs.Ytjjmohhkhadadaa
