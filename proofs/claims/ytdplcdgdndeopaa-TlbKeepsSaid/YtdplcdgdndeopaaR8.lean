/- The document's Copy. -/
import Derived.Test.YtdplcdgdndeopaaR7
import Derived.Deep.AppendSrc
import Derived.Deep.RegionHeld3
namespace Go.Proofs.Ytdplcdgdndeopaa
open Go.ChangeShapes Go.WideShapes Go.ChangeAt Go.RowKit Go.Sort
set_option linter.unusedVariables false
set_option linter.unusedSimpArgs false
/-- A copy of a row, by append to nothing. -/
theorem step_cp {t ts : TypeId} {sz byt : Nat} {z : Value} (hu : Try.prog.underlying ts = some (.slice t)) (hi : (Try.prog.info? t).map (fun i => (i.size, i.bytes, i.zero)) = some (sz, byt, some z)) (hby : byt ≤ 1000)
    {ops : Array Oper} {op : Oper} {A : Act} {w : World} {K : Act → World → Prop} {Q : Exit → Act → World → Prop} {E : Prop} (hgd : op.guard = none) (s x : Operand)
    (ho : op.op = .call { callee := .builtin .append, args := #[s, x], argTypes := #[ts, ts] })
    (e n c : Nat) (news : List Value) (h0 : 0 < n) (hn : n ≤ 1000) (hlen : news.length = n * sz) (h1 : ∀ u ∈ news, u.oneCell' = true) (h : ∀ (j : Nat) (u : Value), news[j]? = some u → w.cell? ⟨e, j, none⟩ = some u)
    (sa : Option Addr) (hs : A.eval s = .slice sa 0 0) (hx : A.eval x = .slice (some ⟨e, 0, none⟩) n c)
    (k : ∀ g c' ce w', Below w.heap.size w w' → w.heap.size ≤ g → g < w'.heap.size → n ≤ c' → Row w' g t ce → (∀ (j : Nat) (u : Value), news[j]? = some u → ce[j]? = some u) → K (A.put op.dst (.slice (some ⟨g, 0, none⟩) n c')) w') :
    if Region.wanted op (yielded ops A.tmps) = true then Oper.wp Try.prog op A w K Q else E := by
  have hw : Region.wanted op (yielded ops A.tmps) = true := by simp [Region.wanted, hgd]
  rw [if_pos hw]
  obtain ⟨i, hi, e1, e2, e3⟩ : ∃ i, Try.prog.info? t = some i ∧ i.size = sz ∧ i.bytes = byt ∧ i.zero = some z := by
    cases hq : Try.prog.info? t with
    | none => rw [hq] at hi; exact absurd hi (by simp)
    | some i =>
      rw [hq] at hi
      simp only [Option.map_some, Option.some.injEq, Prod.mk.injEq] at hi
      exact ⟨i, rfl, hi.1, hi.2.1, hi.2.2⟩
  have hsrc : Src Try.prog sz ts (.slice (some ⟨e, 0, none⟩) n c) n news w :=
    Src.ofSlice w hu ⟨e, 0, none⟩ n c news hlen (fun j u hj => by
      have := h j u hj
      by_cases h00 : j = 0
      · subst h00; exact this
      · rw [show Addr.add ⟨e, 0, none⟩ j = ⟨e, j, none⟩ by simp [Addr.add, h00]]; exact this) h1
  unfold Oper.wp execOp
  simp only [ho, resolve, invoke, builtin, Sem.run_bind, Sem.run_pure, Result.andThen_ok, List.map_toArray, List.map_cons, List.map_nil, hs, hx]
  have hold : (Builtin.firstCells i.size 0 (.slice sa 0 0)).run Try.prog w.drew = .ok (#[] : Array Value) w.drew := by
    cases sa with
    | none => exact run_firstCells_none w.drew i.size 0 0 0
    | some s => exact run_firstCells_some w.drew i.size 0 s 0 0 [] (by simp) (fun j u h => by simp at h)
  have hg := run_append_grow_src (P := Try.prog) w ts ts op.type t i z hu hi e3 sa 0 0 [] hold _ n _ (by rw [e1]; exact hsrc) (by omega) (by omega) (growslice_fits (by omega) (by rw [e2, Nat.zero_add]; have : n * byt ≤ 1000 * 1000 := Nat.mul_le_mul hn hby; omega))
  rw [hg, Nat.zero_add]
  have hge := grownCap_ge w n 0 t
  refine k w.heap.size _ _ _ (Below.alloc (below_drewN (Below.refl _ _) 1) (Nat.le_refl _) _) (Nat.le_refl _) (by rw [sz_alloc, sz_drew]; omega) hge (row_new _ _ _) (fun j u hj => ?_)
  have hl := (List.getElem?_eq_some_iff.1 hj).1
  rw [List.nil_append, Array.getElem?_append_left (by rw [List.size_toArray]; exact hl), List.getElem?_toArray]
  exact hj
theorem infoB : (Try.prog.info? 4).map (fun i => (i.size, i.bytes, i.zero)) = some (1, 1, some (.bool false)) := by kernel_rfl
def listE (e : Nat → En) : List Value := (enC e).toList
def listI (f : Nat → Bool) : List Value := (isC f).toList
theorem listE_at {w : World} {L : Nat} {e : Nat → En} (h : RowE w L e) (j : Nat) (u : Value) (hj : (listE e)[j]? = some u) : w.cell? ⟨L, j, none⟩ = some u := by
  obtain ⟨ce, h1, h2⟩ := h
  have hl : j < 40 := by
    have := (List.getElem?_eq_some_iff.1 hj).1
    unfold listE at this; rw [Array.length_toList, enC_size] at this; exact this
  have q := h2 (j / 5) (by omega) (j % 5) (by omega)
  have q2 := enC_get e (j / 5) (j % 5) (by omega) (by omega)
  rw [show 5 * (j / 5) + j % 5 = j by omega] at q q2
  rw [h1.cell j, q, ← q2, ← Array.getElem?_toList]; exact hj
theorem listI_at {w : World} {I : Nat} {f : Nat → Bool} (h : RowI w I f) (j : Nat) (u : Value) (hj : (listI f)[j]? = some u) : w.cell? ⟨I, j, none⟩ = some u := by
  obtain ⟨ce, h1, h2⟩ := h
  have hl : j < 8 := by
    have := (List.getElem?_eq_some_iff.1 hj).1
    unfold listI at this; rw [Array.length_toList, isC_size] at this; exact this
  rw [h1.cell j, h2 j hl, ← isC_get f j hl, ← Array.getElem?_toList]; exact hj
theorem rowE_of {w : World} {g : Nat} {e : Nat → En} {ce : Array Value} (h : Row w g 36 ce) (hc : ∀ (j : Nat) (u : Value), (listE e)[j]? = some u → ce[j]? = some u) : RowE w g e :=
  ⟨ce, h, fun n hn j hj => by
    have q := enC_get e n j hn hj
    have hv : (e n).v[j]? = some ((e n).v[j]'(show j < (e n).v.size from hj)) := Array.getElem?_eq_getElem _
    rw [hv] at q ⊢
    exact hc _ _ (by unfold listE; rw [Array.getElem?_toList]; exact q)⟩
theorem rowI_of {w : World} {g : Nat} {f : Nat → Bool} {ce : Array Value} (h : Row w g 4 ce) (hc : ∀ (j : Nat) (u : Value), (listI f)[j]? = some u → ce[j]? = some u) : RowI w g f :=
  ⟨ce, h, fun n hn => hc _ _ (by unfold listI; rw [Array.getElem?_toList]; exact isC_get f n hn)⟩
theorem listE_len (e : Nat → En) : (listE e).length = 8 * 5 := by unfold listE; rw [Array.length_toList, enC_size]
theorem listI_len (f : Nat → Bool) : (listI f).length = 8 * 1 := by unfold listI; rw [Array.length_toList, isC_size]
theorem en_one (x : En) (j : Nat) (u : Value) (h : x.v[j]? = some u) : u.oneCell' = true := by
  have hm : u ∈ x.v := Array.mem_of_getElem? h
  simp [En.v] at hm
  rcases hm with h | h | h | h | h <;> subst h <;> rfl
theorem listE_one (e : Nat → En) : ∀ u ∈ listE e, u.oneCell' = true := fun u hu => by
  obtain ⟨j, hj⟩ := List.getElem?_of_mem hu
  have hl : j < 40 := by have := (List.getElem?_eq_some_iff.1 hj).1; rw [listE_len] at this; exact this
  have q2 := enC_get e (j / 5) (j % 5) (by omega) (by omega)
  rw [show 5 * (j / 5) + j % 5 = j by omega, ← Array.getElem?_toList] at q2
  exact en_one (e (j / 5)) (j % 5) u (q2.symm.trans hj)
theorem listI_one (f : Nat → Bool) : ∀ u ∈ listI f, u.oneCell' = true := fun u hu => by
  obtain ⟨j, hj⟩ := List.getElem?_of_mem hu
  have hl : j < 8 := by have := (List.getElem?_eq_some_iff.1 hj).1; rw [listI_len] at this; exact this
  have q2 := isC_get f j hl
  rw [← Array.getElem?_toList] at q2
  obtain rfl := Option.some.inj (q2.symm.trans hj)
  rfl
theorem cellB {w w' : World} {b k : Nat} {v : Value} (lb : b < w.heap.size) (h : w.cell? ⟨b, k, none⟩ = some v) (hb : Below w.heap.size w w') : w'.cell? ⟨b, k, none⟩ = some v := (hb.cell (p := ⟨b, k, none⟩) lb).trans h
def CopyT (T : Nat → St → Th) (X : St) (w : World) (e : Ending) (w' : World) : Prop := ∃ b S, e = .returned (.pointer (some ⟨b, 0, none⟩)) ∧ (T b X).P S w' ∧ (∀ k, S k → w.heap.size ≤ k) ∧ Below w.heap.size w w'
theorem copy_end {w wE wI : World} {X : St} {gE cE gI cI : Nat} (hE : Below w.heap.size w wE) (hI : Below wE.heap.size wE wI) (a1 : w.heap.size ≤ gE) (a2 : gE < wE.heap.size) (a3 : 8 ≤ cE) (a4 : RowE wE gE X.e) (b1 : wE.heap.size ≤ gI) (b2 : gI < wI.heap.size) (b3 : 8 ≤ cI) (b4 : RowI wI gI X.is) :
    CopyT eTR X w (.returned (.pointer (some ⟨wI.heap.size, 0, none⟩))) (wI.alloc (Obj.cells #[.slice (some ⟨gE, 0, none⟩) 8 cE, .slice (some ⟨gI, 0, none⟩) 8 cI, .int .u64 (X.sd : Nat)] 62)) := by
  have z1 := hE.size
  have z2 := hI.size
  have hb : Below wI.heap.size wI (wI.alloc (Obj.cells #[.slice (some ⟨gE, 0, none⟩) 8 cE, .slice (some ⟨gI, 0, none⟩) 8 cI, .int .u64 (X.sd : Nat)] 62)) := (Below.refl _ _).alloc (Nat.le_refl _) _
  exact ⟨wI.heap.size, fun k => k = wI.heap.size ∨ k = gE ∨ k = gI, rfl, ⟨gE, cE, gI, cI, ⟨by omega, by omega, by omega, by rw [sz_alloc]; omega, by rw [sz_alloc]; omega, by rw [sz_alloc]; omega, a3, b3, row_new _ _ _, (a4.below hI a2).below hb (by omega), b4.below hb b2⟩, fun k => Iff.rfl⟩, fun k hk => by omega, below_step hb (below_step hI hE hE.size) (by omega)⟩
set_option maxRecDepth 100000 in
set_option maxHeartbeats 4000000 in
theorem copyr_c (b L cl I ci : Nat) (X : St) (w : World) (h : Hid (TRat b L cl I ci X w)) : Calls Try.prog 19 #[.pointer (some ⟨b, 0, none⟩)] w (CopyT eTR X w) := by
  have lb : b < w.heap.size := h.out.lb
  have c0 : w.cell? ⟨b, 0, none⟩ = some (.slice (some ⟨L, 0, none⟩) 8 cl) := (h.out.rb.cell 0).trans rfl
  have c1 : w.cell? ⟨b, 1, none⟩ = some (.slice (some ⟨I, 0, none⟩) 8 ci) := (h.out.rb.cell 1).trans rfl
  have c2 : w.cell? ⟨b, 2, none⟩ = some (.int .u64 (X.sd : Nat)) := (h.out.rb.cell 2).trans rfl
  go_enter Try.func19, Try.ntmps19
  go_wp2_with fail
  go_region_held3 (fun w' => w'.cell? ⟨b, 0, none⟩ = some (.slice (some ⟨L, 0, none⟩) 8 cl) ∧ w'.cell? ⟨b, 1, none⟩ = some (.slice (some ⟨I, 0, none⟩) 8 ci) ∧ w'.cell? ⟨b, 2, none⟩ = some (.int .u64 (X.sd : Nat)))
    (exact ⟨cellB lb c0 (by repeat (first | (with_reducible first | exact Below.refl _ _ | assumption | exact Nat.le_refl _ | refine Below.drew ?_ | refine Below.alloc ?_ ?_ _ | refine Below.setCell ?_ ?_ _ | refine le_alloc ?_ | refine le_set ?_ | refine le_drew ?_ | refine below_step (by assumption) ?_ ?_ | refine le_below (by assumption) ?_) | (dsimp only; omega))), cellB lb c1 (by repeat (first | (with_reducible first | exact Below.refl _ _ | assumption | exact Nat.le_refl _ | refine Below.drew ?_ | refine Below.alloc ?_ ?_ _ | refine Below.setCell ?_ ?_ _ | refine le_alloc ?_ | refine le_set ?_ | refine le_drew ?_ | refine below_step (by assumption) ?_ ?_ | refine le_below (by assumption) ?_) | (dsimp only; omega))), cellB lb c2 (by repeat (first | (with_reducible first | exact Below.refl _ _ | assumption | exact Nat.le_refl _ | refine Below.drew ?_ | refine Below.alloc ?_ ?_ _ | refine Below.setCell ?_ ?_ _ | refine le_alloc ?_ | refine le_set ?_ | refine le_drew ?_ | refine below_step (by assumption) ?_ ?_ | refine le_below (by assumption) ?_) | (dsimp only; omega)))⟩)
    (first
      | (refine step_cp infoR.u infoR.i (by decide) rfl (.tmp 3) (.tmp 7) rfl L 8 cl (listE X.e) (by decide) (by decide) (listE_len _) (listE_one _) (listE_at ((h.out.below (by repeat (first | (with_reducible first | exact Below.refl _ _ | assumption | exact Nat.le_refl _ | refine Below.drew ?_ | refine Below.alloc ?_ ?_ _ | refine Below.setCell ?_ ?_ _ | refine le_alloc ?_ | refine le_set ?_ | refine le_drew ?_ | refine below_step (by assumption) ?_ ?_ | refine le_below (by assumption) ?_) | (dsimp only; omega)))).rL)) _ rfl rfl ?_; intro gE cE ceE wE q1 q2 q3 q4 q5 q6; have E3 := Lib.hid q3; have E2 := Lib.hid q2; have E4 := Lib.hid q4; have E5 := Lib.hid (rowE_of q5 q6); clear q2 q3 q4 q5 q6)
      | (refine step_cp Try.underlying60 infoB (by decide) rfl (.tmp 9) (.tmp 13) rfl I 8 ci (listI X.is) (by decide) (by decide) (listI_len _) (listI_one _) (listI_at ((h.out.below (by repeat (first | (with_reducible first | exact Below.refl _ _ | assumption | exact Nat.le_refl _ | refine Below.drew ?_ | refine Below.alloc ?_ ?_ _ | refine Below.setCell ?_ ?_ _ | refine le_alloc ?_ | refine le_set ?_ | refine le_drew ?_ | refine below_step (by assumption) ?_ ?_ | refine le_below (by assumption) ?_) | (dsimp only; omega)))).rI)) _ rfl rfl ?_; intro gI cI ceI wI r1 r2 r3 r4 r5 r6; have F3 := Lib.hid r3; have F2 := Lib.hid r2; have F4 := Lib.hid r4; have F5 := Lib.hid (rowI_of r5 r6); clear r2 r3 r4 r5 r6))
  all_goals
    have e1 := E2.out
    have e2 := F2.out
    simp only [sz_drew, sz_alloc] at e1 e2
    have hE : Below w.heap.size w wE := (by repeat (first | (with_reducible first | exact Below.refl _ _ | assumption | exact Nat.le_refl _ | refine Below.drew ?_ | refine Below.alloc ?_ ?_ _ | refine Below.setCell ?_ ?_ _ | refine le_alloc ?_ | refine le_set ?_ | refine le_drew ?_ | refine below_step (by assumption) ?_ ?_ | refine le_below (by assumption) ?_) | (dsimp only; omega)))
    have hI : Below wE.heap.size wE wI := (by repeat (first | (with_reducible first | exact Below.refl _ _ | assumption | exact Nat.le_refl _ | refine Below.drew ?_ | refine Below.alloc ?_ ?_ _ | refine Below.setCell ?_ ?_ _ | refine le_alloc ?_ | refine le_set ?_ | refine le_drew ?_ | refine below_step (by assumption) ?_ ?_ | refine le_below (by assumption) ?_) | (dsimp only; omega)))
    go_wp2_with fail
    go_ret
    exact copy_end hE hI (by omega) E3.out E4.out E5.out (by omega) F3.out F4.out F5.out
end Go.Proofs.Ytdplcdgdndeopaa
