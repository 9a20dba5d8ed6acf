/- Taken from other texts: what is needed of them. -/
import Derived.Test.YthhlcchofilimaaGreatDoorUA
import Derived.Test.YthhlcchofilimaaGreatDoorUB
import Derived.Test.YthhlcchofilimaaGreatDoorUC
import Derived.Test.YthhlcchofilimaaGreatDoorUD
import Derived.Test.YthhlcchofilimaaGreatDoorUE
import Derived.Test.YthhlcchofilimaaGreatDoorUG
import Derived.Test.YthhlcchofilimaaGreatDoorUH
import Derived.Test.YthhlcchofilimaaGreatDoorUI
import Derived.Test.YthhlcchofilimaaGreatDoorUJ
import Derived.Test.YthhlcchofilimaaGreatDoorUK
import Derived.Test.YthhlcchofilimaaGreatDoorUN
import Derived.Test.YthhlcchofilimaaGreatDoorUO
import Derived.Test.YthhlcchofilimaaGreatDoorURA
import Derived.Deep.RegionHeld3
namespace Go.Proofs.YthhlcchofilimaaGreatDoor.U.T
set_option linter.unusedVariables false
set_option linter.unusedSimpArgs false
set_option maxRecDepth 20000
set_option maxRecDepth 20000
open Go.ChangeShapes Go.WideShapes Go.ChangeAt Go.RowKit
/-- The document's uart in a block: all that came (K), how many of it were read; whatever it holds lies in R. -/
structure Af (R : Nat → Nat → Prop) (N : Nat) (w : World) (b : Nat) (U : Ur) (K : List Nat) (r : Nat) (sa : Option Addr) (n c g o : Nat) (ta : Option Addr) (m d h p : Nat) : Prop where
  lt : b < w.heap.size
  c0 : w.cell? ⟨b, 0, none⟩ = some (.slice sa n c)
  c1 : w.cell? ⟨b, 1, none⟩ = some (.slice ta m d)
  c2 : w.cell? ⟨b, 2, none⟩ = some (.int .i64 (r : Nat))
  c3 : w.cell? ⟨b, 3, none⟩ = some (.int .u64 (U.want : Nat))
  c4 : w.cell? ⟨b, 4, none⟩ = some (.int .u64 (b2n U.lost : Nat))
  c5 : w.cell? ⟨b, 5, none⟩ = some (.int .u64 (U.scr : Nat))
  fz : ∀ j, j < 6 → w.frozen? ⟨b, j, none⟩ = false
  q : SlA w sa n c g o K
  s : SlA w ta m d h p U.sent
  ok : OkU U
  left : K.drop r = U.q
  rle : r ≤ n
  nle : n ≤ N
  k8 : ∀ x ∈ K, x < 256
  rb : ∀ j, R b j
  rq : ∀ i, i < c → R g (o + i)
  rs : ∀ i, i < d → R h (p + i)
  rlt : ∀ k j, R k j → k < w.heap.size
  qb : 0 < c → g ≠ b
  sb : 0 < d → h ≠ b
  qs : 0 < c → 0 < d → g ≠ h
def IsR (R : Nat → Nat → Prop) (N : Nat) (w : World) (b : Nat) (U : Ur) : Prop := ∃ K r sa n c g o ta m d h p, Af R N w b U K r sa n c g o ta m d h p
section
variable {R T R2 : Nat → Nat → Prop} {N : Nat} {w w' : World} {b : Nat} {U : Ur} {K : List Nat} {r : Nat} {sa : Option Addr} {n c g o : Nat} {ta : Option Addr} {m d h p : Nat}
theorem Af.cells (x : Af R N w b U K r sa n c g o ta m d h p) : ∀ j, j < 6 → (w.cell? ⟨b, j, none⟩).isSome = true := fun j hj => by
  have : j = 0 ∨ j = 1 ∨ j = 2 ∨ j = 3 ∨ j = 4 ∨ j = 5 := by omega
  rcases this with rfl | rfl | rfl | rfl | rfl | rfl
  · rw [x.c0]; rfl
  · rw [x.c1]; rfl
  · rw [x.c2]; rfl
  · rw [x.c3]; rfl
  · rw [x.c4]; rfl
  · rw [x.c5]; rfl
theorem Af.kept (x : Af R N w b U K r sa n c g o ta m d h p) (hc : Ch T w w') (hn : ∀ k j, T k j → ¬ R k j) : Af R N w' b U K r sa n c g o ta m d h p :=
  have nb : ∀ j, ¬ T b j := fun j ht => hn _ _ ht (x.rb j)
  ⟨Nat.lt_of_lt_of_le x.lt hc.size, (hc.cell b 0 x.lt (nb 0)).trans x.c0, (hc.cell b 1 x.lt (nb 1)).trans x.c1, (hc.cell b 2 x.lt (nb 2)).trans x.c2, (hc.cell b 3 x.lt (nb 3)).trans x.c3, (hc.cell b 4 x.lt (nb 4)).trans x.c4, (hc.cell b 5 x.lt (nb 5)).trans x.c5,
    fun j hj => (hc.frozen b j x.lt).trans (x.fz j hj), x.q.kept hc (fun i hi ht => hn _ _ ht (x.rq i (Nat.lt_of_lt_of_le hi x.q.le))), x.s.kept hc (fun i hi ht => hn _ _ ht (x.rs i (Nat.lt_of_lt_of_le hi x.s.le))), x.ok, x.left, x.rle, x.nle, x.k8, x.rb, x.rq, x.rs,
    fun k j hk => Nat.lt_of_lt_of_le (x.rlt k j hk) hc.size, x.qb, x.sb, x.qs⟩
theorem Af.below (x : Af R N w b U K r sa n c g o ta m d h p) (hb : Below w.heap.size w w') : Af R N w' b U K r sa n c g o ta m d h p := x.kept (Ch.of_below (fun _ _ => False) hb) (fun _ _ h => h.elim)
theorem Af.mono (x : Af R N w b U K r sa n c g o ta m d h p) {N2 : Nat} (hN : N ≤ N2) (hR : ∀ k j, R k j → R2 k j) (hlt : ∀ k j, R2 k j → k < w.heap.size) : Af R2 N2 w b U K r sa n c g o ta m d h p :=
  { x with nle := Nat.le_trans x.nle hN, rb := fun j => hR _ _ (x.rb j), rq := fun i hi => hR _ _ (x.rq i hi), rs := fun i hi => hR _ _ (x.rs i hi), rlt := hlt }
theorem Af.up (x : Af R N w' b U K r sa n c g o ta m d h p) (w : World) : IsR (Up R w w') N w' b U :=
  ⟨_, _, _, _, _, _, _, _, _, _, _, _, x.mono (Nat.le_refl _) (fun _ _ => .inl) (fun k j hk => hk.elim (x.rlt k j) (·.2))⟩
theorem Af.spare0 (x : Af R N w b U K r sa n c g o ta m d h p) : ∀ i j, Spare g o n c i j → R i j := fun i j ⟨e, k, h1, h2, e2⟩ => by subst e e2; exact x.rq k h2
/-- A byte has come. -/
theorem Af.came (x : Af R N w b U K r sa n c g o ta m d h p) {w2 : World} {a' : Option Addr} {c' g' o' y : Nat} (hc : Ch (Spare g o n c) w w2) (hs : SlA w2 a' (n + 1) c' g' o' (K ++ [y])) (hm : Mv w g o c g' o' c') (hy : y < 256) (hok : OkU { U with q := U.q ++ [y] }) :
    IsR (Up R w (w2.setCell ⟨b, 0, none⟩ (.slice a' (n + 1) c'))) (N + 1) (w2.setCell ⟨b, 0, none⟩ (.slice a' (n + 1) c')) b { U with q := U.q ++ [y] } ∧ Ch R w (w2.setCell ⟨b, 0, none⟩ (.slice a' (n + 1) c')) := by
  have nb : ∀ j, ¬ Spare g o n c b j := fun j ⟨e, i, _, hi, _⟩ => x.qb (by omega) e.symm
  have hs0 : SlA w2 ta m d h p U.sent := x.s.kept hc (fun i hi ⟨e, j, _, hj, _⟩ => x.qs (by omega) (by have := x.s.le; omega) e.symm)
  have hlt : b < w2.heap.size := Nat.lt_of_lt_of_le x.lt hc.size
  have is0 : (w2.cell? ⟨b, 0, none⟩).isSome = true := hc.there b 0 x.lt (x.cells 0 (by decide))
  have hset : Ch (fun k _ => k = b) w2 (w2.setCell ⟨b, 0, none⟩ (.slice a' (n + 1) c')) := Ch.set _ _ _ _ _ rfl is0
  have ng : 0 < c' → g' ≠ b := fun h0 => by
    rcases hm with ⟨rfl, -, rfl⟩ | hm
    · exact x.qb h0
    · have := x.lt; omega
  refine ⟨⟨K ++ [y], r, a', n + 1, c', g', o', ta, m, d, h, p, ?_⟩, (hc.mono x.spare0).trans (Ch.set R w2 b 0 _ (x.rb 0) is0) (fun _ _ h => .inl h)⟩
  refine ⟨by rw [sz_set]; exact hlt, cell_eq _ _ _ _ is0, (cell_ne _ _ _ _ _ (by decide)).trans ((hc.cell b 1 x.lt (nb 1)).trans x.c1), (cell_ne _ _ _ _ _ (by decide)).trans ((hc.cell b 2 x.lt (nb 2)).trans x.c2), (cell_ne _ _ _ _ _ (by decide)).trans ((hc.cell b 3 x.lt (nb 3)).trans x.c3), (cell_ne _ _ _ _ _ (by decide)).trans ((hc.cell b 4 x.lt (nb 4)).trans x.c4), (cell_ne _ _ _ _ _ (by decide)).trans ((hc.cell b 5 x.lt (nb 5)).trans x.c5),
    fun j hj => by rw [World.frozen?_setCell]; exact (hc.frozen b j x.lt).trans (x.fz j hj), hs.kept hset (fun i hi e => ng (by have := hs.le; omega) e), hs0.kept hset (fun i hi e => x.sb (by have := x.s.le; omega) e), hok, ?_, by have := x.rle; omega, by have := x.nle; omega, fun z hz => ?_, fun j => .inl (x.rb j), fun i hi => ?_, fun i hi => .inl (x.rs i hi), fun k j hk => ?_, ng, x.sb, fun h1 h2 => ?_⟩
  · rw [List.drop_append_of_le_length (by rw [x.q.len]; exact x.rle), x.left]
  · rcases List.mem_append.1 hz with hz | hz
    · exact x.k8 z hz
    · rw [List.mem_singleton.1 hz]; exact hy
  · rw [up_set]
    rcases hm with ⟨rfl, rfl, rfl⟩ | hm
    · exact .inl (x.rq i hi)
    · exact .inr ⟨hm, (hs.addr (by omega)).2⟩
  · rw [up_set] at hk
    rw [sz_set]
    rcases hk with hk | hk
    · exact Nat.lt_of_lt_of_le (x.rlt k j hk) hc.size
    · exact hk.2
  · rcases hm with ⟨rfl, -, rfl⟩ | hm
    · exact x.qs h1 h2
    · have := (x.s.addr h2).2; omega
theorem IsR.kept (x : IsR R N w b U) (hc : Ch T w w') (hn : ∀ k j, T k j → ¬ R k j) : IsR R N w' b U := by
  obtain ⟨K, r, sa, n, c, g, o, ta, m, d, h, p, x⟩ := x
  exact ⟨K, r, sa, n, c, g, o, ta, m, d, h, p, x.kept hc hn⟩
theorem IsR.below (x : IsR R N w b U) (hb : Below w.heap.size w w') : IsR R N w' b U := x.kept (Ch.of_below (fun _ _ => False) hb) (fun _ _ h => h.elim)
end
def RetRN (U : Ur) (W : World) (e : Ending) (w' : World) : Prop := ∃ b R, e = .returned (.pointer (some ⟨b, 0, none⟩)) ∧ IsR R 0 w' b U ∧ (∀ k j, R k j → W.heap.size ≤ k) ∧ Below W.heap.size W w'
theorem newr_c (w : World) : Calls Tryz.prog 23 #[] w (RetRN U0 w) := by
  go_enter Tryz.func23, Tryz.ntmps23
  go_wp2_with fail
  go_ret
  refine ⟨_, fun k _ => k = w.heap.size, rfl, ⟨[], 0, none, 0, 0, 0, 0, none, 0, 0, 0, 0, ?_⟩, fun k j hk => by rw [hk]; exact Nat.le_refl _, below_one _ _⟩
  refine ⟨by rw [sz_alloc]; omega, ?_, ?_, ?_, ?_, ?_, ?_, fun j hj => by rw [World.frozen?_alloc_at _ _ _ _ rfl], slA_nil _ _ _ _, slA_nil _ _ _ _, okU0, rfl, Nat.le_refl _, Nat.le_refl _, fun x hx => (List.not_mem_nil hx).elim, fun j => rfl, fun i hi => by omega, fun i hi => by omega, fun k j hk => by rw [hk, sz_alloc]; omega, fun h => by omega, fun h => by omega, fun h => by omega⟩ <;> (rw [World.cell?_alloc_at _ _ _ _ rfl]; rfl)
end Go.Proofs.YthhlcchofilimaaGreatDoor.U.T
namespace Go.Proofs.YthhlcchofilimaaGreatDoor.U.T
set_option linter.unusedVariables false
set_option linter.unusedSimpArgs false
set_option maxRecDepth 20000
set_option maxRecDepth 20000
open Go.ChangeShapes Go.WideShapes Go.ChangeAt Go.RowKit
end Go.Proofs.YthhlcchofilimaaGreatDoor.U.T
namespace Go.Proofs.YthhlcchofilimaaGreatDoor.U.T
set_option linter.unusedVariables false
set_option linter.unusedSimpArgs false
set_option maxRecDepth 20000
set_option maxRecDepth 20000
open Go.ChangeShapes Go.WideShapes Go.ChangeAt Go.RowKit
end Go.Proofs.YthhlcchofilimaaGreatDoor.U.T
namespace Go.Proofs.YthhlcchofilimaaGreatDoor.U.T
set_option linter.unusedVariables false
set_option linter.unusedSimpArgs false
set_option maxRecDepth 20000
set_option maxRecDepth 20000
open Go.ChangeShapes Go.WideShapes Go.ChangeAt Go.RowKit
theorem le_alloc {n : Nat} {w : World} {o : Obj} (h : n ≤ w.heap.size) : n ≤ (w.alloc o).heap.size := by rw [sz_alloc]; omega
theorem le_set {n : Nat} {w : World} {p : Addr} {u : Value} (h : n ≤ w.heap.size) : n ≤ (w.setCell p u).heap.size := by rw [sz_set]; exact h
section
variable {R : Nat → Nat → Prop} {N : Nat} {w w' : World} {b : Nat} {U : Ur} {K : List Nat} {r : Nat} {sa : Option Addr} {n c g o : Nat} {ta : Option Addr} {m d h p : Nat}
end
end Go.Proofs.YthhlcchofilimaaGreatDoor.U.T
namespace Go.Proofs.YthhlcchofilimaaGreatDoor.U.T
set_option linter.unusedVariables false
set_option linter.unusedSimpArgs false
set_option maxRecDepth 20000
set_option maxRecDepth 20000
open Go.ChangeShapes Go.WideShapes Go.ChangeAt Go.RowKit
abbrev Fp := Nat → Nat → Prop
def Dj (T R : Fp) : Prop := ∀ k j, T k j → ¬ R k j
/-- A thing in memory: what it reads lies in R, what it may write in W. -/
structure Ent where
  P : Fp → Fp → World → Prop
  kept : ∀ {T R W : Fp} {w w' : World}, P R W w → Ch T w w' → Dj T R → P R W w'
  wr : ∀ {R W : Fp} {w : World}, P R W w → ∀ k j, W k j → R k j
  rlt : ∀ {R W : Fp} {w : World}, P R W w → ∀ k j, R k j → k < w.heap.size
/-- Several things, none of which writes what another one reads; all of them are newer than w0. -/
structure AllAt (w0 : World) (l : List Ent) (R W : Nat → Fp) (w : World) : Prop where
  each : ∀ (i : Nat) (E : Ent), l[i]? = some E → E.P (R i) (W i) w
  dj : ∀ i j, i < l.length → j < l.length → i ≠ j → Dj (W i) (R j)
  new : ∀ i, i < l.length → ∀ k j, R i k j → w0.heap.size ≤ k
  out : Below w0.heap.size w0 w
def All (w0 : World) (l : List Ent) (w : World) : Prop := ∃ R W : Nat → Fp, AllAt w0 l R W w
section
variable {w0 w w' : World} {l : List Ent} {E E' : Ent}
theorem All.out (h : All w0 l w) : Below w0.heap.size w0 w := h.choose_spec.choose_spec.out
theorem All.get (h : All w0 l w) (i : Nat) (hi : l[i]? = some E) : ∃ R W, E.P R W w := by
  obtain ⟨R, W, h⟩ := h
  exact ⟨_, _, h.each i E hi⟩
theorem len_of {i : Nat} (hi : l[i]? = some E) : i < l.length := (List.getElem?_eq_some_iff.1 hi).1
theorem All.below (h : All w0 l w) (hb : Below w.heap.size w w') : All w0 l w' := by
  obtain ⟨R, W, h1, h2, h3, h4⟩ := h
  exact ⟨R, W, ⟨fun i E hi => E.kept (h1 i E hi) (Ch.of_below (fun _ _ => False) hb) (fun _ _ h => h.elim), h2, h3, h4.trans (hb.mono h4.size)⟩⟩
theorem AllAt.set {R W : Nat → Fp} (h : AllAt w0 l R W w) (i : Nat) (hi : l[i]? = some E) (c1 : E'.P (Up (R i) w w') (Up (W i) w w') w') (c2 : Ch (W i) w w') : All w0 (l.set i E') w' := by
  obtain ⟨h1, h2, h3, h4⟩ := h
  have il := len_of hi
  refine ⟨fun k => if k = i then Up (R i) w w' else R k, fun k => if k = i then Up (W i) w w' else W k, ⟨fun k F hk => ?_, fun a b ha hb hne => ?_, fun k hk => ?_, c2.below (fun k j hk => h3 i il k j (E.wr (h1 i E hi) k j hk)) h4 h4.size⟩⟩
  · by_cases e : k = i
    · subst e
      rw [List.getElem?_set_self il] at hk
      obtain rfl : E' = F := by simpa using hk
      show E'.P (if k = k then _ else _) (if k = k then _ else _) w'
      rw [if_pos rfl, if_pos rfl]; exact c1
    · rw [List.getElem?_set_ne (fun q => e q.symm)] at hk
      show F.P (if k = i then _ else _) (if k = i then _ else _) w'
      rw [if_neg e, if_neg e]
      exact F.kept (h1 k F hk) c2 (h2 i k il (len_of hk) (fun q => e q.symm))
  · rw [List.length_set] at ha hb
    show Dj (if a = i then _ else _) (if b = i then _ else _)
    have lt : ∀ k, k < l.length → ∀ x y, R k x y → x < w.heap.size := fun k hk => by
      obtain ⟨F, hF⟩ : ∃ F, l[k]? = some F := ⟨_, List.getElem?_eq_getElem hk⟩
      exact F.rlt (h1 k F hF)
    have wl : ∀ k, k < l.length → ∀ x y, W k x y → x < w.heap.size := fun k hk => by
      obtain ⟨F, hF⟩ : ∃ F, l[k]? = some F := ⟨_, List.getElem?_eq_getElem hk⟩
      exact fun x y q => F.rlt (h1 k F hF) x y (F.wr (h1 k F hF) x y q)
    by_cases ea : a = i
    · subst ea
      have eb : ¬ b = a := fun q => hne q.symm
      rw [if_pos rfl, if_neg eb]
      intro x y hx hy
      rcases hx with hx | hx
      · exact h2 a b ha hb hne x y hx hy
      · have := lt b hb x y hy; omega
    · rw [if_neg ea]
      by_cases eb : b = i
      · subst eb
        rw [if_pos rfl]
        intro x y hx hy
        rcases hy with hy | hy
        · exact h2 a b ha hb hne x y hx hy
        · have := wl a ha x y hx; omega
      · rw [if_neg eb]; exact h2 a b ha hb hne
  · rw [List.length_set] at hk
    show ∀ x y, (if k = i then _ else _ : Fp) x y → _
    by_cases e : k = i
    · subst e
      rw [if_pos rfl]
      intro x y hx
      rcases hx with hx | hx
      · exact h3 k hk x y hx
      · exact Nat.le_trans h4.size hx.1
    · rw [if_neg e]; exact h3 k hk
/-- One of them has done something. -/
theorem All.set (h : All w0 l w) (i : Nat) (hi : l[i]? = some E) (hc : ∀ R W, E.P R W w → E'.P (Up R w w') (Up W w w') w' ∧ Ch W w w') : All w0 (l.set i E') w' := by
  obtain ⟨R, W, h⟩ := h
  obtain ⟨c1, c2⟩ := hc _ _ (h.each i E hi)
  exact h.set i hi c1 c2
/-- A new one. -/
theorem All.push (h : All w0 l w) (hb : Below w.heap.size w w') {R1 W1 : Fp} (hE : E.P R1 W1 w') (hn : ∀ k j, R1 k j → w.heap.size ≤ k) : All w0 (l ++ [E]) w' := by
  obtain ⟨R, W, h1, h2, h3, h4⟩ := h
  have lt : ∀ k, k < l.length → ∀ x y, R k x y → x < w.heap.size := fun k hk => by
    obtain ⟨F, hF⟩ : ∃ F, l[k]? = some F := ⟨_, List.getElem?_eq_getElem hk⟩
    exact F.rlt (h1 k F hF)
  have wl : ∀ k, k < l.length → ∀ x y, W k x y → x < w.heap.size := fun k hk => by
    obtain ⟨F, hF⟩ : ∃ F, l[k]? = some F := ⟨_, List.getElem?_eq_getElem hk⟩
    exact fun x y q => F.rlt (h1 k F hF) x y (F.wr (h1 k F hF) x y q)
  refine ⟨fun k => if k = l.length then R1 else R k, fun k => if k = l.length then W1 else W k, ⟨fun k F hk => ?_, fun a b ha hb' hne => ?_, fun k hk => ?_, h4.trans (hb.mono h4.size)⟩⟩
  · by_cases e : k = l.length
    · subst e
      rw [List.getElem?_append_right (Nat.le_refl _), Nat.sub_self] at hk
      obtain rfl : E = F := by simpa using hk
      show E.P (if _ then _ else _) (if _ then _ else _) w'
      rw [if_pos rfl, if_pos rfl]; exact hE
    · have hk2 : k < l.length := by
        have := len_of hk
        rw [List.length_append] at this
        have : k < l.length + 1 := this
        omega
      rw [List.getElem?_append_left hk2] at hk
      show F.P (if _ then _ else _) (if _ then _ else _) w'
      rw [if_neg e, if_neg e]
      exact F.kept (h1 k F hk) (Ch.of_below (fun _ _ => False) hb) (fun _ _ h => h.elim)
  · rw [List.length_append] at ha hb'
    have ha2 : a < l.length + 1 := ha
    have hb2 : b < l.length + 1 := hb'
    show Dj (if a = l.length then _ else _) (if b = l.length then _ else _)
    by_cases ea : a = l.length
    · have eb : ¬ b = l.length := fun q => hne (ea.trans q.symm)
      rw [if_pos ea, if_neg eb]
      intro x y hx hy
      have := hn x y (E.wr hE x y hx)
      have := lt b (by omega) x y hy
      omega
    · rw [if_neg ea]
      by_cases eb : b = l.length
      · rw [if_pos eb]
        intro x y hx hy
        have := hn x y hy
        have := wl a (by omega) x y hx
        omega
      · rw [if_neg eb]; exact h2 a b (by omega) (by omega) hne
  · rw [List.length_append] at hk
    have hk2 : k < l.length + 1 := hk
    show ∀ x y, (if k = l.length then _ else _ : Fp) x y → _
    by_cases e : k = l.length
    · rw [if_pos e]
      intro x y hx
      exact Nat.le_trans h4.size (hn x y hx)
    · rw [if_neg e]; exact h3 k (by omega)
end
/-- The document's. -/
def eR (b N : Nat) (U : Ur) : Ent where
  P R W w := R = W ∧ IsR W N w b U
  kept h hc hd := ⟨h.1, h.2.kept hc (by rw [← h.1]; exact hd)⟩
  wr h := by rw [h.1]; exact fun _ _ h => h
  rlt h := by obtain ⟨e, K, r, sa, n, c, g, o, ta, m, d, hh, p, x⟩ := h; rw [e]; exact x.rlt
section
variable {w0 w w' : World} {l : List Ent}
end
end Go.Proofs.YthhlcchofilimaaGreatDoor.U.T
namespace Go.Proofs.YthhlcchofilimaaGreatDoor.U.T
set_option linter.unusedVariables false
set_option linter.unusedSimpArgs false
set_option maxRecDepth 20000
set_option maxRecDepth 20000
open Go.ChangeShapes Go.WideShapes Go.ChangeAt Go.RowKit
section
variable {w0 w w' : World} {l : List Ent} {E E' : Ent}
section
variable {b x v N : Nat} {U : Ur}
end
end
end Go.Proofs.YthhlcchofilimaaGreatDoor.U.T
