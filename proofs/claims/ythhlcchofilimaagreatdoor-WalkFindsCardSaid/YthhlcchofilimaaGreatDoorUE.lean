/- Taken from other texts: what is needed of them. -/
import Derived.Test.YthhlcchofilimaaGreatDoorUA
import Derived.Test.YthhlcchofilimaaGreatDoorUB
import Derived.Test.YthhlcchofilimaaGreatDoorUC
import Derived.Test.YthhlcchofilimaaGreatDoorUD
import Derived.Test.YthhlcchofilimaaGreatDoorProg
import Derived.WalkKit
import Derived.Deep.QuietTactic
import Derived.BigQuiet
import Derived.ProofKit
import Derived.OpenShut
import Derived.WalkLawsBesides
import Derived.WalkSpells
import Derived.RegionTactic
import Derived.ChangeAlike
import Derived.Outline
import Derived.Laws.Externs
import Derived.Lib.Hide
import Derived.Laws.Bits64
import Derived.Laws.Bits64b
import Derived.Laws.Rows
import Derived.Deep.LoopGhost
import Derived.Deep.WholeRow
namespace Go.Proofs.YthhlcchofilimaaGreatDoor.U.P
set_option linter.unusedVariables false
set_option linter.unusedSimpArgs false
set_option maxRecDepth 20000
set_option maxRecDepth 20000
/-- What is known of the sources (line up, state, priority) and of the contexts (enabled, threshold). -/
structure St where
  up : Nat → Bool
  st : Nat → Nat
  pr : Nat → Nat
  en : Nat → Nat
  th : Nat → Nat
def S0 : St := ⟨fun _ => false, fun _ => 0, fun _ => 0, fun _ => 0, fun _ => 0⟩
def set {α : Type} (f : Nat → α) (n : Nat) (x : α) : Nat → α := fun k => if k = n then x else f k
def St.setPr (S : St) (n v : Nat) : St := { S with pr := set S.pr n v }
def St.setSt (S : St) (n v : Nat) : St := { S with st := set S.st n v }
def St.setUp (S : St) (n : Nat) (v : Bool) : St := { S with up := set S.up n v }
def St.setEn (S : St) (n v : Nat) : St := { S with en := set S.en n v }
def St.setTh (S : St) (n v : Nat) : St := { S with th := set S.th n v }
def takeB (S : St) (c n : Nat) : Bool := S.en c / 2 ^ n % 2 == 1
def hitB (S : St) (c r n : Nat) : Bool := S.pr n == r && (S.st n == 1 && takeB S c n)
def rowF (S : St) (c r : Nat) : Nat → Nat → Option Nat
  | 0, _ => none
  | g + 1, k => bif hitB S c r k then some k else rowF S c r g (k + 1)
def orF : Option Nat → Nat → Nat
  | some n, _ => n
  | none, m => m
def bestF (S : St) (c : Nat) : Nat → Nat
  | 0 => 0
  | r + 1 => orF (rowF S c (r + 1) 9 0) (bestF S c r)
theorem rowF_some {S : St} {c r n : Nat} : ∀ {g k : Nat}, rowF S c r g k = some n → k ≤ n ∧ n < k + g ∧ hitB S c r n = true ∧ ∀ j, k ≤ j → j < n → hitB S c r j = false
  | 0, k, h => by cases h
  | g + 1, k, h => by
    unfold rowF at h
    cases hh : hitB S c r k
    · rw [hh] at h
      obtain ⟨h1, h2, h3, h4⟩ := rowF_some (g := g) (k := k + 1) h
      refine ⟨by omega, by omega, h3, fun j hj hjn => ?_⟩
      by_cases e : j = k
      · rw [e]; exact hh
      · exact h4 j (by omega) hjn
    · rw [hh] at h
      obtain rfl : k = n := by simpa using h
      exact ⟨Nat.le_refl _, by omega, hh, fun j hj hjn => by omega⟩
theorem rowF_none {S : St} {c r : Nat} : ∀ {g k : Nat}, rowF S c r g k = none → ∀ j, k ≤ j → j < k + g → hitB S c r j = false
  | 0, k, _ => fun j h1 h2 => by omega
  | g + 1, k, h => by
    unfold rowF at h
    cases hh : hitB S c r k
    · rw [hh] at h
      intro j h1 h2
      by_cases e : j = k
      · rw [e]; exact hh
      · exact rowF_none (g := g) (k := k + 1) h j (by omega) (by omega)
    · rw [hh] at h; cases h
/-- What the best is: none; or the first of the greatest rank. -/
theorem best_spec (S : St) (c : Nat) : ∀ r, (bestF S c r = 0 ∧ ∀ q n, 1 ≤ q → q ≤ r → n < 9 → hitB S c q n = false) ∨
    ∃ q, 1 ≤ q ∧ q ≤ r ∧ bestF S c r < 9 ∧ hitB S c q (bestF S c r) = true ∧ (∀ n, n < bestF S c r → hitB S c q n = false) ∧ (∀ p n, q < p → p ≤ r → n < 9 → hitB S c p n = false)
  | 0 => Or.inl ⟨rfl, fun q n h1 h2 _ => by omega⟩
  | r + 1 => by
    have e : bestF S c (r + 1) = orF (rowF S c (r + 1) 9 0) (bestF S c r) := rfl
    cases hr : rowF S c (r + 1) 9 0 with
    | none =>
      rw [hr] at e
      rw [show bestF S c (r + 1) = bestF S c r from e]
      have hn := rowF_none hr
      rcases best_spec S c r with ⟨h1, h2⟩ | ⟨q, h1, h2, h3, h4, h5, h6⟩
      · refine Or.inl ⟨h1, fun q n a b d => ?_⟩
        by_cases e2 : q = r + 1
        · rw [e2]; exact hn n (by omega) (by omega)
        · exact h2 q n a (by omega) d
      · refine Or.inr ⟨q, h1, by omega, h3, h4, h5, fun p n a b d => ?_⟩
        by_cases e2 : p = r + 1
        · rw [e2]; exact hn n (by omega) (by omega)
        · exact h6 p n a (by omega) d
    | some n =>
      rw [hr] at e
      rw [show bestF S c (r + 1) = n from e]
      obtain ⟨h1, h2, h3, h4⟩ := rowF_some hr
      exact Or.inr ⟨r + 1, by omega, by omega, by omega, h3, fun j hj => h4 j (by omega) hj, fun p m a b d => by omega⟩
theorem best_lt (S : St) (c r : Nat) : bestF S c r < 9 := by
  rcases best_spec S c r with ⟨h, -⟩ | ⟨q, -, -, h, -⟩
  · rw [h]; decide
  · exact h
def best (S : St) (c : Nat) : Nat := bestF S c 7
/-- The bits of the sources that wait, from the first k. -/
def waitF (S : St) : Nat → Nat
  | 0 => 0
  | k + 1 => waitF S k + (bif S.st k == 1 then 2 ^ k else 0)
theorem waitF_lt (S : St) : ∀ k, waitF S k < 2 ^ k
  | 0 => by show 0 < 1; decide
  | k + 1 => by
    have h := waitF_lt S k
    show waitF S k + (bif S.st k == 1 then 2 ^ k else 0) < 2 ^ (k + 1)
    rw [Nat.pow_succ]
    cases S.st k == 1 <;> simp <;> omega
end Go.Proofs.YthhlcchofilimaaGreatDoor.U.P
namespace Go.Proofs.YthhlcchofilimaaGreatDoor.U.P
set_option linter.unusedVariables false
set_option linter.unusedSimpArgs false
set_option maxRecDepth 20000
set_option maxRecDepth 20000
open Go.ChangeShapes Go.WideShapes Go.ChangeAt Go.RowKit
theorem le_below {n B : Nat} {w w' : World} (hb : Below B w w') (h : n ≤ w.heap.size) : n ≤ w'.heap.size := Nat.le_trans h hb.size
theorem below_step {B B' : Nat} {w w1 w2 : World} (hb : Below B' w1 w2) (h : Below B w w1) (hB : B ≤ B') : Below B w w2 := h.trans (hb.mono hB)
theorem below_drewN {B : Nat} {w w' : World} (h : Below B w w') (n : Nat) : Below B w (w'.drewN n) := ⟨h.os, h.tape, h.output, h.size, h.block⟩
theorem le_drew {n : Nat} {w : World} (h : n ≤ w.heap.size) : n ≤ w.drew.heap.size := h
theorem le_drewN {n k : Nat} {w : World} (h : n ≤ w.heap.size) : n ≤ (w.drewN k).heap.size := h
theorem sz_drewN (w : World) (k : Nat) : (w.drewN k).heap.size = w.heap.size := rfl
theorem sz_drew (w : World) : w.drew.heap.size = w.heap.size := rfl
def RetB (b : Bool) (W : World) (e : Ending) (w' : World) : Prop := e = .returned (.bool b) ∧ Below W.heap.size W w'
theorem retB_mk {a b : Bool} {W w' : World} (h : a = b) (hb : Below W.heap.size W w') : RetB b W (.returned (.bool a)) w' := ⟨by rw [h], hb⟩
/-- Nothing that was there is written. -/
theorem grown_below {w w' : World} (h : Below w.heap.size w w') : w.grownBy w' none := ⟨h.os, h.tape, h.output, h.size, fun k hk _ => h.block k hk⟩
theorem grown_refl (w : World) (r : Option Nat) : w.grownBy w r := ⟨rfl, rfl, rfl, Nat.le_refl _, fun _ _ _ => rfl⟩
theorem grown_trans {a b c : World} {r : Option Nat} (h : a.grownBy b r) (k : b.grownBy c r) : a.grownBy c r :=
  ⟨k.os.trans h.os, k.tape.trans h.tape, k.output.trans h.output, Nat.le_trans h.size k.size, fun i hi hr => (k.block i (Nat.lt_of_lt_of_le hi h.size) hr).trans (h.block i hi hr)⟩
theorem grown_any {a b : World} {r : Option Nat} (h : a.grownBy b none) : a.grownBy b r := ⟨h.os, h.tape, h.output, h.size, fun i hi _ => h.block i hi (by simp)⟩
theorem grown_alloc {a b : World} {r : Option Nat} (h : a.grownBy b r) (o : Obj) : a.grownBy (b.alloc o) r := grown_trans h (World.grownBy_alloc b o r)
theorem grown_set {a b : World} {k : Nat} (h : a.grownBy b (some k)) (o : Nat) (f : Option Nat) (u : Value) (n : Option Nat) : a.grownBy (b.setCell ⟨k, o, none⟩ u) (some k) :=
  grown_trans h ⟨rfl, rfl, rfl, by simp [World.setCell], fun i _ hi => Below.heap_setCell b ⟨k, o, none⟩ u i (fun e => hi (by rw [e]))⟩
theorem sz_alloc (w : World) (o : Obj) : (w.alloc o).heap.size = w.heap.size + 1 := by simp
theorem sz_set (w : World) (p : Addr) (u : Value) : (w.setCell p u).heap.size = w.heap.size := by simp [World.setCell]
/-- A plic's cells, in their order. -/
def cellsP (S : St) : Array Value := #[
  .bool (S.up 0), .int .i64 (S.st 0 : Nat), .int .u64 (S.pr 0 : Nat), .bool (S.up 1), .int .i64 (S.st 1 : Nat), .int .u64 (S.pr 1 : Nat), .bool (S.up 2), .int .i64 (S.st 2 : Nat), .int .u64 (S.pr 2 : Nat),
  .bool (S.up 3), .int .i64 (S.st 3 : Nat), .int .u64 (S.pr 3 : Nat), .bool (S.up 4), .int .i64 (S.st 4 : Nat), .int .u64 (S.pr 4 : Nat), .bool (S.up 5), .int .i64 (S.st 5 : Nat), .int .u64 (S.pr 5 : Nat),
  .bool (S.up 6), .int .i64 (S.st 6 : Nat), .int .u64 (S.pr 6 : Nat), .bool (S.up 7), .int .i64 (S.st 7 : Nat), .int .u64 (S.pr 7 : Nat), .bool (S.up 8), .int .i64 (S.st 8 : Nat), .int .u64 (S.pr 8 : Nat),
  .int .u64 (S.en 0 : Nat), .int .u64 (S.th 0 : Nat), .int .u64 (S.en 1 : Nat), .int .u64 (S.th 1 : Nat)]
/-- A plic in a block. -/
def IsP (w : World) (b : Nat) (S : St) : Prop := b < w.heap.size ∧ ∀ o, o < 31 → w.cell? ⟨b, o, none⟩ = (cellsP S)[o]? ∧ w.frozen? ⟨b, o, none⟩ = false
theorem IsP.kept {w w' : World} {b : Nat} {S : St} {r : Option Nat} (h : IsP w b S) (hg : w.grownBy w' r) (hne : some b ≠ r) : IsP w' b S := by
  obtain ⟨h0, h1⟩ := h
  have hb := hg.block b h0 hne
  refine ⟨Nat.lt_of_lt_of_le h0 hg.size, fun o ho => ⟨?_, ?_⟩⟩
  · rw [World.cell?_of_block (w := w) (a := ⟨b, o, none⟩) hb]; exact (h1 o ho).1
  · rw [World.frozen?_of_block (w := w) (a := ⟨b, o, none⟩) hb]; exact (h1 o ho).2
theorem IsP.below {w w' : World} {b : Nat} {S : St} (h : IsP w b S) (hb : Below w.heap.size w w') : IsP w' b S := h.kept (grown_below hb) (by simp)
theorem isP_new (w : World) (S : St) (t : TypeId) : IsP (w.alloc (Obj.cells (cellsP S) t)) w.heap.size S := by
  refine ⟨by simp, fun o ho => ⟨?_, ?_⟩⟩
  · rw [World.cell?_alloc_at _ _ _ _ rfl]
  · rw [World.frozen?_alloc_at _ _ _ _ rfl]
theorem IsP.setCell {w : World} {b o : Nat} {S S' : St} {u : Value} (h : IsP w b S) (ho : o < 31) (hs : ∀ k, k < 31 → (cellsP S')[k]? = if k = o then some u else (cellsP S)[k]?) : IsP (w.setCell ⟨b, o, none⟩ u) b S' := by
  obtain ⟨h0, h1⟩ := h
  refine ⟨by rw [sz_set]; exact h0, fun k hk => ⟨?_, by rw [World.frozen?_setCell]; exact (h1 k hk).2⟩⟩
  rw [hs k hk]
  by_cases e : k = o
  · subst e
    rw [if_pos rfl, World.cell?_setCell_same _ _ _ (by rw [(h1 k hk).1]; exact Array.getElem?_eq_getElem (show k < (cellsP S).size from hk))]
  · rw [if_neg e, World.cell?_setCell_other _ _ _ _ (by intro q; injection q with q1 q2; exact e q2.symm)]
    exact (h1 k hk).1
theorem IsP.pr {w : World} {b : Nat} {S : St} (h : IsP w b S) (n : Nat) (hn : n < 9) : w.cell? ⟨b, n * 3 + 2, none⟩ = some (.int .u64 (S.pr n : Nat)) := by
  rw [(h.2 (n * 3 + 2) (by omega)).1]
  have : n = 0 ∨ n = 1 ∨ n = 2 ∨ n = 3 ∨ n = 4 ∨ n = 5 ∨ n = 6 ∨ n = 7 ∨ n = 8 := by omega
  rcases this with rfl | rfl | rfl | rfl | rfl | rfl | rfl | rfl | rfl <;> rfl
theorem IsP.st {w : World} {b : Nat} {S : St} (h : IsP w b S) (n : Nat) (hn : n < 9) : w.cell? ⟨b, n * 3 + 1, none⟩ = some (.int .i64 (S.st n : Nat)) := by
  rw [(h.2 (n * 3 + 1) (by omega)).1]
  have : n = 0 ∨ n = 1 ∨ n = 2 ∨ n = 3 ∨ n = 4 ∨ n = 5 ∨ n = 6 ∨ n = 7 ∨ n = 8 := by omega
  rcases this with rfl | rfl | rfl | rfl | rfl | rfl | rfl | rfl | rfl <;> rfl
theorem IsP.up {w : World} {b : Nat} {S : St} (h : IsP w b S) (n : Nat) (hn : n < 9) : w.cell? ⟨b, n * 3, none⟩ = some (.bool (S.up n)) := by
  rw [(h.2 (n * 3) (by omega)).1]
  have : n = 0 ∨ n = 1 ∨ n = 2 ∨ n = 3 ∨ n = 4 ∨ n = 5 ∨ n = 6 ∨ n = 7 ∨ n = 8 := by omega
  rcases this with rfl | rfl | rfl | rfl | rfl | rfl | rfl | rfl | rfl <;> rfl
theorem IsP.en {w : World} {b : Nat} {S : St} (h : IsP w b S) (c : Nat) (hn : c < 2) : w.cell? ⟨b, 27 + c * 2, none⟩ = some (.int .u64 (S.en c : Nat)) := by
  rw [(h.2 (27 + c * 2) (by omega)).1]
  have : c = 0 ∨ c = 1 := by omega
  rcases this with rfl | rfl <;> rfl
theorem IsP.th {w : World} {b : Nat} {S : St} (h : IsP w b S) (c : Nat) (hn : c < 2) : w.cell? ⟨b, 27 + c * 2 + 1, none⟩ = some (.int .u64 (S.th c : Nat)) := by
  rw [(h.2 (27 + c * 2 + 1) (by omega)).1]
  have : c = 0 ∨ c = 1 := by omega
  rcases this with rfl | rfl <;> rfl
theorem IsP.fr {w : World} {b : Nat} {S : St} (h : IsP w b S) (o : Nat) (ho : o < 31) : w.frozen? ⟨b, o, none⟩ = false := (h.2 o ho).2
end Go.Proofs.YthhlcchofilimaaGreatDoor.U.P
namespace Go.Proofs.YthhlcchofilimaaGreatDoor.U.P
set_option linter.unusedVariables false
set_option linter.unusedSimpArgs false
set_option maxRecDepth 20000
set_option maxRecDepth 20000
open Go.ChangeShapes Go.WideShapes Go.ChangeAt Go.RowKit
def RetF (k n : Int) (W : World) (e : Ending) (w' : World) : Prop := e = .returned (.agg #[.int .i64 k, .int .i64 n]) ∧ Below W.heap.size W w' 
set_option maxRecDepth 100000 in
theorem find_0 (w : World) : Calls Tryz.prog 132 #[.int .u64 0, .int .i64 4] w (RetF 1 0 w) := by
  go_enter Tryz.func132, Tryz.ntmps132
  go_wp2_with fail
  refine bodyPost_ret (v := .agg #[.int .i64 1, .int .i64 0]) (by simp [results, Tryz.results132, go_sem] <;> (first | rfl | (repeat' (first | rfl | apply And.intro)))) rfl ⟨rfl, (by repeat (first | (with_reducible first | exact Below.refl _ _ | assumption | exact Nat.le_refl _ | refine Below.drew ?_ | refine Below.alloc ?_ ?_ _ | refine below_drewN ?_ _ | refine Below.setCell ?_ ?_ _ | refine le_alloc ?_ | refine le_set ?_ | refine le_drew ?_ | refine le_drewN ?_ | refine below_step (by assumption) ?_ ?_ | refine le_below (by assumption) ?_) | (dsimp only; omega)))⟩
set_option maxRecDepth 100000 in
theorem find_4 (w : World) : Calls Tryz.prog 132 #[.int .u64 4, .int .i64 4] w (RetF 1 1 w) := by
  go_enter Tryz.func132, Tryz.ntmps132
  go_wp2_with fail
  refine bodyPost_ret (v := .agg #[.int .i64 1, .int .i64 1]) (by simp [results, Tryz.results132, go_sem] <;> (first | rfl | (repeat' (first | rfl | apply And.intro)))) rfl ⟨rfl, (by repeat (first | (with_reducible first | exact Below.refl _ _ | assumption | exact Nat.le_refl _ | refine Below.drew ?_ | refine Below.alloc ?_ ?_ _ | refine below_drewN ?_ _ | refine Below.setCell ?_ ?_ _ | refine le_alloc ?_ | refine le_set ?_ | refine le_drew ?_ | refine le_drewN ?_ | refine below_step (by assumption) ?_ ?_ | refine le_below (by assumption) ?_) | (dsimp only; omega)))⟩
set_option maxRecDepth 100000 in
theorem find_8 (w : World) : Calls Tryz.prog 132 #[.int .u64 8, .int .i64 4] w (RetF 1 2 w) := by
  go_enter Tryz.func132, Tryz.ntmps132
  go_wp2_with fail
  refine bodyPost_ret (v := .agg #[.int .i64 1, .int .i64 2]) (by simp [results, Tryz.results132, go_sem] <;> (first | rfl | (repeat' (first | rfl | apply And.intro)))) rfl ⟨rfl, (by repeat (first | (with_reducible first | exact Below.refl _ _ | assumption | exact Nat.le_refl _ | refine Below.drew ?_ | refine Below.alloc ?_ ?_ _ | refine below_drewN ?_ _ | refine Below.setCell ?_ ?_ _ | refine le_alloc ?_ | refine le_set ?_ | refine le_drew ?_ | refine le_drewN ?_ | refine below_step (by assumption) ?_ ?_ | refine le_below (by assumption) ?_) | (dsimp only; omega)))⟩
set_option maxRecDepth 100000 in
theorem find_12 (w : World) : Calls Tryz.prog 132 #[.int .u64 12, .int .i64 4] w (RetF 1 3 w) := by
  go_enter Tryz.func132, Tryz.ntmps132
  go_wp2_with fail
  refine bodyPost_ret (v := .agg #[.int .i64 1, .int .i64 3]) (by simp [results, Tryz.results132, go_sem] <;> (first | rfl | (repeat' (first | rfl | apply And.intro)))) rfl ⟨rfl, (by repeat (first | (with_reducible first | exact Below.refl _ _ | assumption | exact Nat.le_refl _ | refine Below.drew ?_ | refine Below.alloc ?_ ?_ _ | refine below_drewN ?_ _ | refine Below.setCell ?_ ?_ _ | refine le_alloc ?_ | refine le_set ?_ | refine le_drew ?_ | refine le_drewN ?_ | refine below_step (by assumption) ?_ ?_ | refine le_below (by assumption) ?_) | (dsimp only; omega)))⟩
set_option maxRecDepth 100000 in
theorem find_16 (w : World) : Calls Tryz.prog 132 #[.int .u64 16, .int .i64 4] w (RetF 1 4 w) := by
  go_enter Tryz.func132, Tryz.ntmps132
  go_wp2_with fail
  refine bodyPost_ret (v := .agg #[.int .i64 1, .int .i64 4]) (by simp [results, Tryz.results132, go_sem] <;> (first | rfl | (repeat' (first | rfl | apply And.intro)))) rfl ⟨rfl, (by repeat (first | (with_reducible first | exact Below.refl _ _ | assumption | exact Nat.le_refl _ | refine Below.drew ?_ | refine Below.alloc ?_ ?_ _ | refine below_drewN ?_ _ | refine Below.setCell ?_ ?_ _ | refine le_alloc ?_ | refine le_set ?_ | refine le_drew ?_ | refine le_drewN ?_ | refine below_step (by assumption) ?_ ?_ | refine le_below (by assumption) ?_) | (dsimp only; omega)))⟩
set_option maxRecDepth 100000 in
theorem find_20 (w : World) : Calls Tryz.prog 132 #[.int .u64 20, .int .i64 4] w (RetF 1 5 w) := by
  go_enter Tryz.func132, Tryz.ntmps132
  go_wp2_with fail
  refine bodyPost_ret (v := .agg #[.int .i64 1, .int .i64 5]) (by simp [results, Tryz.results132, go_sem] <;> (first | rfl | (repeat' (first | rfl | apply And.intro)))) rfl ⟨rfl, (by repeat (first | (with_reducible first | exact Below.refl _ _ | assumption | exact Nat.le_refl _ | refine Below.drew ?_ | refine Below.alloc ?_ ?_ _ | refine below_drewN ?_ _ | refine Below.setCell ?_ ?_ _ | refine le_alloc ?_ | refine le_set ?_ | refine le_drew ?_ | refine le_drewN ?_ | refine below_step (by assumption) ?_ ?_ | refine le_below (by assumption) ?_) | (dsimp only; omega)))⟩
set_option maxRecDepth 100000 in
theorem find_24 (w : World) : Calls Tryz.prog 132 #[.int .u64 24, .int .i64 4] w (RetF 1 6 w) := by
  go_enter Tryz.func132, Tryz.ntmps132
  go_wp2_with fail
  refine bodyPost_ret (v := .agg #[.int .i64 1, .int .i64 6]) (by simp [results, Tryz.results132, go_sem] <;> (first | rfl | (repeat' (first | rfl | apply And.intro)))) rfl ⟨rfl, (by repeat (first | (with_reducible first | exact Below.refl _ _ | assumption | exact Nat.le_refl _ | refine Below.drew ?_ | refine Below.alloc ?_ ?_ _ | refine below_drewN ?_ _ | refine Below.setCell ?_ ?_ _ | refine le_alloc ?_ | refine le_set ?_ | refine le_drew ?_ | refine le_drewN ?_ | refine below_step (by assumption) ?_ ?_ | refine le_below (by assumption) ?_) | (dsimp only; omega)))⟩
set_option maxRecDepth 100000 in
theorem find_28 (w : World) : Calls Tryz.prog 132 #[.int .u64 28, .int .i64 4] w (RetF 1 7 w) := by
  go_enter Tryz.func132, Tryz.ntmps132
  go_wp2_with fail
  refine bodyPost_ret (v := .agg #[.int .i64 1, .int .i64 7]) (by simp [results, Tryz.results132, go_sem] <;> (first | rfl | (repeat' (first | rfl | apply And.intro)))) rfl ⟨rfl, (by repeat (first | (with_reducible first | exact Below.refl _ _ | assumption | exact Nat.le_refl _ | refine Below.drew ?_ | refine Below.alloc ?_ ?_ _ | refine below_drewN ?_ _ | refine Below.setCell ?_ ?_ _ | refine le_alloc ?_ | refine le_set ?_ | refine le_drew ?_ | refine le_drewN ?_ | refine below_step (by assumption) ?_ ?_ | refine le_below (by assumption) ?_) | (dsimp only; omega)))⟩
set_option maxRecDepth 100000 in
theorem find_32 (w : World) : Calls Tryz.prog 132 #[.int .u64 32, .int .i64 4] w (RetF 1 8 w) := by
  go_enter Tryz.func132, Tryz.ntmps132
  go_wp2_with fail
  refine bodyPost_ret (v := .agg #[.int .i64 1, .int .i64 8]) (by simp [results, Tryz.results132, go_sem] <;> (first | rfl | (repeat' (first | rfl | apply And.intro)))) rfl ⟨rfl, (by repeat (first | (with_reducible first | exact Below.refl _ _ | assumption | exact Nat.le_refl _ | refine Below.drew ?_ | refine Below.alloc ?_ ?_ _ | refine below_drewN ?_ _ | refine Below.setCell ?_ ?_ _ | refine le_alloc ?_ | refine le_set ?_ | refine le_drew ?_ | refine le_drewN ?_ | refine below_step (by assumption) ?_ ?_ | refine le_below (by assumption) ?_) | (dsimp only; omega)))⟩
set_option maxRecDepth 100000 in
theorem find_4096 (w : World) : Calls Tryz.prog 132 #[.int .u64 4096, .int .i64 4] w (RetF 2 0 w) := by
  go_enter Tryz.func132, Tryz.ntmps132
  go_wp2_with fail
  refine bodyPost_ret (v := .agg #[.int .i64 2, .int .i64 0]) (by simp [results, Tryz.results132, go_sem] <;> (first | rfl | (repeat' (first | rfl | apply And.intro)))) rfl ⟨rfl, (by repeat (first | (with_reducible first | exact Below.refl _ _ | assumption | exact Nat.le_refl _ | refine Below.drew ?_ | refine Below.alloc ?_ ?_ _ | refine below_drewN ?_ _ | refine Below.setCell ?_ ?_ _ | refine le_alloc ?_ | refine le_set ?_ | refine le_drew ?_ | refine le_drewN ?_ | refine below_step (by assumption) ?_ ?_ | refine le_below (by assumption) ?_) | (dsimp only; omega)))⟩
set_option maxRecDepth 100000 in
theorem find_8192 (w : World) : Calls Tryz.prog 132 #[.int .u64 8192, .int .i64 4] w (RetF 3 0 w) := by
  go_enter Tryz.func132, Tryz.ntmps132
  go_wp2_with fail
  refine wp_loop_rounds 1 ?_
  rw [rounds_succ]
  go_wp2_with fail
  refine bodyPost_ret (v := .agg #[.int .i64 3, .int .i64 0]) (by simp [results, Tryz.results132, go_sem] <;> (first | rfl | (repeat' (first | rfl | apply And.intro)))) rfl ⟨rfl, (by repeat (first | (with_reducible first | exact Below.refl _ _ | assumption | exact Nat.le_refl _ | refine Below.drew ?_ | refine Below.alloc ?_ ?_ _ | refine below_drewN ?_ _ | refine Below.setCell ?_ ?_ _ | refine le_alloc ?_ | refine le_set ?_ | refine le_drew ?_ | refine le_drewN ?_ | refine below_step (by assumption) ?_ ?_ | refine le_below (by assumption) ?_) | (dsimp only; omega)))⟩
set_option maxRecDepth 100000 in
theorem find_2097152 (w : World) : Calls Tryz.prog 132 #[.int .u64 2097152, .int .i64 4] w (RetF 4 0 w) := by
  go_enter Tryz.func132, Tryz.ntmps132
  go_wp2_with fail
  refine wp_loop_rounds 1 ?_
  rw [rounds_succ]
  go_wp2_with fail
  refine bodyPost_ret (v := .agg #[.int .i64 4, .int .i64 0]) (by simp [results, Tryz.results132, go_sem] <;> (first | rfl | (repeat' (first | rfl | apply And.intro)))) rfl ⟨rfl, (by repeat (first | (with_reducible first | exact Below.refl _ _ | assumption | exact Nat.le_refl _ | refine Below.drew ?_ | refine Below.alloc ?_ ?_ _ | refine below_drewN ?_ _ | refine Below.setCell ?_ ?_ _ | refine le_alloc ?_ | refine le_set ?_ | refine le_drew ?_ | refine le_drewN ?_ | refine below_step (by assumption) ?_ ?_ | refine le_below (by assumption) ?_) | (dsimp only; omega)))⟩
set_option maxRecDepth 100000 in
theorem find_2097156 (w : World) : Calls Tryz.prog 132 #[.int .u64 2097156, .int .i64 4] w (RetF 5 0 w) := by
  go_enter Tryz.func132, Tryz.ntmps132
  go_wp2_with fail
  refine wp_loop_rounds 1 ?_
  rw [rounds_succ]
  go_wp2_with fail
  refine bodyPost_ret (v := .agg #[.int .i64 5, .int .i64 0]) (by simp [results, Tryz.results132, go_sem] <;> (first | rfl | (repeat' (first | rfl | apply And.intro)))) rfl ⟨rfl, (by repeat (first | (with_reducible first | exact Below.refl _ _ | assumption | exact Nat.le_refl _ | refine Below.drew ?_ | refine Below.alloc ?_ ?_ _ | refine below_drewN ?_ _ | refine Below.setCell ?_ ?_ _ | refine le_alloc ?_ | refine le_set ?_ | refine le_drew ?_ | refine le_drewN ?_ | refine below_step (by assumption) ?_ ?_ | refine le_below (by assumption) ?_) | (dsimp only; omega)))⟩
set_option maxRecDepth 100000 in
theorem find_8320 (w : World) : Calls Tryz.prog 132 #[.int .u64 8320, .int .i64 4] w (RetF 3 1 w) := by
  go_enter Tryz.func132, Tryz.ntmps132
  go_wp2_with fail
  refine wp_loop_rounds 2 ?_
  rw [rounds_succ]
  go_wp2_with fail
  rw [rounds_succ]
  go_wp2_with fail
  refine bodyPost_ret (v := .agg #[.int .i64 3, .int .i64 1]) (by simp [results, Tryz.results132, go_sem] <;> (first | rfl | (repeat' (first | rfl | apply And.intro)))) rfl ⟨rfl, (by repeat (first | (with_reducible first | exact Below.refl _ _ | assumption | exact Nat.le_refl _ | refine Below.drew ?_ | refine Below.alloc ?_ ?_ _ | refine below_drewN ?_ _ | refine Below.setCell ?_ ?_ _ | refine le_alloc ?_ | refine le_set ?_ | refine le_drew ?_ | refine le_drewN ?_ | refine below_step (by assumption) ?_ ?_ | refine le_below (by assumption) ?_) | (dsimp only; omega)))⟩
set_option maxRecDepth 100000 in
theorem find_2101248 (w : World) : Calls Tryz.prog 132 #[.int .u64 2101248, .int .i64 4] w (RetF 4 1 w) := by
  go_enter Tryz.func132, Tryz.ntmps132
  go_wp2_with fail
  refine wp_loop_rounds 2 ?_
  rw [rounds_succ]
  go_wp2_with fail
  rw [rounds_succ]
  go_wp2_with fail
  refine bodyPost_ret (v := .agg #[.int .i64 4, .int .i64 1]) (by simp [results, Tryz.results132, go_sem] <;> (first | rfl | (repeat' (first | rfl | apply And.intro)))) rfl ⟨rfl, (by repeat (first | (with_reducible first | exact Below.refl _ _ | assumption | exact Nat.le_refl _ | refine Below.drew ?_ | refine Below.alloc ?_ ?_ _ | refine below_drewN ?_ _ | refine Below.setCell ?_ ?_ _ | refine le_alloc ?_ | refine le_set ?_ | refine le_drew ?_ | refine le_drewN ?_ | refine below_step (by assumption) ?_ ?_ | refine le_below (by assumption) ?_) | (dsimp only; omega)))⟩
set_option maxRecDepth 100000 in
theorem find_2101252 (w : World) : Calls Tryz.prog 132 #[.int .u64 2101252, .int .i64 4] w (RetF 5 1 w) := by
  go_enter Tryz.func132, Tryz.ntmps132
  go_wp2_with fail
  refine wp_loop_rounds 2 ?_
  rw [rounds_succ]
  go_wp2_with fail
  rw [rounds_succ]
  go_wp2_with fail
  refine bodyPost_ret (v := .agg #[.int .i64 5, .int .i64 1]) (by simp [results, Tryz.results132, go_sem] <;> (first | rfl | (repeat' (first | rfl | apply And.intro)))) rfl ⟨rfl, (by repeat (first | (with_reducible first | exact Below.refl _ _ | assumption | exact Nat.le_refl _ | refine Below.drew ?_ | refine Below.alloc ?_ ?_ _ | refine below_drewN ?_ _ | refine Below.setCell ?_ ?_ _ | refine le_alloc ?_ | refine le_set ?_ | refine le_drew ?_ | refine le_drewN ?_ | refine below_step (by assumption) ?_ ?_ | refine le_below (by assumption) ?_) | (dsimp only; omega)))⟩
theorem findP (n : Nat) (hn : n < 9) (a : Int) (ha : a = 4 * n) (w : World) : Calls Tryz.prog 132 #[.int .u64 a, .int .i64 4] w (RetF 1 n w) := by
  subst ha
  have : n = 0 ∨ n = 1 ∨ n = 2 ∨ n = 3 ∨ n = 4 ∨ n = 5 ∨ n = 6 ∨ n = 7 ∨ n = 8 := by omega
  rcases this with rfl | rfl | rfl | rfl | rfl | rfl | rfl | rfl | rfl
  · exact find_0 w
  · exact find_4 w
  · exact find_8 w
  · exact find_12 w
  · exact find_16 w
  · exact find_20 w
  · exact find_24 w
  · exact find_28 w
  · exact find_32 w
theorem findE (c : Nat) (hc : c < 2) (a : Int) (ha : a = 8192 + 128 * c) (w : World) : Calls Tryz.prog 132 #[.int .u64 a, .int .i64 4] w (RetF 3 c w) := by
  subst ha
  have : c = 0 ∨ c = 1 := by omega
  rcases this with rfl | rfl
  · exact find_8192 w
  · exact find_8320 w
theorem findT (c : Nat) (hc : c < 2) (a : Int) (ha : a = 2097152 + 4096 * c) (w : World) : Calls Tryz.prog 132 #[.int .u64 a, .int .i64 4] w (RetF 4 c w) := by
  subst ha
  have : c = 0 ∨ c = 1 := by omega
  rcases this with rfl | rfl
  · exact find_2097152 w
  · exact find_2101248 w
theorem findC (c : Nat) (hc : c < 2) (a : Int) (ha : a = 2097156 + 4096 * c) (w : World) : Calls Tryz.prog 132 #[.int .u64 a, .int .i64 4] w (RetF 5 c w) := by
  subst ha
  have : c = 0 ∨ c = 1 := by omega
  rcases this with rfl | rfl
  · exact find_2097156 w
  · exact find_2101252 w
end Go.Proofs.YthhlcchofilimaaGreatDoor.U.P
namespace Go.Proofs.YthhlcchofilimaaGreatDoor.U.P
set_option linter.unusedVariables false
set_option linter.unusedSimpArgs false
set_option maxRecDepth 20000
set_option maxRecDepth 20000
open Go.ChangeShapes Go.WideShapes Go.ChangeAt Go.RowKit
theorem and1 (x : Nat) (hx : x < 18446744073709551616) : bits .and .u64 (x : Int) 1 = ((x % 2 : Nat) : Int) := by
  have h := bits_and_u64_nat x 1 hx (by decide)
  rw [Nat.and_one_is_mod] at h
  exact h
theorem shr1 (e n : Nat) (he : e < 18446744073709551616) : bits .and .u64 ((e : Int) / 2 ^ n) 1 = ((e / 2 ^ n % 2 : Nat) : Int) := by
  have h := and1 (e / 2 ^ n) (Nat.lt_of_le_of_lt (Nat.div_le_self _ _) he)
  rw [← h]
  congr 1
theorem cast_beq (a b : Nat) : (((a : Nat) : Int) == ((b : Nat) : Int)) = (a == b) := by
  rw [Bool.eq_iff_iff]; simp; omega
theorem takes_c (e t n : Nat) (x : Bool) (hn : (n : Int) ≤ 8) (he : Hid (e < 18446744073709551616)) (hx : Hid ((e / 2 ^ n % 2 == 1) = x)) (w : World) : Calls Tryz.prog 136 #[.agg #[.int .u64 e, .int .u64 t], .int .i64 n] w (RetB x w) := by
  go_enter Tryz.func136, Tryz.ntmps136
  go_wp2_with fail
  rw [shr1 e n he.out, ← hx.out]
  go_ret
  exact retB_mk (cast_beq _ 1) (by repeat (first | (with_reducible first | exact Below.refl _ _ | assumption | exact Nat.le_refl _ | refine Below.drew ?_ | refine Below.alloc ?_ ?_ _ | refine below_drewN ?_ _ | refine Below.setCell ?_ ?_ _ | refine le_alloc ?_ | refine le_set ?_ | refine le_drew ?_ | refine le_drewN ?_ | refine below_step (by assumption) ?_ ?_ | refine le_below (by assumption) ?_) | (dsimp only; omega)))
/-- A whole value loaded out of a part of a block. -/
theorem wp_load_at {P : Program} {o : Oper} {a : Act} {w : World} {K : Act → World → Prop} {Q : Exit → Act → World → Prop} (ty : TypeId) (x : Operand) (ho : o.op = .load ty x)
    (g off : Nat) (hx : a.eval x = .pointer (some ⟨g, off, none⟩)) (cs : Array Value) (d : TypeDesc) (hc : ∀ j, j < cs.size → w.cell? ⟨g, off + j, none⟩ = cs[j]?)
    (hu : P.underlying ty = some d) (hd : (match d with | .struct _ | .array _ _ => true | _ => false) = true) (hi : (P.info? ty).map (·.size) = some cs.size)
    (h : K (a.put o.dst (.agg cs)) w) : o.wp P a w K Q := by
  have hl : (loadCells ⟨g, off, none⟩ cs.toList.length).run P w = .ok cs.toList.toArray w :=
    run_loadCells_list (P := P) w ⟨g, off, none⟩ cs.toList (fun j v hv => by
      have hadd : (⟨g, off, none⟩ : Addr).add j = ⟨g, off + j, none⟩ := by unfold Addr.add; split <;> simp_all
      have hj : j < cs.size := by
        have := (List.getElem?_eq_some_iff.1 hv).1
        simpa using this
      rw [hadd, hc j hj]
      simpa using hv)
  have hlv : (loadVar ty ⟨g, off, none⟩).run P w = .ok (.agg cs) w := by
    cases hq : P.info? ty with
    | none => simp [hq] at hi
    | some i =>
      have hs : i.size = cs.size := by simpa [hq] using hi
      have hagg : (isAgg ty).run P w = .ok true w := by
        unfold isAgg
        rw [Sem.run_bind, run_underlying hu w]
        cases d <;> simp_all
      simp only [Array.length_toList, Array.toArray_toList] at hl
      simp [loadVar, Sem.run_bind, hagg, sizeOf, typeInfo, hq, hs, hl]
  unfold Oper.wp execOp
  simp only [ho, hx, Instr.loadAt, Instr.sureAddr, Sem.run_bind, Sem.run_pure, Result.andThen_ok, hlv]
  exact h
theorem wpList_load_at {P : Program} {ops : Array Oper} {rest : List Oper} {o : Oper} {a : Act} {w : World} {Q : Exit → Act → World → Prop} (hgd : o.guard = none) (ty : TypeId) (x : Operand) (ho : o.op = .load ty x)
    (g off : Nat) (hx : a.eval x = .pointer (some ⟨g, off, none⟩)) (cs : Array Value) (d : TypeDesc) (hc : ∀ j, j < cs.size → w.cell? ⟨g, off + j, none⟩ = cs[j]?)
    (hu : P.underlying ty = some d) (hd : (match d with | .struct _ | .array _ _ => true | _ => false) = true) (hi : (P.info? ty).map (·.size) = some cs.size)
    (h : wpList P ops Q rest (a.put o.dst (.agg cs)) w) : wpList P ops Q (o :: rest) a w :=
  wpList_plain hgd fun _ hK => wp_load_at ty x ho g off hx cs d hc hu hd hi (hK _ _ h)
/-- The sources as a value of their own. -/
def srcP (S : St) : Array Value := #[.bool (S.up 0), .int .i64 (S.st 0 : Nat), .int .u64 (S.pr 0 : Nat), .bool (S.up 1), .int .i64 (S.st 1 : Nat), .int .u64 (S.pr 1 : Nat), .bool (S.up 2), .int .i64 (S.st 2 : Nat), .int .u64 (S.pr 2 : Nat), .bool (S.up 3), .int .i64 (S.st 3 : Nat), .int .u64 (S.pr 3 : Nat), .bool (S.up 4), .int .i64 (S.st 4 : Nat), .int .u64 (S.pr 4 : Nat), .bool (S.up 5), .int .i64 (S.st 5 : Nat), .int .u64 (S.pr 5 : Nat), .bool (S.up 6), .int .i64 (S.st 6 : Nat), .int .u64 (S.pr 6 : Nat), .bool (S.up 7), .int .i64 (S.st 7 : Nat), .int .u64 (S.pr 7 : Nat), .bool (S.up 8), .int .i64 (S.st 8 : Nat), .int .u64 (S.pr 8 : Nat)]
theorem srcP_size (S : St) : (srcP S).size = 27 := rfl
theorem src_load {w : World} {b : Nat} {S : St} (h : IsP w b S) : ∀ j, j < (srcP S).size → w.cell? ⟨b, 0 + j, none⟩ = (srcP S)[j]? := by
  intro j hj
  rw [srcP_size] at hj
  rw [Nat.zero_add, (h.2 j (by omega)).1]
  have : j = 0 ∨ j = 1 ∨ j = 2 ∨ j = 3 ∨ j = 4 ∨ j = 5 ∨ j = 6 ∨ j = 7 ∨ j = 8 ∨ j = 9 ∨ j = 10 ∨ j = 11 ∨ j = 12 ∨ j = 13 ∨ j = 14 ∨ j = 15 ∨ j = 16 ∨ j = 17 ∨ j = 18 ∨ j = 19 ∨ j = 20 ∨ j = 21 ∨ j = 22 ∨ j = 23 ∨ j = 24 ∨ j = 25 ∨ j = 26 := by omega
  rcases this with rfl | rfl | rfl | rfl | rfl | rfl | rfl | rfl | rfl | rfl | rfl | rfl | rfl | rfl | rfl | rfl | rfl | rfl | rfl | rfl | rfl | rfl | rfl | rfl | rfl | rfl | rfl <;> rfl
theorem src_ix (S : St) (k : Nat) (hk : k < 9) (w : World) : (Instr.index 135 (.agg (srcP S)) (.int .i64 k)).run Tryz.prog w = .ok (.agg #[.bool (S.up k), .int .i64 (S.st k : Nat), .int .u64 (S.pr k : Nat)]) w := by
  have : k = 0 ∨ k = 1 ∨ k = 2 ∨ k = 3 ∨ k = 4 ∨ k = 5 ∨ k = 6 ∨ k = 7 ∨ k = 8 := by omega
  rcases this with rfl | rfl | rfl | rfl | rfl | rfl | rfl | rfl | rfl <;> rfl
theorem info35 {S : St} : (Tryz.prog.info? 135).map (·.size) = some (srcP S).size := by rw [srcP_size]; kernel_rfl
def RetU (n : Nat) (W : World) (e : Ending) (w' : World) : Prop := e = .returned (.int .u64 n) ∧ Below W.heap.size W w'
theorem retU_mk {n : Nat} {x : Int} {W w' : World} (h : x = n) (hb : Below W.heap.size W w') : RetU n W (.returned (.int .u64 x)) w' := ⟨by rw [h], hb⟩
def RetP (b : Nat) (S : St) (W : World) (e : Ending) (w' : World) : Prop := e = .returned (.tuple #[]) ∧ IsP w' b S ∧ W.grownBy w' (some b)
theorem wait_step (S : St) (k : Nat) (hk : k < 9) (h : (S.st k == 1) = true) : bits .or .u64 ((waitF S k : Nat) : Int) (IntKind.u64.wrap (2 ^ k)) = ((waitF S (k + 1) : Nat) : Int) := by
  have hlt := waitF_lt S k
  have hp : (2 : Nat) ^ k ≤ 256 := Nat.le_trans (Nat.pow_le_pow_right (by decide) (show k ≤ 8 by omega)) (by decide)
  have e1 : IntKind.u64.wrap (2 ^ k) = ((2 ^ k : Nat) : Int) := by
    rw [IntKind.wrap_u64]
    have : ((2 ^ k : Nat) : Int) = (2 : Int) ^ k := by simp
    rw [← this]; omega
  rw [e1, bits_or_u64_nat _ _ (by omega) (by omega)]
  congr 1
  show _ = waitF S k + (bif S.st k == 1 then 2 ^ k else 0)
  rw [h]
  have h2 := Nat.two_pow_add_eq_or_of_lt hlt 1
  rw [Nat.mul_one] at h2
  rw [Nat.or_comm, ← h2]
  exact Nat.add_comm _ _
theorem wait_skip (S : St) (k : Nat) (h : (S.st k == 1) = false) : waitF S k = waitF S (k + 1) := by
  show _ = waitF S k + (bif S.st k == 1 then 2 ^ k else 0)
  rw [h]; rfl
set_option maxRecDepth 100000 in
theorem wait_c (b : Nat) (S : St) (w : World) (hP : Hid (IsP w b S)) : Calls Tryz.prog 133 #[.pointer (some ⟨b, 0, none⟩)] w (RetU (waitF S 9) w) := by
  go_enter Tryz.func133, Tryz.ntmps133
  go_wp2_with (refine wpList_load_at rfl 135 _ rfl b 0 rfl (srcP S) _ (src_load hP.out) Tryz.underlying135 rfl info35 ?_)
  go_loopw [3, 10] (fun v i wr => ∃ k : Nat, k ≤ 9 ∧ i = .int .i64 k ∧ v = .int .u64 (waitF S k : Nat) ∧ Hid (Below w.heap.size w wr)) (fun _ i _ => 9 - (intOf i).toNat)
  case atStart => exact ⟨0, by omega, rfl, rfl, Below.refl _ _⟩
  case round =>
    obtain ⟨k, hk, rfl, rfl, hB⟩ := hrel
    by_cases hlt : k < 9
    · have hlt' : (k : Int) < 9 := by omega
      have hix := src_ix S k hlt
      cases hs : S.st k == 1
      · have HS := Lib.hid hs
        have hs' : (((S.st k : Nat) : Int) == 1) = false := (cast_beq (S.st k) 1).trans hs
        have HK := Lib.hid (wait_skip S k hs)
        clear hs
        go_wp2_with fail
        go_roundw
        case rel => exact ⟨k + 1, by omega, by go_num, by rw [HK.out], by exact hB.out.alloc hB.out.size _⟩
        case measure => simp [intOf]; omega
      · have HS := Lib.hid hs
        have hs' : (((S.st k : Nat) : Int) == 1) = true := (cast_beq (S.st k) 1).trans hs
        have HK := Lib.hid (wait_step S k hlt hs)
        clear hs
        go_wp2_with fail
        rw [HK.out]
        go_roundw
        case rel => exact ⟨k + 1, by omega, by go_num, rfl, by exact hB.out.alloc hB.out.size _⟩
        case measure => simp [intOf]; omega
    · obtain rfl : k = 9 := by omega
      go_wp2_with fail
      go_ret
      exact retU_mk rfl hB.out
end Go.Proofs.YthhlcchofilimaaGreatDoor.U.P
namespace Go.Proofs.YthhlcchofilimaaGreatDoor.U.P
set_option linter.unusedVariables false
set_option linter.unusedSimpArgs false
set_option maxRecDepth 20000
set_option maxRecDepth 20000
open Go.ChangeShapes Go.WideShapes Go.ChangeAt Go.RowKit
def RetI (n : Nat) (W : World) (e : Ending) (w' : World) : Prop := e = .returned (.int .i64 n) ∧ Below W.heap.size W w'
theorem row_hit (S : St) (c r g k : Nat) (h : hitB S c r k = true) : rowF S c r (g + 1) k = some k := by
  show (bif hitB S c r k then some k else rowF S c r g (k + 1)) = some k
  rw [h]; rfl
theorem row_miss (S : St) (c r g k : Nat) (h : hitB S c r k = false) : rowF S c r (g + 1) k = rowF S c r g (k + 1) := by
  show (bif hitB S c r k then some k else rowF S c r g (k + 1)) = _
  rw [h]; rfl
theorem best_hit (S : St) (c r n : Nat) (h : rowF S c (r + 1) 9 0 = some n) : bestF S c (r + 1) = n := by
  show orF _ _ = _
  rw [h]; rfl
theorem best_miss (S : St) (c r : Nat) (h : rowF S c (r + 1) 9 0 = none) : bestF S c (r + 1) = bestF S c r := by
  show orF _ _ = _
  rw [h]; rfl
theorem hit_of (S : St) (c r n : Nat) (x y z : Bool) (h1 : (S.pr n == r) = x) (h2 : (S.st n == 1) = y) (h3 : takeB S c n = z) : hitB S c r n = (x && (y && z)) := by
  unfold hitB; rw [h1, h2, h3]
def OkS (S : St) : Prop := (∀ n, S.pr n < 8) ∧ (∀ c, S.en c < 512) ∧ (∀ c, S.th c < 8) ∧ ∀ n, S.st n < 3
set_option maxRecDepth 100000 in
set_option maxHeartbeats 2000000 in
theorem best_c (b c : Nat) (S : St) (w : World) (hP : Hid (IsP w b S)) (hO : Hid (OkS S)) (hc : Hid (c < 2)) : Calls Tryz.prog 135 #[.pointer (some ⟨b, 0, none⟩), .int .i64 c] w (RetI (best S c) w) := by
  have c2 : (c : Int) < 2 := by have := hc.out; omega
  go_enter Tryz.func135, Tryz.ntmps135
  go_wp2
  go_step3
  go_wp2
  go_step3
  go_wp2
  go_loopg [5, 6] 7 (fun g s5 s6 wx => g ≤ 7 ∧ s5 = .int .i64 0 ∧ s6 = .int .u64 g ∧ Hid (bestF S c 7 = bestF S c g) ∧ Hid (Below w.heap.size w wx))
  case atStart => exact ⟨Nat.le_refl _, rfl, rfl, rfl, Below.refl _ _⟩
  case round =>
    obtain ⟨hg, rfl, rfl, HB, HW⟩ := hrel
    cases gk with
    | zero =>
      go_wp2_with fail
      try rw [Exit.noGoto_ret]
      go_ret
      exact ⟨by rw [show best S c = 0 from HB.out]; rfl, HW.out⟩
    | succ r =>
      have hg' : (r : Int) ≤ 6 := by omega
      have hgt : (0 : Int) < ((r + 1 : Nat) : Int) := by omega
      obtain ⟨wo, rfl⟩ : ∃ wo : World, wo = wr := ⟨_, rfl⟩
      have hPo : Hid (IsP wo b S) := hP.out.below HW.out
      go_wp2_with (refine wpList_load_at rfl 135 _ rfl b 0 rfl (srcP S) _ (src_load hPo.out) Tryz.underlying135 rfl info35 ?_)
      go_loopg [5, 17] 9 (fun g s5 s17 wx => ∃ k : Nat, k + g = 9 ∧ s5 = .int .i64 0 ∧ s17 = .int .i64 k ∧ Hid (rowF S c (r + 1) 9 0 = rowF S c (r + 1) g k) ∧ Hid (Below w.heap.size w wx))
      case atStart => exact ⟨0, rfl, rfl, rfl, rfl, HW⟩
      case round =>
        obtain ⟨k, hk, rfl, rfl, HR, HX⟩ := hrel
        cases gk with
        | zero =>
          obtain rfl : k = 9 := by omega
          have HM := Lib.hid (best_miss S c r HR.out)
          go_wp2_with fail
          go_roundg r
          case measure => omega
          case rel => exact ⟨by omega, rfl, rfl, by rw [← HM.out]; exact HB.out, HX.out⟩
        | succ g =>
          have hlt : k < 9 := by omega
          have hlt' : (k : Int) < 9 := by omega
          have hix := src_ix S k hlt
          have hPw : Hid (IsP wr b S) := hP.out.below HX.out
          have hbl := hPw.out.1
          have hbn : ¬ b = wr.heap.size := by omega
          have q1 := hPw.out.en c hc.out
          have q2 := hPw.out.th c hc.out
          cases h1 : (S.pr k == r + 1)
          · have h1' : (((S.pr k : Nat) : Int) == (r : Int) + 1) = false := (cast_beq (S.pr k) (r + 1)).trans h1
            have H1 := Lib.hid h1
            clear h1
            have HN : Hid (rowF S c (r + 1) 9 0 = rowF S c (r + 1) g (k + 1)) := by have h := row_miss S c (r + 1) g k (hit_of S c (r + 1) k _ _ _ H1.out rfl rfl); rw [← h]; exact HR.out
            go_wp2_with fail
            go_roundg g
            case measure => omega
            case rel => exact ⟨k + 1, by omega, rfl, by go_num, HN.out, by exact HX.out.alloc HX.out.size _⟩
          · have h1' : (((S.pr k : Nat) : Int) == (r : Int) + 1) = true := (cast_beq (S.pr k) (r + 1)).trans h1
            have H1 := Lib.hid h1
            clear h1
            cases h2 : (S.st k == 1)
            · have h2' : (((S.st k : Nat) : Int) == 1) = false := (cast_beq (S.st k) 1).trans h2
              have H2 := Lib.hid h2
              clear h2
              have HN : Hid (rowF S c (r + 1) 9 0 = rowF S c (r + 1) g (k + 1)) := by have h := row_miss S c (r + 1) g k (hit_of S c (r + 1) k _ _ _ H1.out H2.out rfl); rw [← h]; exact HR.out
              go_wp2_with fail
              go_roundg g
              case measure => omega
              case rel => exact ⟨k + 1, by omega, rfl, by go_num, HN.out, by exact HX.out.alloc HX.out.size _⟩
            · have h2' : (((S.st k : Nat) : Int) == 1) = true := (cast_beq (S.st k) 1).trans h2
              have H2 := Lib.hid h2
              clear h2
              cases h3 : takeB S c k
              · have H3 : Hid (takeB S c k = false) := h3
                clear h3
                have HN : Hid (rowF S c (r + 1) 9 0 = rowF S c (r + 1) g (k + 1)) := by have h := row_miss S c (r + 1) g k (hit_of S c (r + 1) k _ _ _ H1.out H2.out H3.out); rw [← h]; exact HR.out
                have ke : (k : Int) ≤ 8 := by omega
                have He : Hid (S.en c < 18446744073709551616) := Nat.lt_trans (hO.out.2.1 c) (by decide)
                go_wp2_with fail
                refine (takes_c (S.en c) (S.th c) k false ke He H3 _).mono ?_; rintro e w2 ⟨rfl, hb2⟩
                go_wp2_with fail
                go_roundg g
                case measure => omega
                case rel => exact ⟨k + 1, by omega, rfl, by go_num, HN.out, by exact (HX.out.alloc HX.out.size _).trans (hb2.mono (by rw [sz_alloc]; have := HX.out.size; omega))⟩
              · have H3 : Hid (takeB S c k = true) := h3
                clear h3
                have HN : Hid (bestF S c 7 = k) := by have h := best_hit S c r k (by rw [HR.out]; exact row_hit S c (r + 1) g k (hit_of S c (r + 1) k _ _ _ H1.out H2.out H3.out)); show _ = _; rw [HB.out, h]
                have ke : (k : Int) ≤ 8 := by omega
                have He : Hid (S.en c < 18446744073709551616) := Nat.lt_trans (hO.out.2.1 c) (by decide)
                go_wp2_with fail
                refine (takes_c (S.en c) (S.th c) k true ke He H3 _).mono ?_; rintro e w2 ⟨rfl, hb2⟩
                go_wp2_with fail
                try rw [Exit.noGoto_ret]
                go_ret
                exact ⟨by rw [show best S c = k from HN.out]; rfl, by exact (HX.out.alloc HX.out.size _).trans (hb2.mono (by rw [sz_alloc]; have := HX.out.size; omega))⟩
end Go.Proofs.YthhlcchofilimaaGreatDoor.U.P
namespace Go.Proofs.YthhlcchofilimaaGreatDoor.U.P
set_option linter.unusedVariables false
set_option linter.unusedSimpArgs false
set_option maxRecDepth 20000
set_option maxRecDepth 20000
open Go.ChangeShapes Go.WideShapes Go.ChangeAt Go.RowKit
theorem n9 {n : Nat} (h : n < 9) : n = 0 ∨ n = 1 ∨ n = 2 ∨ n = 3 ∨ n = 4 ∨ n = 5 ∨ n = 6 ∨ n = 7 ∨ n = 8 := by omega
theorem k31 {k : Nat} (h : k < 31) : k = 0 ∨ k = 1 ∨ k = 2 ∨ k = 3 ∨ k = 4 ∨ k = 5 ∨ k = 6 ∨ k = 7 ∨ k = 8 ∨ k = 9 ∨ k = 10 ∨ k = 11 ∨ k = 12 ∨ k = 13 ∨ k = 14 ∨ k = 15 ∨ k = 16 ∨ k = 17 ∨ k = 18 ∨ k = 19 ∨ k = 20 ∨ k = 21 ∨ k = 22 ∨ k = 23 ∨ k = 24 ∨ k = 25 ∨ k = 26 ∨ k = 27 ∨ k = 28 ∨ k = 29 ∨ k = 30 := by omega
theorem IsP.setSt {w : World} {b : Nat} {S : St} (h : IsP w b S) (n x : Nat) (hn : n < 9) : IsP (w.setCell ⟨b, n * 3 + 1, none⟩ (.int .i64 (x : Nat))) b (S.setSt n x) :=
  h.setCell (by omega) (fun k hk => by
    rcases n9 hn with rfl | rfl | rfl | rfl | rfl | rfl | rfl | rfl | rfl <;> (rcases k31 hk with rfl | rfl | rfl | rfl | rfl | rfl | rfl | rfl | rfl | rfl | rfl | rfl | rfl | rfl | rfl | rfl | rfl | rfl | rfl | rfl | rfl | rfl | rfl | rfl | rfl | rfl | rfl | rfl | rfl | rfl | rfl <;> rfl))
theorem IsP.setPr {w : World} {b : Nat} {S : St} (h : IsP w b S) (n x : Nat) (hn : n < 9) : IsP (w.setCell ⟨b, n * 3 + 2, none⟩ (.int .u64 (x : Nat))) b (S.setPr n x) :=
  h.setCell (by omega) (fun k hk => by
    rcases n9 hn with rfl | rfl | rfl | rfl | rfl | rfl | rfl | rfl | rfl <;> (rcases k31 hk with rfl | rfl | rfl | rfl | rfl | rfl | rfl | rfl | rfl | rfl | rfl | rfl | rfl | rfl | rfl | rfl | rfl | rfl | rfl | rfl | rfl | rfl | rfl | rfl | rfl | rfl | rfl | rfl | rfl | rfl | rfl <;> rfl))
theorem IsP.setUp {w : World} {b : Nat} {S : St} (h : IsP w b S) (n : Nat) (x : Bool) (hn : n < 9) : IsP (w.setCell ⟨b, n * 3, none⟩ (.bool x)) b (S.setUp n x) :=
  h.setCell (by omega) (fun k hk => by
    rcases n9 hn with rfl | rfl | rfl | rfl | rfl | rfl | rfl | rfl | rfl <;> (rcases k31 hk with rfl | rfl | rfl | rfl | rfl | rfl | rfl | rfl | rfl | rfl | rfl | rfl | rfl | rfl | rfl | rfl | rfl | rfl | rfl | rfl | rfl | rfl | rfl | rfl | rfl | rfl | rfl | rfl | rfl | rfl | rfl <;> rfl))
theorem IsP.setEn {w : World} {b : Nat} {S : St} (h : IsP w b S) (n x : Nat) (hn : n < 2) : IsP (w.setCell ⟨b, 27 + n * 2, none⟩ (.int .u64 (x : Nat))) b (S.setEn n x) :=
  h.setCell (by omega) (fun k hk => by
    rcases (show n = 0 ∨ n = 1 by omega) with rfl | rfl <;> (rcases k31 hk with rfl | rfl | rfl | rfl | rfl | rfl | rfl | rfl | rfl | rfl | rfl | rfl | rfl | rfl | rfl | rfl | rfl | rfl | rfl | rfl | rfl | rfl | rfl | rfl | rfl | rfl | rfl | rfl | rfl | rfl | rfl <;> rfl))
theorem IsP.setTh {w : World} {b : Nat} {S : St} (h : IsP w b S) (n x : Nat) (hn : n < 2) : IsP (w.setCell ⟨b, 27 + n * 2 + 1, none⟩ (.int .u64 (x : Nat))) b (S.setTh n x) :=
  h.setCell (by omega) (fun k hk => by
    rcases (show n = 0 ∨ n = 1 by omega) with rfl | rfl <;> (rcases k31 hk with rfl | rfl | rfl | rfl | rfl | rfl | rfl | rfl | rfl | rfl | rfl | rfl | rfl | rfl | rfl | rfl | rfl | rfl | rfl | rfl | rfl | rfl | rfl | rfl | rfl | rfl | rfl | rfl | rfl | rfl | rfl <;> rfl))
def comeF (S : St) (n : Nat) : St := bif S.up n && S.st n == 0 then S.setSt n 1 else S
def RetN (S : St) (W : World) (e : Ending) (w' : World) : Prop := ∃ b, e = .returned (.pointer (some ⟨b, 0, none⟩)) ∧ W.heap.size ≤ b ∧ IsP w' b S ∧ Below W.heap.size W w'
set_option maxRecDepth 100000 in
theorem new_c (w : World) : Calls Tryz.prog 54 #[] w (RetN S0 w) := by
  go_enter Tryz.func54, Tryz.ntmps54
  go_wp2_with fail
  go_ret
  exact ⟨_, rfl, Nat.le_refl _, isP_new w S0 _, (by repeat (first | (with_reducible first | exact Below.refl _ _ | assumption | exact Nat.le_refl _ | refine Below.drew ?_ | refine Below.alloc ?_ ?_ _ | refine below_drewN ?_ _ | refine Below.setCell ?_ ?_ _ | refine le_alloc ?_ | refine le_set ?_ | refine le_drew ?_ | refine le_drewN ?_ | refine below_step (by assumption) ?_ ?_ | refine le_below (by assumption) ?_) | (dsimp only; omega)))⟩
set_option maxRecDepth 100000 in
theorem come_c (b n : Nat) (S : St) (w : World) (hP : Hid (IsP w b S)) (hn : Hid (n < 9)) : Calls Tryz.prog 94 #[.pointer (some ⟨b, n * 3, none⟩)] w (RetP b (comeF S n) w) := by
  have q1 := hP.out.up n hn.out
  have q2 := hP.out.st n hn.out
  have q3 := hP.out.fr (n * 3 + 1) (by have := hn.out; omega)
  have HS := Lib.hid (hP.out.setSt n 1 hn.out)
  cases h1 : S.up n
  · rw [h1] at q1
    have HC : Hid (comeF S n = S) := by show _ = _; unfold comeF; rw [h1]; rfl
    clear h1
    go_enter Tryz.func94, Tryz.ntmps94
    go_wp2_with fail
    go_end0
    exact ⟨rfl, by rw [HC.out]; exact hP.out, grown_refl _ _⟩
  · rw [h1] at q1
    cases h2 : (S.st n == 0)
    · have h2' : (((S.st n : Nat) : Int) == 0) = false := (cast_beq (S.st n) 0).trans h2
      have HC : Hid (comeF S n = S) := by show _ = _; unfold comeF; rw [h1, h2]; rfl
      clear h1 h2
      go_enter Tryz.func94, Tryz.ntmps94
      go_wp2_with fail
      go_end0
      exact ⟨rfl, by rw [HC.out]; exact hP.out, grown_refl _ _⟩
    · have h2' : (((S.st n : Nat) : Int) == 0) = true := (cast_beq (S.st n) 0).trans h2
      have HC : Hid (comeF S n = S.setSt n 1) := by show _ = _; unfold comeF; rw [h1, h2]; rfl
      clear h1 h2
      go_enter Tryz.func94, Tryz.ntmps94
      go_wp2_with fail
      go_end0
      exact ⟨rfl, by rw [HC.out]; exact HS.out, grown_set (grown_refl _ _) _ none _ none⟩
end Go.Proofs.YthhlcchofilimaaGreatDoor.U.P
namespace Go.Proofs.YthhlcchofilimaaGreatDoor.U.P
set_option linter.unusedVariables false
set_option linter.unusedSimpArgs false
set_option maxRecDepth 20000
set_option maxRecDepth 20000
open Go.ChangeShapes Go.WideShapes Go.ChangeAt Go.RowKit
theorem info40 {S : St} : (Tryz.prog.info? 140).map (·.size) = some (cellsP S).size := by rw [show (cellsP S).size = 31 from rfl]; kernel_rfl
theorem all_load {w : World} {b : Nat} {S : St} (h : IsP w b S) : ∀ j, j < (cellsP S).size → w.cell? ⟨b, 0 + j, none⟩ = (cellsP S)[j]? := by
  intro j hj
  rw [Nat.zero_add]
  exact (h.2 j hj).1
theorem one31 (S : St) : (cellsP S).all (·.oneCell') = true := by simp [cellsP, Value.oneCell']
set_option maxRecDepth 100000 in
theorem copy_c (b : Nat) (S : St) (w : World) (hP : Hid (IsP w b S)) : Calls Tryz.prog 89 #[.pointer (some ⟨b, 0, none⟩)] w (RetN S w) := by
  go_enter Tryz.func89, Tryz.ntmps89
  go_wp2_with (first
    | (refine wpList_load_at rfl 140 _ rfl b 0 rfl (cellsP S) _ (all_load hP.out) Tryz.underlying140 rfl info40 ?_)
    | (refine wpList_store_row rfl 140 _ _ rfl w.heap.size (cellsP S) rfl rfl 140 (cellsP S0) (heap_alloc_last w _) info40 rfl (one31 S) ?_; rw [World.setRow_alloc_new]))
  go_ret
  exact ⟨_, rfl, Nat.le_refl _, isP_new w S _, (by repeat (first | (with_reducible first | exact Below.refl _ _ | assumption | exact Nat.le_refl _ | refine Below.drew ?_ | refine Below.alloc ?_ ?_ _ | refine below_drewN ?_ _ | refine Below.setCell ?_ ?_ _ | refine le_alloc ?_ | refine le_set ?_ | refine le_drew ?_ | refine le_drewN ?_ | refine below_step (by assumption) ?_ ?_ | refine le_below (by assumption) ?_) | (dsimp only; omega)))⟩
def RetL (ok : Bool) (b : Nat) (S : St) (W : World) (e : Ending) (w' : World) : Prop := e = .returned (.bool ok) ∧ IsP w' b S ∧ W.grownBy w' (some b)
set_option maxRecDepth 100000 in
theorem line_c (b n : Nat) (up : Bool) (S : St) (w : World) (hP : Hid (IsP w b S)) (hn : Hid (1 ≤ n ∧ n < 9)) : Calls Tryz.prog 91 #[.pointer (some ⟨b, 0, none⟩), .int .i64 n, .bool up] w (RetL true b (comeF (S.setUp n up) n) w) := by
  have n1 : ¬ (n : Int) < 1 := by have := hn.out; omega
  have n8 : ¬ (8 : Int) < n := by have := hn.out; omega
  have n9 : (n : Int) < 9 := by have := hn.out; omega
  have q1 := hP.out.up n hn.out.2
  have q3 := hP.out.fr (n * 3) (by have := hn.out; omega)
  have HS := Lib.hid (hP.out.setUp n up hn.out.2)
  go_enter Tryz.func91, Tryz.ntmps91
  go_wp2_with fail
  refine (come_c b n _ _ HS (Lib.hid hn.out.2)).mono ?_; rintro e w1 ⟨rfl, h1, h2⟩
  go_wp2_with fail
  go_ret
  exact ⟨rfl, h1, grown_trans (grown_set (grown_refl _ _) _ none _ none) h2⟩
def claimF (S : St) (c : Nat) : St := bif best S c == 0 then S else S.setSt (best S c) 2
def RetU2 (n b : Nat) (S : St) (W : World) (e : Ending) (w' : World) : Prop := e = .returned (.int .u64 n) ∧ IsP w' b S ∧ W.grownBy w' (some b)
set_option maxRecDepth 100000 in
theorem claim_c (b c : Nat) (S : St) (w : World) (hP : Hid (IsP w b S)) (hO : Hid (OkS S)) (hc : Hid (c < 2)) : Calls Tryz.prog 134 #[.pointer (some ⟨b, 0, none⟩), .int .i64 c] w (RetU2 (best S c) b (claimF S c) w) := by
  obtain ⟨n, hn⟩ : ∃ n, best S c = n := ⟨_, rfl⟩
  have n9 : n < 9 := by rw [← hn]; exact best_lt S c 7
  have n9' : (n : Int) < 9 := by omega
  have N9 := Lib.hid n9
  have HN := Lib.hid hn
  have n64 : IntKind.u64.wrap (n : Int) = n := by rw [IntKind.wrap_u64]; omega
  clear hn
  go_enter Tryz.func134, Tryz.ntmps134
  go_wp2_with fail
  refine (best_c b c S w hP hO hc).mono ?_; rintro e w1 ⟨rfl, hb1⟩
  rw [HN.out]
  have HB := Lib.hid hb1
  have HP1 : Hid (IsP w1 b S) := hP.out.below hb1
  clear hb1
  cases h0 : n == 0
  · have h0' : ((n : Int) != 0) = true := by have := (cast_beq n 0).trans h0; simpa [bne] using this
    have h0'' : ((n : Int) == 0) = false := (cast_beq n 0).trans h0
    have HC : Hid (claimF S c = S.setSt n 2) := by show _ = _; unfold claimF; rw [HN.out, h0]; rfl
    have q1 := HP1.out.st n N9.out
    have q3 := HP1.out.fr (n * 3 + 1) (by have := N9.out; omega)
    have HS := Lib.hid (HP1.out.setSt n 2 N9.out)
    clear h0
    go_wp2_with fail
    go_ret
    exact ⟨by rw [HN.out]; rfl, by rw [HC.out]; exact HS.out, grown_set (grown_any (grown_below HB.out)) _ none _ none⟩
  · obtain rfl : n = 0 := by simpa using h0
    have HC : Hid (claimF S c = S) := by show _ = _; unfold claimF; rw [HN.out]; rfl
    clear h0
    go_wp2_with fail
    go_ret
    exact ⟨by rw [HN.out]; rfl, by rw [HC.out]; exact HP1.out, grown_any (grown_below HB.out)⟩
def finF (S : St) (c n : Nat) : St := bif decide (n < 9) && (S.st n == 2 && takeB S c n) then comeF (S.setSt n 0) n else S
end Go.Proofs.YthhlcchofilimaaGreatDoor.U.P
