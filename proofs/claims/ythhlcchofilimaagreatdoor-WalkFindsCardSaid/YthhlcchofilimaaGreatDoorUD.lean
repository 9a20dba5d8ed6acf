/- Taken from other texts: what is needed of them. -/
import Derived.Test.YthhlcchofilimaaGreatDoorUA
import Derived.Test.YthhlcchofilimaaGreatDoorUB
import Derived.Test.YthhlcchofilimaaGreatDoorUC
import Derived.Test.YthhlcchofilimaaGreatDoorProg
import Derived.WalkKit
import Derived.Deep.QuietTactic
import Derived.BigQuiet
import Derived.ProofKit
import Derived.OpenShut
import Derived.WalkLawsBesides
import Derived.WalkSpells
import Derived.RegionTactic
import Derived.ChangeAlike
import Derived.Outline
import Derived.Laws.Externs
import Derived.Lib.Hide
import Derived.Maps.OwnSet
import Derived.DeepKeys4
import Derived.Laws.BitsAllLaws
import Derived.BigRegion
namespace Go.Proofs.YthhlcchofilimaaGreatDoor.U.K
set_option linter.unusedVariables false
set_option linter.unusedSimpArgs false
set_option maxRecDepth 20000
set_option maxRecDepth 20000
/-- The part that a place and a size name: 0: none. -/
def kd (at_ : Nat) (sz : Int) : Nat :=
  if at_ = 0 ∧ sz = 4 then 1 else
  if at_ = 16384 ∧ sz = 8 then 2 else
  if at_ = 16384 ∧ sz = 4 then 3 else
  if at_ = 16388 ∧ sz = 4 then 4 else
  if at_ = 49144 ∧ sz = 8 then 5 else
  if at_ = 49144 ∧ sz = 4 then 6 else
  if at_ = 49148 ∧ sz = 4 then 7 else
  0
/-- What is read of the three registers (soft, alarm, time). -/
def rdK (k s a t : Nat) : Nat := if k = 1 then s else if k = 2 then a else if k = 3 then a % 4294967296 else if k = 4 then a / 4294967296 else if k = 5 then t else if k = 6 then t % 4294967296 else if k = 7 then t / 4294967296 else 0
/-- What a register holds behind a write of a half. -/
def loW (x v : Nat) : Nat := x / 4294967296 * 4294967296 + v % 4294967296
def hiW (x v : Nat) : Nat := v % 4294967296 * 4294967296 + x % 4294967296
def wrS (k s v : Nat) : Nat := if k = 1 then v % 2 else s
def wrA (k a v : Nat) : Nat := if k = 2 then v else if k = 3 then loW a v else if k = 4 then hiW a v else a
def wrT (k t v : Nat) : Nat := if k = 5 then v else if k = 6 then loW t v else if k = 7 then hiW t v else t
theorem kd_cases (at_ : Nat) (sz : Int) : (at_ = 0 ∧ sz = 4 ∧ kd at_ sz = 1) ∨ (at_ = 16384 ∧ sz = 8 ∧ kd at_ sz = 2) ∨ (at_ = 16384 ∧ sz = 4 ∧ kd at_ sz = 3) ∨ (at_ = 16388 ∧ sz = 4 ∧ kd at_ sz = 4) ∨ (at_ = 49144 ∧ sz = 8 ∧ kd at_ sz = 5) ∨ (at_ = 49144 ∧ sz = 4 ∧ kd at_ sz = 6) ∨ (at_ = 49148 ∧ sz = 4 ∧ kd at_ sz = 7) ∨ (¬ (at_ = 0 ∧ sz = 4) ∧ ¬ (at_ = 16384 ∧ sz = 8) ∧ ¬ (at_ = 16384 ∧ sz = 4) ∧ ¬ (at_ = 16388 ∧ sz = 4) ∧ ¬ (at_ = 49144 ∧ sz = 8) ∧ ¬ (at_ = 49144 ∧ sz = 4) ∧ ¬ (at_ = 49148 ∧ sz = 4) ∧ kd at_ sz = 0) := by
  unfold kd
  by_cases h0 : at_ = 0 ∧ sz = 4
  · left; obtain ⟨rfl, rfl⟩ := h0; exact ⟨rfl, rfl, by decide⟩
  by_cases h1 : at_ = 16384 ∧ sz = 8
  · right; left; obtain ⟨rfl, rfl⟩ := h1; exact ⟨rfl, rfl, by decide⟩
  by_cases h2 : at_ = 16384 ∧ sz = 4
  · right; right; left; obtain ⟨rfl, rfl⟩ := h2; exact ⟨rfl, rfl, by decide⟩
  by_cases h3 : at_ = 16388 ∧ sz = 4
  · right; right; right; left; obtain ⟨rfl, rfl⟩ := h3; exact ⟨rfl, rfl, by decide⟩
  by_cases h4 : at_ = 49144 ∧ sz = 8
  · right; right; right; right; left; obtain ⟨rfl, rfl⟩ := h4; exact ⟨rfl, rfl, by decide⟩
  by_cases h5 : at_ = 49144 ∧ sz = 4
  · right; right; right; right; right; left; obtain ⟨rfl, rfl⟩ := h5; exact ⟨rfl, rfl, by decide⟩
  by_cases h6 : at_ = 49148 ∧ sz = 4
  · right; right; right; right; right; right; left; obtain ⟨rfl, rfl⟩ := h6; exact ⟨rfl, rfl, by decide⟩
  · right; right; right; right; right; right; right; exact ⟨h0, h1, h2, h3, h4, h5, h6, by rw [if_neg h0, if_neg h1, if_neg h2, if_neg h3, if_neg h4, if_neg h5, if_neg h6]⟩
end Go.Proofs.YthhlcchofilimaaGreatDoor.U.K
namespace Go.Proofs.YthhlcchofilimaaGreatDoor.U.K
set_option linter.unusedVariables false
set_option linter.unusedSimpArgs false
set_option maxRecDepth 20000
set_option maxRecDepth 20000
open Go.ChangeShapes Go.WideShapes Go.ChangeAt Go.RowKit
theorem le_below {n B : Nat} {w w' : World} (hb : Below B w w') (h : n ≤ w.heap.size) : n ≤ w'.heap.size := Nat.le_trans h hb.size
theorem below_step {B B' : Nat} {w w1 w2 : World} (hb : Below B' w1 w2) (h : Below B w w1) (hB : B ≤ B') : Below B w w2 := h.trans (hb.mono hB)
theorem below_drewN {B : Nat} {w w' : World} (h : Below B w w') (n : Nat) : Below B w (w'.drewN n) := ⟨h.os, h.tape, h.output, h.size, h.block⟩
theorem le_drew {n : Nat} {w : World} (h : n ≤ w.heap.size) : n ≤ w.drew.heap.size := h
theorem le_drewN {n k : Nat} {w : World} (h : n ≤ w.heap.size) : n ≤ (w.drewN k).heap.size := h
theorem sz_drewN (w : World) (k : Nat) : (w.drewN k).heap.size = w.heap.size := rfl
theorem sz_drew (w : World) : w.drew.heap.size = w.heap.size := rfl
theorem wpAny_cast {P : Program} {md : Region.Mode} {ops : Array Oper} {Q : Exit → Act → World → Prop} {fuel fuel' : Nat} {listed listed' : Array Bool} {a : Act} {w : World} (hf : fuel = fuel') (hl : listed = listed') (h : wpAny P md ops Q fuel' listed' a w) : wpAny P md ops Q fuel listed a w := by subst hf; subst hl; exact h
/-- A clint in a block: its three registers. -/
def IsC (w : World) (b x y z : Nat) : Prop := b < w.heap.size ∧
  w.cell? ⟨b, 0, none⟩ = some (.int .u64 x) ∧ w.cell? ⟨b, 1, none⟩ = some (.int .u64 y) ∧ w.cell? ⟨b, 2, none⟩ = some (.int .u64 z) ∧
  w.frozen? ⟨b, 0, none⟩ = false ∧ w.frozen? ⟨b, 1, none⟩ = false ∧ w.frozen? ⟨b, 2, none⟩ = false
theorem IsC.kept {w w' : World} {b x y z : Nat} {r : Option Nat} (h : IsC w b x y z) (hg : w.grownBy w' r) (hne : some b ≠ r) : IsC w' b x y z := by
  obtain ⟨h0, c0, c1, c2, f0, f1, f2⟩ := h
  have hb := hg.block b h0 hne
  refine ⟨Nat.lt_of_lt_of_le h0 hg.size, ?_, ?_, ?_, ?_, ?_, ?_⟩
  · rw [World.cell?_of_block (w := w) (a := ⟨b, 0, none⟩) hb]; exact c0
  · rw [World.cell?_of_block (w := w) (a := ⟨b, 1, none⟩) hb]; exact c1
  · rw [World.cell?_of_block (w := w) (a := ⟨b, 2, none⟩) hb]; exact c2
  · rw [World.frozen?_of_block (w := w) (a := ⟨b, 0, none⟩) hb]; exact f0
  · rw [World.frozen?_of_block (w := w) (a := ⟨b, 1, none⟩) hb]; exact f1
  · rw [World.frozen?_of_block (w := w) (a := ⟨b, 2, none⟩) hb]; exact f2
/-- Nothing that was there is written. -/
theorem grown_below {w w' : World} (h : Below w.heap.size w w') : w.grownBy w' none := ⟨h.os, h.tape, h.output, h.size, fun k hk _ => h.block k hk⟩
theorem IsC.below {w w' : World} {b x y z : Nat} (h : IsC w b x y z) (hb : Below w.heap.size w w') : IsC w' b x y z := h.kept (grown_below hb) (by simp)
theorem grown_refl (w : World) (r : Option Nat) : w.grownBy w r := ⟨rfl, rfl, rfl, Nat.le_refl _, fun _ _ _ => rfl⟩
theorem grown_trans {a b c : World} {r : Option Nat} (h : a.grownBy b r) (k : b.grownBy c r) : a.grownBy c r :=
  ⟨k.os.trans h.os, k.tape.trans h.tape, k.output.trans h.output, Nat.le_trans h.size k.size, fun i hi hr => (k.block i (Nat.lt_of_lt_of_le hi h.size) hr).trans (h.block i hi hr)⟩
theorem grown_any {a b : World} {r : Option Nat} (h : a.grownBy b none) : a.grownBy b r := ⟨h.os, h.tape, h.output, h.size, fun i hi _ => h.block i hi (by simp)⟩
theorem grown_alloc {a b : World} {r : Option Nat} (h : a.grownBy b r) (o : Obj) : a.grownBy (b.alloc o) r := grown_trans h (World.grownBy_alloc b o r)
theorem grown_set {a b : World} {k : Nat} (h : a.grownBy b (some k)) (o : Nat) (f : Option Nat) (u : Value) (n : Option Nat) : a.grownBy (b.setCell ⟨k, o, none⟩ u) (some k) :=
  grown_trans h ⟨rfl, rfl, rfl, by simp [World.setCell], fun i _ hi => Below.heap_setCell b ⟨k, o, none⟩ u i (fun e => hi (by rw [e]))⟩
/-- A block of three numbers that is new. -/
theorem isC_new (w : World) (x y z : Nat) (t : TypeId) : IsC (w.alloc (Obj.cells #[.int .u64 x, .int .u64 y, .int .u64 z] t)) w.heap.size x y z := by
  refine ⟨by simp, ?_, ?_, ?_, ?_, ?_, ?_⟩ <;> first | (rw [World.cell?_alloc_at _ _ _ _ rfl]; rfl) | (rw [World.frozen?_alloc_at _ _ _ _ rfl])
theorem sz_alloc (w : World) (o : Obj) : (w.alloc o).heap.size = w.heap.size + 1 := by simp
theorem sz_set (w : World) (p : Addr) (u : Value) : (w.setCell p u).heap.size = w.heap.size := by simp [World.setCell]
end Go.Proofs.YthhlcchofilimaaGreatDoor.U.K
namespace Go.Proofs.YthhlcchofilimaaGreatDoor.U.K
set_option linter.unusedVariables false
set_option linter.unusedSimpArgs false
set_option maxRecDepth 20000
set_option maxRecDepth 20000
open Go.Maps Go.WideMaps Go.RowKit
theorem laidOut : laidOutB Tryz.prog = true := by kernel_rfl
theorem rowSpot : (186 : TypeId) < Tryz.prog.types.size := of_decide_eq_true (by kernel_rfl)
theorem wideSpot : (match Tryz.prog.underlying 186 with | some (.array _ _) | some (.struct _) => true | _ => false) = true := by kernel_rfl
theorem lawSpot : Keyed Tryz.prog 186 := Keyed.of_law (deep_law_laid laidOut (m := 2) (by omega) rowSpot (by kernel_rfl) wideSpot)
theorem zeroPart (w : World) : (zeroValue 181).run Tryz.prog w = .ok (.agg #[.int .i64 0, .int .i64 0, .int .u64 0]) w := by kernel_rfl
/-- How a part reads. -/
def partR (v : Value) : Option (DataW Unit × List MemPlace) :=
  match v with
  | .agg cs => (match cs.toList with | [.int .i64 a, .int .i64 b, .int .u64 c] => some (.agg [.lit (.int .i64 a), .lit (.int .i64 b), .lit (.int .u64 c)], []) | _ => none)
  | _ => none
def partD (a b c : Int) : DataW Unit := .agg [.lit (.int .i64 a), .lit (.int .i64 b), .lit (.int .u64 c)]
def partV (a b c : Int) : Value := .agg #[.int .i64 a, .int .i64 b, .int .u64 c]
theorem partR_mk (a b c : Int) : partR (partV a b c) = some (partD a b c, []) := rfl
theorem partR_inv {v : Value} {a b c : Int} {ps : List MemPlace} (h : partR v = some (partD a b c, ps)) : v = partV a b c := by
  unfold partR partD at h
  split at h
  · split at h
    · rename_i cs x y z hc
      simp at h
      obtain ⟨⟨rfl, rfl, rfl⟩, -⟩ := h
      unfold partV
      congr 1
      exact Array.toList_inj.1 hc
    · cases h
  · cases h
def keyV (at_ : Nat) (sz : Int) : Value := .agg #[.int .u64 at_, .int .i64 sz]
def keyL (at_ : Nat) (sz : Int) : Lit := .string (keyBytes [.int .u64 at_, .int .i64 sz])
theorem keySpot (at_ : Nat) (sz : Int) (h1 : (Lit.int .u64 at_).wf = true) (h2 : (Lit.int .i64 sz).wf = true) : keyOf Tryz.prog 186 (keyV at_ sz) = some (keyL at_ sz) := by
  have k1 : Tryz.prog.keyType 186 = true := by kernel_rfl
  have k2 : Tryz.prog.cellsOf 186 = 2 := by kernel_rfl
  have k3 : Tryz.prog.cellsOf 23 = 1 := by kernel_rfl
  have k4 : Tryz.prog.cellsOf 3 = 1 := by kernel_rfl
  obtain ⟨d, k5⟩ : ∃ d, Tryz.prog.types.size + 1 = d + 2 := ⟨Tryz.prog.types.size - 1, by have : 0 < Tryz.prog.types.size := of_decide_eq_true (by kernel_rfl); omega⟩
  have k6 : Tryz.prog.keyLits (d + 2) 186 [.int .u64 at_, .int .i64 sz] = some [.int .u64 at_, .int .i64 sz] := by
    simp [Program.keyLits, Tryz.underlying186, k2, k3, k4, Tryz.underlying23, Tryz.underlying3, h1, h2, List.mapM_cons, List.mapM_nil]
  have k7 : Value.formed Tryz.prog 186 (keyV at_ sz) = true := by simp [Value.formed, keyV, Tryz.underlying186, k2]
  unfold keyOf keyL
  rw [Tryz.underlying186]
  simp only [k1, k7, k5]
  show (Program.keyLits Tryz.prog (d + 2) 186 [.int .u64 at_, .int .i64 sz]).map (fun ls => Lit.string (keyBytes ls)) = _
  rw [k6]
  rfl
theorem keyL_ne {x y : Nat} {p q : Int} (h1 : (Lit.int .u64 x).wf = true) (h2 : (Lit.int .i64 p).wf = true) (h3 : (Lit.int .u64 y).wf = true) (h4 : (Lit.int .i64 q).wf = true) (h : ¬ (x = y ∧ p = q)) : keyL x p ≠ keyL y q := by
  intro e
  have k1 := keySpot x p h1 h2
  have k2 := keySpot y q h3 h4
  rw [← e] at k2
  have := lawSpot.inj k1 k2
  unfold keyV at this
  simp at this
  exact h ⟨by omega, this.2⟩
theorem wfU {x : Nat} (h : x < 18446744073709551616) : (Lit.int .u64 x).wf = true := by
  simp [Lit.wf, IntKind.min, IntKind.max, IntKind.signed, IntKind.bits]; omega
theorem keyIs (x : Nat) (p : Int) : WideAt.IsKeyLit (keyL x p) := trivial
/-- The entry at a key. -/
def Has1 (D : DataW Unit) (x : Nat) (p : Int) (a b c : Int) : Prop := Maps.has D (keyL x p) = true ∧ D.atKey (keyL x p) (partD 0 0 0) = partD a b c
theorem Has1.put {D : DataW Unit} {x : Nat} {p a b c : Int} (h : Has1 D x p a b c) {y : Nat} {q : Int} (hne : keyL x p ≠ keyL y q) (d : DataW Unit) : Has1 (D.put (keyL y q) d) x p a b c :=
  ⟨by rw [Maps.has_put_other hne]; exact h.1, by rw [Maps.atKey_put_other hne]; exact h.2⟩
theorem has1_new {D : DataW Unit} (h : Maps.IsMap D) (x : Nat) (p a b c : Int) : Has1 (D.put (keyL x p) (partD a b c)) x p a b c :=
  ⟨Maps.has_put_same h (keyIs x p) _, Maps.atKey_put_same h (keyIs x p) _ _⟩
/-- No other key is there. -/
def Only (D : DataW Unit) : Prop := ∀ kl : Lit, kl ≠ keyL 0 4 → kl ≠ keyL 16384 8 → kl ≠ keyL 16384 4 → kl ≠ keyL 16388 4 → kl ≠ keyL 49144 8 → kl ≠ keyL 49144 4 → kl ≠ keyL 49148 4 → Maps.has D kl = false ∧ D.atKey kl (partD 0 0 0) = partD 0 0 0
theorem only_new : Only (.map []) := fun kl _ _ _ _ _ _ _ => ⟨rfl, rfl⟩
theorem Only.put0 {D : DataW Unit} (h : Only D) (d : DataW Unit) : Only (D.put (keyL 0 4) d) := fun kl h0 h1 h2 h3 h4 h5 h6 => ⟨by rw [Maps.has_put_other h0]; exact (h kl h0 h1 h2 h3 h4 h5 h6).1, by rw [Maps.atKey_put_other h0]; exact (h kl h0 h1 h2 h3 h4 h5 h6).2⟩
theorem Only.put1 {D : DataW Unit} (h : Only D) (d : DataW Unit) : Only (D.put (keyL 16384 8) d) := fun kl h0 h1 h2 h3 h4 h5 h6 => ⟨by rw [Maps.has_put_other h1]; exact (h kl h0 h1 h2 h3 h4 h5 h6).1, by rw [Maps.atKey_put_other h1]; exact (h kl h0 h1 h2 h3 h4 h5 h6).2⟩
theorem Only.put2 {D : DataW Unit} (h : Only D) (d : DataW Unit) : Only (D.put (keyL 16384 4) d) := fun kl h0 h1 h2 h3 h4 h5 h6 => ⟨by rw [Maps.has_put_other h2]; exact (h kl h0 h1 h2 h3 h4 h5 h6).1, by rw [Maps.atKey_put_other h2]; exact (h kl h0 h1 h2 h3 h4 h5 h6).2⟩
theorem Only.put3 {D : DataW Unit} (h : Only D) (d : DataW Unit) : Only (D.put (keyL 16388 4) d) := fun kl h0 h1 h2 h3 h4 h5 h6 => ⟨by rw [Maps.has_put_other h3]; exact (h kl h0 h1 h2 h3 h4 h5 h6).1, by rw [Maps.atKey_put_other h3]; exact (h kl h0 h1 h2 h3 h4 h5 h6).2⟩
theorem Only.put4 {D : DataW Unit} (h : Only D) (d : DataW Unit) : Only (D.put (keyL 49144 8) d) := fun kl h0 h1 h2 h3 h4 h5 h6 => ⟨by rw [Maps.has_put_other h4]; exact (h kl h0 h1 h2 h3 h4 h5 h6).1, by rw [Maps.atKey_put_other h4]; exact (h kl h0 h1 h2 h3 h4 h5 h6).2⟩
theorem Only.put5 {D : DataW Unit} (h : Only D) (d : DataW Unit) : Only (D.put (keyL 49144 4) d) := fun kl h0 h1 h2 h3 h4 h5 h6 => ⟨by rw [Maps.has_put_other h5]; exact (h kl h0 h1 h2 h3 h4 h5 h6).1, by rw [Maps.atKey_put_other h5]; exact (h kl h0 h1 h2 h3 h4 h5 h6).2⟩
theorem Only.put6 {D : DataW Unit} (h : Only D) (d : DataW Unit) : Only (D.put (keyL 49148 4) d) := fun kl h0 h1 h2 h3 h4 h5 h6 => ⟨by rw [Maps.has_put_other h6]; exact (h kl h0 h1 h2 h3 h4 h5 h6).1, by rw [Maps.atKey_put_other h6]; exact (h kl h0 h1 h2 h3 h4 h5 h6).2⟩
/-- What is there of the table. -/
def Part (D : DataW Unit) (b0 b1 b2 b3 b4 b5 b6 : Bool) : Prop := Maps.IsMap D ∧ Only D ∧ (b0 = true → Has1 D 0 4 0 0 1) ∧ (b1 = true → Has1 D 16384 8 1 0 18446744073709551615) ∧ (b2 = true → Has1 D 16384 4 1 0 4294967295) ∧ (b3 = true → Has1 D 16388 4 1 32 4294967295) ∧ (b4 = true → Has1 D 49144 8 2 0 18446744073709551615) ∧ (b5 = true → Has1 D 49144 4 2 0 4294967295) ∧ (b6 = true → Has1 D 49148 4 2 32 4294967295)
theorem part_new : Part (.map []) false false false false false false false := ⟨⟨[], rfl⟩, only_new, (fun h => nomatch h), (fun h => nomatch h), (fun h => nomatch h), (fun h => nomatch h), (fun h => nomatch h), (fun h => nomatch h), (fun h => nomatch h)⟩
theorem Part.put0 {D : DataW Unit} {b0 b1 b2 b3 b4 b5 b6 : Bool} (h : Part D b0 b1 b2 b3 b4 b5 b6) : Part (D.put (keyL 0 4) (partD 0 0 1)) true b1 b2 b3 b4 b5 b6 := by
  obtain ⟨h, ho, h0, h1, h2, h3, h4, h5, h6⟩ := h
  exact ⟨h.put _ _, ho.put0 _, fun _ => has1_new h _ _ _ _ _, fun e => (h1 e).put (keyL_ne (by decide) (by decide) (by decide) (by decide) (by decide)) _, fun e => (h2 e).put (keyL_ne (by decide) (by decide) (by decide) (by decide) (by decide)) _, fun e => (h3 e).put (keyL_ne (by decide) (by decide) (by decide) (by decide) (by decide)) _, fun e => (h4 e).put (keyL_ne (by decide) (by decide) (by decide) (by decide) (by decide)) _, fun e => (h5 e).put (keyL_ne (by decide) (by decide) (by decide) (by decide) (by decide)) _, fun e => (h6 e).put (keyL_ne (by decide) (by decide) (by decide) (by decide) (by decide)) _⟩
theorem Part.put1 {D : DataW Unit} {b0 b1 b2 b3 b4 b5 b6 : Bool} (h : Part D b0 b1 b2 b3 b4 b5 b6) : Part (D.put (keyL 16384 8) (partD 1 0 18446744073709551615)) b0 true b2 b3 b4 b5 b6 := by
  obtain ⟨h, ho, h0, h1, h2, h3, h4, h5, h6⟩ := h
  exact ⟨h.put _ _, ho.put1 _, fun e => (h0 e).put (keyL_ne (by decide) (by decide) (by decide) (by decide) (by decide)) _, fun _ => has1_new h _ _ _ _ _, fun e => (h2 e).put (keyL_ne (by decide) (by decide) (by decide) (by decide) (by decide)) _, fun e => (h3 e).put (keyL_ne (by decide) (by decide) (by decide) (by decide) (by decide)) _, fun e => (h4 e).put (keyL_ne (by decide) (by decide) (by decide) (by decide) (by decide)) _, fun e => (h5 e).put (keyL_ne (by decide) (by decide) (by decide) (by decide) (by decide)) _, fun e => (h6 e).put (keyL_ne (by decide) (by decide) (by decide) (by decide) (by decide)) _⟩
theorem Part.put2 {D : DataW Unit} {b0 b1 b2 b3 b4 b5 b6 : Bool} (h : Part D b0 b1 b2 b3 b4 b5 b6) : Part (D.put (keyL 16384 4) (partD 1 0 4294967295)) b0 b1 true b3 b4 b5 b6 := by
  obtain ⟨h, ho, h0, h1, h2, h3, h4, h5, h6⟩ := h
  exact ⟨h.put _ _, ho.put2 _, fun e => (h0 e).put (keyL_ne (by decide) (by decide) (by decide) (by decide) (by decide)) _, fun e => (h1 e).put (keyL_ne (by decide) (by decide) (by decide) (by decide) (by decide)) _, fun _ => has1_new h _ _ _ _ _, fun e => (h3 e).put (keyL_ne (by decide) (by decide) (by decide) (by decide) (by decide)) _, fun e => (h4 e).put (keyL_ne (by decide) (by decide) (by decide) (by decide) (by decide)) _, fun e => (h5 e).put (keyL_ne (by decide) (by decide) (by decide) (by decide) (by decide)) _, fun e => (h6 e).put (keyL_ne (by decide) (by decide) (by decide) (by decide) (by decide)) _⟩
theorem Part.put3 {D : DataW Unit} {b0 b1 b2 b3 b4 b5 b6 : Bool} (h : Part D b0 b1 b2 b3 b4 b5 b6) : Part (D.put (keyL 16388 4) (partD 1 32 4294967295)) b0 b1 b2 true b4 b5 b6 := by
  obtain ⟨h, ho, h0, h1, h2, h3, h4, h5, h6⟩ := h
  exact ⟨h.put _ _, ho.put3 _, fun e => (h0 e).put (keyL_ne (by decide) (by decide) (by decide) (by decide) (by decide)) _, fun e => (h1 e).put (keyL_ne (by decide) (by decide) (by decide) (by decide) (by decide)) _, fun e => (h2 e).put (keyL_ne (by decide) (by decide) (by decide) (by decide) (by decide)) _, fun _ => has1_new h _ _ _ _ _, fun e => (h4 e).put (keyL_ne (by decide) (by decide) (by decide) (by decide) (by decide)) _, fun e => (h5 e).put (keyL_ne (by decide) (by decide) (by decide) (by decide) (by decide)) _, fun e => (h6 e).put (keyL_ne (by decide) (by decide) (by decide) (by decide) (by decide)) _⟩
theorem Part.put4 {D : DataW Unit} {b0 b1 b2 b3 b4 b5 b6 : Bool} (h : Part D b0 b1 b2 b3 b4 b5 b6) : Part (D.put (keyL 49144 8) (partD 2 0 18446744073709551615)) b0 b1 b2 b3 true b5 b6 := by
  obtain ⟨h, ho, h0, h1, h2, h3, h4, h5, h6⟩ := h
  exact ⟨h.put _ _, ho.put4 _, fun e => (h0 e).put (keyL_ne (by decide) (by decide) (by decide) (by decide) (by decide)) _, fun e => (h1 e).put (keyL_ne (by decide) (by decide) (by decide) (by decide) (by decide)) _, fun e => (h2 e).put (keyL_ne (by decide) (by decide) (by decide) (by decide) (by decide)) _, fun e => (h3 e).put (keyL_ne (by decide) (by decide) (by decide) (by decide) (by decide)) _, fun _ => has1_new h _ _ _ _ _, fun e => (h5 e).put (keyL_ne (by decide) (by decide) (by decide) (by decide) (by decide)) _, fun e => (h6 e).put (keyL_ne (by decide) (by decide) (by decide) (by decide) (by decide)) _⟩
theorem Part.put5 {D : DataW Unit} {b0 b1 b2 b3 b4 b5 b6 : Bool} (h : Part D b0 b1 b2 b3 b4 b5 b6) : Part (D.put (keyL 49144 4) (partD 2 0 4294967295)) b0 b1 b2 b3 b4 true b6 := by
  obtain ⟨h, ho, h0, h1, h2, h3, h4, h5, h6⟩ := h
  exact ⟨h.put _ _, ho.put5 _, fun e => (h0 e).put (keyL_ne (by decide) (by decide) (by decide) (by decide) (by decide)) _, fun e => (h1 e).put (keyL_ne (by decide) (by decide) (by decide) (by decide) (by decide)) _, fun e => (h2 e).put (keyL_ne (by decide) (by decide) (by decide) (by decide) (by decide)) _, fun e => (h3 e).put (keyL_ne (by decide) (by decide) (by decide) (by decide) (by decide)) _, fun e => (h4 e).put (keyL_ne (by decide) (by decide) (by decide) (by decide) (by decide)) _, fun _ => has1_new h _ _ _ _ _, fun e => (h6 e).put (keyL_ne (by decide) (by decide) (by decide) (by decide) (by decide)) _⟩
theorem Part.put6 {D : DataW Unit} {b0 b1 b2 b3 b4 b5 b6 : Bool} (h : Part D b0 b1 b2 b3 b4 b5 b6) : Part (D.put (keyL 49148 4) (partD 2 32 4294967295)) b0 b1 b2 b3 b4 b5 true := by
  obtain ⟨h, ho, h0, h1, h2, h3, h4, h5, h6⟩ := h
  exact ⟨h.put _ _, ho.put6 _, fun e => (h0 e).put (keyL_ne (by decide) (by decide) (by decide) (by decide) (by decide)) _, fun e => (h1 e).put (keyL_ne (by decide) (by decide) (by decide) (by decide) (by decide)) _, fun e => (h2 e).put (keyL_ne (by decide) (by decide) (by decide) (by decide) (by decide)) _, fun e => (h3 e).put (keyL_ne (by decide) (by decide) (by decide) (by decide) (by decide)) _, fun e => (h4 e).put (keyL_ne (by decide) (by decide) (by decide) (by decide) (by decide)) _, fun e => (h5 e).put (keyL_ne (by decide) (by decide) (by decide) (by decide) (by decide)) _, fun _ => has1_new h _ _ _ _ _⟩
/-- The table stands in a block. -/
def Tab (w : World) (m : Nat) : Prop := ∃ D n, w.ownsMap Tryz.prog 186 partR m n D ∧ Part D true true true true true true true
theorem Tab.look {w : World} {m : Nat} (h : Tab w m) {x : Nat} {p : Int} (hx : x < 18446744073709551616) (hp : (Lit.int .i64 p).wf = true) {a b c : Int} {ok : Bool}
    (hk : ∀ D, Part D true true true true true true true → Maps.has D (keyL x p) = ok ∧ D.atKey (keyL x p) (partD 0 0 0) = partD a b c) :
    (Instr.lookup 183 (.map (some m)) (.agg #[.int .u64 x, .int .i64 p]) true).run Tryz.prog w = .ok (.tuple #[.agg #[.int .i64 a, .int .i64 b, .int .u64 c], .bool ok]) w := by
  obtain ⟨D, n, h, hP⟩ := h
  obtain ⟨h1, h2⟩ := hk D hP
  obtain ⟨v, ps, hr, hv⟩ := h.look_ok lawSpot Tryz.underlying183 (zeroPart w) (partR_mk 0 0 0) (keySpot x p (wfU hx) hp)
  rw [h2] at hv
  have := partR_inv hv
  subst this
  rw [h1] at hr
  exact hr
theorem Tab.grown {w w' : World} {m : Nat} {r : Option Nat} (h : Tab w m) (hg : w.grownBy w' r) (hne : some m ≠ r) : Tab w' m := by
  obtain ⟨D, n, h, hP⟩ := h
  exact ⟨D, n, h.kept hg hne, hP⟩
theorem look_1 {w : World} {m : Nat} (h : Tab w m) : (Instr.lookup 183 (.map (some m)) (.agg #[.int .u64 0, .int .i64 4]) true).run Tryz.prog w = .ok (.tuple #[.agg #[.int .i64 0, .int .i64 0, .int .u64 1], .bool true]) w := h.look (x := 0) (by decide) (by decide) (fun D hP => hP.2.2.1 rfl)
theorem look_2 {w : World} {m : Nat} (h : Tab w m) : (Instr.lookup 183 (.map (some m)) (.agg #[.int .u64 16384, .int .i64 8]) true).run Tryz.prog w = .ok (.tuple #[.agg #[.int .i64 1, .int .i64 0, .int .u64 18446744073709551615], .bool true]) w := h.look (x := 16384) (by decide) (by decide) (fun D hP => hP.2.2.2.1 rfl)
theorem look_3 {w : World} {m : Nat} (h : Tab w m) : (Instr.lookup 183 (.map (some m)) (.agg #[.int .u64 16384, .int .i64 4]) true).run Tryz.prog w = .ok (.tuple #[.agg #[.int .i64 1, .int .i64 0, .int .u64 4294967295], .bool true]) w := h.look (x := 16384) (by decide) (by decide) (fun D hP => hP.2.2.2.2.1 rfl)
theorem look_4 {w : World} {m : Nat} (h : Tab w m) : (Instr.lookup 183 (.map (some m)) (.agg #[.int .u64 16388, .int .i64 4]) true).run Tryz.prog w = .ok (.tuple #[.agg #[.int .i64 1, .int .i64 32, .int .u64 4294967295], .bool true]) w := h.look (x := 16388) (by decide) (by decide) (fun D hP => hP.2.2.2.2.2.1 rfl)
theorem look_5 {w : World} {m : Nat} (h : Tab w m) : (Instr.lookup 183 (.map (some m)) (.agg #[.int .u64 49144, .int .i64 8]) true).run Tryz.prog w = .ok (.tuple #[.agg #[.int .i64 2, .int .i64 0, .int .u64 18446744073709551615], .bool true]) w := h.look (x := 49144) (by decide) (by decide) (fun D hP => hP.2.2.2.2.2.2.1 rfl)
theorem look_6 {w : World} {m : Nat} (h : Tab w m) : (Instr.lookup 183 (.map (some m)) (.agg #[.int .u64 49144, .int .i64 4]) true).run Tryz.prog w = .ok (.tuple #[.agg #[.int .i64 2, .int .i64 0, .int .u64 4294967295], .bool true]) w := h.look (x := 49144) (by decide) (by decide) (fun D hP => hP.2.2.2.2.2.2.2.1 rfl)
theorem look_7 {w : World} {m : Nat} (h : Tab w m) : (Instr.lookup 183 (.map (some m)) (.agg #[.int .u64 49148, .int .i64 4]) true).run Tryz.prog w = .ok (.tuple #[.agg #[.int .i64 2, .int .i64 32, .int .u64 4294967295], .bool true]) w := h.look (x := 49148) (by decide) (by decide) (fun D hP => hP.2.2.2.2.2.2.2.2 rfl)
theorem look_0 {w : World} {m : Nat} (h : Tab w m) {x : Nat} {p : Int} (hx : x < 18446744073709551616) (hp : (Lit.int .i64 p).wf = true) (n0 : ¬ (x = 0 ∧ p = 4)) (n1 : ¬ (x = 16384 ∧ p = 8)) (n2 : ¬ (x = 16384 ∧ p = 4)) (n3 : ¬ (x = 16388 ∧ p = 4)) (n4 : ¬ (x = 49144 ∧ p = 8)) (n5 : ¬ (x = 49144 ∧ p = 4)) (n6 : ¬ (x = 49148 ∧ p = 4)) : (Instr.lookup 183 (.map (some m)) (.agg #[.int .u64 x, .int .i64 p]) true).run Tryz.prog w = .ok (.tuple #[.agg #[.int .i64 0, .int .i64 0, .int .u64 0], .bool false]) w := h.look hx hp (fun D hP => hP.2.1 (keyL x p) (keyL_ne (wfU hx) hp (by decide) (by decide) n0) (keyL_ne (wfU hx) hp (by decide) (by decide) n1) (keyL_ne (wfU hx) hp (by decide) (by decide) n2) (keyL_ne (wfU hx) hp (by decide) (by decide) n3) (keyL_ne (wfU hx) hp (by decide) (by decide) n4) (keyL_ne (wfU hx) hp (by decide) (by decide) n5) (keyL_ne (wfU hx) hp (by decide) (by decide) n6))
/-- Which operations of the literal have been done: the seven stores at their places, all before them but what follows. -/
def lst (b0 b1 b2 b3 b4 b5 b6 : Bool) : Array Bool := #[true, true, true, b0, true, true, b1, true, true, b2, true, true, b3, true, true, b4, true, true, b5, true, true, b6, false, false]
def cntF (b0 b1 b2 b3 b4 b5 b6 : Bool) : Nat := (!b0).toNat + (!b1).toNat + (!b2).toNat + (!b3).toNat + (!b4).toNat + (!b5).toNat + (!b6).toNat
theorem fill {P : Program} (hP : P = Tryz.prog) {ops : Array Oper} {Q : Exit → Act → World → Prop} {a : Act} {m : Nat} {W : World} (hmW : W.heap.size ≤ m)
    (hr : ∀ b0 b1 b2 b3 b4 b5 b6, cntF b0 b1 b2 b3 b4 b5 b6 ≠ 0 → Region.ready .any ops (lst b0 b1 b2 b3 b4 b5 b6) = (if b0 then [] else [3]) ++ (if b1 then [] else [6]) ++ (if b2 then [] else [9]) ++ (if b3 then [] else [12]) ++ (if b4 then [] else [15]) ++ (if b5 then [] else [18]) ++ (if b6 then [] else [21]))
    (s0 : ∀ (w : World) (K : Act → World → Prop), (∃ w', (Instr.mapUpdate 183 (.map (some m)) (keyV 0 4) (partV 0 0 1)).run P w = .ok () w' ∧ K a w') → wpOp P ops Q 3 K a w)
    (s1 : ∀ (w : World) (K : Act → World → Prop), (∃ w', (Instr.mapUpdate 183 (.map (some m)) (keyV 16384 8) (partV 1 0 18446744073709551615)).run P w = .ok () w' ∧ K a w') → wpOp P ops Q 6 K a w)
    (s2 : ∀ (w : World) (K : Act → World → Prop), (∃ w', (Instr.mapUpdate 183 (.map (some m)) (keyV 16384 4) (partV 1 0 4294967295)).run P w = .ok () w' ∧ K a w') → wpOp P ops Q 9 K a w)
    (s3 : ∀ (w : World) (K : Act → World → Prop), (∃ w', (Instr.mapUpdate 183 (.map (some m)) (keyV 16388 4) (partV 1 32 4294967295)).run P w = .ok () w' ∧ K a w') → wpOp P ops Q 12 K a w)
    (s4 : ∀ (w : World) (K : Act → World → Prop), (∃ w', (Instr.mapUpdate 183 (.map (some m)) (keyV 49144 8) (partV 2 0 18446744073709551615)).run P w = .ok () w' ∧ K a w') → wpOp P ops Q 15 K a w)
    (s5 : ∀ (w : World) (K : Act → World → Prop), (∃ w', (Instr.mapUpdate 183 (.map (some m)) (keyV 49144 4) (partV 2 0 4294967295)).run P w = .ok () w' ∧ K a w') → wpOp P ops Q 18 K a w)
    (s6 : ∀ (w : World) (K : Act → World → Prop), (∃ w', (Instr.mapUpdate 183 (.map (some m)) (keyV 49148 4) (partV 2 32 4294967295)).run P w = .ok () w' ∧ K a w') → wpOp P ops Q 21 K a w)
    (he : ∀ w, Tab w m → Below W.heap.size W w → wpAny P .any ops Q 2 (lst true true true true true true true) a w) :
    ∀ (n : Nat) (b0 b1 b2 b3 b4 b5 b6 : Bool), cntF b0 b1 b2 b3 b4 b5 b6 = n → ∀ (w : World) (D : DataW Unit) (k : Nat), w.ownsMap P 186 partR m k D → k + n ≤ 7 → Part D b0 b1 b2 b3 b4 b5 b6 → Below W.heap.size W w → wpAny P .any ops Q (n + 2) (lst b0 b1 b2 b3 b4 b5 b6) a w := by
  subst hP
  intro n
  induction n with
  | zero =>
    intro b0 b1 b2 b3 b4 b5 b6 hc w D k ho hk hp hb
    have : b0 = true ∧ b1 = true ∧ b2 = true ∧ b3 = true ∧ b4 = true ∧ b5 = true ∧ b6 = true := by revert hc; unfold cntF; cases b0 <;> cases b1 <;> cases b2 <;> cases b3 <;> cases b4 <;> cases b5 <;> cases b6 <;> simp
    obtain ⟨rfl, rfl, rfl, rfl, rfl, rfl, rfl⟩ := this
    exact he w ⟨D, k, ho, hp⟩ hb
  | succ n ih =>
    intro b0 b1 b2 b3 b4 b5 b6 hc w D k ho hk hp hb
    have hrr := hr b0 b1 b2 b3 b4 b5 b6 (by omega)
    have hne : Region.ready .any ops (lst b0 b1 b2 b3 b4 b5 b6) ≠ [] := by rw [hrr]; intro h; revert hc; simp at h; unfold cntF; simp [h]
    refine wpAny_all rfl hne ?_
    rw [hrr]
    intro i hi
    simp only [List.mem_append] at hi
    rcases hi with ((((((hi | hi) | hi) | hi) | hi) | hi) | hi)
    · cases b0
      · obtain rfl : i = 3 := by simpa using hi
        obtain ⟨w', hrun, ho', hg⟩ := ho.update lawSpot Tryz.underlying183 (by unfold maxLen; omega) (keySpot 0 4 (by decide) (by decide)) (partR_mk 0 0 1)
        exact s0 w _ ⟨w', hrun, ih true b1 b2 b3 b4 b5 b6 (by revert hc; unfold cntF; simp only [Bool.not_true, Bool.not_false, Bool.toNat_true, Bool.toNat_false]; omega) w' _ (k + 1) ho' (by omega) hp.put0 (hb.grown hg hb.size (fun q hq => by cases hq; exact hmW))⟩
      · simp at hi
    · cases b1
      · obtain rfl : i = 6 := by simpa using hi
        obtain ⟨w', hrun, ho', hg⟩ := ho.update lawSpot Tryz.underlying183 (by unfold maxLen; omega) (keySpot 16384 8 (by decide) (by decide)) (partR_mk 1 0 18446744073709551615)
        exact s1 w _ ⟨w', hrun, ih b0 true b2 b3 b4 b5 b6 (by revert hc; unfold cntF; simp only [Bool.not_true, Bool.not_false, Bool.toNat_true, Bool.toNat_false]; omega) w' _ (k + 1) ho' (by omega) hp.put1 (hb.grown hg hb.size (fun q hq => by cases hq; exact hmW))⟩
      · simp at hi
    · cases b2
      · obtain rfl : i = 9 := by simpa using hi
        obtain ⟨w', hrun, ho', hg⟩ := ho.update lawSpot Tryz.underlying183 (by unfold maxLen; omega) (keySpot 16384 4 (by decide) (by decide)) (partR_mk 1 0 4294967295)
        exact s2 w _ ⟨w', hrun, ih b0 b1 true b3 b4 b5 b6 (by revert hc; unfold cntF; simp only [Bool.not_true, Bool.not_false, Bool.toNat_true, Bool.toNat_false]; omega) w' _ (k + 1) ho' (by omega) hp.put2 (hb.grown hg hb.size (fun q hq => by cases hq; exact hmW))⟩
      · simp at hi
    · cases b3
      · obtain rfl : i = 12 := by simpa using hi
        obtain ⟨w', hrun, ho', hg⟩ := ho.update lawSpot Tryz.underlying183 (by unfold maxLen; omega) (keySpot 16388 4 (by decide) (by decide)) (partR_mk 1 32 4294967295)
        exact s3 w _ ⟨w', hrun, ih b0 b1 b2 true b4 b5 b6 (by revert hc; unfold cntF; simp only [Bool.not_true, Bool.not_false, Bool.toNat_true, Bool.toNat_false]; omega) w' _ (k + 1) ho' (by omega) hp.put3 (hb.grown hg hb.size (fun q hq => by cases hq; exact hmW))⟩
      · simp at hi
    · cases b4
      · obtain rfl : i = 15 := by simpa using hi
        obtain ⟨w', hrun, ho', hg⟩ := ho.update lawSpot Tryz.underlying183 (by unfold maxLen; omega) (keySpot 49144 8 (by decide) (by decide)) (partR_mk 2 0 18446744073709551615)
        exact s4 w _ ⟨w', hrun, ih b0 b1 b2 b3 true b5 b6 (by revert hc; unfold cntF; simp only [Bool.not_true, Bool.not_false, Bool.toNat_true, Bool.toNat_false]; omega) w' _ (k + 1) ho' (by omega) hp.put4 (hb.grown hg hb.size (fun q hq => by cases hq; exact hmW))⟩
      · simp at hi
    · cases b5
      · obtain rfl : i = 18 := by simpa using hi
        obtain ⟨w', hrun, ho', hg⟩ := ho.update lawSpot Tryz.underlying183 (by unfold maxLen; omega) (keySpot 49144 4 (by decide) (by decide)) (partR_mk 2 0 4294967295)
        exact s5 w _ ⟨w', hrun, ih b0 b1 b2 b3 b4 true b6 (by revert hc; unfold cntF; simp only [Bool.not_true, Bool.not_false, Bool.toNat_true, Bool.toNat_false]; omega) w' _ (k + 1) ho' (by omega) hp.put5 (hb.grown hg hb.size (fun q hq => by cases hq; exact hmW))⟩
      · simp at hi
    · cases b6
      · obtain rfl : i = 21 := by simpa using hi
        obtain ⟨w', hrun, ho', hg⟩ := ho.update lawSpot Tryz.underlying183 (by unfold maxLen; omega) (keySpot 49148 4 (by decide) (by decide)) (partR_mk 2 32 4294967295)
        exact s6 w _ ⟨w', hrun, ih b0 b1 b2 b3 b4 b5 true (by revert hc; unfold cntF; simp only [Bool.not_true, Bool.not_false, Bool.toNat_true, Bool.toNat_false]; omega) w' _ (k + 1) ho' (by omega) hp.put6 (hb.grown hg hb.size (fun q hq => by cases hq; exact hmW))⟩
      · simp at hi
end Go.Proofs.YthhlcchofilimaaGreatDoor.U.K
namespace Go.Proofs.YthhlcchofilimaaGreatDoor.U.K
set_option linter.unusedVariables false
set_option linter.unusedSimpArgs false
set_option maxRecDepth 20000
set_option maxRecDepth 20000
open Go.ChangeShapes Go.WideShapes Go.ChangeAt Go.RowKit
def RetTab (W : World) (e : Ending) (w' : World) : Prop := ∃ m, e = .returned (.map (some m)) ∧ Tab w' m ∧ Below W.heap.size W w'
set_option maxRecDepth 100000 in
set_option maxHeartbeats 4000000 in
theorem parts_c (w : World) : Calls Tryz.prog 129 #[] w (RetTab w) := by
  have hmm := @run_makeMap Tryz.prog
  go_enter Tryz.func129, Tryz.ntmps129
  go_wp2_with fail
  refine wp_region_any (by kernel_rfl) ?_
  change wpAny _ _ _ _ _ _ _ (World.drew _)
  refine wpAny_take (i := 1) (v := .agg #[.int .u64 0, .int .i64 4]) rfl (by kernel_rfl) (by kernel_rfl) (by kernel_rfl) (fun _ _ _ h => h) (Or.inl ⟨by rfl, by intro w; go_simp⟩) ?_
  refine wpAny_take (i := 2) (v := .agg #[.int .i64 0, .int .i64 0, .int .u64 1]) rfl (by kernel_rfl) (by kernel_rfl) (by kernel_rfl) (fun _ _ _ h => h) (Or.inl ⟨by rfl, by intro w; go_simp⟩) ?_
  refine wpAny_take (i := 4) (v := .agg #[.int .u64 16384, .int .i64 8]) rfl (by kernel_rfl) (by kernel_rfl) (by kernel_rfl) (fun _ _ _ h => h) (Or.inl ⟨by rfl, by intro w; go_simp⟩) ?_
  refine wpAny_take (i := 5) (v := .agg #[.int .i64 1, .int .i64 0, .int .u64 18446744073709551615]) rfl (by kernel_rfl) (by kernel_rfl) (by kernel_rfl) (fun _ _ _ h => h) (Or.inl ⟨by rfl, by intro w; go_simp⟩) ?_
  refine wpAny_take (i := 7) (v := .agg #[.int .u64 16384, .int .i64 4]) rfl (by kernel_rfl) (by kernel_rfl) (by kernel_rfl) (fun _ _ _ h => h) (Or.inl ⟨by rfl, by intro w; go_simp⟩) ?_
  refine wpAny_take (i := 8) (v := .agg #[.int .i64 1, .int .i64 0, .int .u64 4294967295]) rfl (by kernel_rfl) (by kernel_rfl) (by kernel_rfl) (fun _ _ _ h => h) (Or.inl ⟨by rfl, by intro w; go_simp⟩) ?_
  refine wpAny_take (i := 10) (v := .agg #[.int .u64 16388, .int .i64 4]) rfl (by kernel_rfl) (by kernel_rfl) (by kernel_rfl) (fun _ _ _ h => h) (Or.inl ⟨by rfl, by intro w; go_simp⟩) ?_
  refine wpAny_take (i := 11) (v := .agg #[.int .i64 1, .int .i64 32, .int .u64 4294967295]) rfl (by kernel_rfl) (by kernel_rfl) (by kernel_rfl) (fun _ _ _ h => h) (Or.inl ⟨by rfl, by intro w; go_simp⟩) ?_
  refine wpAny_take (i := 13) (v := .agg #[.int .u64 49144, .int .i64 8]) rfl (by kernel_rfl) (by kernel_rfl) (by kernel_rfl) (fun _ _ _ h => h) (Or.inl ⟨by rfl, by intro w; go_simp⟩) ?_
  refine wpAny_take (i := 14) (v := .agg #[.int .i64 2, .int .i64 0, .int .u64 18446744073709551615]) rfl (by kernel_rfl) (by kernel_rfl) (by kernel_rfl) (fun _ _ _ h => h) (Or.inl ⟨by rfl, by intro w; go_simp⟩) ?_
  refine wpAny_take (i := 16) (v := .agg #[.int .u64 49144, .int .i64 4]) rfl (by kernel_rfl) (by kernel_rfl) (by kernel_rfl) (fun _ _ _ h => h) (Or.inl ⟨by rfl, by intro w; go_simp⟩) ?_
  refine wpAny_take (i := 17) (v := .agg #[.int .i64 2, .int .i64 0, .int .u64 4294967295]) rfl (by kernel_rfl) (by kernel_rfl) (by kernel_rfl) (fun _ _ _ h => h) (Or.inl ⟨by rfl, by intro w; go_simp⟩) ?_
  refine wpAny_take (i := 19) (v := .agg #[.int .u64 49148, .int .i64 4]) rfl (by kernel_rfl) (by kernel_rfl) (by kernel_rfl) (fun _ _ _ h => h) (Or.inl ⟨by rfl, by intro w; go_simp⟩) ?_
  refine wpAny_take (i := 20) (v := .agg #[.int .i64 2, .int .i64 32, .int .u64 4294967295]) rfl (by kernel_rfl) (by kernel_rfl) (by kernel_rfl) (fun _ _ _ h => h) (Or.inl ⟨by rfl, by intro w; go_simp⟩) ?_
  refine wpAny_ready (rs := [0]) (by kernel_rfl) (by simp) ?_
  refine AllReady.cons rfl (fun K hK => ?_) AllReady.nil
  go_simp
  refine hK _ _ ?_
  clear hK K
  refine wpAny_cast (fuel' := 9) (listed' := lst false false false false false false false) (by kernel_rfl) (by kernel_rfl) ?_
  refine fill (P := Tryz.prog) rfl (m := w.heap.size) (W := w) (Nat.le_refl _) ?_ ?_ ?_ ?_ ?_ ?_ ?_ ?_ ?_ 7 false false false false false false false rfl _ (.map []) 0 (World.ownsMap_made _ _ _ _) (by decide) part_new (by repeat (first | (with_reducible first | exact Below.refl _ _ | assumption | exact Nat.le_refl _ | refine Below.drew ?_ | refine Below.alloc ?_ ?_ _ | refine Below.setCell ?_ ?_ _ | refine le_alloc ?_ | refine le_set ?_ | refine le_drew ?_ | refine below_step (by assumption) ?_ ?_ | refine le_below (by assumption) ?_) | (dsimp only; omega)))
  · intro b0 b1 b2 b3 b4 b5 b6 h
    cases b0 <;> cases b1 <;> cases b2 <;> cases b3 <;> cases b4 <;> cases b5 <;> cases b6 <;> first | exact absurd rfl h | kernel_rfl
  · intro w1 K ⟨w', hr, hk⟩
    have hr' : (Instr.mapUpdate 183 (.map (some w.heap.size)) (.agg #[.int .u64 0, .int .i64 4]) (.agg #[.int .i64 0, .int .i64 0, .int .u64 1])).run Tryz.prog w1 = .ok () w' := hr
    refine wpOp_step rfl (fun K' hK' => ?_)
    go_simp
    exact hK' _ _ hk
  · intro w1 K ⟨w', hr, hk⟩
    have hr' : (Instr.mapUpdate 183 (.map (some w.heap.size)) (.agg #[.int .u64 16384, .int .i64 8]) (.agg #[.int .i64 1, .int .i64 0, .int .u64 18446744073709551615])).run Tryz.prog w1 = .ok () w' := hr
    refine wpOp_step rfl (fun K' hK' => ?_)
    go_simp
    exact hK' _ _ hk
  · intro w1 K ⟨w', hr, hk⟩
    have hr' : (Instr.mapUpdate 183 (.map (some w.heap.size)) (.agg #[.int .u64 16384, .int .i64 4]) (.agg #[.int .i64 1, .int .i64 0, .int .u64 4294967295])).run Tryz.prog w1 = .ok () w' := hr
    refine wpOp_step rfl (fun K' hK' => ?_)
    go_simp
    exact hK' _ _ hk
  · intro w1 K ⟨w', hr, hk⟩
    have hr' : (Instr.mapUpdate 183 (.map (some w.heap.size)) (.agg #[.int .u64 16388, .int .i64 4]) (.agg #[.int .i64 1, .int .i64 32, .int .u64 4294967295])).run Tryz.prog w1 = .ok () w' := hr
    refine wpOp_step rfl (fun K' hK' => ?_)
    go_simp
    exact hK' _ _ hk
  · intro w1 K ⟨w', hr, hk⟩
    have hr' : (Instr.mapUpdate 183 (.map (some w.heap.size)) (.agg #[.int .u64 49144, .int .i64 8]) (.agg #[.int .i64 2, .int .i64 0, .int .u64 18446744073709551615])).run Tryz.prog w1 = .ok () w' := hr
    refine wpOp_step rfl (fun K' hK' => ?_)
    go_simp
    exact hK' _ _ hk
  · intro w1 K ⟨w', hr, hk⟩
    have hr' : (Instr.mapUpdate 183 (.map (some w.heap.size)) (.agg #[.int .u64 49144, .int .i64 4]) (.agg #[.int .i64 2, .int .i64 0, .int .u64 4294967295])).run Tryz.prog w1 = .ok () w' := hr
    refine wpOp_step rfl (fun K' hK' => ?_)
    go_simp
    exact hK' _ _ hk
  · intro w1 K ⟨w', hr, hk⟩
    have hr' : (Instr.mapUpdate 183 (.map (some w.heap.size)) (.agg #[.int .u64 49148, .int .i64 4]) (.agg #[.int .i64 2, .int .i64 32, .int .u64 4294967295])).run Tryz.prog w1 = .ok () w' := hr
    refine wpOp_step rfl (fun K' hK' => ?_)
    go_simp
    exact hK' _ _ hk
  · intro w2 hT hB
    refine wpAny_take (i := 22) (v := .map (some w.heap.size)) rfl (by kernel_rfl) (by kernel_rfl) (by kernel_rfl) (fun _ _ _ h => h) (Or.inl ⟨by rfl, by intro w; go_simp⟩) ?_
    refine wpAny_take (i := 23) (v := .map (some w.heap.size)) rfl (by kernel_rfl) (by kernel_rfl) (by kernel_rfl) (fun _ _ _ h => h) (Or.inl ⟨by rfl, by intro w; go_simp⟩) ?_
    refine wpAny_done (by kernel_rfl) ?_ _
    go_wp2_with fail
    go_ret
    exact ⟨_, rfl, hT, hB⟩
end Go.Proofs.YthhlcchofilimaaGreatDoor.U.K
namespace Go.Proofs.YthhlcchofilimaaGreatDoor.U.K
set_option linter.unusedVariables false
set_option linter.unusedSimpArgs false
set_option maxRecDepth 20000
set_option maxRecDepth 20000
open Go.RowKit
theorem and_mask (x k : Nat) (hk : k ≤ 64) (hx : x < 18446744073709551616) : bits .and .u64 (x : Int) ((2 ^ k - 1 : Nat) : Int) = ((x % 2 ^ k : Nat) : Int) := by
  have h1 : 2 ^ k ≤ 2 ^ 64 := Nat.pow_le_pow_right (by decide) hk
  have h2 := Nat.two_pow_pos k
  rw [u64_and_nat x (2 ^ k - 1) hx (by omega), Nat.and_two_pow_sub_one_eq_mod]
theorem and1 (x : Nat) (hx : x < 18446744073709551616) : bits .and .u64 (x : Int) 1 = ((x % 2 : Nat) : Int) := and_mask x 1 (by decide) hx
theorem and32 (x : Nat) (hx : x < 18446744073709551616) : bits .and .u64 (x : Int) 4294967295 = ((x % 4294967296 : Nat) : Int) := and_mask x 32 (by decide) hx
theorem and64 (x : Nat) (hx : x < 18446744073709551616) : bits .and .u64 (x : Int) 18446744073709551615 = (x : Int) := by
  have := and_mask x 64 (by decide) hx
  rw [show x % 2 ^ 64 = x from Nat.mod_eq_of_lt hx] at this
  exact this
theorem andhi (x : Nat) (hx : x < 18446744073709551616) : bits .and .u64 ((x : Int) / 4294967296) 4294967295 = ((x / 4294967296 : Nat) : Int) := by
  have := and32 (x / 4294967296) (by omega)
  rw [show ((x : Int) / 4294967296) = ((x / 4294967296 : Nat) : Int) by simp, this]
  congr 1; omega
end Go.Proofs.YthhlcchofilimaaGreatDoor.U.K
namespace Go.Proofs.YthhlcchofilimaaGreatDoor.U.K
set_option linter.unusedVariables false
set_option linter.unusedSimpArgs false
set_option maxRecDepth 20000
set_option maxRecDepth 20000
open Go.ChangeShapes Go.WideShapes Go.ChangeAt Go.RowKit
def RetR (n : Nat) (ok : Bool) (W : World) (e : Ending) (w' : World) : Prop := e = .returned (.tuple #[.int .u64 n, .bool ok]) ∧ Below W.heap.size W w'
theorem retR_mk {n : Nat} {x : Int} {a b : Bool} {W w' : World} (h1 : x = n) (h : a = b) (hb : Below W.heap.size W w') : RetR n b W (.returned (.tuple #[.int .u64 x, .bool a])) w' := ⟨by rw [h, h1], hb⟩
set_option maxRecDepth 100000 in
theorem read_1 (w : World) (b s a t : Nat) (h : IsC w b s a t) (hs : s < 2) (ha : a < 18446744073709551616) (ht : t < 18446744073709551616) : Calls Tryz.prog 127 #[.pointer (some ⟨b, 0, none⟩), .int .u64 0, .int .i64 4] w (RetR (rdK 1 s a t) true w) := by
  go_enter Tryz.func127, Tryz.ntmps127
  go_wp2_with fail
  refine (parts_c _).mono ?_; rintro e w1 ⟨m, rfl, hT, hb1⟩
  have look := look_1 hT
  have HC := Lib.hid (h.below hb1)
  have Hs := Lib.hid hs; have Ha := Lib.hid ha; have Ht := Lib.hid ht; clear hs ha ht h hT
  have Hb := Lib.hid hb1; clear hb1
  obtain ⟨h0, c0, c1, c2, f0, f1, f2⟩ := HC.out
  have nb : ¬ b = w1.heap.size := by omega
  have nb' : ¬ w1.heap.size = b := by omega
  go_wp2_with fail
  go_quiet (fail)
  go_wp2_with fail
  go_ret2
  exact retR_mk (by rw [and1 s (by have := Hs.out; omega)]; show ((s % 2 : Nat) : Int) = _; have := Hs.out; rw [Nat.mod_eq_of_lt this]; rfl) rfl (by have hbb := Hb.out; exact (by repeat (first | (with_reducible first | exact Below.refl _ _ | assumption | exact Nat.le_refl _ | refine Below.drew ?_ | refine Below.alloc ?_ ?_ _ | refine below_drewN ?_ _ | refine Below.setCell ?_ ?_ _ | refine le_alloc ?_ | refine le_set ?_ | refine le_drew ?_ | refine le_drewN ?_ | refine below_step (by assumption) ?_ ?_ | refine le_below (by assumption) ?_) | (dsimp only; omega))))
set_option maxRecDepth 100000 in
theorem read_2 (w : World) (b s a t : Nat) (h : IsC w b s a t) (hs : s < 2) (ha : a < 18446744073709551616) (ht : t < 18446744073709551616) : Calls Tryz.prog 127 #[.pointer (some ⟨b, 0, none⟩), .int .u64 16384, .int .i64 8] w (RetR (rdK 2 s a t) true w) := by
  go_enter Tryz.func127, Tryz.ntmps127
  go_wp2_with fail
  refine (parts_c _).mono ?_; rintro e w1 ⟨m, rfl, hT, hb1⟩
  have look := look_2 hT
  have HC := Lib.hid (h.below hb1)
  have Hs := Lib.hid hs; have Ha := Lib.hid ha; have Ht := Lib.hid ht; clear hs ha ht h hT
  have Hb := Lib.hid hb1; clear hb1
  obtain ⟨h0, c0, c1, c2, f0, f1, f2⟩ := HC.out
  have nb : ¬ b = w1.heap.size := by omega
  have nb' : ¬ w1.heap.size = b := by omega
  go_wp2_with fail
  go_quiet (fail)
  go_wp2_with fail
  go_ret2
  exact retR_mk (and64 a Ha.out) rfl (by have hbb := Hb.out; exact (by repeat (first | (with_reducible first | exact Below.refl _ _ | assumption | exact Nat.le_refl _ | refine Below.drew ?_ | refine Below.alloc ?_ ?_ _ | refine below_drewN ?_ _ | refine Below.setCell ?_ ?_ _ | refine le_alloc ?_ | refine le_set ?_ | refine le_drew ?_ | refine le_drewN ?_ | refine below_step (by assumption) ?_ ?_ | refine le_below (by assumption) ?_) | (dsimp only; omega))))
set_option maxRecDepth 100000 in
theorem read_3 (w : World) (b s a t : Nat) (h : IsC w b s a t) (hs : s < 2) (ha : a < 18446744073709551616) (ht : t < 18446744073709551616) : Calls Tryz.prog 127 #[.pointer (some ⟨b, 0, none⟩), .int .u64 16384, .int .i64 4] w (RetR (rdK 3 s a t) true w) := by
  go_enter Tryz.func127, Tryz.ntmps127
  go_wp2_with fail
  refine (parts_c _).mono ?_; rintro e w1 ⟨m, rfl, hT, hb1⟩
  have look := look_3 hT
  have HC := Lib.hid (h.below hb1)
  have Hs := Lib.hid hs; have Ha := Lib.hid ha; have Ht := Lib.hid ht; clear hs ha ht h hT
  have Hb := Lib.hid hb1; clear hb1
  obtain ⟨h0, c0, c1, c2, f0, f1, f2⟩ := HC.out
  have nb : ¬ b = w1.heap.size := by omega
  have nb' : ¬ w1.heap.size = b := by omega
  go_wp2_with fail
  go_quiet (fail)
  go_wp2_with fail
  go_ret2
  exact retR_mk (and32 a Ha.out) rfl (by have hbb := Hb.out; exact (by repeat (first | (with_reducible first | exact Below.refl _ _ | assumption | exact Nat.le_refl _ | refine Below.drew ?_ | refine Below.alloc ?_ ?_ _ | refine below_drewN ?_ _ | refine Below.setCell ?_ ?_ _ | refine le_alloc ?_ | refine le_set ?_ | refine le_drew ?_ | refine le_drewN ?_ | refine below_step (by assumption) ?_ ?_ | refine le_below (by assumption) ?_) | (dsimp only; omega))))
set_option maxRecDepth 100000 in
theorem read_4 (w : World) (b s a t : Nat) (h : IsC w b s a t) (hs : s < 2) (ha : a < 18446744073709551616) (ht : t < 18446744073709551616) : Calls Tryz.prog 127 #[.pointer (some ⟨b, 0, none⟩), .int .u64 16388, .int .i64 4] w (RetR (rdK 4 s a t) true w) := by
  go_enter Tryz.func127, Tryz.ntmps127
  go_wp2_with fail
  refine (parts_c _).mono ?_; rintro e w1 ⟨m, rfl, hT, hb1⟩
  have look := look_4 hT
  have HC := Lib.hid (h.below hb1)
  have Hs := Lib.hid hs; have Ha := Lib.hid ha; have Ht := Lib.hid ht; clear hs ha ht h hT
  have Hb := Lib.hid hb1; clear hb1
  obtain ⟨h0, c0, c1, c2, f0, f1, f2⟩ := HC.out
  have nb : ¬ b = w1.heap.size := by omega
  have nb' : ¬ w1.heap.size = b := by omega
  go_wp2_with fail
  go_quiet (fail)
  go_wp2_with fail
  go_ret2
  exact retR_mk (andhi a Ha.out) rfl (by have hbb := Hb.out; exact (by repeat (first | (with_reducible first | exact Below.refl _ _ | assumption | exact Nat.le_refl _ | refine Below.drew ?_ | refine Below.alloc ?_ ?_ _ | refine below_drewN ?_ _ | refine Below.setCell ?_ ?_ _ | refine le_alloc ?_ | refine le_set ?_ | refine le_drew ?_ | refine le_drewN ?_ | refine below_step (by assumption) ?_ ?_ | refine le_below (by assumption) ?_) | (dsimp only; omega))))
set_option maxRecDepth 100000 in
theorem read_5 (w : World) (b s a t : Nat) (h : IsC w b s a t) (hs : s < 2) (ha : a < 18446744073709551616) (ht : t < 18446744073709551616) : Calls Tryz.prog 127 #[.pointer (some ⟨b, 0, none⟩), .int .u64 49144, .int .i64 8] w (RetR (rdK 5 s a t) true w) := by
  go_enter Tryz.func127, Tryz.ntmps127
  go_wp2_with fail
  refine (parts_c _).mono ?_; rintro e w1 ⟨m, rfl, hT, hb1⟩
  have look := look_5 hT
  have HC := Lib.hid (h.below hb1)
  have Hs := Lib.hid hs; have Ha := Lib.hid ha; have Ht := Lib.hid ht; clear hs ha ht h hT
  have Hb := Lib.hid hb1; clear hb1
  obtain ⟨h0, c0, c1, c2, f0, f1, f2⟩ := HC.out
  have nb : ¬ b = w1.heap.size := by omega
  have nb' : ¬ w1.heap.size = b := by omega
  go_wp2_with fail
  go_quiet (fail)
  go_wp2_with fail
  go_ret2
  exact retR_mk (and64 t Ht.out) rfl (by have hbb := Hb.out; exact (by repeat (first | (with_reducible first | exact Below.refl _ _ | assumption | exact Nat.le_refl _ | refine Below.drew ?_ | refine Below.alloc ?_ ?_ _ | refine below_drewN ?_ _ | refine Below.setCell ?_ ?_ _ | refine le_alloc ?_ | refine le_set ?_ | refine le_drew ?_ | refine le_drewN ?_ | refine below_step (by assumption) ?_ ?_ | refine le_below (by assumption) ?_) | (dsimp only; omega))))
set_option maxRecDepth 100000 in
theorem read_6 (w : World) (b s a t : Nat) (h : IsC w b s a t) (hs : s < 2) (ha : a < 18446744073709551616) (ht : t < 18446744073709551616) : Calls Tryz.prog 127 #[.pointer (some ⟨b, 0, none⟩), .int .u64 49144, .int .i64 4] w (RetR (rdK 6 s a t) true w) := by
  go_enter Tryz.func127, Tryz.ntmps127
  go_wp2_with fail
  refine (parts_c _).mono ?_; rintro e w1 ⟨m, rfl, hT, hb1⟩
  have look := look_6 hT
  have HC := Lib.hid (h.below hb1)
  have Hs := Lib.hid hs; have Ha := Lib.hid ha; have Ht := Lib.hid ht; clear hs ha ht h hT
  have Hb := Lib.hid hb1; clear hb1
  obtain ⟨h0, c0, c1, c2, f0, f1, f2⟩ := HC.out
  have nb : ¬ b = w1.heap.size := by omega
  have nb' : ¬ w1.heap.size = b := by omega
  go_wp2_with fail
  go_quiet (fail)
  go_wp2_with fail
  go_ret2
  exact retR_mk (and32 t Ht.out) rfl (by have hbb := Hb.out; exact (by repeat (first | (with_reducible first | exact Below.refl _ _ | assumption | exact Nat.le_refl _ | refine Below.drew ?_ | refine Below.alloc ?_ ?_ _ | refine below_drewN ?_ _ | refine Below.setCell ?_ ?_ _ | refine le_alloc ?_ | refine le_set ?_ | refine le_drew ?_ | refine le_drewN ?_ | refine below_step (by assumption) ?_ ?_ | refine le_below (by assumption) ?_) | (dsimp only; omega))))
set_option maxRecDepth 100000 in
theorem read_7 (w : World) (b s a t : Nat) (h : IsC w b s a t) (hs : s < 2) (ha : a < 18446744073709551616) (ht : t < 18446744073709551616) : Calls Tryz.prog 127 #[.pointer (some ⟨b, 0, none⟩), .int .u64 49148, .int .i64 4] w (RetR (rdK 7 s a t) true w) := by
  go_enter Tryz.func127, Tryz.ntmps127
  go_wp2_with fail
  refine (parts_c _).mono ?_; rintro e w1 ⟨m, rfl, hT, hb1⟩
  have look := look_7 hT
  have HC := Lib.hid (h.below hb1)
  have Hs := Lib.hid hs; have Ha := Lib.hid ha; have Ht := Lib.hid ht; clear hs ha ht h hT
  have Hb := Lib.hid hb1; clear hb1
  obtain ⟨h0, c0, c1, c2, f0, f1, f2⟩ := HC.out
  have nb : ¬ b = w1.heap.size := by omega
  have nb' : ¬ w1.heap.size = b := by omega
  go_wp2_with fail
  go_quiet (fail)
  go_wp2_with fail
  go_ret2
  exact retR_mk (andhi t Ht.out) rfl (by have hbb := Hb.out; exact (by repeat (first | (with_reducible first | exact Below.refl _ _ | assumption | exact Nat.le_refl _ | refine Below.drew ?_ | refine Below.alloc ?_ ?_ _ | refine below_drewN ?_ _ | refine Below.setCell ?_ ?_ _ | refine le_alloc ?_ | refine le_set ?_ | refine le_drew ?_ | refine le_drewN ?_ | refine below_step (by assumption) ?_ ?_ | refine le_below (by assumption) ?_) | (dsimp only; omega))))
set_option maxRecDepth 100000 in
theorem read_0 (w : World) (b s a t : Nat) (h : IsC w b s a t) (hs : s < 2) (ha : a < 18446744073709551616) (ht : t < 18446744073709551616) (at_ : Nat) (sz : Int) (hx : at_ < 18446744073709551616) (hz : (Lit.int .i64 sz).wf = true) (n0 : ¬ (at_ = 0 ∧ sz = 4)) (n1 : ¬ (at_ = 16384 ∧ sz = 8)) (n2 : ¬ (at_ = 16384 ∧ sz = 4)) (n3 : ¬ (at_ = 16388 ∧ sz = 4)) (n4 : ¬ (at_ = 49144 ∧ sz = 8)) (n5 : ¬ (at_ = 49144 ∧ sz = 4)) (n6 : ¬ (at_ = 49148 ∧ sz = 4)) : Calls Tryz.prog 127 #[.pointer (some ⟨b, 0, none⟩), .int .u64 at_, .int .i64 sz] w (RetR 0 false w) := by
  go_enter Tryz.func127, Tryz.ntmps127
  go_wp2_with fail
  refine (parts_c _).mono ?_; rintro e w1 ⟨m, rfl, hT, hb1⟩
  have look := look_0 hT hx hz n0 n1 n2 n3 n4 n5 n6
  clear hx hz n0 n1 n2 n3 n4 n5 n6
  have HC := Lib.hid (h.below hb1)
  have Hs := Lib.hid hs; have Ha := Lib.hid ha; have Ht := Lib.hid ht; clear hs ha ht h hT
  have Hb := Lib.hid hb1; clear hb1
  obtain ⟨h0, c0, c1, c2, f0, f1, f2⟩ := HC.out
  have nb : ¬ b = w1.heap.size := by omega
  have nb' : ¬ w1.heap.size = b := by omega
  go_wp2_with fail
  go_ret2
  exact retR_mk rfl rfl (by have hbb := Hb.out; exact (by repeat (first | (with_reducible first | exact Below.refl _ _ | assumption | exact Nat.le_refl _ | refine Below.drew ?_ | refine Below.alloc ?_ ?_ _ | refine below_drewN ?_ _ | refine Below.setCell ?_ ?_ _ | refine le_alloc ?_ | refine le_set ?_ | refine le_drew ?_ | refine le_drewN ?_ | refine below_step (by assumption) ?_ ?_ | refine le_below (by assumption) ?_) | (dsimp only; omega))))
theorem read_c (w : World) (b s a t : Nat) (h : IsC w b s a t) (hs : s < 2) (ha : a < 18446744073709551616) (ht : t < 18446744073709551616) (at_ : Nat) (sz : Int) (hx : at_ < 18446744073709551616) (hz : (Lit.int .i64 sz).wf = true) : Calls Tryz.prog 127 #[.pointer (some ⟨b, 0, none⟩), .int .u64 at_, .int .i64 sz] w (RetR (rdK (kd at_ sz) s a t) (decide (kd at_ sz ≠ 0)) w) := by
  rcases kd_cases at_ sz with ⟨rfl, rfl, e⟩ | ⟨rfl, rfl, e⟩ | ⟨rfl, rfl, e⟩ | ⟨rfl, rfl, e⟩ | ⟨rfl, rfl, e⟩ | ⟨rfl, rfl, e⟩ | ⟨rfl, rfl, e⟩ | ⟨n0, n1, n2, n3, n4, n5, n6, e⟩ <;> rw [e]
  · exact read_1 w b s a t h hs ha ht
  · exact read_2 w b s a t h hs ha ht
  · exact read_3 w b s a t h hs ha ht
  · exact read_4 w b s a t h hs ha ht
  · exact read_5 w b s a t h hs ha ht
  · exact read_6 w b s a t h hs ha ht
  · exact read_7 w b s a t h hs ha ht
  · exact read_0 w b s a t h hs ha ht at_ sz hx hz n0 n1 n2 n3 n4 n5 n6
end Go.Proofs.YthhlcchofilimaaGreatDoor.U.K
namespace Go.Proofs.YthhlcchofilimaaGreatDoor.U.K
set_option linter.unusedVariables false
set_option linter.unusedSimpArgs false
set_option maxRecDepth 20000
set_option maxRecDepth 20000
open Go.ChangeShapes Go.WideShapes Go.ChangeAt Go.RowKit
theorem IsC.drewN {w : World} {b x y z : Nat} (h : IsC w b x y z) (n : Nat) : IsC (w.drewN n) b x y z := h
theorem IsC.alloc {w : World} {b x y z : Nat} (h : IsC w b x y z) (o : Obj) : IsC (w.alloc o) b x y z := h.kept (World.grownBy_alloc w o none) (by simp)
end Go.Proofs.YthhlcchofilimaaGreatDoor.U.K
namespace Go.Proofs.YthhlcchofilimaaGreatDoor.U.K
set_option linter.unusedVariables false
set_option linter.unusedSimpArgs false
set_option maxRecDepth 20000
set_option maxRecDepth 20000
open Go.ChangeShapes Go.WideShapes Go.ChangeAt Go.RowKit
def RetC (x y z : Nat) (W : World) (e : Ending) (w' : World) : Prop := ∃ b, e = .returned (.pointer (some ⟨b, 0, none⟩)) ∧ W.heap.size ≤ b ∧ IsC w' b x y z ∧ Below W.heap.size W w'
def RetU (n : Nat) (W : World) (e : Ending) (w' : World) : Prop := e = .returned (.int .u64 n) ∧ Below W.heap.size W w'
theorem retU_mk {n : Nat} {x : Int} {W w' : World} (h : x = n) (hb : Below W.heap.size W w') : RetU n W (.returned (.int .u64 x)) w' := ⟨by rw [h], hb⟩
set_option maxRecDepth 100000 in
theorem new_c (w : World) : Calls Tryz.prog 53 #[] w (RetC 0 18446744073709551615 0 w) := by
  go_enter Tryz.func53, Tryz.ntmps53
  go_wp2_with fail
  go_ret
  exact ⟨_, rfl, Nat.le_refl _, isC_new w 0 18446744073709551615 0 _, (by repeat (first | (with_reducible first | exact Below.refl _ _ | assumption | exact Nat.le_refl _ | refine Below.drew ?_ | refine Below.alloc ?_ ?_ _ | refine below_drewN ?_ _ | refine Below.setCell ?_ ?_ _ | refine le_alloc ?_ | refine le_set ?_ | refine le_drew ?_ | refine le_drewN ?_ | refine below_step (by assumption) ?_ ?_ | refine le_below (by assumption) ?_) | (dsimp only; omega)))⟩
theorem copy_c (w : World) (b s a t : Nat) (h : IsC w b s a t) : Calls Tryz.prog 88 #[.pointer (some ⟨b, 0, none⟩)] w (RetC s a t w) := by
  have HC := Lib.hid h
  obtain ⟨h0, c0, c1, c2, f0, f1, f2⟩ := h
  go_enter Tryz.func88, Tryz.ntmps88
  go_wp2_with fail
  go_ret
  exact ⟨_, rfl, Nat.le_refl _, isC_new w s a t _, (by repeat (first | (with_reducible first | exact Below.refl _ _ | assumption | exact Nat.le_refl _ | refine Below.drew ?_ | refine Below.alloc ?_ ?_ _ | refine below_drewN ?_ _ | refine Below.setCell ?_ ?_ _ | refine le_alloc ?_ | refine le_set ?_ | refine le_drew ?_ | refine le_drewN ?_ | refine below_step (by assumption) ?_ ?_ | refine le_below (by assumption) ?_) | (dsimp only; omega)))⟩
end Go.Proofs.YthhlcchofilimaaGreatDoor.U.K
namespace Go.Proofs.YthhlcchofilimaaGreatDoor.U.K
set_option linter.unusedVariables false
set_option linter.unusedSimpArgs false
set_option maxRecDepth 20000
set_option maxRecDepth 20000
open Go.ChangeShapes Go.WideShapes Go.ChangeAt Go.RowKit
end Go.Proofs.YthhlcchofilimaaGreatDoor.U.K
namespace Go.Proofs.YthhlcchofilimaaGreatDoor.U.K
set_option linter.unusedVariables false
set_option linter.unusedSimpArgs false
set_option maxRecDepth 20000
set_option maxRecDepth 20000
open Go.ChangeShapes Go.WideShapes Go.ChangeAt Go.RowKit
def NoP (x : Nat) (p : Int) : Prop := ¬ (x = 0 ∧ p = 4) ∧ ¬ (x = 16384 ∧ p = 8) ∧ ¬ (x = 16384 ∧ p = 4) ∧ ¬ (x = 16388 ∧ p = 4) ∧ ¬ (x = 49144 ∧ p = 8) ∧ ¬ (x = 49144 ∧ p = 4) ∧ ¬ (x = 49148 ∧ p = 4)
end Go.Proofs.YthhlcchofilimaaGreatDoor.U.K
namespace Go.Proofs.YthhlcchofilimaaGreatDoor.U.K
set_option linter.unusedVariables false
set_option linter.unusedSimpArgs false
set_option maxRecDepth 20000
set_option maxRecDepth 20000
open Go.ChangeShapes Go.WideShapes Go.ChangeAt Go.RowKit
end Go.Proofs.YthhlcchofilimaaGreatDoor.U.K
namespace Go.Proofs.YthhlcchofilimaaGreatDoor.U.K
set_option linter.unusedVariables false
set_option linter.unusedSimpArgs false
set_option maxRecDepth 20000
set_option maxRecDepth 20000
open Go.ChangeShapes Go.WideShapes Go.ChangeAt Go.RowKit
theorem newr_c (w : World) : Calls Tryz.prog 21 #[] w (RetC 0 0 18446744073709551615 w) := by
  go_enter Tryz.func21, Tryz.ntmps21
  go_wp2_with fail
  go_ret
  exact ⟨_, rfl, Nat.le_refl _, isC_new w 0 0 18446744073709551615 _, (by repeat (first | (with_reducible first | exact Below.refl _ _ | assumption | exact Nat.le_refl _ | refine Below.drew ?_ | refine Below.alloc ?_ ?_ _ | refine below_drewN ?_ _ | refine Below.setCell ?_ ?_ _ | refine le_alloc ?_ | refine le_set ?_ | refine le_drew ?_ | refine le_drewN ?_ | refine below_step (by assumption) ?_ ?_ | refine le_below (by assumption) ?_) | (dsimp only; omega)))⟩
end Go.Proofs.YthhlcchofilimaaGreatDoor.U.K
namespace Go.Proofs.YthhlcchofilimaaGreatDoor.U.K
set_option linter.unusedVariables false
set_option linter.unusedSimpArgs false
set_option maxRecDepth 20000
set_option maxRecDepth 20000
open Go.ChangeShapes Go.WideShapes Go.ChangeAt Go.RowKit
end Go.Proofs.YthhlcchofilimaaGreatDoor.U.K
