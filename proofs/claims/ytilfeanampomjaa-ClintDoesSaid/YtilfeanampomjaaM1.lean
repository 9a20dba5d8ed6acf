/- The table of the registers' parts as a map: what a look-up finds; a map literal filled in whatever order. -/
import Derived.Test.YtilfeanampomjaaM0
import Derived.WalkKit
import Derived.ProofKit
import Derived.Maps.OwnSet
import Derived.DeepKeys4
import Derived.RegionTactic
namespace Go.Proofs.Ytilfeanampomjaa
open Go.Maps Go.WideMaps Go.RowKit
set_option linter.unusedVariables false
set_option linter.unusedSimpArgs false
theorem laidOut : laidOutB Try.prog = true := by kernel_rfl
theorem rowSpot : (53 : TypeId) < Try.prog.types.size := of_decide_eq_true (by kernel_rfl)
theorem wideSpot : (match Try.prog.underlying 53 with | some (.array _ _) | some (.struct _) => true | _ => false) = true := by kernel_rfl
theorem lawSpot : Keyed Try.prog 53 := Keyed.of_law (deep_law_laid laidOut (m := 2) (by omega) rowSpot (by kernel_rfl) wideSpot)
theorem zeroPart (w : World) : (zeroValue 48).run Try.prog w = .ok (.agg #[.int .i64 0, .int .i64 0, .int .u64 0]) w := by kernel_rfl
/-- How a part reads. -/
def partR (v : Value) : Option (DataW Unit × List MemPlace) :=
  match v with
  | .agg cs => (match cs.toList with | [.int .i64 a, .int .i64 b, .int .u64 c] => some (.agg [.lit (.int .i64 a), .lit (.int .i64 b), .lit (.int .u64 c)], []) | _ => none)
  | _ => none
def partD (a b c : Int) : DataW Unit := .agg [.lit (.int .i64 a), .lit (.int .i64 b), .lit (.int .u64 c)]
def partV (a b c : Int) : Value := .agg #[.int .i64 a, .int .i64 b, .int .u64 c]
theorem partR_mk (a b c : Int) : partR (partV a b c) = some (partD a b c, []) := rfl
theorem partR_inv {v : Value} {a b c : Int} {ps : List MemPlace} (h : partR v = some (partD a b c, ps)) : v = partV a b c := by
  unfold partR partD at h
  split at h
  · split at h
    · rename_i cs x y z hc
      simp at h
      obtain ⟨⟨rfl, rfl, rfl⟩, -⟩ := h
      unfold partV
      congr 1
      exact Array.toList_inj.1 hc
    · cases h
  · cases h
def keyV (at_ : Nat) (sz : Int) : Value := .agg #[.int .u64 at_, .int .i64 sz]
def keyL (at_ : Nat) (sz : Int) : Lit := .string (keyBytes [.int .u64 at_, .int .i64 sz])
theorem keySpot (at_ : Nat) (sz : Int) (h1 : (Lit.int .u64 at_).wf = true) (h2 : (Lit.int .i64 sz).wf = true) : keyOf Try.prog 53 (keyV at_ sz) = some (keyL at_ sz) := by
  have k1 : Try.prog.keyType 53 = true := by kernel_rfl
  have k2 : Try.prog.cellsOf 53 = 2 := by kernel_rfl
  have k3 : Try.prog.cellsOf 28 = 1 := by kernel_rfl
  have k4 : Try.prog.cellsOf 3 = 1 := by kernel_rfl
  obtain ⟨d, k5⟩ : ∃ d, Try.prog.types.size + 1 = d + 2 := ⟨Try.prog.types.size - 1, by have : 0 < Try.prog.types.size := of_decide_eq_true (by kernel_rfl); omega⟩
  have k6 : Try.prog.keyLits (d + 2) 53 [.int .u64 at_, .int .i64 sz] = some [.int .u64 at_, .int .i64 sz] := by
    simp [Program.keyLits, Try.underlying53, k2, k3, k4, Try.underlying28, Try.underlying3, h1, h2, List.mapM_cons, List.mapM_nil]
  have k7 : Value.formed Try.prog 53 (keyV at_ sz) = true := by simp [Value.formed, keyV, Try.underlying53, k2]
  unfold keyOf keyL
  rw [Try.underlying53]
  simp only [k1, k7, k5]
  show (Program.keyLits Try.prog (d + 2) 53 [.int .u64 at_, .int .i64 sz]).map (fun ls => Lit.string (keyBytes ls)) = _
  rw [k6]
  rfl
theorem keyL_ne {x y : Nat} {p q : Int} (h1 : (Lit.int .u64 x).wf = true) (h2 : (Lit.int .i64 p).wf = true) (h3 : (Lit.int .u64 y).wf = true) (h4 : (Lit.int .i64 q).wf = true) (h : ¬ (x = y ∧ p = q)) : keyL x p ≠ keyL y q := by
  intro e
  have k1 := keySpot x p h1 h2
  have k2 := keySpot y q h3 h4
  rw [← e] at k2
  have := lawSpot.inj k1 k2
  unfold keyV at this
  simp at this
  exact h ⟨by omega, this.2⟩
theorem wfU {x : Nat} (h : x < 18446744073709551616) : (Lit.int .u64 x).wf = true := by
  simp [Lit.wf, IntKind.min, IntKind.max, IntKind.signed, IntKind.bits]; omega
theorem keyIs (x : Nat) (p : Int) : WideAt.IsKeyLit (keyL x p) := trivial
/-- The entry at a key. -/
def Has1 (D : DataW Unit) (x : Nat) (p : Int) (a b c : Int) : Prop := Maps.has D (keyL x p) = true ∧ D.atKey (keyL x p) (partD 0 0 0) = partD a b c
theorem Has1.put {D : DataW Unit} {x : Nat} {p a b c : Int} (h : Has1 D x p a b c) {y : Nat} {q : Int} (hne : keyL x p ≠ keyL y q) (d : DataW Unit) : Has1 (D.put (keyL y q) d) x p a b c :=
  ⟨by rw [Maps.has_put_other hne]; exact h.1, by rw [Maps.atKey_put_other hne]; exact h.2⟩
theorem has1_new {D : DataW Unit} (h : Maps.IsMap D) (x : Nat) (p a b c : Int) : Has1 (D.put (keyL x p) (partD a b c)) x p a b c :=
  ⟨Maps.has_put_same h (keyIs x p) _, Maps.atKey_put_same h (keyIs x p) _ _⟩
/-- No other key is there. -/
def Only (D : DataW Unit) : Prop := ∀ kl : Lit, kl ≠ keyL 0 4 → kl ≠ keyL 16384 8 → kl ≠ keyL 16384 4 → kl ≠ keyL 16388 4 → kl ≠ keyL 49144 8 → kl ≠ keyL 49144 4 → kl ≠ keyL 49148 4 → Maps.has D kl = false ∧ D.atKey kl (partD 0 0 0) = partD 0 0 0
theorem only_new : Only (.map []) := fun kl _ _ _ _ _ _ _ => ⟨rfl, rfl⟩
theorem Only.put0 {D : DataW Unit} (h : Only D) (d : DataW Unit) : Only (D.put (keyL 0 4) d) := fun kl h0 h1 h2 h3 h4 h5 h6 => ⟨by rw [Maps.has_put_other h0]; exact (h kl h0 h1 h2 h3 h4 h5 h6).1, by rw [Maps.atKey_put_other h0]; exact (h kl h0 h1 h2 h3 h4 h5 h6).2⟩
theorem Only.put1 {D : DataW Unit} (h : Only D) (d : DataW Unit) : Only (D.put (keyL 16384 8) d) := fun kl h0 h1 h2 h3 h4 h5 h6 => ⟨by rw [Maps.has_put_other h1]; exact (h kl h0 h1 h2 h3 h4 h5 h6).1, by rw [Maps.atKey_put_other h1]; exact (h kl h0 h1 h2 h3 h4 h5 h6).2⟩
theorem Only.put2 {D : DataW Unit} (h : Only D) (d : DataW Unit) : Only (D.put (keyL 16384 4) d) := fun kl h0 h1 h2 h3 h4 h5 h6 => ⟨by rw [Maps.has_put_other h2]; exact (h kl h0 h1 h2 h3 h4 h5 h6).1, by rw [Maps.atKey_put_other h2]; exact (h kl h0 h1 h2 h3 h4 h5 h6).2⟩
theorem Only.put3 {D : DataW Unit} (h : Only D) (d : DataW Unit) : Only (D.put (keyL 16388 4) d) := fun kl h0 h1 h2 h3 h4 h5 h6 => ⟨by rw [Maps.has_put_other h3]; exact (h kl h0 h1 h2 h3 h4 h5 h6).1, by rw [Maps.atKey_put_other h3]; exact (h kl h0 h1 h2 h3 h4 h5 h6).2⟩
theorem Only.put4 {D : DataW Unit} (h : Only D) (d : DataW Unit) : Only (D.put (keyL 49144 8) d) := fun kl h0 h1 h2 h3 h4 h5 h6 => ⟨by rw [Maps.has_put_other h4]; exact (h kl h0 h1 h2 h3 h4 h5 h6).1, by rw [Maps.atKey_put_other h4]; exact (h kl h0 h1 h2 h3 h4 h5 h6).2⟩
theorem Only.put5 {D : DataW Unit} (h : Only D) (d : DataW Unit) : Only (D.put (keyL 49144 4) d) := fun kl h0 h1 h2 h3 h4 h5 h6 => ⟨by rw [Maps.has_put_other h5]; exact (h kl h0 h1 h2 h3 h4 h5 h6).1, by rw [Maps.atKey_put_other h5]; exact (h kl h0 h1 h2 h3 h4 h5 h6).2⟩
theorem Only.put6 {D : DataW Unit} (h : Only D) (d : DataW Unit) : Only (D.put (keyL 49148 4) d) := fun kl h0 h1 h2 h3 h4 h5 h6 => ⟨by rw [Maps.has_put_other h6]; exact (h kl h0 h1 h2 h3 h4 h5 h6).1, by rw [Maps.atKey_put_other h6]; exact (h kl h0 h1 h2 h3 h4 h5 h6).2⟩
/-- What is there of the table. -/
def Part (D : DataW Unit) (b0 b1 b2 b3 b4 b5 b6 : Bool) : Prop := Maps.IsMap D ∧ Only D ∧ (b0 = true → Has1 D 0 4 0 0 1) ∧ (b1 = true → Has1 D 16384 8 1 0 18446744073709551615) ∧ (b2 = true → Has1 D 16384 4 1 0 4294967295) ∧ (b3 = true → Has1 D 16388 4 1 32 4294967295) ∧ (b4 = true → Has1 D 49144 8 2 0 18446744073709551615) ∧ (b5 = true → Has1 D 49144 4 2 0 4294967295) ∧ (b6 = true → Has1 D 49148 4 2 32 4294967295)
theorem part_new : Part (.map []) false false false false false false false := ⟨⟨[], rfl⟩, only_new, (fun h => nomatch h), (fun h => nomatch h), (fun h => nomatch h), (fun h => nomatch h), (fun h => nomatch h), (fun h => nomatch h), (fun h => nomatch h)⟩
theorem Part.put0 {D : DataW Unit} {b0 b1 b2 b3 b4 b5 b6 : Bool} (h : Part D b0 b1 b2 b3 b4 b5 b6) : Part (D.put (keyL 0 4) (partD 0 0 1)) true b1 b2 b3 b4 b5 b6 := by
  obtain ⟨h, ho, h0, h1, h2, h3, h4, h5, h6⟩ := h
  exact ⟨h.put _ _, ho.put0 _, fun _ => has1_new h _ _ _ _ _, fun e => (h1 e).put (keyL_ne (by decide) (by decide) (by decide) (by decide) (by decide)) _, fun e => (h2 e).put (keyL_ne (by decide) (by decide) (by decide) (by decide) (by decide)) _, fun e => (h3 e).put (keyL_ne (by decide) (by decide) (by decide) (by decide) (by decide)) _, fun e => (h4 e).put (keyL_ne (by decide) (by decide) (by decide) (by decide) (by decide)) _, fun e => (h5 e).put (keyL_ne (by decide) (by decide) (by decide) (by decide) (by decide)) _, fun e => (h6 e).put (keyL_ne (by decide) (by decide) (by decide) (by decide) (by decide)) _⟩
theorem Part.put1 {D : DataW Unit} {b0 b1 b2 b3 b4 b5 b6 : Bool} (h : Part D b0 b1 b2 b3 b4 b5 b6) : Part (D.put (keyL 16384 8) (partD 1 0 18446744073709551615)) b0 true b2 b3 b4 b5 b6 := by
  obtain ⟨h, ho, h0, h1, h2, h3, h4, h5, h6⟩ := h
  exact ⟨h.put _ _, ho.put1 _, fun e => (h0 e).put (keyL_ne (by decide) (by decide) (by decide) (by decide) (by decide)) _, fun _ => has1_new h _ _ _ _ _, fun e => (h2 e).put (keyL_ne (by decide) (by decide) (by decide) (by decide) (by decide)) _, fun e => (h3 e).put (keyL_ne (by decide) (by decide) (by decide) (by decide) (by decide)) _, fun e => (h4 e).put (keyL_ne (by decide) (by decide) (by decide) (by decide) (by decide)) _, fun e => (h5 e).put (keyL_ne (by decide) (by decide) (by decide) (by decide) (by decide)) _, fun e => (h6 e).put (keyL_ne (by decide) (by decide) (by decide) (by decide) (by decide)) _⟩
theorem Part.put2 {D : DataW Unit} {b0 b1 b2 b3 b4 b5 b6 : Bool} (h : Part D b0 b1 b2 b3 b4 b5 b6) : Part (D.put (keyL 16384 4) (partD 1 0 4294967295)) b0 b1 true b3 b4 b5 b6 := by
  obtain ⟨h, ho, h0, h1, h2, h3, h4, h5, h6⟩ := h
  exact ⟨h.put _ _, ho.put2 _, fun e => (h0 e).put (keyL_ne (by decide) (by decide) (by decide) (by decide) (by decide)) _, fun e => (h1 e).put (keyL_ne (by decide) (by decide) (by decide) (by decide) (by decide)) _, fun _ => has1_new h _ _ _ _ _, fun e => (h3 e).put (keyL_ne (by decide) (by decide) (by decide) (by decide) (by decide)) _, fun e => (h4 e).put (keyL_ne (by decide) (by decide) (by decide) (by decide) (by decide)) _, fun e => (h5 e).put (keyL_ne (by decide) (by decide) (by decide) (by decide) (by decide)) _, fun e => (h6 e).put (keyL_ne (by decide) (by decide) (by decide) (by decide) (by decide)) _⟩
theorem Part.put3 {D : DataW Unit} {b0 b1 b2 b3 b4 b5 b6 : Bool} (h : Part D b0 b1 b2 b3 b4 b5 b6) : Part (D.put (keyL 16388 4) (partD 1 32 4294967295)) b0 b1 b2 true b4 b5 b6 := by
  obtain ⟨h, ho, h0, h1, h2, h3, h4, h5, h6⟩ := h
  exact ⟨h.put _ _, ho.put3 _, fun e => (h0 e).put (keyL_ne (by decide) (by decide) (by decide) (by decide) (by decide)) _, fun e => (h1 e).put (keyL_ne (by decide) (by decide) (by decide) (by decide) (by decide)) _, fun e => (h2 e).put (keyL_ne (by decide) (by decide) (by decide) (by decide) (by decide)) _, fun _ => has1_new h _ _ _ _ _, fun e => (h4 e).put (keyL_ne (by decide) (by decide) (by decide) (by decide) (by decide)) _, fun e => (h5 e).put (keyL_ne (by decide) (by decide) (by decide) (by decide) (by decide)) _, fun e => (h6 e).put (keyL_ne (by decide) (by decide) (by decide) (by decide) (by decide)) _⟩
theorem Part.put4 {D : DataW Unit} {b0 b1 b2 b3 b4 b5 b6 : Bool} (h : Part D b0 b1 b2 b3 b4 b5 b6) : Part (D.put (keyL 49144 8) (partD 2 0 18446744073709551615)) b0 b1 b2 b3 true b5 b6 := by
  obtain ⟨h, ho, h0, h1, h2, h3, h4, h5, h6⟩ := h
  exact ⟨h.put _ _, ho.put4 _, fun e => (h0 e).put (keyL_ne (by decide) (by decide) (by decide) (by decide) (by decide)) _, fun e => (h1 e).put (keyL_ne (by decide) (by decide) (by decide) (by decide) (by decide)) _, fun e => (h2 e).put (keyL_ne (by decide) (by decide) (by decide) (by decide) (by decide)) _, fun e => (h3 e).put (keyL_ne (by decide) (by decide) (by decide) (by decide) (by decide)) _, fun _ => has1_new h _ _ _ _ _, fun e => (h5 e).put (keyL_ne (by decide) (by decide) (by decide) (by decide) (by decide)) _, fun e => (h6 e).put (keyL_ne (by decide) (by decide) (by decide) (by decide) (by decide)) _⟩
theorem Part.put5 {D : DataW Unit} {b0 b1 b2 b3 b4 b5 b6 : Bool} (h : Part D b0 b1 b2 b3 b4 b5 b6) : Part (D.put (keyL 49144 4) (partD 2 0 4294967295)) b0 b1 b2 b3 b4 true b6 := by
  obtain ⟨h, ho, h0, h1, h2, h3, h4, h5, h6⟩ := h
  exact ⟨h.put _ _, ho.put5 _, fun e => (h0 e).put (keyL_ne (by decide) (by decide) (by decide) (by decide) (by decide)) _, fun e => (h1 e).put (keyL_ne (by decide) (by decide) (by decide) (by decide) (by decide)) _, fun e => (h2 e).put (keyL_ne (by decide) (by decide) (by decide) (by decide) (by decide)) _, fun e => (h3 e).put (keyL_ne (by decide) (by decide) (by decide) (by decide) (by decide)) _, fun e => (h4 e).put (keyL_ne (by decide) (by decide) (by decide) (by decide) (by decide)) _, fun _ => has1_new h _ _ _ _ _, fun e => (h6 e).put (keyL_ne (by decide) (by decide) (by decide) (by decide) (by decide)) _⟩
theorem Part.put6 {D : DataW Unit} {b0 b1 b2 b3 b4 b5 b6 : Bool} (h : Part D b0 b1 b2 b3 b4 b5 b6) : Part (D.put (keyL 49148 4) (partD 2 32 4294967295)) b0 b1 b2 b3 b4 b5 true := by
  obtain ⟨h, ho, h0, h1, h2, h3, h4, h5, h6⟩ := h
  exact ⟨h.put _ _, ho.put6 _, fun e => (h0 e).put (keyL_ne (by decide) (by decide) (by decide) (by decide) (by decide)) _, fun e => (h1 e).put (keyL_ne (by decide) (by decide) (by decide) (by decide) (by decide)) _, fun e => (h2 e).put (keyL_ne (by decide) (by decide) (by decide) (by decide) (by decide)) _, fun e => (h3 e).put (keyL_ne (by decide) (by decide) (by decide) (by decide) (by decide)) _, fun e => (h4 e).put (keyL_ne (by decide) (by decide) (by decide) (by decide) (by decide)) _, fun e => (h5 e).put (keyL_ne (by decide) (by decide) (by decide) (by decide) (by decide)) _, fun _ => has1_new h _ _ _ _ _⟩
/-- The table stands in a block. -/
def Tab (w : World) (m : Nat) : Prop := ∃ D n, w.ownsMap Try.prog 53 partR m n D ∧ Part D true true true true true true true
theorem Tab.look {w : World} {m : Nat} (h : Tab w m) {x : Nat} {p : Int} (hx : x < 18446744073709551616) (hp : (Lit.int .i64 p).wf = true) {a b c : Int} {ok : Bool}
    (hk : ∀ D, Part D true true true true true true true → Maps.has D (keyL x p) = ok ∧ D.atKey (keyL x p) (partD 0 0 0) = partD a b c) :
    (Instr.lookup 50 (.map (some m)) (.agg #[.int .u64 x, .int .i64 p]) true).run Try.prog w = .ok (.tuple #[.agg #[.int .i64 a, .int .i64 b, .int .u64 c], .bool ok]) w := by
  obtain ⟨D, n, h, hP⟩ := h
  obtain ⟨h1, h2⟩ := hk D hP
  obtain ⟨v, ps, hr, hv⟩ := h.look_ok lawSpot Try.underlying50 (zeroPart w) (partR_mk 0 0 0) (keySpot x p (wfU hx) hp)
  rw [h2] at hv
  have := partR_inv hv
  subst this
  rw [h1] at hr
  exact hr
theorem Tab.grown {w w' : World} {m : Nat} {r : Option Nat} (h : Tab w m) (hg : w.grownBy w' r) (hne : some m ≠ r) : Tab w' m := by
  obtain ⟨D, n, h, hP⟩ := h
  exact ⟨D, n, h.kept hg hne, hP⟩
theorem look_1 {w : World} {m : Nat} (h : Tab w m) : (Instr.lookup 50 (.map (some m)) (.agg #[.int .u64 0, .int .i64 4]) true).run Try.prog w = .ok (.tuple #[.agg #[.int .i64 0, .int .i64 0, .int .u64 1], .bool true]) w := h.look (x := 0) (by decide) (by decide) (fun D hP => hP.2.2.1 rfl)
theorem look_2 {w : World} {m : Nat} (h : Tab w m) : (Instr.lookup 50 (.map (some m)) (.agg #[.int .u64 16384, .int .i64 8]) true).run Try.prog w = .ok (.tuple #[.agg #[.int .i64 1, .int .i64 0, .int .u64 18446744073709551615], .bool true]) w := h.look (x := 16384) (by decide) (by decide) (fun D hP => hP.2.2.2.1 rfl)
theorem look_3 {w : World} {m : Nat} (h : Tab w m) : (Instr.lookup 50 (.map (some m)) (.agg #[.int .u64 16384, .int .i64 4]) true).run Try.prog w = .ok (.tuple #[.agg #[.int .i64 1, .int .i64 0, .int .u64 4294967295], .bool true]) w := h.look (x := 16384) (by decide) (by decide) (fun D hP => hP.2.2.2.2.1 rfl)
theorem look_4 {w : World} {m : Nat} (h : Tab w m) : (Instr.lookup 50 (.map (some m)) (.agg #[.int .u64 16388, .int .i64 4]) true).run Try.prog w = .ok (.tuple #[.agg #[.int .i64 1, .int .i64 32, .int .u64 4294967295], .bool true]) w := h.look (x := 16388) (by decide) (by decide) (fun D hP => hP.2.2.2.2.2.1 rfl)
theorem look_5 {w : World} {m : Nat} (h : Tab w m) : (Instr.lookup 50 (.map (some m)) (.agg #[.int .u64 49144, .int .i64 8]) true).run Try.prog w = .ok (.tuple #[.agg #[.int .i64 2, .int .i64 0, .int .u64 18446744073709551615], .bool true]) w := h.look (x := 49144) (by decide) (by decide) (fun D hP => hP.2.2.2.2.2.2.1 rfl)
theorem look_6 {w : World} {m : Nat} (h : Tab w m) : (Instr.lookup 50 (.map (some m)) (.agg #[.int .u64 49144, .int .i64 4]) true).run Try.prog w = .ok (.tuple #[.agg #[.int .i64 2, .int .i64 0, .int .u64 4294967295], .bool true]) w := h.look (x := 49144) (by decide) (by decide) (fun D hP => hP.2.2.2.2.2.2.2.1 rfl)
theorem look_7 {w : World} {m : Nat} (h : Tab w m) : (Instr.lookup 50 (.map (some m)) (.agg #[.int .u64 49148, .int .i64 4]) true).run Try.prog w = .ok (.tuple #[.agg #[.int .i64 2, .int .i64 32, .int .u64 4294967295], .bool true]) w := h.look (x := 49148) (by decide) (by decide) (fun D hP => hP.2.2.2.2.2.2.2.2 rfl)
theorem look_0 {w : World} {m : Nat} (h : Tab w m) {x : Nat} {p : Int} (hx : x < 18446744073709551616) (hp : (Lit.int .i64 p).wf = true) (n0 : ¬ (x = 0 ∧ p = 4)) (n1 : ¬ (x = 16384 ∧ p = 8)) (n2 : ¬ (x = 16384 ∧ p = 4)) (n3 : ¬ (x = 16388 ∧ p = 4)) (n4 : ¬ (x = 49144 ∧ p = 8)) (n5 : ¬ (x = 49144 ∧ p = 4)) (n6 : ¬ (x = 49148 ∧ p = 4)) : (Instr.lookup 50 (.map (some m)) (.agg #[.int .u64 x, .int .i64 p]) true).run Try.prog w = .ok (.tuple #[.agg #[.int .i64 0, .int .i64 0, .int .u64 0], .bool false]) w := h.look hx hp (fun D hP => hP.2.1 (keyL x p) (keyL_ne (wfU hx) hp (by decide) (by decide) n0) (keyL_ne (wfU hx) hp (by decide) (by decide) n1) (keyL_ne (wfU hx) hp (by decide) (by decide) n2) (keyL_ne (wfU hx) hp (by decide) (by decide) n3) (keyL_ne (wfU hx) hp (by decide) (by decide) n4) (keyL_ne (wfU hx) hp (by decide) (by decide) n5) (keyL_ne (wfU hx) hp (by decide) (by decide) n6))
/-- Which operations of the literal have been done: the seven stores at their places, all before them but what follows. -/
def lst (b0 b1 b2 b3 b4 b5 b6 : Bool) : Array Bool := #[true, true, true, b0, true, true, b1, true, true, b2, true, true, b3, true, true, b4, true, true, b5, true, true, b6, false, false]
def cntF (b0 b1 b2 b3 b4 b5 b6 : Bool) : Nat := (!b0).toNat + (!b1).toNat + (!b2).toNat + (!b3).toNat + (!b4).toNat + (!b5).toNat + (!b6).toNat
theorem fill {P : Program} (hP : P = Try.prog) {ops : Array Oper} {Q : Exit → Act → World → Prop} {a : Act} {m : Nat} {W : World} (hmW : W.heap.size ≤ m)
    (hr : ∀ b0 b1 b2 b3 b4 b5 b6, cntF b0 b1 b2 b3 b4 b5 b6 ≠ 0 → Region.ready .any ops (lst b0 b1 b2 b3 b4 b5 b6) = (if b0 then [] else [3]) ++ (if b1 then [] else [6]) ++ (if b2 then [] else [9]) ++ (if b3 then [] else [12]) ++ (if b4 then [] else [15]) ++ (if b5 then [] else [18]) ++ (if b6 then [] else [21]))
    (s0 : ∀ (w : World) (K : Act → World → Prop), (∃ w', (Instr.mapUpdate 50 (.map (some m)) (keyV 0 4) (partV 0 0 1)).run P w = .ok () w' ∧ K a w') → wpOp P ops Q 3 K a w)
    (s1 : ∀ (w : World) (K : Act → World → Prop), (∃ w', (Instr.mapUpdate 50 (.map (some m)) (keyV 16384 8) (partV 1 0 18446744073709551615)).run P w = .ok () w' ∧ K a w') → wpOp P ops Q 6 K a w)
    (s2 : ∀ (w : World) (K : Act → World → Prop), (∃ w', (Instr.mapUpdate 50 (.map (some m)) (keyV 16384 4) (partV 1 0 4294967295)).run P w = .ok () w' ∧ K a w') → wpOp P ops Q 9 K a w)
    (s3 : ∀ (w : World) (K : Act → World → Prop), (∃ w', (Instr.mapUpdate 50 (.map (some m)) (keyV 16388 4) (partV 1 32 4294967295)).run P w = .ok () w' ∧ K a w') → wpOp P ops Q 12 K a w)
    (s4 : ∀ (w : World) (K : Act → World → Prop), (∃ w', (Instr.mapUpdate 50 (.map (some m)) (keyV 49144 8) (partV 2 0 18446744073709551615)).run P w = .ok () w' ∧ K a w') → wpOp P ops Q 15 K a w)
    (s5 : ∀ (w : World) (K : Act → World → Prop), (∃ w', (Instr.mapUpdate 50 (.map (some m)) (keyV 49144 4) (partV 2 0 4294967295)).run P w = .ok () w' ∧ K a w') → wpOp P ops Q 18 K a w)
    (s6 : ∀ (w : World) (K : Act → World → Prop), (∃ w', (Instr.mapUpdate 50 (.map (some m)) (keyV 49148 4) (partV 2 32 4294967295)).run P w = .ok () w' ∧ K a w') → wpOp P ops Q 21 K a w)
    (he : ∀ w, Tab w m → Below W.heap.size W w → wpAny P .any ops Q 2 (lst true true true true true true true) a w) :
    ∀ (n : Nat) (b0 b1 b2 b3 b4 b5 b6 : Bool), cntF b0 b1 b2 b3 b4 b5 b6 = n → ∀ (w : World) (D : DataW Unit) (k : Nat), w.ownsMap P 53 partR m k D → k + n ≤ 7 → Part D b0 b1 b2 b3 b4 b5 b6 → Below W.heap.size W w → wpAny P .any ops Q (n + 2) (lst b0 b1 b2 b3 b4 b5 b6) a w := by
  subst hP
  intro n
  induction n with
  | zero =>
    intro b0 b1 b2 b3 b4 b5 b6 hc w D k ho hk hp hb
    have : b0 = true ∧ b1 = true ∧ b2 = true ∧ b3 = true ∧ b4 = true ∧ b5 = true ∧ b6 = true := by revert hc; unfold cntF; cases b0 <;> cases b1 <;> cases b2 <;> cases b3 <;> cases b4 <;> cases b5 <;> cases b6 <;> simp
    obtain ⟨rfl, rfl, rfl, rfl, rfl, rfl, rfl⟩ := this
    exact he w ⟨D, k, ho, hp⟩ hb
  | succ n ih =>
    intro b0 b1 b2 b3 b4 b5 b6 hc w D k ho hk hp hb
    have hrr := hr b0 b1 b2 b3 b4 b5 b6 (by omega)
    have hne : Region.ready .any ops (lst b0 b1 b2 b3 b4 b5 b6) ≠ [] := by rw [hrr]; intro h; revert hc; simp at h; unfold cntF; simp [h]
    refine wpAny_all rfl hne ?_
    rw [hrr]
    intro i hi
    simp only [List.mem_append] at hi
    rcases hi with ((((((hi | hi) | hi) | hi) | hi) | hi) | hi)
    · cases b0
      · obtain rfl : i = 3 := by simpa using hi
        obtain ⟨w', hrun, ho', hg⟩ := ho.update lawSpot Try.underlying50 (by unfold maxLen; omega) (keySpot 0 4 (by decide) (by decide)) (partR_mk 0 0 1)
        exact s0 w _ ⟨w', hrun, ih true b1 b2 b3 b4 b5 b6 (by revert hc; unfold cntF; simp only [Bool.not_true, Bool.not_false, Bool.toNat_true, Bool.toNat_false]; omega) w' _ (k + 1) ho' (by omega) hp.put0 (hb.grown hg hb.size (fun q hq => by cases hq; exact hmW))⟩
      · simp at hi
    · cases b1
      · obtain rfl : i = 6 := by simpa using hi
        obtain ⟨w', hrun, ho', hg⟩ := ho.update lawSpot Try.underlying50 (by unfold maxLen; omega) (keySpot 16384 8 (by decide) (by decide)) (partR_mk 1 0 18446744073709551615)
        exact s1 w _ ⟨w', hrun, ih b0 true b2 b3 b4 b5 b6 (by revert hc; unfold cntF; simp only [Bool.not_true, Bool.not_false, Bool.toNat_true, Bool.toNat_false]; omega) w' _ (k + 1) ho' (by omega) hp.put1 (hb.grown hg hb.size (fun q hq => by cases hq; exact hmW))⟩
      · simp at hi
    · cases b2
      · obtain rfl : i = 9 := by simpa using hi
        obtain ⟨w', hrun, ho', hg⟩ := ho.update lawSpot Try.underlying50 (by unfold maxLen; omega) (keySpot 16384 4 (by decide) (by decide)) (partR_mk 1 0 4294967295)
        exact s2 w _ ⟨w', hrun, ih b0 b1 true b3 b4 b5 b6 (by revert hc; unfold cntF; simp only [Bool.not_true, Bool.not_false, Bool.toNat_true, Bool.toNat_false]; omega) w' _ (k + 1) ho' (by omega) hp.put2 (hb.grown hg hb.size (fun q hq => by cases hq; exact hmW))⟩
      · simp at hi
    · cases b3
      · obtain rfl : i = 12 := by simpa using hi
        obtain ⟨w', hrun, ho', hg⟩ := ho.update lawSpot Try.underlying50 (by unfold maxLen; omega) (keySpot 16388 4 (by decide) (by decide)) (partR_mk 1 32 4294967295)
        exact s3 w _ ⟨w', hrun, ih b0 b1 b2 true b4 b5 b6 (by revert hc; unfold cntF; simp only [Bool.not_true, Bool.not_false, Bool.toNat_true, Bool.toNat_false]; omega) w' _ (k + 1) ho' (by omega) hp.put3 (hb.grown hg hb.size (fun q hq => by cases hq; exact hmW))⟩
      · simp at hi
    · cases b4
      · obtain rfl : i = 15 := by simpa using hi
        obtain ⟨w', hrun, ho', hg⟩ := ho.update lawSpot Try.underlying50 (by unfold maxLen; omega) (keySpot 49144 8 (by decide) (by decide)) (partR_mk 2 0 18446744073709551615)
        exact s4 w _ ⟨w', hrun, ih b0 b1 b2 b3 true b5 b6 (by revert hc; unfold cntF; simp only [Bool.not_true, Bool.not_false, Bool.toNat_true, Bool.toNat_false]; omega) w' _ (k + 1) ho' (by omega) hp.put4 (hb.grown hg hb.size (fun q hq => by cases hq; exact hmW))⟩
      · simp at hi
    · cases b5
      · obtain rfl : i = 18 := by simpa using hi
        obtain ⟨w', hrun, ho', hg⟩ := ho.update lawSpot Try.underlying50 (by unfold maxLen; omega) (keySpot 49144 4 (by decide) (by decide)) (partR_mk 2 0 4294967295)
        exact s5 w _ ⟨w', hrun, ih b0 b1 b2 b3 b4 true b6 (by revert hc; unfold cntF; simp only [Bool.not_true, Bool.not_false, Bool.toNat_true, Bool.toNat_false]; omega) w' _ (k + 1) ho' (by omega) hp.put5 (hb.grown hg hb.size (fun q hq => by cases hq; exact hmW))⟩
      · simp at hi
    · cases b6
      · obtain rfl : i = 21 := by simpa using hi
        obtain ⟨w', hrun, ho', hg⟩ := ho.update lawSpot Try.underlying50 (by unfold maxLen; omega) (keySpot 49148 4 (by decide) (by decide)) (partR_mk 2 32 4294967295)
        exact s6 w _ ⟨w', hrun, ih b0 b1 b2 b3 b4 b5 true (by revert hc; unfold cntF; simp only [Bool.not_true, Bool.not_false, Bool.toNat_true, Bool.toNat_false]; omega) w' _ (k + 1) ho' (by omega) hp.put6 (hb.grown hg hb.size (fun q hq => by cases hq; exact hmW))⟩
      · simp at hi
end Go.Proofs.Ytilfeanampomjaa
