/- Entries and what is kept of them, plainly. -/
import Derived.Test.YtdplcdgdndeopaaA
namespace Go.Proofs.Ytdplcdgdndeopaa
open Go.ChangeShapes Go.WideShapes Go.ChangeAt Go.RowKit Go.Sort
set_option linter.unusedVariables false
set_option linter.unusedSimpArgs false

/-- An entry. -/
structure En where
  ad : Nat
  lv : Int
  sp : Nat
  gl : Bool
  lf : Nat
def En.v (x : En) : Array Value := #[.int .u64 (x.ad : Nat), .int .i64 x.lv, .int .u64 (x.sp : Nat), .bool x.gl, .int .u64 (x.lf : Nat)]
def E0 : En := ⟨0, 0, 0, false, 0⟩
/-- Any one that a call may be handed. -/
structure En.Wf (x : En) : Prop where
  ad : x.ad < 18446744073709551616
  lv : (Lit.int .i64 x.lv).wf = true
  sp : x.sp < 18446744073709551616
  lf : x.lf < 18446744073709551616
/-- One that may be kept. -/
structure En.Ok (x : En) : Prop where
  wf : x.Wf
  lv : x.lv = 0 ∨ x.lv = 1 ∨ x.lv = 2
/-- What is kept: entries by places, which are taken, the seed. -/
structure St where
  e : Nat → En
  is : Nat → Bool
  sd : Nat
structure St.Ok (X : St) : Prop where
  e : ∀ n, (X.e n).Ok
  no : ∀ n, X.is n = false → X.e n = E0
  sd : X.sd < 18446744073709551616
def S0 (sd : Nat) : St := ⟨fun _ => E0, fun _ => false, sd⟩
theorem E0_ok : E0.Ok := ⟨⟨by decide, by decide, by decide, by decide⟩, .inl rfl⟩
theorem S0_ok (sd : Nat) (h : sd < 18446744073709551616) : (S0 sd).Ok := ⟨fun _ => E0_ok, fun _ _ => rfl, h⟩
/-- A page's size. -/
def szN (l : Int) : Nat := if l = 1 then 2097152 else if l = 2 then 1073741824 else 4096
def hasB (x : En) (a : Nat) : Bool := x.ad / szN x.lv == a / szN x.lv
def meantB (x : En) (s : Nat) : Bool := x.gl || x.sp == s
def sameB (x y : En) : Bool := x.ad == y.ad && x.lv == y.lv && x.gl == y.gl && (y.gl || x.sp == y.sp)
/-- The first of some places. -/
def fst (p : Nat → Bool) : Nat → Nat → Option Nat
  | _, 0 => none
  | k, n + 1 => bif p k then some k else fst p (k + 1) n
def findP (X : St) (s a n : Nat) : Bool := X.is n && hasB (X.e n) a && meantB (X.e n) s
def findN (X : St) (s a : Nat) : Option Nat := fst (findP X s a) 0 8
def findE (X : St) (s a : Nat) : En := match findN X s a with | some n => X.e n | none => E0
def findB (X : St) (s a : Nat) : Bool := (findN X s a).isSome
def sdN (s : Nat) : Nat := (6364136223846793005 * s + 1442695040888963407) % 18446744073709551616
/-- The place that an entry gets, and the seed behind it. -/
def placeN (X : St) (x : En) : Nat × Nat :=
  match fst (fun n => X.is n && sameB (X.e n) x) 0 8 with
  | some n => (n, X.sd)
  | none => match fst (fun n => !X.is n) 0 8 with
    | some n => (n, X.sd)
    | none => (sdN X.sd / 2305843009213693952, sdN X.sd)
def okP (x : En) : Bool := !(decide (x.lv < 0) || decide (2 < x.lv) || decide (65535 < x.sp) || !(x.ad % szN x.lv == 0))
def setF {α : Type} (f : Nat → α) (n : Nat) (x : α) : Nat → α := fun k => if k = n then x else f k
def putS (X : St) (x : En) : St := if okP x = true then ⟨setF X.e (placeN X x).1 x, setF X.is (placeN X x).1 true, (placeN X x).2⟩ else X
def goesB (x : En) (bA : Bool) (a : Nat) (bS : Bool) (s : Nat) : Bool := (!bA || hasB x a) && (!bS || !x.gl && x.sp == s)
def fenceS (X : St) (bA : Bool) (a : Nat) (bS : Bool) (s : Nat) : St :=
  ⟨fun n => if goesB (X.e n) bA a bS s = true then E0 else X.e n, fun n => if goesB (X.e n) bA a bS s = true then false else X.is n, X.sd⟩
def allS (X : St) : List En := ((List.range 8).filter X.is).map X.e
/-- The cells of the places. -/
def enC (e : Nat → En) : Array Value := Array.ofFn (n := 40) fun k => ((e (k.val / 5)).v).getD (k.val % 5) undef
def isC (f : Nat → Bool) : Array Value := Array.ofFn (n := 8) fun k => .bool (f k.val)
theorem enC_get (e : Nat → En) (n j : Nat) (hn : n < 8) (hj : j < 5) : (enC e)[5 * n + j]? = (e n).v[j]? := by
  unfold enC
  rw [Array.getElem?_ofFn, dif_pos (by omega)]
  have h1 : (5 * n + j) / 5 = n := by omega
  have h2 : (5 * n + j) % 5 = j := by omega
  simp only [h1, h2]
  have : j < (e n).v.size := by show j < 5; exact hj
  rw [Array.getElem?_eq_getElem this, Array.getD_eq_getD_getElem?, Array.getElem?_eq_getElem this]; rfl
theorem isC_get (f : Nat → Bool) (n : Nat) (hn : n < 8) : (isC f)[n]? = some (.bool (f n)) := by
  unfold isC
  rw [Array.getElem?_ofFn, dif_pos hn]
theorem enC_size (e : Nat → En) : (enC e).size = 40 := by simp [enC]
theorem isC_size (f : Nat → Bool) : (isC f).size = 8 := by simp [isC]
theorem isC_set (f : Nat → Bool) (n : Nat) (b : Bool) (hn : n < 8) : (isC f).setIfInBounds n (.bool b) = isC (setF f n b) := by
  apply Array.ext
  · simp [isC]
  · intro i h1 h2
    have hi : i < 8 := by rw [isC_size] at h2; exact h2
    have q1 := isC_get (setF f n b) i hi
    have q2 := isC_get f i hi
    rw [Array.getElem?_eq_getElem h2] at q1
    have h3 : i < (isC f).size := by rw [isC_size]; exact hi
    rw [Array.getElem?_eq_getElem h3] at q2
    rw [Option.some.inj q1, Array.getElem_setIfInBounds h3]
    unfold setF
    by_cases e : n = i
    · rw [if_pos e, if_pos e.symm]
    · rw [if_neg e, if_neg (Ne.symm e), Option.some.inj q2]
/-- Five cells of one place laid. -/
theorem enC_set (e : Nat → En) (n : Nat) (x : En) (hn : n < 8) :
    (((((enC e).setIfInBounds (5 * n) (.int .u64 (x.ad : Nat))).setIfInBounds (5 * n + 1) (.int .i64 x.lv)).setIfInBounds (5 * n + 2) (.int .u64 (x.sp : Nat))).setIfInBounds (5 * n + 3) (.bool x.gl)).setIfInBounds (5 * n + 4) (.int .u64 (x.lf : Nat)) = enC (setF e n x) := by
  apply Array.ext_getElem?
  intro i
  by_cases hi : i < 40
  · have q1 := enC_get (setF e n x) (i / 5) (i % 5) (by omega) (by omega)
    have q2 := enC_get e (i / 5) (i % 5) (by omega) (by omega)
    rw [show 5 * (i / 5) + i % 5 = i by omega] at q1 q2
    rw [q1]
    simp only [Array.getElem?_setIfInBounds, Array.size_setIfInBounds, enC_size, q2]
    by_cases e5 : i / 5 = n
    · rw [show setF e n x (i / 5) = x by unfold setF; rw [if_pos e5]]
      have hc : i % 5 = 0 ∨ i % 5 = 1 ∨ i % 5 = 2 ∨ i % 5 = 3 ∨ i % 5 = 4 := by omega
      rcases hc with c | c | c | c | c
      · rw [if_neg (by omega), if_neg (by omega), if_neg (by omega), if_neg (by omega), if_pos (by omega), if_pos (by omega), c]; rfl
      · rw [if_neg (by omega), if_neg (by omega), if_neg (by omega), if_pos (by omega), if_pos (by omega), c]; rfl
      · rw [if_neg (by omega), if_neg (by omega), if_pos (by omega), if_pos (by omega), c]; rfl
      · rw [if_neg (by omega), if_pos (by omega), if_pos (by omega), c]; rfl
      · rw [if_pos (by omega), if_pos (by omega), c]; rfl
    · rw [if_neg (by omega), if_neg (by omega), if_neg (by omega), if_neg (by omega), if_neg (by omega), show setF e n x (i / 5) = e (i / 5) by unfold setF; rw [if_neg e5]]
  · rw [Array.getElem?_eq_none (by simp [enC_size]; omega), Array.getElem?_eq_none (by rw [enC_size]; omega)]
theorem fst_some {p : Nat → Bool} : ∀ {n k m : Nat}, fst p k n = some m → k ≤ m ∧ m < k + n ∧ p m = true ∧ ∀ i, k ≤ i → i < m → p i = false
  | 0, k, m, h => by cases h
  | n + 1, k, m, h => by
    unfold fst at h
    cases hp : p k with
    | true =>
      rw [hp] at h
      obtain rfl : k = m := Option.some.inj h
      exact ⟨Nat.le_refl _, by omega, hp, fun i a b => by omega⟩
    | false =>
      rw [hp] at h
      obtain ⟨a, b, c, d⟩ := fst_some (n := n) (k := k + 1) (m := m) h
      exact ⟨by omega, by omega, c, fun i q1 q2 => by
        by_cases e : i = k
        · subst e; exact hp
        · exact d i (by omega) q2⟩
theorem fst_none {p : Nat → Bool} : ∀ {n k : Nat}, fst p k n = none → ∀ i, k ≤ i → i < k + n → p i = false
  | 0, k, h, i, a, b => by omega
  | n + 1, k, h, i, a, b => by
    unfold fst at h
    cases hp : p k with
    | true => rw [hp] at h; cases h
    | false =>
      rw [hp] at h
      by_cases e : i = k
      · subst e; exact hp
      · exact fst_none (n := n) (k := k + 1) h i (by omega) (by omega)
theorem fst_eq {p : Nat → Bool} : ∀ {n k m : Nat}, k ≤ m → m < k + n → p m = true → (∀ i, k ≤ i → i < m → p i = false) → fst p k n = some m
  | 0, k, m, a, b, _, _ => by omega
  | n + 1, k, m, a, b, c, d => by
    unfold fst
    by_cases e : k = m
    · subst e; rw [c]; rfl
    · rw [d k (Nat.le_refl _) (by omega)]
      exact fst_eq (n := n) (k := k + 1) (by omega) (by omega) c (fun i q1 q2 => d i (by omega) q2)
theorem fst_no {p : Nat → Bool} : ∀ {n k : Nat}, (∀ i, k ≤ i → i < k + n → p i = false) → fst p k n = none
  | 0, k, _ => rfl
  | n + 1, k, d => by
    unfold fst
    rw [d k (Nat.le_refl _) (by omega)]
    exact fst_no (n := n) (k := k + 1) (fun i q1 q2 => d i (by omega) (by omega))
theorem place_lt (X : St) (hX : X.Ok) (x : En) : (placeN X x).1 < 8 ∧ (placeN X x).2 < 18446744073709551616 := by
  unfold placeN
  have hs : sdN X.sd < 18446744073709551616 := Nat.mod_lt _ (by decide)
  split
  · next n h => exact ⟨by have := (fst_some h).2.1; omega, hX.sd⟩
  · split
    · next n h => exact ⟨by have := (fst_some h).2.1; omega, hX.sd⟩
    · exact ⟨by show sdN X.sd / 2305843009213693952 < 8; omega, hs⟩
theorem okP_ok {x : En} (h : okP x = true) (hw : x.Wf) : x.Ok := ⟨hw, by
  unfold okP at h
  simp only [Bool.not_eq_true', Bool.or_eq_false_iff, decide_eq_false_iff_not] at h
  omega⟩
theorem putS_ok (X : St) (hX : X.Ok) (x : En) (hw : x.Wf) : (putS X x).Ok := by
  unfold putS
  split
  · next h =>
    refine ⟨fun n => ?_, fun n hn => ?_, (place_lt X hX x).2⟩
    · show (setF X.e _ x n).Ok
      unfold setF; split
      · exact okP_ok h hw
      · exact hX.e n
    · show setF X.e _ x n = E0
      have hn : setF X.is (placeN X x).1 true n = false := hn
      unfold setF at hn ⊢
      split
      · next e => rw [if_pos e] at hn; cases hn
      · next e => rw [if_neg e] at hn; exact hX.no n hn
  · exact hX
theorem fenceS_ok (X : St) (hX : X.Ok) (bA : Bool) (a : Nat) (bS : Bool) (s : Nat) : (fenceS X bA a bS s).Ok := by
  refine ⟨fun n => ?_, fun n hn => ?_, hX.sd⟩
  · show (if goesB (X.e n) bA a bS s = true then E0 else X.e n).Ok
    split
    · exact E0_ok
    · exact hX.e n
  · show (if goesB (X.e n) bA a bS s = true then E0 else X.e n) = E0
    have hn : (if goesB (X.e n) bA a bS s = true then false else X.is n) = false := hn
    split
    · rfl
    · next e => rw [if_neg e] at hn; exact hX.no n hn
end Go.Proofs.Ytdplcdgdndeopaa
