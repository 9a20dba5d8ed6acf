/- The code's Tlb in memory: places, the map of names, the seed. -/
import Derived.Test.YtdplcdgdndeopaaF2
import Derived.Maps.OwnSet
import Derived.DeepKeys4
import Derived.Carry
namespace Go.Proofs.Ytdplcdgdndeopaa
open Go.ChangeShapes Go.WideShapes Go.ChangeAt Go.RowKit Go.Sort Go.Maps Go.WideMaps
set_option linter.unusedVariables false
set_option linter.unusedSimpArgs false
theorem laidOut : laidOutB Try.prog = true := by kernel_rfl
theorem rowName : (68 : TypeId) < Try.prog.types.size := of_decide_eq_true (by kernel_rfl)
theorem wideName : (match Try.prog.underlying 68 with | some (.array _ _) | some (.struct _) => true | _ => false) = true := by kernel_rfl
theorem lawName : Keyed Try.prog 68 := Keyed.of_law (deep_law_laid laidOut (m := 4) (by omega) rowName (by kernel_rfl) wideName)
def keyV (a : Nat) (l : Int) (g : Bool) (s : Nat) : Value := .agg #[.int .u64 a, .int .i64 l, .bool g, .int .u64 s]
def keyL (a : Nat) (l : Int) (g : Bool) (s : Nat) : Lit := .string (keyBytes [.int .u64 a, .int .i64 l, .bool g, .int .u64 s])
theorem wfU {x : Nat} (h : x < 18446744073709551616) : (Lit.int .u64 x).wf = true := by
  simp [Lit.wf, IntKind.min, IntKind.max, IntKind.signed, IntKind.bits]; omega
theorem keyName (a : Nat) (l : Int) (g : Bool) (s : Nat) (h1 : a < 18446744073709551616) (h2 : (Lit.int .i64 l).wf = true) (h3 : s < 18446744073709551616) : keyOf Try.prog 68 (keyV a l g s) = some (keyL a l g s) := by
  have k1 : Try.prog.keyType 68 = true := by kernel_rfl
  have k2 : Try.prog.cellsOf 68 = 4 := by kernel_rfl
  have k3 : Try.prog.cellsOf 22 = 1 := by kernel_rfl
  have k4 : Try.prog.cellsOf 3 = 1 := by kernel_rfl
  have k8 : Try.prog.cellsOf 4 = 1 := by kernel_rfl
  obtain ⟨d, k5⟩ : ∃ d, Try.prog.types.size + 1 = d + 2 := ⟨Try.prog.types.size - 1, by have : 0 < Try.prog.types.size := of_decide_eq_true (by kernel_rfl); omega⟩
  have k6 : Try.prog.keyLits (d + 2) 68 [.int .u64 a, .int .i64 l, .bool g, .int .u64 s] = some [.int .u64 a, .int .i64 l, .bool g, .int .u64 s] := by
    simp [Program.keyLits, Try.underlying68, k2, k3, k4, k8, Try.underlying22, Try.underlying3, Try.underlying4, wfU h1, h2, wfU h3, List.mapM_cons, List.mapM_nil]
  have k7 : Value.formed Try.prog 68 (keyV a l g s) = true := by simp [Value.formed, keyV, Try.underlying68, k2]
  unfold keyOf keyL
  rw [Try.underlying68]
  simp only [k1, k7, k5]
  show (Program.keyLits Try.prog (d + 2) 68 [.int .u64 a, .int .i64 l, .bool g, .int .u64 s]).map (fun ls => Lit.string (keyBytes ls)) = _
  rw [k6]
  rfl
theorem keyL_inj {a a' : Nat} {l l' : Int} {g g' : Bool} {s s' : Nat} (h1 : a < 18446744073709551616) (h2 : (Lit.int .i64 l).wf = true) (h3 : s < 18446744073709551616) (h1' : a' < 18446744073709551616) (h2' : (Lit.int .i64 l').wf = true) (h3' : s' < 18446744073709551616)
    (e : keyL a l g s = keyL a' l' g' s') : a = a' ∧ l = l' ∧ g = g' ∧ s = s' := by
  have k1 := keyName a l g s h1 h2 h3
  have k2 := keyName a' l' g' s' h1' h2' h3'
  rw [← e] at k2
  have := lawName.inj k1 k2
  unfold keyV at this
  simp at this
  obtain ⟨q1, q2, q3, q4⟩ := this
  exact ⟨by omega, q2, q3, by omega⟩
theorem keyIs (a : Nat) (l : Int) (g : Bool) (s : Nat) : WideAt.IsKeyLit (keyL a l g s) := trivial
/-- The space in a name. -/
def spN (x : En) : Nat := if x.gl then 0 else x.sp
def nmL (x : En) : Lit := keyL x.ad x.lv x.gl (spN x)
theorem spN_lt {x : En} (h : x.Wf) : spN x < 18446744073709551616 := by unfold spN; split; decide; exact h.sp
theorem nmL_inj {x y : En} (hx : x.Wf) (hy : y.Wf) : nmL x = nmL y ↔ sameB x y = true := by
  constructor
  · intro e
    obtain ⟨a, b, c, d⟩ := keyL_inj hx.ad hx.lv (spN_lt hx) hy.ad hy.lv (spN_lt hy) e
    unfold sameB
    rw [a, b, c]
    unfold spN at d
    rw [c] at d
    cases hg : y.gl <;> rw [hg] at d <;> simp_all
  · intro h
    unfold sameB at h
    simp only [Bool.and_eq_true, Bool.or_eq_true, beq_iff_eq] at h
    obtain ⟨⟨⟨a, b⟩, c⟩, d⟩ := h
    unfold nmL spN
    rw [a, b, c]
    rcases d with d | d
    · rw [d]; rfl
    · rw [d]
abbrev DU := DataW Unit
def z0 : DU := .lit (.int .i64 0)
def pD (n : Nat) : DU := .lit (.int .i64 (n : Nat))
/-- How many places are taken. -/
def cnt (f : Nat → Bool) : Nat := (f 0).toNat + (f 1).toNat + (f 2).toNat + (f 3).toNat + (f 4).toNat + (f 5).toNat + (f 6).toNat + (f 7).toNat
theorem bt (b : Bool) : b.toNat ≤ 1 := by cases b <;> decide
theorem cnt_le (f : Nat → Bool) : cnt f ≤ 8 := by
  unfold cnt
  have := bt (f 0); have := bt (f 1); have := bt (f 2); have := bt (f 3); have := bt (f 4); have := bt (f 5); have := bt (f 6); have := bt (f 7)
  omega
theorem cases8 {n : Nat} (h : n < 8) : n = 0 ∨ n = 1 ∨ n = 2 ∨ n = 3 ∨ n = 4 ∨ n = 5 ∨ n = 6 ∨ n = 7 := by omega
theorem cnt_on (f : Nat → Bool) (n : Nat) (hn : n < 8) (h : f n = false) : cnt (setF f n true) = cnt f + 1 := by
  unfold cnt setF
  rcases cases8 hn with rfl | rfl | rfl | rfl | rfl | rfl | rfl | rfl <;> simp [h] <;> omega
theorem cnt_off (f : Nat → Bool) (n : Nat) (hn : n < 8) (h : f n = true) : cnt (setF f n false) + 1 = cnt f := by
  unfold cnt setF
  rcases cases8 hn with rfl | rfl | rfl | rfl | rfl | rfl | rfl | rfl <;> simp [h] <;> omega
/-- A place given up. -/
def emS (X : St) (n : Nat) : St := ⟨setF X.e n E0, setF X.is n false, X.sd⟩
/-- A place taken. -/
def layS (X : St) (n : Nat) (x : En) : St := ⟨setF X.e n x, setF X.is n true, X.sd⟩
theorem setF_at {α : Type} (f : Nat → α) (n : Nat) (x : α) : setF f n x n = x := if_pos rfl
theorem setF_ne {α : Type} (f : Nat → α) {n k : Nat} (x : α) (h : k ≠ n) : setF f n x k = f k := if_neg h
theorem setF_same {α : Type} (f : Nat → α) (n : Nat) (x : α) (h : f n = x) : setF f n x = f := by
  funext k; by_cases e : k = n
  · rw [e, setF_at, h]
  · rw [setF_ne _ _ e]
theorem setF_twice {α : Type} (f : Nat → α) (n : Nat) (x y : α) : setF (setF f n x) n y = setF f n y := by
  funext k; by_cases e : k = n
  · rw [e, setF_at, setF_at]
  · rw [setF_ne _ _ e, setF_ne _ _ e, setF_ne _ _ e]
theorem emS_no {X : St} (hX : X.Ok) {n : Nat} (h : X.is n = false) : emS X n = X := by
  unfold emS
  rw [setF_same _ _ _ (hX.no n h), setF_same _ _ _ h]
theorem emS_ok {X : St} (hX : X.Ok) (n : Nat) : (emS X n).Ok := by
  refine ⟨fun k => ?_, fun k hk => ?_, hX.sd⟩
  · show (setF X.e n E0 k).Ok
    by_cases e : k = n
    · rw [e, setF_at]; exact E0_ok
    · rw [setF_ne _ _ e]; exact hX.e k
  · show setF X.e n E0 k = E0
    have hk : setF X.is n false k = false := hk
    by_cases e : k = n
    · rw [e, setF_at]
    · rw [setF_ne _ _ e] at hk ⊢; exact hX.no k hk
/-- The map reads as the places say. -/
structure MapOk (X : St) (D : DU) : Prop where
  tidy : Maps.Tidy D
  has : ∀ n, n < 8 → X.is n = true → Maps.has D (nmL (X.e n)) = true ∧ D.atKey (nmL (X.e n)) z0 = pD n
  only : ∀ kl, Maps.has D kl = true → ∃ n, n < 8 ∧ X.is n = true ∧ kl = nmL (X.e n)
  size : Maps.size D = cnt X.is
theorem pD_inj {m n : Nat} (h : pD m = pD n) : m = n := by
  unfold pD at h
  injection h with h; injection h with _ h; omega
theorem MapOk.one {X : St} {D : DU} (h : MapOk X D) {m n : Nat} (hm : m < 8) (hn : n < 8) (im : X.is m = true) (i_n : X.is n = true) (e : nmL (X.e m) = nmL (X.e n)) : m = n := by
  have h1 := (h.has m hm im).2
  have h2 := (h.has n hn i_n).2
  rw [e] at h1
  exact pD_inj (h1.symm.trans h2)
theorem MapOk.new (sd : Nat) : MapOk (S0 sd) (.map []) := ⟨Maps.tidy_empty, (fun n _ h => nomatch h), (fun kl h => nomatch h), rfl⟩
theorem MapOk.empty {X : St} {D : DU} (h : MapOk X D) {p : Nat} (hp : p < 8) (ip : X.is p = true) : MapOk (emS X p) (D.del (nmL (X.e p))) := by
  refine ⟨h.tidy.del _, fun n hn hi => ?_, fun kl hk => ?_, ?_⟩
  · have hi : setF X.is p false n = true := hi
    show _ = true ∧ _ = _
    by_cases e : n = p
    · rw [e, setF_at] at hi; cases hi
    · rw [setF_ne _ _ e] at hi
      have hne : nmL (X.e n) ≠ nmL (X.e p) := fun q => e (h.one hn hp hi ip q)
      show Maps.has _ (nmL (setF X.e p E0 n)) = true ∧ DataW.atKey _ (nmL (setF X.e p E0 n)) z0 = _
      rw [setF_ne _ _ e, Maps.has_del_other hne, Maps.atKey_del_other hne]
      exact h.has n hn hi
  · have hne : kl ≠ nmL (X.e p) := fun q => by rw [q, Maps.has_del_same] at hk; cases hk
    rw [Maps.has_del_other hne] at hk
    obtain ⟨n, hn, hi, rfl⟩ := h.only kl hk
    have e : n ≠ p := fun q => hne (by rw [q])
    exact ⟨n, hn, by show setF X.is p false n = true; rw [setF_ne _ _ e]; exact hi, by show _ = nmL (setF X.e p E0 n); rw [setF_ne _ _ e]⟩
  · have h1 := Maps.size_del (k := nmL (X.e p)) h.tidy
    rw [(h.has p hp ip).1, if_pos rfl, h.size] at h1
    have h2 := cnt_off X.is p hp ip
    show _ = cnt (setF X.is p false)
    omega
theorem MapOk.lay {X : St} {D : DU} (h : MapOk X D) {p : Nat} (hp : p < 8) (ip : X.is p = false) (x : En) (hx : ∀ n, n < 8 → X.is n = true → nmL (X.e n) ≠ nmL x) : MapOk (layS X p x) (D.put (nmL x) (pD p)) := by
  have hno : Maps.has D (nmL x) = false := by
    cases hh : Maps.has D (nmL x) with
    | false => rfl
    | true =>
      obtain ⟨n, hn, hi, e⟩ := h.only _ hh
      exact absurd e.symm (hx n hn hi)
  refine ⟨h.tidy.put (keyIs _ _ _ _) _, fun n hn hi => ?_, fun kl hk => ?_, ?_⟩
  · have hi : setF X.is p true n = true := hi
    show Maps.has _ (nmL (setF X.e p x n)) = true ∧ DataW.atKey _ (nmL (setF X.e p x n)) z0 = _
    by_cases e : n = p
    · rw [e, setF_at]
      exact ⟨Maps.has_put_same h.tidy.isMap (keyIs _ _ _ _) _, Maps.atKey_put_same h.tidy.isMap (keyIs _ _ _ _) _ _⟩
    · rw [setF_ne _ _ e] at hi
      rw [setF_ne _ _ e, Maps.has_put_other (hx n hn hi), Maps.atKey_put_other (hx n hn hi)]
      exact h.has n hn hi
  · by_cases e : kl = nmL x
    · exact ⟨p, hp, by show setF X.is p true p = true; rw [setF_at], by show _ = nmL (setF X.e p x p); rw [setF_at, e]⟩
    · rw [Maps.has_put_other e] at hk
      obtain ⟨n, hn, hi, rfl⟩ := h.only kl hk
      have e2 : n ≠ p := fun q => by rw [q, ip] at hi; cases hi
      exact ⟨n, hn, by show setF X.is p true n = true; rw [setF_ne _ _ e2]; exact hi, by show _ = nmL (setF X.e p x n); rw [setF_ne _ _ e2]⟩
  · rw [Maps.size_put h.tidy, hno, h.size]
    show cnt X.is + 1 = cnt (setF X.is p true)
    rw [cnt_on X.is p hp ip]
/-- Where a name stands. -/
def whN (X : St) (a : Nat) (l : Int) (g : Bool) (s : Nat) : Option Nat := fst (fun n => X.is n && sameB (X.e n) ⟨a, l, s, g, 0⟩) 0 8
theorem MapOk.look {X : St} {D : DU} (h : MapOk X D) (hX : X.Ok) (x : En) (hx : x.Wf) : Maps.has D (nmL x) = (fst (fun n => X.is n && sameB (X.e n) x) 0 8).isSome ∧ D.atKey (nmL x) z0 = pD ((fst (fun n => X.is n && sameB (X.e n) x) 0 8).getD 0) := by
  cases hf : fst (fun n => X.is n && sameB (X.e n) x) 0 8 with
  | some n =>
    obtain ⟨_, h1, h2, _⟩ := fst_some hf
    simp only [Bool.and_eq_true] at h2
    rw [← (nmL_inj (hX.e n).wf hx).2 h2.2]
    exact h.has n (by omega) h2.1
  | none =>
    have hno : Maps.has D (nmL x) = false := by
      cases hh : Maps.has D (nmL x) with
      | false => rfl
      | true =>
        obtain ⟨n, hn, hi, e⟩ := h.only _ hh
        have := fst_none hf n (Nat.zero_le _) (by omega)
        simp only [hi, Bool.true_and, (nmL_inj (hX.e n).wf hx).1 e.symm] at this
        cases this
    exact ⟨hno, Maps.atKey_of_not_has hno _⟩
/-- One place's cells. -/
def plV (X : St) (n : Nat) : Array Value := #[.bool (X.is n), .int .u64 ((X.e n).ad : Nat), .int .i64 (X.e n).lv, .int .u64 ((X.e n).sp : Nat), .bool (X.e n).gl, .int .u64 ((X.e n).lf : Nat)]
def psC (X : St) : Array Value := #[.bool (X.is 0), .int .u64 ((X.e 0).ad : Nat), .int .i64 (X.e 0).lv, .int .u64 ((X.e 0).sp : Nat), .bool (X.e 0).gl, .int .u64 ((X.e 0).lf : Nat), .bool (X.is 1), .int .u64 ((X.e 1).ad : Nat), .int .i64 (X.e 1).lv, .int .u64 ((X.e 1).sp : Nat), .bool (X.e 1).gl, .int .u64 ((X.e 1).lf : Nat), .bool (X.is 2), .int .u64 ((X.e 2).ad : Nat), .int .i64 (X.e 2).lv, .int .u64 ((X.e 2).sp : Nat), .bool (X.e 2).gl, .int .u64 ((X.e 2).lf : Nat), .bool (X.is 3), .int .u64 ((X.e 3).ad : Nat), .int .i64 (X.e 3).lv, .int .u64 ((X.e 3).sp : Nat), .bool (X.e 3).gl, .int .u64 ((X.e 3).lf : Nat), .bool (X.is 4), .int .u64 ((X.e 4).ad : Nat), .int .i64 (X.e 4).lv, .int .u64 ((X.e 4).sp : Nat), .bool (X.e 4).gl, .int .u64 ((X.e 4).lf : Nat), .bool (X.is 5), .int .u64 ((X.e 5).ad : Nat), .int .i64 (X.e 5).lv, .int .u64 ((X.e 5).sp : Nat), .bool (X.e 5).gl, .int .u64 ((X.e 5).lf : Nat), .bool (X.is 6), .int .u64 ((X.e 6).ad : Nat), .int .i64 (X.e 6).lv, .int .u64 ((X.e 6).sp : Nat), .bool (X.e 6).gl, .int .u64 ((X.e 6).lf : Nat), .bool (X.is 7), .int .u64 ((X.e 7).ad : Nat), .int .i64 (X.e 7).lv, .int .u64 ((X.e 7).sp : Nat), .bool (X.e 7).gl, .int .u64 ((X.e 7).lf : Nat)]
def tC (X : St) (m : Nat) : Array Value := #[.bool (X.is 0), .int .u64 ((X.e 0).ad : Nat), .int .i64 (X.e 0).lv, .int .u64 ((X.e 0).sp : Nat), .bool (X.e 0).gl, .int .u64 ((X.e 0).lf : Nat), .bool (X.is 1), .int .u64 ((X.e 1).ad : Nat), .int .i64 (X.e 1).lv, .int .u64 ((X.e 1).sp : Nat), .bool (X.e 1).gl, .int .u64 ((X.e 1).lf : Nat), .bool (X.is 2), .int .u64 ((X.e 2).ad : Nat), .int .i64 (X.e 2).lv, .int .u64 ((X.e 2).sp : Nat), .bool (X.e 2).gl, .int .u64 ((X.e 2).lf : Nat), .bool (X.is 3), .int .u64 ((X.e 3).ad : Nat), .int .i64 (X.e 3).lv, .int .u64 ((X.e 3).sp : Nat), .bool (X.e 3).gl, .int .u64 ((X.e 3).lf : Nat), .bool (X.is 4), .int .u64 ((X.e 4).ad : Nat), .int .i64 (X.e 4).lv, .int .u64 ((X.e 4).sp : Nat), .bool (X.e 4).gl, .int .u64 ((X.e 4).lf : Nat), .bool (X.is 5), .int .u64 ((X.e 5).ad : Nat), .int .i64 (X.e 5).lv, .int .u64 ((X.e 5).sp : Nat), .bool (X.e 5).gl, .int .u64 ((X.e 5).lf : Nat), .bool (X.is 6), .int .u64 ((X.e 6).ad : Nat), .int .i64 (X.e 6).lv, .int .u64 ((X.e 6).sp : Nat), .bool (X.e 6).gl, .int .u64 ((X.e 6).lf : Nat), .bool (X.is 7), .int .u64 ((X.e 7).ad : Nat), .int .i64 (X.e 7).lv, .int .u64 ((X.e 7).sp : Nat), .bool (X.e 7).gl, .int .u64 ((X.e 7).lf : Nat), .map (some m), .int .u64 (X.sd : Nat)]
theorem psC_size (X : St) : (psC X).size = 48 := rfl
theorem tC_size (X : St) (m : Nat) : (tC X m).size = 50 := rfl
theorem plV_size (X : St) (n : Nat) : (plV X n).size = 6 := rfl
theorem info_p (X : St) (n : Nat) : (Try.prog.info? 56).map (·.size) = some (plV X n).size := by rw [plV_size]; kernel_rfl
theorem info_ps (X : St) : (Try.prog.info? 57).map (·.size) = some (psC X).size := by rw [psC_size]; kernel_rfl
theorem info_t (X : St) (m : Nat) : (Try.prog.info? 59).map (·.size) = some (tC X m).size := by rw [tC_size]; kernel_rfl
theorem tC_at (X : St) (m n j : Nat) (hn : n < 8) (hj : j < 6) : (tC X m)[n * 6 + j]? = (plV X n)[j]? := by
  have h6 : j = 0 ∨ j = 1 ∨ j = 2 ∨ j = 3 ∨ j = 4 ∨ j = 5 := by omega
  rcases cases8 hn with rfl | rfl | rfl | rfl | rfl | rfl | rfl | rfl <;> rcases h6 with rfl | rfl | rfl | rfl | rfl | rfl <;> rfl
theorem tC_ps (X : St) (m j : Nat) (hj : j < 48) : (tC X m)[j]? = (psC X)[j]? := by
  have h1 := tC_at X m (j / 6) (j % 6) (by omega) (by omega)
  rw [show j / 6 * 6 + j % 6 = j by omega] at h1
  rw [h1]
  have hn : j / 6 < 8 := by omega
  have h6 : j % 6 = 0 ∨ j % 6 = 1 ∨ j % 6 = 2 ∨ j % 6 = 3 ∨ j % 6 = 4 ∨ j % 6 = 5 := by omega
  have e : (psC X)[j]? = (psC X)[j / 6 * 6 + j % 6]? := by rw [show j / 6 * 6 + j % 6 = j by omega]
  rw [e]
  generalize j % 6 = r at h6
  rcases cases8 hn with h | h | h | h | h | h | h | h <;> rw [h] <;> rcases h6 with rfl | rfl | rfl | rfl | rfl | rfl <;> rfl
theorem ps_ix (X : St) (n : Nat) (hn : n < 8) (w : World) : (Instr.index 57 (.agg (psC X)) (.int .i64 n)).run Try.prog w = .ok (.agg (plV X n)) w := by
  rcases cases8 hn with rfl | rfl | rfl | rfl | rfl | rfl | rfl | rfl <;> rfl
theorem tC_new (X : St) (m n : Nat) (hn : n < 8) (x : En) (b : Bool) : ((tC X m).toList.take (n * 6) ++ (plV ⟨fun _ => x, fun _ => b, 0⟩ 0).toList ++ (tC X m).toList.drop (n * 6 + (plV ⟨fun _ => x, fun _ => b, 0⟩ 0).size)).toArray = tC ⟨setF X.e n x, setF X.is n b, X.sd⟩ m := by
  rcases cases8 hn with rfl | rfl | rfl | rfl | rfl | rfl | rfl | rfl <;> rfl
theorem tC_seed (X : St) (m s : Nat) : (tC X m).setIfInBounds 49 (.int .u64 (s : Nat)) = tC ⟨X.e, X.is, s⟩ m := rfl
theorem tC_map (X : St) (m m' : Nat) : (tC X m).setIfInBounds 48 (.map (some m')) = tC X m' := rfl
/-- A Tlb of the code: its places as X says, its map as Y. -/
structure Tb (b m : Nat) (X Y : St) (w : World) : Prop where
  bm : b ≠ m
  lb : b < w.heap.size
  row : Row w b 59 (tC X m)
  map : ∃ D n, n ≤ cnt Y.is ∧ w.ownsMap Try.prog 68 (plainElem Try.prog 3) m n D ∧ MapOk Y D
theorem Tb.lm {b m : Nat} {X Y : St} {w : World} (h : Tb b m X Y w) : m < w.heap.size := by
  obtain ⟨D, n, _, h, _⟩ := h.map; exact h.lt
theorem own_map {S : Nat → Prop} {P : Program} {k : TypeId} {R : Value → Option (DU × List MemPlace)} {w w' : World} {m n : Nat} {D : DU} (h : w.ownsMap P k R m n D) (ho : Own S w w') (hm : ¬ S m) : w'.ownsMap P k R m n D := by
  have hl := h.lt
  obtain ⟨es, clock, hb, F, hs, hD⟩ := h
  exact ⟨es, clock, (ho.block m hl hm).trans hb, F, hs, hD⟩
theorem Tb.kept {b m : Nat} {X Y : St} {S : Nat → Prop} {w w' : World} (h : Tb b m X Y w) (ho : Own S w w') (h1 : ¬ S b) (h2 : ¬ S m) : Tb b m X Y w' := by
  obtain ⟨D, n, hn, hm, hD⟩ := h.map
  exact ⟨h.bm, Nat.lt_of_lt_of_le h.lb ho.size, ho.row h.row h.lb h1, D, n, hn, own_map hm ho h2, hD⟩
theorem Tb.below {b m : Nat} {X Y : St} {w w' : World} (h : Tb b m X Y w) (hb : Below w.heap.size w w') : Tb b m X Y w' := h.kept (Own.below hb (S := fun _ => False)) id id
/-- Entries stand where pages begin. -/
def Al (X : St) : Prop := ∀ n, (X.e n).ad % szN (X.e n).lv = 0
def eT (b : Nat) (X : St) : Th where
  P S w := ∃ m, Tb b m X X w ∧ Al X ∧ ∀ k, S k ↔ k = b ∨ k = m
  kept := fun ⟨m, h, ha, hS⟩ ho hd => ⟨m, h.kept ho (hd _ ((hS _).2 (.inl rfl))) (hd _ ((hS _).2 (.inr rfl))), ha, hS⟩
  lt := fun ⟨m, h, ha, hS⟩ i q => by
    rcases (hS i).1 q with e | e
    · rw [e]; exact h.lb
    · rw [e]; exact h.lm
/-- What a look-up finds. -/
theorem Tb.look {b m : Nat} {X Y : St} {w : World} (h : Tb b m X Y w) (hY : Y.Ok) (x : En) (hx : x.Wf) :
    (Instr.lookup 54 (.map (some m)) (keyV x.ad x.lv x.gl (spN x)) true).run Try.prog w = .ok (.tuple #[.int .i64 ((fst (fun n => Y.is n && sameB (Y.e n) x) 0 8).getD 0 : Nat), .bool (fst (fun n => Y.is n && sameB (Y.e n) x) 0 8).isSome]) w := by
  obtain ⟨D, n, hn, hm, hD⟩ := h.map
  obtain ⟨h1, h2⟩ := hD.look hY x hx
  obtain ⟨v, ps, hr, hv⟩ := hm.look_ok lawName Try.underlying54 (by kernel_rfl) (z := .int .i64 0) (zd := z0) (zp := []) (plainElem_int Try.underlying3 (by decide)) (keyName x.ad x.lv x.gl (spN x) hx.ad hx.lv (spN_lt hx))
  rw [show keyL x.ad x.lv x.gl (spN x) = nmL x from rfl] at hr hv
  rw [h1] at hr
  rw [h2] at hv
  obtain ⟨c, rfl, e, _⟩ := plainElem_int_inv Try.underlying3 hv
  have e := congrArg Prod.fst e
  unfold pD at e
  injection e with e; injection e with _ e
  rw [e]; exact hr
end Go.Proofs.Ytdplcdgdndeopaa
