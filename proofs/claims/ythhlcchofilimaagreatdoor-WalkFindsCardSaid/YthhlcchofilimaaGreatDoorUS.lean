/- Taken from other texts: what is needed of them. -/
import Derived.Test.YthhlcchofilimaaGreatDoorUA
import Derived.Test.YthhlcchofilimaaGreatDoorUB
import Derived.Test.YthhlcchofilimaaGreatDoorUC
import Derived.Test.YthhlcchofilimaaGreatDoorUD
import Derived.Test.YthhlcchofilimaaGreatDoorUG
import Derived.Test.YthhlcchofilimaaGreatDoorUI
import Derived.Test.YthhlcchofilimaaGreatDoorUO
import Derived.Test.YthhlcchofilimaaGreatDoorRows
import Derived.ProofKit
import Derived.OpenShut
import Derived.ChangeSame
import Derived.Deep.Slices
import Derived.Deep.SlicePairs
import Derived.Carry
import Derived.ChangeArms
import Derived.SizedLaws
import Derived.DeepKeys4
namespace Go.Proofs.YthhlcchofilimaaGreatDoor.U
set_option linter.unusedVariables false
set_option linter.unusedSimpArgs false
set_option maxRecDepth 20000
open Go.ChangeShapes Go.WideShapes Go.ChangeAt Go.RowKit
set_option maxRecDepth 20000
/-- What was there is as it was: the arguments read as they did. -/
theorem post_old {H : Type} {enc : TypeId × Value → H} {P : Program} {f : Func} {s : ChangeSpec} {apart fresh handsOn : Bool} {W W' : World} {args : Array Value} {v : Value} {ds gs : List (DataW H)} {before : List MemPlace}
    (hW : DataW.Whole enc P f.params.toList s.vars apart W args.toList ds gs before)
    (hr : ∀ (b : Nat) (sp : Nat → Bool) (hd : Bool), DataW.TrodAll enc P W' b sp hd f.resultTypes.toList (v.resultList f.resultTypes.size) (s.fn H (ds ++ gs)).results [])
    (ha : DataW.TrodAll enc P W' 0 (fun b => decide (b < W.heap.size)) true f.params.toList args.toList (s.fn H (ds ++ gs)).args before)
    (hv : ∀ sp : Nat → Bool, DataW.TrodVars enc P W' sp s.vars (s.fn H (ds ++ gs)).vars [])
    (hb : Below W.heap.size W W') :
    s.post enc P f apart fresh handsOn false W args v W' :=
  ⟨ds, gs, before, [], before, [], hW, hr _ _ _, ha, hv _, hb.frame _, fun h => nomatch h⟩
theorem laidOut : laidOutB Tryz.prog = true := by kernel_rfl
theorem u8_of_wf {a : Int} (h : (Lit.int .u8 a).wf = true) : ∃ n : Nat, a = n ∧ Hid (n < 256) := by
  simp [Lit.wf, IntKind.min, IntKind.max, IntKind.signed, IntKind.bits] at h
  obtain ⟨h0, h1⟩ := h
  exact ⟨a.toNat, by omega, by show _ < _; omega⟩
theorem open_bytes {H : Type} {enc : TypeId × Value → H} {W : World} {v : Value} {d : DataW H} {p : List MemPlace} (hv : ∃ a len cap, v = .slice a len cap) (h : DataW.Trod enc Tryz.prog W 0 (fun _ => true) true 22 v d p) :
    ∃ (a : Option Addr) (b o n cap : Nat) (R : Nat → Nat), v = .slice a n cap ∧ (0 < n → a = some ⟨b, o, none⟩ ∧ b < W.heap.size) ∧ n ≤ cap ∧ (∀ i, i < n → W.cell? ⟨b, o + i, none⟩ = some (.int .u8 (R i : Nat))) ∧ (∀ i, R i < 256) ∧ n ≤ 9223372036854775807 := by
  obtain ⟨a0, len0, cap0, rfl⟩ := hv
  obtain ⟨fuel, hf⟩ := h
  have cu : Tryz.prog.cellsOf 5 = 1 := by kernel_rfl
  rcases Deep.open_slice1 Tryz.underlying22 cu hf with ⟨h0, -⟩ | ⟨a, len, cap, m, n, V, D, Pl, h0, hb, hl, hm, hmm, -, hx⟩
  · simp [Value.cells] at h0
    obtain ⟨rfl, rfl, rfl⟩ := h0
    exact ⟨none, 0, 0, 0, 0, fun _ => 0, rfl, fun h => absurd h (by omega), Nat.le_refl _, fun i hi => absurd hi (by omega), fun _ => by show 0 < 256; decide, by omega⟩
  · simp [Value.cells] at h0
    obtain ⟨rfl, rfl, rfl⟩ := h0
    have hcap : len0 ≤ 9223372036854775807 := by
      have : len0 ≤ maxLen := Nat.le_trans hl hm
      unfold maxLen at this
      omega
    by_cases hz : len0 = 0
    · subst hz
      exact ⟨some a, 0, 0, 0, cap0, fun _ => 0, rfl, fun h => absurd h (by omega), Nat.zero_le _, fun i hi => absurd hi (by omega), fun _ => by show 0 < 256; decide, by omega⟩
    · have hlm : len0 ≤ m := by rw [hmm]; simp; omega
      have each : ∀ i, i < len0 → ∃ r : Nat, W.cell? (a.add i) = some (.int .u8 (r : Nat)) ∧ r < 256 := by
        intro i hi
        obtain ⟨h1, h2⟩ := hx i (by omega)
        obtain ⟨k, e0, -, w0⟩ := DataW.trod_int Tryz.underlying5 h2
        obtain ⟨r, rfl, hr⟩ := u8_of_wf w0
        simp at e0
        rw [e0] at h1
        exact ⟨r, h1, hr.out⟩
      obtain ⟨q, hq⟩ := Deep.choose_lt each
      obtain ⟨ab, ao, asp⟩ := a
      have q0 := (hq 0 (by omega)).1
      have hlt : ab < W.heap.size := block_lt_of_cell q0
      have hs : asp = none := by
        cases asp with
        | none => rfl
        | some s => simp [World.cell?, Addr.add] at q0; split at q0 <;> cases q0
      subst hs
      refine ⟨_, ab, ao, len0, cap0, fun i => if i < len0 then q i else 0, rfl, fun _ => ⟨rfl, hlt⟩, hl, fun i hi => ?_, fun i => ?_, hcap⟩
      · have h1 := (hq i hi).1
        rw [Go.WideShapes.add_plain] at h1
        show W.cell? _ = some (.int .u8 ((if i < len0 then q i else 0 : Nat) : Int))
        rw [if_pos hi]; exact h1
      · show (if i < len0 then q i else 0) < 256
        by_cases c : i < len0
        · rw [if_pos c]; exact (hq i c).2
        · rw [if_neg c]; decide
/-- Of a slice of things of 32 bytes, the j-th argument, there can't be many. -/
theorem few {H : Type} {ts : List TypeId} {ds : List (DataW H)} {d : DataW H} {n j : Nat} {t e : TypeId} (hd : n = 0 ∨ ∃ elems spare, d = .slice elems spare ∧ elems.length = n) (hsz : (DataW.weightsEach Tryz.prog ts ds).all (· ≤ reachBytes) = true) (ht : ts[j]? = some t) (hdj : ds[j]? = some d) (hu : Tryz.prog.underlying t = some (.slice e)) (hb : Tryz.prog.bytesOf e = 32) : n < 4398046511104 := by
  rcases hd with rfl | ⟨elems, spare, rfl, rfl⟩
  · decide
  · have := sized_slice hsz (j := j) (t := t) (e := e) ht hdj hu
    rw [hb] at this
    simp only [reachBytes] at this
    omega
end Go.Proofs.YthhlcchofilimaaGreatDoor.U
