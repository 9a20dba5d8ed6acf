/- What a range over the pages hands out. -/
import Derived.Test.YtibgdlianedcbaaM2
import Derived.Maps.RangeWalk
import Derived.ChangeKeysEq
namespace Go.Proofs.Ytibgdlianedcbaa
open Go.Maps Go.WideMaps Go.ChangeShapes Go.WideShapes Go.ChangeAt Go.RowKit
set_option linter.unusedVariables false
set_option linter.unusedSimpArgs false
theorem keyOf_u64 {v : Value} {d : Nat} {ls : List Lit} (h : Try.prog.keyLits (d + 1) 30 [v] = some ls) : ∃ s : Nat, s < 18446744073709551616 ∧ v = .int .u64 s ∧ ls = [.int .u64 s] := by
  unfold Program.keyLits at h
  rw [Try.underlying30] at h
  cases v <;> simp at h
  obtain ⟨⟨rfl, hw⟩, rfl⟩ := h
  rename_i n
  simp [Lit.wf, IntKind.min, IntKind.max, IntKind.signed, IntKind.bits] at hw
  obtain ⟨h0, h1⟩ := hw
  exact ⟨n.toNat, by omega, by rw [Int.toNat_of_nonneg h0], by rw [Int.toNat_of_nonneg h0]⟩
theorem keySpot_inv {key : Value} {kl : Lit} (h : keyOf Try.prog 58 key = some kl) : ∃ s : Nat, s < 18446744073709551616 ∧ key = keyV s ∧ kl = keyL s := by
  have k1 : Try.prog.keyType 58 = true := by kernel_rfl
  have k2 : Try.prog.cellsOf 58 = 1 := by kernel_rfl
  have k3 : Try.prog.cellsOf 30 = 1 := by kernel_rfl
  obtain ⟨d, k5⟩ : ∃ d, Try.prog.types.size + 1 = d + 2 := ⟨Try.prog.types.size - 1, by have : 0 < Try.prog.types.size := of_decide_eq_true (by kernel_rfl); omega⟩
  unfold keyOf at h
  rw [Try.underlying58] at h
  simp only [k1, k5, Bool.true_and] at h
  split at h
  · rename_i hf
    cases key <;> simp only [Value.formed, Try.underlying58, Bool.false_eq_true] at hf
    rename_i xs
    rw [k2] at hf
    have hs : xs.size = 1 := by simpa using hf
    obtain ⟨v, rfl⟩ : ∃ v, xs = #[v] := by
      obtain ⟨l⟩ := xs
      match l, hs with
      | [v], _ => exact ⟨v, rfl⟩
    rw [Option.map_eq_some_iff] at h
    obtain ⟨ls, h1, rfl⟩ := h
    simp only [Value.cells] at h1
    unfold Program.keyLits at h1
    rw [Try.underlying58] at h1
    simp [k2, k3, List.mapM_cons, List.mapM_nil] at h1
    obtain ⟨la, ha, hb⟩ := Option.bind_eq_some_iff.1 h1
    obtain ⟨s, hs2, rfl, rfl⟩ := keyOf_u64 ha
    simp at hb
    subst hb
    exact ⟨s, hs2, rfl, rfl⟩
  · cases h
/-- A page's place, or none. -/
def mkP : Option Nat → Value
  | none => .pointer none
  | some p => pageV p
theorem pageR_shape (v : Value) (y : DataW Unit × List MemPlace) (h : pageR v = some y) : ∃ c, v = mkP c := by
  unfold pageR at h
  split at h
  · exact ⟨none, rfl⟩
  · rename_i p; exact ⟨some p, rfl⟩
  · cases h
theorem keyL_inj {s t : Nat} (hs : s < 18446744073709551616) (ht : t < 18446744073709551616) (h : keyL s = keyL t) : s = t := by
  by_cases e : s = t
  · exact e
  · exact absurd h (keyL_ne (wfU hs) (wfU ht) e)
theorem sameKey_L (s t : Nat) : (keyL s).sameKey (keyL t) = true ↔ keyL s = keyL t := by
  unfold keyL Lit.sameKey
  simp
/-- A key that is still to come is one of the map's. -/
theorem ranges_has {w : World} {b r n : Nat} {D : DataW Unit} {left : Lit → Bool} {cnt : Nat} (h : w.ranges Try.prog 58 pageR b r n D left cnt) {s : Nat} (hl : left (keyL s) = true) : Maps.has D (keyL s) = true := by
  obtain ⟨es, clock, since, seen, c0, h1, h2, h3, h4, h5, h6, h7, h8, h9, h10⟩ := h
  obtain ⟨x, hx, he⟩ := h9 _ hl
  subst h4
  show List.any _ _ = true
  rw [List.any_eq_true]
  exact ⟨_, mem_sorted.2 (List.mem_map.2 ⟨x, hx, rfl⟩), by rw [he]; exact (sameKey_L s s).2 rfl⟩
/-- The step of a range over a memory's pages. -/
theorem wpList_next_pages {ops : Array Oper} {rest : List Oper} {o : Oper} {a : Act} {Q : Exit → Act → World → Prop} {w : World} (hg : o.guard = none) (it : Operand) (hop : o.op = Op.next it false) (S : Nat → Prop) (m b r : Nat) (D : DataW Unit) (F : Nat → Nat) (left : Lit → Bool) (cnt : Nat)
    (hM : MemD S w m b D F) (hit : a.eval it = .pointer (some ⟨r, 0, none⟩)) (h : w.ranges Try.prog 58 pageR b r (cntD D) D left cnt)
    (hDone : cnt = 0 → (∀ kl, left kl = false) → wpList Try.prog ops Q rest (a.put o.dst (.tuple #[.bool false])) w)
    (hMore : ∀ (s p : Nat) (w' : World) (cnt' : Nat), s < 18446744073709551616 → left (keyL s) = true → Maps.has D (keyL s) = true → D.atKey (keyL s) noneD = pageD p → w'.ranges Try.prog 58 pageR b r (cntD D) D (fun z => left z && !z.sameKey (keyL s)) cnt' → cnt' < cnt →
      w.grownBy w' (some r) → w'.heap.size = w.heap.size → (Instr.entry (.pointer (some ⟨r, 0, none⟩))).run Try.prog w' = .ok (.tuple #[.agg #[.int .u64 s], .pointer (some ⟨p, 0, none⟩)]) w' → wpList Try.prog ops Q rest (a.put o.dst (.tuple #[.bool true, .agg #[.int .u64 s], .pointer (some ⟨p, 0, none⟩)])) w') :
    wpList Try.prog ops Q (o :: rest) a w := by
  refine wpList_next_ranges w hg it hop 58 lawSpot pageR (mkK := keyV) (mkV := mkP) (fun key kl hk => ?_) pageR_shape b r (cntD D) D left cnt hit h hDone (fun x c kl y w' cnt' hkey hlk hR hat hrg hlt hgr hsz hen => ?_)
  · obtain ⟨s, -, h1, -⟩ := keySpot_inv hk
    exact ⟨s, h1⟩
  · obtain ⟨s, hs, h1, rfl⟩ := keySpot_inv hkey
    obtain rfl : x = s := by unfold keyV at h1; simp at h1; omega
    have hh := ranges_has h hlk
    obtain ⟨p, q1, -⟩ := hM.2.2.2.2.2.2.1.1 x hs hh
    have hy : y.1 = pageD p := by rw [← hat noneD]; exact q1
    obtain ⟨y1, y2⟩ := y
    have hy' : y1 = pageD p := hy
    subst hy'
    have hv := pageR_inv hR
    rw [hv] at hen ⊢
    exact hMore x p w' cnt' hs hlk hh q1 hrg hlt hgr hsz hen
end Go.Proofs.Ytibgdlianedcbaa
