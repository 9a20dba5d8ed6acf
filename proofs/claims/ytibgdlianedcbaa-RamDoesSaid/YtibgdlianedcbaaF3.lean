/- The steps that came in. -/
import Derived.Test.YtibgdlianedcbaaC1
import Derived.Test.YtibgdlianedcbaaF2
namespace Go.Proofs.Ytibgdlianedcbaa
open Go.ChangeShapes Go.WideShapes Go.ChangeAt Go.RowKit
set_option linter.unusedVariables false
set_option linter.unusedSimpArgs false
/-- The steps that came in. -/
theorem open_steps {H : Type} {enc : TypeId × Value → H} {W : World} {v : Value} {d : DataW H} {p : List MemPlace} (hv : ∃ a len cap, v = .slice a len cap) (h : DataW.Trod enc Try.prog W 0 (fun _ => true) true 23 v d p) :
    ∃ (a : Option Addr) (b o n cap : Nat) (K Z : Nat → Int) (A V : Nat → Nat) (X : Nat → Option Addr) (XL XC : Nat → Nat), v = .slice a n cap ∧ (0 < n → a = some ⟨b, o, none⟩ ∧ b < W.heap.size) ∧ Steps W b o n K Z A V X XL XC ∧ n ≤ 9223372036854775807 := by
  obtain ⟨a0, len0, cap0, rfl⟩ := hv
  obtain ⟨fuel, hf⟩ := h
  have ce : Try.prog.cellsOf 32 = 5 := by kernel_rfl
  have ci : Try.prog.cellsOf 3 = 1 := by kernel_rfl
  have cu : Try.prog.cellsOf 30 = 1 := by kernel_rfl
  have cs : Try.prog.cellsOf 22 = 1 := by kernel_rfl
  have none_case : ∀ (a : Option Addr) (cap : Nat), ∃ (a' : Option Addr) (b o n cap' : Nat) (K Z : Nat → Int) (A V : Nat → Nat) (X : Nat → Option Addr) (XL XC : Nat → Nat), Value.slice a 0 cap = .slice a' n cap' ∧ (0 < n → a' = some ⟨b, o, none⟩ ∧ b < W.heap.size) ∧ Steps W b o n K Z A V X XL XC ∧ n ≤ 9223372036854775807 := fun a cap =>
    ⟨a, 0, 0, 0, cap, fun _ => 0, fun _ => 0, fun _ => 0, fun _ => 0, fun _ => none, fun _ => 0, fun _ => 0, rfl, fun h => absurd h (by omega), fun i hi => absurd hi (by omega), by omega⟩
  rcases Deep.open_slice Try.underlying23 hf with ⟨h0, -⟩ | ⟨a, len, cap, m, n, D, Pl, h0, hb, hl, hm, hmm, -, hx⟩
  · simp [Value.cells] at h0
    obtain ⟨rfl, rfl, rfl⟩ := h0
    exact none_case _ _
  · simp [Value.cells] at h0
    obtain ⟨rfl, rfl, rfl⟩ := h0
    by_cases hz : len0 = 0
    · subst hz; exact none_case _ _
    · have hlm : len0 ≤ m := by rw [hmm]; simp; omega
      have each : ∀ i, i < len0 → ∃ q : Int × Nat × Int × Nat × Option Addr × Nat × Nat, W.cell? (a.add (i * 5)) = some (.int .i64 q.1) ∧ W.cell? (a.add (i * 5 + 1)) = some (.int .u64 (q.2.1 : Nat)) ∧ W.cell? (a.add (i * 5 + 2)) = some (.int .i64 q.2.2.1) ∧ W.cell? (a.add (i * 5 + 3)) = some (.int .u64 (q.2.2.2.1 : Nat)) ∧
          W.cell? (a.add (i * 5 + 4)) = some (.slice q.2.2.2.2.1 q.2.2.2.2.2.1 q.2.2.2.2.2.2) ∧ q.2.1 < 18446744073709551616 ∧ q.2.2.2.1 < 18446744073709551616 := by
        intro i hi
        obtain ⟨cs', h1, h2⟩ := hx i (by omega)
        rw [ce] at h1
        obtain ⟨_, hlen, hcell⟩ := World.cells?_some h1
        obtain ⟨xs, k, hk, hxy, _, hxl, hff⟩ := DataW.trod_struct Try.underlying32 h2
        match xs, hxl, cs', hlen with
        | [y0, y1, y2, y3, y4], _, [v0, v1, v2, v3, v4], _ =>
          have g0 := hff 0 _ rfl
          have g1 := hff 1 _ rfl
          have g2 := hff 2 _ rfl
          have g3 := hff 3 _ rfl
          have g4 := hff 4 _ rfl
          simp [ci, cu, cs] at g0 g1 g2 g3 g4
          obtain ⟨n0, e0, -, w0⟩ := DataW.trod_int Try.underlying3 g0
          obtain ⟨n1, e1, -, w1⟩ := DataW.trod_int Try.underlying30 g1
          obtain ⟨n2, e2, -, w2⟩ := DataW.trod_int Try.underlying3 g2
          obtain ⟨n3, e3, -, w3⟩ := DataW.trod_int Try.underlying30 g3
          obtain ⟨x1, rfl, hx1⟩ := u64_of_wf w1
          obtain ⟨x3, rfl, hx3⟩ := u64_of_wf w3
          obtain ⟨sa, sl, sc, e4⟩ : ∃ sa sl sc, v4 = .slice sa sl sc := by
            rcases Deep.open_slice Try.underlying22 g4 with ⟨h0, -⟩ | ⟨a, len, cap, m, n, D, Pl, h0, -⟩
            · simp at h0; exact ⟨_, _, _, h0⟩
            · simp at h0; exact ⟨_, _, _, h0⟩
          have c0 := hcell 0 (by omega)
          have c1 := hcell 1 (by omega)
          have c2 := hcell 2 (by omega)
          have c3 := hcell 3 (by omega)
          have c4 := hcell 4 (by omega)
          rw [Deep.add_add] at c0 c1 c2 c3 c4
          simp at e0 e1 e2 e3
          subst e0 e1 e2 e3 e4
          exact ⟨(n0, x1, n2, x3, sa, sl, sc), by simpa using c0, by simpa using c1, by simpa using c2, by simpa using c3, by simpa using c4, hx1.out, hx3.out⟩
      obtain ⟨q, hq⟩ := Deep.choose_lt each
      obtain ⟨ab, ao, asp⟩ := a
      have q0 := (hq 0 (by omega)).1
      have hlt : ab < W.heap.size := block_lt_of_cell q0
      have hs : asp = none := by
        cases asp with
        | none => rfl
        | some s => simp [World.cell?, Addr.add] at q0; split at q0 <;> cases q0
      subst hs
      refine ⟨_, ab, ao, len0, cap0, fun i => (q i).1, fun i => (q i).2.2.1, fun i => (q i).2.1, fun i => (q i).2.2.2.1, fun i => (q i).2.2.2.2.1, fun i => (q i).2.2.2.2.2.1, fun i => (q i).2.2.2.2.2.2, rfl, fun _ => ⟨rfl, hlt⟩, fun i hi => ?_, ?_⟩
      · obtain ⟨h1, h2, h3, h4, h5, h6⟩ := hq i hi
        rw [Go.WideShapes.add_plain] at h1 h2 h3 h4 h5
        exact ⟨h1, by rw [Nat.add_assoc]; exact h2, by rw [Nat.add_assoc]; exact h3, by rw [Nat.add_assoc]; exact h4, by rw [Nat.add_assoc]; exact h5, h6⟩
      · have : len0 ≤ maxLen := Nat.le_trans hl hm
        unfold maxLen at this
        omega
end Go.Proofs.Ytibgdlianedcbaa
