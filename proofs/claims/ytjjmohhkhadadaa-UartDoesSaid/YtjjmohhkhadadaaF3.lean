/- The steps that came in, and how many they can be. -/
import Derived.Test.YtjjmohhkhadadaaC3
import Derived.Test.YtjjmohhkhadadaaF2
namespace Go.Proofs.Ytjjmohhkhadadaa
open Go.ChangeShapes Go.WideShapes Go.ChangeAt Go.RowKit
set_option linter.unusedVariables false
set_option linter.unusedSimpArgs false
/-- The steps that came in. -/
theorem open_steps {H : Type} {enc : TypeId × Value → H} {W : World} {v : Value} {d : DataW H} {p : List MemPlace} (hv : ∃ a len cap, v = .slice a len cap) (h : DataW.Trod enc Try.prog W 0 (fun _ => true) true 22 v d p) :
    ∃ (sa : Option Addr) (b o n cap : Nat) (K Z : Nat → Int) (A V : Nat → Nat), v = .slice sa n cap ∧ Steps W b o n K Z A V ∧ (0 < n → sa = some ⟨b, o, none⟩ ∧ b < W.heap.size) ∧ (n = 0 ∨ ∃ elems spare, d = .slice elems spare ∧ elems.length = n) := by
  obtain ⟨a0, len0, cap0, rfl⟩ := hv
  obtain ⟨fuel, hf⟩ := h
  have ce : Try.prog.cellsOf 30 = 4 := by kernel_rfl
  have ci : Try.prog.cellsOf 3 = 1 := by kernel_rfl
  have cu : Try.prog.cellsOf 28 = 1 := by kernel_rfl
  rcases Deep.open_slice Try.underlying22 hf with ⟨h0, -⟩ | ⟨a, len, cap, m, n, D, Pl, h0, hb, hl, hm, hmm, hxe, hx⟩
  · simp [Value.cells] at h0
    obtain ⟨rfl, rfl, rfl⟩ := h0
    exact ⟨_, 0, 0, 0, _, fun _ => 0, fun _ => 0, fun _ => 0, fun _ => 0, rfl, fun i hi => absurd hi (Nat.not_lt_zero i), fun h => absurd h (Nat.lt_irrefl _), .inl rfl⟩
  · simp [Value.cells] at h0
    obtain ⟨rfl, rfl, rfl⟩ := h0
    by_cases hz : len0 = 0
    · subst hz; exact ⟨_, 0, 0, 0, _, fun _ => 0, fun _ => 0, fun _ => 0, fun _ => 0, rfl, fun i hi => absurd hi (Nat.not_lt_zero i), fun h => absurd h (Nat.lt_irrefl _), .inl rfl⟩
    · 
      have hlm : len0 ≤ m := by rw [hmm]; simp; omega
      have each : ∀ i, i < len0 → ∃ q : Int × Nat × Int × Nat, W.cell? (a.add (i * 4)) = some (.int .i64 q.1) ∧ W.cell? (a.add (i * 4 + 1)) = some (.int .u64 (q.2.1 : Nat)) ∧ W.cell? (a.add (i * 4 + 2)) = some (.int .i64 q.2.2.1) ∧ W.cell? (a.add (i * 4 + 3)) = some (.int .u64 (q.2.2.2 : Nat)) ∧
          q.2.1 < 18446744073709551616 ∧ q.2.2.2 < 18446744073709551616 := by
        intro i hi
        obtain ⟨cs', h1, h2⟩ := hx i (by omega)
        rw [ce] at h1
        obtain ⟨_, hlen, hcell⟩ := World.cells?_some h1
        obtain ⟨xs, k, hk, hxy, _, hxl, hff⟩ := DataW.trod_struct Try.underlying30 h2
        match xs, hxl, cs', hlen with
        | [y0, y1, y2, y3], _, [v0, v1, v2, v3], _ =>
          have g0 := hff 0 _ rfl
          have g1 := hff 1 _ rfl
          have g2 := hff 2 _ rfl
          have g3 := hff 3 _ rfl
          simp [ci, cu] at g0 g1 g2 g3
          obtain ⟨n0, e0, -, w0⟩ := DataW.trod_int Try.underlying3 g0
          obtain ⟨n1, e1, -, w1⟩ := DataW.trod_int Try.underlying28 g1
          obtain ⟨n2, e2, -, w2⟩ := DataW.trod_int Try.underlying3 g2
          obtain ⟨n3, e3, -, w3⟩ := DataW.trod_int Try.underlying28 g3
          obtain ⟨x1, rfl, hx1⟩ := u64_of_wf w1
          obtain ⟨x3, rfl, hx3⟩ := u64_of_wf w3
          have c0 := hcell 0 (by omega)
          have c1 := hcell 1 (by omega)
          have c2 := hcell 2 (by omega)
          have c3 := hcell 3 (by omega)
          rw [Deep.add_add] at c0 c1 c2 c3
          simp at e0 e1 e2 e3
          subst e0 e1 e2 e3
          exact ⟨(n0, x1, n2, x3), by simpa using c0, by simpa using c1, by simpa using c2, by simpa using c3, hx1.out, hx3.out⟩
      obtain ⟨q, hq⟩ := Deep.choose_lt each
      obtain ⟨ab, ao, asp⟩ := a
      have q0 := (hq 0 (by omega)).1
      have hlt : ab < W.heap.size := block_lt_of_cell q0
      have hs : asp = none := by
        cases asp with
        | none => rfl
        | some s => simp [World.cell?, Addr.add] at q0; split at q0 <;> cases q0
      subst hs
      refine ⟨_, ab, ao, len0, cap0, fun i => (q i).1, fun i => (q i).2.2.1, fun i => (q i).2.1, fun i => (q i).2.2.2, rfl, fun i hi => ?_, fun _ => ⟨rfl, hlt⟩, .inr ?_⟩
      · obtain ⟨h1, h2, h3, h4, h5⟩ := hq i hi
        rw [Go.WideShapes.add_plain] at h1 h2 h3 h4
        exact ⟨h1, by rw [Nat.add_assoc]; exact h2, by rw [Nat.add_assoc]; exact h3, by rw [Nat.add_assoc]; exact h4, h5⟩
      · injection hxe with hd hp
        exact ⟨_, _, hd, by simp⟩
theorem bytes30 : Try.prog.bytesOf 30 = 32 := by kernel_rfl
theorem few_steps {H : Type} {d : DataW H} {n : Nat} (hd : n = 0 ∨ ∃ elems spare, d = .slice elems spare ∧ elems.length = n) (hsz : (DataW.weightsEach Try.prog [22] [d]).all (· ≤ reachBytes) = true) : n < 4398046511104 := by
  rcases hd with rfl | ⟨elems, spare, rfl, rfl⟩
  · decide
  · have := sized_slice hsz (j := 0) (t := 22) (e := 30) rfl rfl Try.underlying22
    rw [bytes30] at this
    simp only [reachBytes] at this
    omega
end Go.Proofs.Ytjjmohhkhadadaa
