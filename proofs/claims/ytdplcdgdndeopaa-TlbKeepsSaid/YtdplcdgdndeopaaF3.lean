/- Steps that came in: one, or a slice of them; what was there is as it was. -/
import Derived.Test.YtdplcdgdndeopaaK12
import Derived.Test.YtdplcdgdndeopaaRows
import Derived.Deep.Slices
import Derived.Deep.SlicePairs
import Derived.Carry
import Derived.ChangeArms
import Derived.Lib.SmallJoins
namespace Go.Proofs.Ytdplcdgdndeopaa
open Go.ChangeShapes Go.WideShapes Go.ChangeAt Go.RowKit Go.Joins Go.Deep
set_option linter.unusedVariables false
set_option linter.unusedSimpArgs false
/-- A step. -/
structure Sx where
  kd : Int
  e : En
def Sx.v (x : Sx) : Array Value := #[.int .i64 x.kd, .int .u64 (x.e.ad : Nat), .int .i64 x.e.lv, .int .u64 (x.e.sp : Nat), .bool x.e.gl, .int .u64 (x.e.lf : Nat)]
instance : Inhabited Sx := ⟨⟨0, E0⟩⟩
/-- Steps in a row. -/
def Steps (W : World) (b o n : Nat) (X : Nat → Sx) : Prop := ∀ i, i < n → (∀ j, j < (X i).v.size → W.cell? ⟨b, o + i * 6 + j, none⟩ = (X i).v[j]?) ∧ (X i).e.Wf
theorem open_step {H : Type} {enc : TypeId × Value → H} {w : World} {base : Nat} {spare : Nat → Bool} {held : Bool} {r : Reach} {b0 : Nat} {v : Value} {d : DataW H} {p : List MemPlace}
    (hv : Value.okWide Try.prog w r b0 30 v) (h : DataW.Trod enc Try.prog w base spare held 30 v d p) :
    ∃ x : Sx, v = .agg x.v ∧ x.e.Wf := by
  have hs := Try.underlying30
  have ce : Try.prog.cellsOf 30 = 6 := by kernel_rfl
  have ci : Try.prog.cellsOf 3 = 1 := by kernel_rfl
  have cu : Try.prog.cellsOf 22 = 1 := by kernel_rfl
  have cb : Try.prog.cellsOf 4 = 1 := by kernel_rfl
  obtain ⟨cs, rfl, hsz⟩ := okWide_struct hs hv
  obtain ⟨l⟩ := cs
  match l, hsz.trans ce with
  | [c0, c1, c2, c3, c4, c5], _ =>
    obtain ⟨fuel, hf⟩ := h
    obtain ⟨xs, n, _, hx, _, hlen, hg⟩ := DataW.trod_struct hs hf
    match xs, hlen with
    | [y0, y1, y2, y3, y4, y5], _ =>
      have g0 := hg 0 _ rfl; have g1 := hg 1 _ rfl; have g2 := hg 2 _ rfl; have g3 := hg 3 _ rfl; have g4 := hg 4 _ rfl; have g5 := hg 5 _ rfl
      simp [Value.cells, ci, cu, cb] at g0 g1 g2 g3 g4 g5
      obtain ⟨a0, e0, z0, q0⟩ := DataW.trod_int Try.underlying3 g0
      obtain ⟨a1, e1, z1, q1⟩ := DataW.trod_int Try.underlying22 g1
      obtain ⟨a2, e2, z2, q2⟩ := DataW.trod_int Try.underlying3 g2
      obtain ⟨a3, e3, z3, q3⟩ := DataW.trod_int Try.underlying22 g3
      obtain ⟨a4, e4, z4⟩ := DataW.trod_bool Try.underlying4 g4
      obtain ⟨a5, e5, z5, q5⟩ := DataW.trod_int Try.underlying22 g5
      obtain ⟨x1, rfl, hx1⟩ := u64_of_wf q1
      obtain ⟨x3, rfl, hx3⟩ := u64_of_wf q3
      obtain ⟨x5, rfl, hx5⟩ := u64_of_wf q5
      simp only [List.cons.injEq, and_true] at e0 e1 e2 e3 e4 e5
      subst e0 e1 e2 e3 e4 e5
      exact ⟨⟨a0, ⟨x1, a2, x3, a4, x5⟩⟩, rfl, ⟨hx1.out, q2, hx3.out, hx5.out⟩⟩
theorem open_steps {H : Type} {enc : TypeId × Value → H} {W : World} {v : Value} {d : DataW H} {p : List MemPlace} (hv : ∃ a len cap, v = .slice a len cap) (h : DataW.Trod enc Try.prog W 0 (fun _ => true) true 23 v d p) :
    ∃ (sa : Option Addr) (b o n cap : Nat) (X : Nat → Sx), v = .slice sa n cap ∧ Steps W b o n X ∧ (0 < n → sa = some ⟨b, o, none⟩ ∧ b < W.heap.size) ∧ (n = 0 ∨ ∃ elems spare, d = .slice elems spare ∧ elems.length = n) := by
  obtain ⟨a0, len0, cap0, rfl⟩ := hv
  obtain ⟨fuel, hf⟩ := h
  have ce : Try.prog.cellsOf 30 = 6 := by kernel_rfl
  have ci : Try.prog.cellsOf 3 = 1 := by kernel_rfl
  have cu : Try.prog.cellsOf 22 = 1 := by kernel_rfl
  have cb : Try.prog.cellsOf 4 = 1 := by kernel_rfl
  rcases Deep.open_slice Try.underlying23 hf with ⟨h0, -⟩ | ⟨a, len, cap, m, n, D, Pl, h0, hb, hl, hm, hmm, hxe, hx⟩
  · simp [Value.cells] at h0
    obtain ⟨rfl, rfl, rfl⟩ := h0
    exact ⟨_, 0, 0, 0, _, fun _ => ⟨0, E0⟩, rfl, fun i hi => absurd hi (Nat.not_lt_zero i), fun h => absurd h (Nat.lt_irrefl _), .inl rfl⟩
  · simp [Value.cells] at h0
    obtain ⟨rfl, rfl, rfl⟩ := h0
    by_cases hz : len0 = 0
    · subst hz; exact ⟨_, 0, 0, 0, _, fun _ => ⟨0, E0⟩, rfl, fun i hi => absurd hi (Nat.not_lt_zero i), fun h => absurd h (Nat.lt_irrefl _), .inl rfl⟩
    · have hlm : len0 ≤ m := by rw [hmm]; simp; omega
      have each : ∀ i, i < len0 → ∃ q : Sx, (∀ j, j < 6 → W.cell? (a.add (i * 6 + j)) = q.v[j]?) ∧ q.e.Wf := by
        intro i hi
        obtain ⟨cs', h1, h2⟩ := hx i (by omega)
        rw [ce] at h1
        obtain ⟨_, hlen, hcell⟩ := World.cells?_some h1
        obtain ⟨xs, k, hk, hxy, _, hxl, hff⟩ := DataW.trod_struct Try.underlying30 h2
        match xs, hxl, cs', hlen with
        | [y0, y1, y2, y3, y4, y5], _, [v0, v1, v2, v3, v4, v5], _ =>
          have g0 := hff 0 _ rfl
          have g1 := hff 1 _ rfl
          have g2 := hff 2 _ rfl
          have g3 := hff 3 _ rfl
          have g4 := hff 4 _ rfl
          have g5 := hff 5 _ rfl
          simp [ci, cu, cb] at g0 g1 g2 g3 g4 g5
          obtain ⟨n0, e0, -, w0⟩ := DataW.trod_int Try.underlying3 g0
          obtain ⟨n1, e1, -, w1⟩ := DataW.trod_int Try.underlying22 g1
          obtain ⟨n2, e2, -, w2⟩ := DataW.trod_int Try.underlying3 g2
          obtain ⟨n3, e3, -, w3⟩ := DataW.trod_int Try.underlying22 g3
          obtain ⟨n4, e4, -⟩ := DataW.trod_bool Try.underlying4 g4
          obtain ⟨n5, e5, -, w5⟩ := DataW.trod_int Try.underlying22 g5
          obtain ⟨x1, rfl, hx1⟩ := u64_of_wf w1
          obtain ⟨x3, rfl, hx3⟩ := u64_of_wf w3
          obtain ⟨x5, rfl, hx5⟩ := u64_of_wf w5
          have c0 := hcell 0 (by omega)
          have c1 := hcell 1 (by omega)
          have c2 := hcell 2 (by omega)
          have c3 := hcell 3 (by omega)
          have c4 := hcell 4 (by omega)
          have c5 := hcell 5 (by omega)
          rw [Deep.add_add] at c0 c1 c2 c3 c4 c5
          simp at e0 e1 e2 e3 e4 e5
          subst e0 e1 e2 e3 e4 e5
          refine ⟨⟨n0, ⟨x1, n2, x3, n4, x5⟩⟩, fun j hj => ?_, ⟨hx1.out, w2, hx3.out, hx5.out⟩⟩
          have h6 : j = 0 ∨ j = 1 ∨ j = 2 ∨ j = 3 ∨ j = 4 ∨ j = 5 := by omega
          rcases h6 with rfl | rfl | rfl | rfl | rfl | rfl
          · show W.cell? (a.add (i * 6 + 0)) = some (.int .i64 n0); simpa using c0
          · show W.cell? (a.add (i * 6 + 1)) = some (.int .u64 (x1 : Nat)); simpa using c1
          · show W.cell? (a.add (i * 6 + 2)) = some (.int .i64 n2); simpa using c2
          · show W.cell? (a.add (i * 6 + 3)) = some (.int .u64 (x3 : Nat)); simpa using c3
          · show W.cell? (a.add (i * 6 + 4)) = some (.bool n4); simpa using c4
          · show W.cell? (a.add (i * 6 + 5)) = some (.int .u64 (x5 : Nat)); simpa using c5
      obtain ⟨q, hq⟩ := Deep.choose_lt each
      obtain ⟨ab, ao, asp⟩ := a
      have q0 : W.cell? (Addr.add ⟨ab, ao, asp⟩ (0 * 6 + 0)) = some (.int .i64 (q 0).kd) := ((hq 0 (by omega)).1 0 (by decide)).trans rfl
      have hlt : ab < W.heap.size := block_lt_of_cell q0
      have hs : asp = none := by
        cases asp with
        | none => rfl
        | some s => simp [World.cell?, Addr.add] at q0; split at q0 <;> cases q0
      subst hs
      refine ⟨_, ab, ao, len0, cap0, q, rfl, fun i hi => ⟨fun j hj => ?_, (hq i hi).2⟩, fun _ => ⟨rfl, hlt⟩, .inr ?_⟩
      · have h1 := (hq i hi).1 j hj
        rw [Go.WideShapes.add_plain] at h1
        rw [Nat.add_assoc]; exact h1
      · injection hxe with hd hp
        exact ⟨_, _, hd, by simp⟩
theorem bytes_step : Try.prog.bytesOf 30 = 48 := by kernel_rfl
theorem few_steps {H : Type} {ts : List TypeId} {ds : List (DataW H)} {d : DataW H} {n : Nat} (hd : n = 0 ∨ ∃ elems spare, d = .slice elems spare ∧ elems.length = n) {j : Nat} (ht : ts[j]? = some 23) (hj : ds[j]? = some d) (hsz : (DataW.weightsEach Try.prog ts ds).all (· ≤ reachBytes) = true) : n < 2932031007403 := by
  rcases hd with rfl | ⟨elems, spare, rfl, rfl⟩
  · decide
  · have := sized_slice hsz (j := j) (t := 23) (e := 30) ht hj Try.underlying23
    rw [bytes_step] at this
    simp only [reachBytes] at this
    omega
/-- What was there is as it was: the arguments read as they did. -/
theorem post_old {H : Type} {enc : TypeId × Value → H} {P : Program} {f : Func} {s : ChangeSpec} {apart fresh handsOn : Bool} {W W' : World} {args : Array Value} {v : Value} {ds gs : List (DataW H)} {before : List MemPlace}
    (hW : DataW.Whole enc P f.params.toList s.vars apart W args.toList ds gs before)
    (hr : ∀ (b : Nat) (sp : Nat → Bool) (hd : Bool), DataW.TrodAll enc P W' b sp hd f.resultTypes.toList (v.resultList f.resultTypes.size) (s.fn H (ds ++ gs)).results [])
    (ha : DataW.TrodAll enc P W' 0 (fun b => decide (b < W.heap.size)) true f.params.toList args.toList (s.fn H (ds ++ gs)).args before)
    (hv : ∀ sp : Nat → Bool, DataW.TrodVars enc P W' sp s.vars (s.fn H (ds ++ gs)).vars [])
    (hb : Below W.heap.size W W') :
    s.post enc P f apart fresh handsOn false W args v W' :=
  ⟨ds, gs, before, [], before, [], hW, hr _ _ _, ha, hv _, hb.frame _, fun h => nomatch h⟩
end Go.Proofs.Ytdplcdgdndeopaa
