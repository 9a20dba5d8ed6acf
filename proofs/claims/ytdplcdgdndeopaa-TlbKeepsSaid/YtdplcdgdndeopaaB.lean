/- Slices of entries that grow by append. -/
import Derived.Test.YtdplcdgdndeopaaM0
import Derived.Laws.AppendOwn
import Derived.Maps.AppendAt
import Derived.OwnWalk
import Derived.Deep.RegionLaw
namespace Go.Proofs.Ytdplcdgdndeopaa
open Go.ChangeShapes Go.WideShapes Go.ChangeAt Go.RowKit Go.Sort
set_option linter.unusedVariables false
set_option linter.unusedSimpArgs false
def cellsE (x : En) : List Value := [.int .u64 (x.ad : Nat), .int .i64 x.lv, .int .u64 (x.sp : Nat), .bool x.gl, .int .u64 (x.lf : Nat)]
def cellsEs (L : List En) : List Value := L.flatMap cellsE
theorem cellsEs_len (L : List En) : (cellsEs L).length = L.length * 5 := by
  unfold cellsEs
  induction L with
  | nil => rfl
  | cons a L ih => rw [List.flatMap_cons, List.length_append, ih]; show 5 + _ = (L.length + 1) * 5; omega
theorem cellsEs_append (L M : List En) : cellsEs (L ++ M) = cellsEs L ++ cellsEs M := List.flatMap_append
theorem cellsE_one (r : En) : ∀ u ∈ cellsE r, u.oneCell' = true := by
  intro u hu; simp [cellsE] at hu
  rcases hu with h | h | h | h | h <;> subst h <;> rfl
theorem cellsEs_one (L : List En) : ∀ u ∈ cellsEs L, u.oneCell' = true := by
  intro u hu
  unfold cellsEs at hu
  rw [List.mem_flatMap] at hu
  obtain ⟨r, _, h⟩ := hu
  exact cellsE_one r u h
theorem cellsEs_get : ∀ (L : List En) (i j : Nat) (x : En), L[i]? = some x → j < 5 → (cellsEs L)[i * 5 + j]? = (cellsE x)[j]?
  | [], i, j, x, h, _ => by simp at h
  | y :: L, 0, j, x, h, hj => by
    obtain rfl : y = x := by simpa using h
    show (cellsE y ++ cellsEs L)[0 * 5 + j]? = _
    rw [List.getElem?_append_left (by show _ < 5; omega), Nat.zero_mul, Nat.zero_add]
  | y :: L, i + 1, j, x, h, hj => by
    have h' : L[i]? = some x := by simpa using h
    show (cellsE y ++ cellsEs L)[(i + 1) * 5 + j]? = _
    rw [List.getElem?_append_right (by show 5 ≤ _; omega), show (i + 1) * 5 + j - (cellsE y).length = i * 5 + j by show _ - 5 = _; omega]
    exact cellsEs_get L i j x h' hj
/-- The types of a slice of entries. -/
structure InfoE (t ts : TypeId) : Prop where
  u : Try.prog.underlying ts = some (.slice t)
  i : (Try.prog.info? t).map (fun i => (i.size, i.bytes, i.zero)) = some (5, 40, some (.agg #[.int .u64 0, .int .i64 0, .int .u64 0, .bool false, .int .u64 0]))
theorem InfoE.get {t ts : TypeId} (h : InfoE t ts) : ∃ i, Try.prog.info? t = some i ∧ i.size = 5 ∧ i.bytes = 40 ∧ i.zero = some (.agg #[.int .u64 0, .int .i64 0, .int .u64 0, .bool false, .int .u64 0]) := by
  have h := h.i
  cases hi : Try.prog.info? t with
  | none => rw [hi] at h; exact absurd h (by simp)
  | some i =>
    rw [hi] at h
    simp only [Option.map_some, Option.some.injEq, Prod.mk.injEq] at h
    exact ⟨i, rfl, h.1, h.2.1, h.2.2⟩
theorem infoR : InfoE 36 46 := ⟨Try.underlying46, by kernel_rfl⟩
/-- A slice of the call's own holds the entries. -/
def OwnE (t : TypeId) (w : World) (base : Nat) (v : Value) (L : List En) : Prop := w.ownsRow base t 5 v L.length (cellsEs L)
theorem OwnE.lt {t : TypeId} {w : World} {base : Nat} {v : Value} {L : List En} (h : OwnE t w base v L) : ∀ k, v.ownBlock = some k → base ≤ k ∧ k < w.heap.size := World.ownsRow.lt (w := w) h
theorem OwnE.below {t : TypeId} {w w' : World} {base : Nat} {v : Value} {L : List En} (h : OwnE t w base v L) (hb : Below w.heap.size w w') : OwnE t w' base v L := by
  refine World.ownsRow.kept (w := w) h (w' := w') (row := none) ⟨hb.os, hb.tape, hb.output, hb.size, fun k hk _ => hb.block k hk⟩ ?_
  cases h' : v.ownBlock
  · exact .inl rfl
  · exact .inr (by simp)
theorem own_none (t : TypeId) (w : World) (base : Nat) : OwnE t w base (.slice none 0 0) [] := ⟨rfl, .inl ⟨rfl, rfl⟩⟩
/-- A slice that was just built. -/
theorem own_built (t : TypeId) (w : World) (base n : Nat) (cs : Array Value) (L : List En) (hb : base ≤ w.heap.size) (hn : L.length = n) (hl : n ≤ 1000) (hc : cs = (cellsEs L).toArray) : OwnE t (w.alloc (Obj.cells cs t)) base (.slice (some ⟨w.heap.size, 0, none⟩) n n) L := by
  subst hc hn
  refine ⟨cellsEs_len L, .inr ⟨w.heap.size, L.length, _, rfl, hb, heap_alloc_new w _, Nat.le_refl _, by simp only [maxLen]; omega, by rw [List.size_toArray, cellsEs_len], ?_⟩⟩
  rw [← cellsEs_len]; simp
theorem append_e {t ts : TypeId} (hI : InfoE t ts) {ops : Array Oper} {rest : List Oper} {o : Oper} {a : Act} {w : World} {Q : Exit → Act → World → Prop} (hgd : o.guard = none) (s x : Operand)
    (ho : o.op = .call { callee := .builtin .append, args := #[s, x], argTypes := #[ts, ts] })
    (base : Nat) (v : Value) (L : List En) (hs : a.eval s = v) (hown : OwnE t w base v L) (hL : L.length ≤ 4611686018427)
    (bx : Nat) (vx : Value) (M : List En) (hx : a.eval x = vx) (hownx : OwnE t w bx vx M) (hM : 0 < M.length ∧ M.length ≤ 500) (hbase : base ≤ w.heap.size)
    (hb : (L.length + M.length) * 40 ≤ 140737488355328)
    (h : ∀ v' w', OwnE t w' base v' (L ++ M) → w.grownBy w' v.ownBlock → (v'.ownBlock = v.ownBlock ∨ v'.ownBlock = some w.heap.size) → wpList Try.prog ops Q rest (a.put o.dst v') w') : wpList Try.prog ops Q (o :: rest) a w := by
  obtain ⟨i, hi, h1, h2, h3⟩ := hI.get
  rcases hownx.2 with ⟨rfl, h0⟩ | ⟨g, cap, cur, rfl, hbg, hg, hnc, hcm, hcs, htake⟩
  · omega
  · refine wpList_append_own_at w hgd s x ts ho base t i _ 5 40 hI.u hi h3 h1 h2 rfl (by decide) v L.length (cellsEs L) hs hown ⟨g, 0, none⟩ M.length cap (cellsEs M) hx (cellsEs_len M) ?_ (cellsEs_one M) (by simp only [maxLen]; omega) hb hbase ?_
    · exact World.ownsRow.cells (w := w) hownx rfl
    · intro v' w' q1 q2 _ q3
      refine h v' w' ?_ q2 q3
      unfold OwnE
      rw [List.length_append, cellsEs_append]; exact q1
theorem OwnE.grown {t : TypeId} {w w' : World} {base : Nat} {v : Value} {L : List En} (h : OwnE t w base v L) (hg : w.grownBy w' v.ownBlock) (hb : base ≤ w.heap.size) : Below base w w' :=
  Below.grown (Below.refl _ _) hg hb (fun k hk => (h.lt k hk).1)
/-- What one that is there reads. -/
theorem OwnE.cells {t : TypeId} {w : World} {base : Nat} {a : Option Addr} {n c : Nat} {L : List En} (h : OwnE t w base (.slice a n c) L) : n = L.length ∧ (0 < n → ∃ g, a = some ⟨g, 0, none⟩ ∧ base ≤ g ∧ g < w.heap.size ∧ ∀ i x, L[i]? = some x → ∀ j, j < 5 → w.cell? ⟨g, i * 5 + j, none⟩ = (cellsE x)[j]?) := by
  rcases h.2 with ⟨e, h0⟩ | ⟨g, cap, cur, e, hbg, hg, hnc, hcm, hcs, htake⟩
  · cases e
    exact ⟨h0.symm, fun q => absurd q (Nat.lt_irrefl _)⟩
  · injection e with e1 e2 e3
    subst e1 e2 e3
    refine ⟨rfl, fun _ => ⟨g, rfl, hbg, (h.lt g rfl).2, fun i x hx j hj => ?_⟩⟩
    have := World.ownsRow.cells (w := w) h rfl (i * 5 + j)
    have hc := cellsEs_get L i j x hx hj
    have hv : (cellsE x)[j]? = some ((cellsE x)[j]'(by show j < 5; exact hj)) := List.getElem?_eq_getElem _
    rw [hv] at hc ⊢
    have q := this _ hc
    have hadd : (⟨g, 0, none⟩ : Addr).add (i * 5 + j) = ⟨g, 0 + (i * 5 + j), none⟩ := by unfold Addr.add; split <;> simp_all
    rw [hadd, Nat.zero_add] at q
    exact q
end Go.Proofs.Ytdplcdgdndeopaa
