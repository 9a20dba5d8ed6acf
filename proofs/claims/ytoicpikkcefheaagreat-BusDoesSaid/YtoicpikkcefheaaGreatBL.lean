/- The rows' last steps; what came in. -/
import Derived.Test.YtoicpikkcefheaaGreatBK
import Derived.Test.YtoicpikkcefheaaGreatRows
import Derived.ProofKit
import Derived.OpenShut
import Derived.ChangeSame
import Derived.Deep.Slices
import Derived.Deep.SlicePairs
import Derived.Carry
import Derived.ChangeArms
import Derived.SizedLaws
import Derived.DeepKeys4
namespace Go.Proofs.YtoicpikkcefheaaGreat
open Go.ChangeShapes Go.WideShapes Go.ChangeAt Go.RowKit
set_option linter.unusedVariables false
set_option linter.unusedSimpArgs false
set_option maxRecDepth 20000
/-- Only numbers came in: nothing of memory is handed over, so it is enough that what was there is as it was. -/
theorem post_nums {H : Type} {enc : TypeId × Value → H} {P : Program} {f : Func} {s : ChangeSpec} {apart fresh handsOn again : Bool} {W W' : World} {args : Array Value} {v : Value} {ds gs : List (DataW H)}
    (hW : DataW.Whole enc P f.params.toList s.vars apart W args.toList ds gs [])
    (hr : ∀ (b : Nat) (sp : Nat → Bool) (hd : Bool), DataW.TrodAll enc P W' b sp hd f.resultTypes.toList (v.resultList f.resultTypes.size) (s.fn H (ds ++ gs)).results [])
    (ha : ∀ sp : Nat → Bool, DataW.TrodAll enc P W' 0 sp true f.params.toList args.toList (s.fn H (ds ++ gs)).args [])
    (hv : ∀ sp : Nat → Bool, DataW.TrodVars enc P W' sp s.vars (s.fn H (ds ++ gs)).vars [])
    (hb : Below W.heap.size W W')
    (hok : ∀ (j : Nat) (t : TypeId) (r : Value), f.resultTypes[j]? = some t → (v.resultList f.resultTypes.size)[j]? = some r → Value.okWide P W' .any 0 t r) :
    s.post enc P f apart fresh handsOn again W args v W' :=
  ⟨ds, gs, [], [], [], [], hW, hr _ _ _, ha _, hv _, hb.frame _, fun _ => ⟨hok, _, _, [], ⟨[], [], trodAll_append (ha _) (hr _ _ _), hv _, rfl, fun _ _ h => absurd h List.not_mem_nil, fun _ => List.nodup_nil⟩, fun _ h => absurd h List.not_mem_nil⟩⟩
theorem u64_of_wf {a : Int} (h : (Lit.int .u64 a).wf = true) : ∃ n : Nat, a = n ∧ Hid (n < 18446744073709551616) := by
  simp [Lit.wf, IntKind.min, IntKind.max, IntKind.signed, IntKind.bits] at h
  obtain ⟨h0, h1⟩ := h
  exact ⟨a.toNat, by omega, by show _ < _; omega⟩
/-- What was there is as it was: the arguments read as they did. -/
theorem post_old {H : Type} {enc : TypeId × Value → H} {P : Program} {f : Func} {s : ChangeSpec} {apart fresh handsOn : Bool} {W W' : World} {args : Array Value} {v : Value} {ds gs : List (DataW H)} {before : List MemPlace}
    (hW : DataW.Whole enc P f.params.toList s.vars apart W args.toList ds gs before)
    (hr : ∀ (b : Nat) (sp : Nat → Bool) (hd : Bool), DataW.TrodAll enc P W' b sp hd f.resultTypes.toList (v.resultList f.resultTypes.size) (s.fn H (ds ++ gs)).results [])
    (ha : DataW.TrodAll enc P W' 0 (fun b => decide (b < W.heap.size)) true f.params.toList args.toList (s.fn H (ds ++ gs)).args before)
    (hv : ∀ sp : Nat → Bool, DataW.TrodVars enc P W' sp s.vars (s.fn H (ds ++ gs)).vars [])
    (hb : Below W.heap.size W W') :
    s.post enc P f apart fresh handsOn false W args v W' :=
  ⟨ds, gs, before, [], before, [], hW, hr _ _ _, ha, hv _, hb.frame _, fun h => nomatch h⟩
theorem laidOut : laidOutB Tryz.prog = true := by kernel_rfl
theorem u8_of_wf {a : Int} (h : (Lit.int .u8 a).wf = true) : ∃ n : Nat, a = n ∧ Hid (n < 256) := by
  simp [Lit.wf, IntKind.min, IntKind.max, IntKind.signed, IntKind.bits] at h
  obtain ⟨h0, h1⟩ := h
  exact ⟨a.toNat, by omega, by show _ < _; omega⟩
theorem open_bytes {H : Type} {enc : TypeId × Value → H} {W : World} {v : Value} {d : DataW H} {p : List MemPlace} (hv : ∃ a len cap, v = .slice a len cap) (h : DataW.Trod enc Tryz.prog W 0 (fun _ => true) true 22 v d p) :
    ∃ (a : Option Addr) (b o n cap : Nat) (R : Nat → Nat), v = .slice a n cap ∧ (0 < n → a = some ⟨b, o, none⟩ ∧ b < W.heap.size) ∧ n ≤ cap ∧ (∀ i, i < n → W.cell? ⟨b, o + i, none⟩ = some (.int .u8 (R i : Nat))) ∧ (∀ i, R i < 256) ∧ n ≤ 9223372036854775807 := by
  obtain ⟨a0, len0, cap0, rfl⟩ := hv
  obtain ⟨fuel, hf⟩ := h
  have cu : Tryz.prog.cellsOf 5 = 1 := by kernel_rfl
  rcases Deep.open_slice1 Tryz.underlying22 cu hf with ⟨h0, -⟩ | ⟨a, len, cap, m, n, V, D, Pl, h0, hb, hl, hm, hmm, -, hx⟩
  · simp [Value.cells] at h0
    obtain ⟨rfl, rfl, rfl⟩ := h0
    exact ⟨none, 0, 0, 0, 0, fun _ => 0, rfl, fun h => absurd h (by omega), Nat.le_refl _, fun i hi => absurd hi (by omega), fun _ => by show 0 < 256; decide, by omega⟩
  · simp [Value.cells] at h0
    obtain ⟨rfl, rfl, rfl⟩ := h0
    have hcap : len0 ≤ 9223372036854775807 := by
      have : len0 ≤ maxLen := Nat.le_trans hl hm
      unfold maxLen at this
      omega
    by_cases hz : len0 = 0
    · subst hz
      exact ⟨some a, 0, 0, 0, cap0, fun _ => 0, rfl, fun h => absurd h (by omega), Nat.zero_le _, fun i hi => absurd hi (by omega), fun _ => by show 0 < 256; decide, by omega⟩
    · have hlm : len0 ≤ m := by rw [hmm]; simp; omega
      have each : ∀ i, i < len0 → ∃ r : Nat, W.cell? (a.add i) = some (.int .u8 (r : Nat)) ∧ r < 256 := by
        intro i hi
        obtain ⟨h1, h2⟩ := hx i (by omega)
        obtain ⟨k, e0, -, w0⟩ := DataW.trod_int Tryz.underlying5 h2
        obtain ⟨r, rfl, hr⟩ := u8_of_wf w0
        simp at e0
        rw [e0] at h1
        exact ⟨r, h1, hr.out⟩
      obtain ⟨q, hq⟩ := Deep.choose_lt each
      obtain ⟨ab, ao, asp⟩ := a
      have q0 := (hq 0 (by omega)).1
      have hlt : ab < W.heap.size := block_lt_of_cell q0
      have hs : asp = none := by
        cases asp with
        | none => rfl
        | some s => simp [World.cell?, Addr.add] at q0; split at q0 <;> cases q0
      subst hs
      refine ⟨_, ab, ao, len0, cap0, fun i => if i < len0 then q i else 0, rfl, fun _ => ⟨rfl, hlt⟩, hl, fun i hi => ?_, fun i => ?_, hcap⟩
      · have h1 := (hq i hi).1
        rw [Go.WideShapes.add_plain] at h1
        show W.cell? _ = some (.int .u8 ((if i < len0 then q i else 0 : Nat) : Int))
        rw [if_pos hi]; exact h1
      · show (if i < len0 then q i else 0) < 256
        by_cases c : i < len0
        · rw [if_pos c]; exact (hq i c).2
        · rw [if_neg c]; decide
/-- The steps in memory. -/
def Steps (w : World) (b o n : Nat) (K Z : Nat → Int) (A V : Nat → Nat) : Prop := ∀ i, i < n → w.cell? ⟨b, o + i * 4, none⟩ = some (.int .i64 (K i)) ∧ w.cell? ⟨b, o + i * 4 + 1, none⟩ = some (.int .u64 (A i : Nat)) ∧ w.cell? ⟨b, o + i * 4 + 2, none⟩ = some (.int .i64 (Z i)) ∧ w.cell? ⟨b, o + i * 4 + 3, none⟩ = some (.int .u64 (V i : Nat)) ∧ A i < 18446744073709551616 ∧ V i < 18446744073709551616 ∧ (Lit.int .i64 (Z i)).wf = true
theorem open_steps {H : Type} {enc : TypeId × Value → H} {W : World} {v : Value} {d : DataW H} {p : List MemPlace} (hv : ∃ a len cap, v = .slice a len cap) (h : DataW.Trod enc Tryz.prog W 0 (fun _ => true) true 24 v d p) :
    ∃ (sa : Option Addr) (b o n cap : Nat) (K Z : Nat → Int) (A V : Nat → Nat), v = .slice sa n cap ∧ Steps W b o n K Z A V ∧ (0 < n → sa = some ⟨b, o, none⟩ ∧ b < W.heap.size) ∧ (n = 0 ∨ ∃ elems spare, d = .slice elems spare ∧ elems.length = n) := by
  obtain ⟨a0, len0, cap0, rfl⟩ := hv
  obtain ⟨fuel, hf⟩ := h
  have ce : Tryz.prog.cellsOf 40 = 4 := by kernel_rfl
  have ci : Tryz.prog.cellsOf 3 = 1 := by kernel_rfl
  have cu : Tryz.prog.cellsOf 29 = 1 := by kernel_rfl
  rcases Deep.open_slice Tryz.underlying24 hf with ⟨h0, -⟩ | ⟨a, len, cap, m, n, D, Pl, h0, hb, hl, hm, hmm, hxe, hx⟩
  · simp [Value.cells] at h0
    obtain ⟨rfl, rfl, rfl⟩ := h0
    exact ⟨_, 0, 0, 0, _, fun _ => 0, fun _ => 0, fun _ => 0, fun _ => 0, rfl, fun i hi => absurd hi (Nat.not_lt_zero i), fun h => absurd h (Nat.lt_irrefl _), .inl rfl⟩
  · simp [Value.cells] at h0
    obtain ⟨rfl, rfl, rfl⟩ := h0
    by_cases hz : len0 = 0
    · subst hz; exact ⟨_, 0, 0, 0, _, fun _ => 0, fun _ => 0, fun _ => 0, fun _ => 0, rfl, fun i hi => absurd hi (Nat.not_lt_zero i), fun h => absurd h (Nat.lt_irrefl _), .inl rfl⟩
    · 
      have hlm : len0 ≤ m := by rw [hmm]; simp; omega
      have each : ∀ i, i < len0 → ∃ q : Int × Nat × Int × Nat, W.cell? (a.add (i * 4)) = some (.int .i64 q.1) ∧ W.cell? (a.add (i * 4 + 1)) = some (.int .u64 (q.2.1 : Nat)) ∧ W.cell? (a.add (i * 4 + 2)) = some (.int .i64 q.2.2.1) ∧ W.cell? (a.add (i * 4 + 3)) = some (.int .u64 (q.2.2.2 : Nat)) ∧
          q.2.1 < 18446744073709551616 ∧ q.2.2.2 < 18446744073709551616 ∧ (Lit.int .i64 q.2.2.1).wf = true := by
        intro i hi
        obtain ⟨cs', h1, h2⟩ := hx i (by omega)
        rw [ce] at h1
        obtain ⟨_, hlen, hcell⟩ := World.cells?_some h1
        obtain ⟨xs, k, hk, hxy, _, hxl, hff⟩ := DataW.trod_struct Tryz.underlying40 h2
        match xs, hxl, cs', hlen with
        | [y0, y1, y2, y3], _, [v0, v1, v2, v3], _ =>
          have g0 := hff 0 _ rfl
          have g1 := hff 1 _ rfl
          have g2 := hff 2 _ rfl
          have g3 := hff 3 _ rfl
          simp [ci, cu] at g0 g1 g2 g3
          obtain ⟨n0, e0, -, w0⟩ := DataW.trod_int Tryz.underlying3 g0
          obtain ⟨n1, e1, -, w1⟩ := DataW.trod_int Tryz.underlying29 g1
          obtain ⟨n2, e2, -, w2⟩ := DataW.trod_int Tryz.underlying3 g2
          obtain ⟨n3, e3, -, w3⟩ := DataW.trod_int Tryz.underlying29 g3
          obtain ⟨x1, rfl, hx1⟩ := u64_of_wf w1
          obtain ⟨x3, rfl, hx3⟩ := u64_of_wf w3
          have c0 := hcell 0 (by omega)
          have c1 := hcell 1 (by omega)
          have c2 := hcell 2 (by omega)
          have c3 := hcell 3 (by omega)
          rw [Deep.add_add] at c0 c1 c2 c3
          simp at e0 e1 e2 e3
          subst e0 e1 e2 e3
          exact ⟨(n0, x1, n2, x3), by simpa using c0, by simpa using c1, by simpa using c2, by simpa using c3, hx1.out, hx3.out, w2⟩
      obtain ⟨q, hq⟩ := Deep.choose_lt each
      obtain ⟨ab, ao, asp⟩ := a
      have q0 := (hq 0 (by omega)).1
      have hlt : ab < W.heap.size := block_lt_of_cell q0
      have hs : asp = none := by
        cases asp with
        | none => rfl
        | some s => simp [World.cell?, Addr.add] at q0; split at q0 <;> cases q0
      subst hs
      refine ⟨_, ab, ao, len0, cap0, fun i => (q i).1, fun i => (q i).2.2.1, fun i => (q i).2.1, fun i => (q i).2.2.2, rfl, fun i hi => ?_, fun _ => ⟨rfl, hlt⟩, .inr ?_⟩
      · obtain ⟨h1, h2, h3, h4, h5⟩ := hq i hi
        rw [Go.WideShapes.add_plain] at h1 h2 h3 h4
        exact ⟨h1, by rw [Nat.add_assoc]; exact h2, by rw [Nat.add_assoc]; exact h3, by rw [Nat.add_assoc]; exact h4, h5⟩
      · injection hxe with hd hp
        exact ⟨_, _, hd, by simp⟩

theorem ev_list {w : World} {b o n : Nat} (h : ∀ i, i < n → ∃ e : Ev, w.cell? ⟨b, o + i * 4, none⟩ = some (.int .i64 e.cyc) ∧ w.cell? ⟨b, o + i * 4 + 1, none⟩ = some (.int .i64 e.kind) ∧ w.cell? ⟨b, o + i * 4 + 2, none⟩ = some (.int .i64 e.n) ∧ w.cell? ⟨b, o + i * 4 + 3, none⟩ = some (.int .u64 (e.v : Nat)) ∧ e.v < 18446744073709551616) :
    ∃ L : List Ev, L.length = n ∧ (∀ i, i < 4 * n → w.cell? ⟨b, o + i, none⟩ = (evsCells L)[i]?) ∧ ∀ e ∈ L, e.v < 18446744073709551616 := by
  haveI : Inhabited Ev := ⟨⟨0, 0, 0, 0⟩⟩
  obtain ⟨q, hq⟩ := Deep.choose_lt h
  have hl : ((List.range n).map q).length = n := by simp
  refine ⟨(List.range n).map q, hl, fun i hi => ?_, fun e he => ?_⟩
  · have hk : i / 4 < n := by omega
    have hj : i % 4 < 4 := by omega
    have he : ((List.range n).map q)[i / 4]? = some (q (i / 4)) := by simp [hk]
    have h2 := evs_get ((List.range n).map q) (i / 4) (i % 4) (q (i / 4)) he hj
    rw [show 4 * (i / 4) + i % 4 = i by omega] at h2
    rw [h2]
    obtain ⟨h0, h1, h3, h4, -⟩ := hq (i / 4) hk
    have i4 : i % 4 = 0 ∨ i % 4 = 1 ∨ i % 4 = 2 ∨ i % 4 = 3 := by omega
    rcases i4 with e | e | e | e <;> rw [e]
    · rw [show o + i = o + i / 4 * 4 by omega]; exact h0
    · rw [show o + i = o + i / 4 * 4 + 1 by omega]; exact h1
    · rw [show o + i = o + i / 4 * 4 + 2 by omega]; exact h3
    · rw [show o + i = o + i / 4 * 4 + 3 by omega]; exact h4
  · obtain ⟨i, hi, rfl⟩ := List.mem_map.1 he
    exact (hq i (List.mem_range.1 hi)).2.2.2.2
/-- The inputs that came in. -/
theorem open_events {H : Type} {enc : TypeId × Value → H} {W : World} {v : Value} {d : DataW H} {p : List MemPlace} (hv : ∃ a len cap, v = .slice a len cap) (h : DataW.Trod enc Tryz.prog W 0 (fun _ => true) true 23 v d p) :
    ∃ (sa : Option Addr) (b o n cap : Nat) (L : List Ev), v = .slice sa n cap ∧ IsE W sa n cap b o L ∧ (∀ e ∈ L, e.v < 18446744073709551616) ∧ (n = 0 ∨ ∃ elems spare, d = .slice elems spare ∧ elems.length = n) := by
  obtain ⟨a0, len0, cap0, rfl⟩ := hv
  obtain ⟨fuel, hf⟩ := h
  have ce : Tryz.prog.cellsOf 38 = 4 := by kernel_rfl
  have ci : Tryz.prog.cellsOf 3 = 1 := by kernel_rfl
  have cu : Tryz.prog.cellsOf 29 = 1 := by kernel_rfl
  have c6 : Tryz.prog.cellsOf 2 = 1 := by kernel_rfl
  rcases Deep.open_slice Tryz.underlying23 hf with ⟨h0, -⟩ | ⟨a, len, cap, m, n, D, Pl, h0, hb, hl, hm, hmm, hxe, hx⟩
  · simp [Value.cells] at h0
    obtain ⟨rfl, rfl, rfl⟩ := h0
    exact ⟨_, 0, 0, 0, _, [], rfl, ⟨rfl, Nat.zero_le _, fun h => absurd h (Nat.lt_irrefl _), fun i hi => by omega⟩, fun e he => (List.not_mem_nil he).elim, .inl rfl⟩
  · simp [Value.cells] at h0
    obtain ⟨rfl, rfl, rfl⟩ := h0
    by_cases hz : len0 = 0
    · subst hz; exact ⟨_, 0, 0, 0, _, [], rfl, ⟨rfl, Nat.zero_le _, fun h => absurd h (Nat.lt_irrefl _), fun i hi => by omega⟩, fun e he => (List.not_mem_nil he).elim, .inl rfl⟩
    · 
      have hlm : len0 ≤ m := by rw [hmm]; simp; omega
      have each : ∀ i, i < len0 → ∃ e : Ev, W.cell? (a.add (i * 4)) = some (.int .i64 e.cyc) ∧ W.cell? (a.add (i * 4 + 1)) = some (.int .i64 e.kind) ∧ W.cell? (a.add (i * 4 + 2)) = some (.int .i64 e.n) ∧ W.cell? (a.add (i * 4 + 3)) = some (.int .u64 (e.v : Nat)) ∧ e.v < 18446744073709551616 := by
        intro i hi
        obtain ⟨cs', h1, h2⟩ := hx i (by omega)
        rw [ce] at h1
        obtain ⟨_, hlen, hcell⟩ := World.cells?_some h1
        obtain ⟨xs, k, hk, hxy, _, hxl, hff⟩ := DataW.trod_struct Tryz.underlying38 h2
        match xs, hxl, cs', hlen with
        | [y0, y1, y2, y3], _, [v0, v1, v2, v3], _ =>
          have g0 := hff 0 _ rfl
          have g1 := hff 1 _ rfl
          have g2 := hff 2 _ rfl
          have g3 := hff 3 _ rfl
          simp [ci, cu, c6] at g0 g1 g2 g3
          obtain ⟨n0, e0, -, w0⟩ := DataW.trod_int Tryz.underlying2 g0
          obtain ⟨n1, e1, -, w1⟩ := DataW.trod_int Tryz.underlying3 g1
          obtain ⟨n2, e2, -, w2⟩ := DataW.trod_int Tryz.underlying3 g2
          obtain ⟨n3, e3, -, w3⟩ := DataW.trod_int Tryz.underlying29 g3
          obtain ⟨x3, rfl, hx3⟩ := u64_of_wf w3
          have c0 := hcell 0 (by omega)
          have c1 := hcell 1 (by omega)
          have c2 := hcell 2 (by omega)
          have c3 := hcell 3 (by omega)
          rw [Deep.add_add] at c0 c1 c2 c3
          simp at e0 e1 e2 e3
          subst e0 e1 e2 e3
          exact ⟨⟨n0, n1, n2, x3⟩, by simpa using c0, by simpa using c1, by simpa using c2, by simpa using c3, hx3.out⟩
      obtain ⟨e0, he0⟩ := each 0 (by omega)
      obtain ⟨ab, ao, asp⟩ := a
      have q0 := he0.1
      have hlt : ab < W.heap.size := block_lt_of_cell q0
      have hs : asp = none := by
        cases asp with
        | none => rfl
        | some s => simp [World.cell?, Addr.add] at q0; split at q0 <;> cases q0
      subst hs
      obtain ⟨L, l1, l2, l3⟩ := ev_list (w := W) (b := ab) (o := ao) (n := len0) (fun i hi => by
        obtain ⟨e, h1, h2, h3, h4, h5⟩ := each i hi
        rw [Go.WideShapes.add_plain] at h1 h2 h3 h4
        exact ⟨e, h1, by rw [Nat.add_assoc]; exact h2, by rw [Nat.add_assoc]; exact h3, by rw [Nat.add_assoc]; exact h4, h5⟩)
      refine ⟨_, ab, ao, len0, cap0, L, rfl, ⟨l1, hl, fun _ => ⟨rfl, hlt⟩, l2⟩, l3, .inr ?_⟩
      injection hxe with hd hp
      exact ⟨_, _, hd, by simp⟩
theorem bytesE : Tryz.prog.bytesOf 38 = 32 := by kernel_rfl
theorem bytesS : Tryz.prog.bytesOf 40 = 32 := by kernel_rfl
/-- Of a slice of things of 32 bytes, the j-th argument, there can't be many. -/
theorem few {H : Type} {ts : List TypeId} {ds : List (DataW H)} {d : DataW H} {n j : Nat} {t e : TypeId} (hd : n = 0 ∨ ∃ elems spare, d = .slice elems spare ∧ elems.length = n) (hsz : (DataW.weightsEach Tryz.prog ts ds).all (· ≤ reachBytes) = true) (ht : ts[j]? = some t) (hdj : ds[j]? = some d) (hu : Tryz.prog.underlying t = some (.slice e)) (hb : Tryz.prog.bytesOf e = 32) : n < 4398046511104 := by
  rcases hd with rfl | ⟨elems, spare, rfl, rfl⟩
  · decide
  · have := sized_slice hsz (j := j) (t := t) (e := e) ht hdj hu
    rw [hb] at this
    simp only [reachBytes] at this
    omega
end Go.Proofs.YtoicpikkcefheaaGreat
