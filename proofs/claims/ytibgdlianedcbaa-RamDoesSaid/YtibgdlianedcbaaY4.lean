/- The image and the steps that came in, with their bytes. What the walk of RamDoes wants. -/
import Derived.Test.YtibgdlianedcbaaF4
import Derived.Test.YtibgdlianedcbaaY2
import Derived.Deep.RegionWith
import Derived.Deep.LoopGhost
import Derived.Deep.CutBlock
import Derived.Deep.CutRange
import Derived.Lib.QuietBelow
import Derived.Deep.QuietTactic
import Derived.BigQuiet
namespace Go.Proofs.Ytibgdlianedcbaa
open Go.ChangeShapes Go.WideShapes Go.ChangeAt Go.RowKit
set_option linter.unusedVariables false
set_option linter.unusedSimpArgs false
theorem open_image {H : Type} {enc : TypeId × Value → H} {W : World} {v : Value} {d : DataW H} {p : List MemPlace} (hv : ∃ a len cap, v = .slice a len cap) (h : DataW.Trod enc Try.prog W 0 (fun _ => true) true 22 v d p) :
    ∃ (a : Option Addr) (b o n cap : Nat) (R : Nat → Nat), v = .slice a n cap ∧ (0 < n → a = some ⟨b, o, none⟩ ∧ b < W.heap.size) ∧ n ≤ cap ∧ (∀ i, i < n → W.cell? ⟨b, o + i, none⟩ = some (.int .u8 (R i : Nat))) ∧ (∀ i, R i < 256) ∧ n ≤ 9223372036854775807 ∧ (n = 0 ∨ ∃ elems spare, d = .slice elems spare ∧ elems.length = n) := by
  obtain ⟨a0, len0, cap0, rfl⟩ := hv
  obtain ⟨fuel, hf⟩ := h
  have cu : Try.prog.cellsOf 5 = 1 := by kernel_rfl
  rcases Deep.open_slice1 Try.underlying22 cu hf with ⟨h0, -⟩ | ⟨a, len, cap, m, n, V, D, Pl, h0, hb, hl, hm, hmm, hxe, hx⟩
  · simp [Value.cells] at h0
    obtain ⟨rfl, rfl, rfl⟩ := h0
    exact ⟨none, 0, 0, 0, 0, fun _ => 0, rfl, fun h => absurd h (by omega), Nat.le_refl _, fun i hi => absurd hi (by omega), fun _ => by show 0 < 256; decide, by omega, .inl rfl⟩
  · simp [Value.cells] at h0
    obtain ⟨rfl, rfl, rfl⟩ := h0
    have hcap : len0 ≤ 9223372036854775807 := by
      have : len0 ≤ maxLen := Nat.le_trans hl hm
      unfold maxLen at this
      omega
    by_cases hz : len0 = 0
    · subst hz
      exact ⟨some a, 0, 0, 0, cap0, fun _ => 0, rfl, fun h => absurd h (by omega), Nat.zero_le _, fun i hi => absurd hi (by omega), fun _ => by show 0 < 256; decide, by omega, .inl rfl⟩
    · have hlm : len0 ≤ m := by rw [hmm]; simp; omega
      have each : ∀ i, i < len0 → ∃ r : Nat, W.cell? (a.add i) = some (.int .u8 (r : Nat)) ∧ r < 256 := by
        intro i hi
        obtain ⟨h1, h2⟩ := hx i (by omega)
        obtain ⟨k, e0, -, w0⟩ := DataW.trod_int Try.underlying5 h2
        obtain ⟨r, rfl, hr⟩ := u8_of_wf w0
        simp at e0
        rw [e0] at h1
        exact ⟨r, h1, hr.out⟩
      obtain ⟨q, hq⟩ := Deep.choose_lt each
      obtain ⟨ab, ao, asp⟩ := a
      have q0 := (hq 0 (by omega)).1
      have hlt : ab < W.heap.size := block_lt_of_cell q0
      have hs : asp = none := by
        cases asp with
        | none => rfl
        | some s => simp [World.cell?, Addr.add] at q0; split at q0 <;> cases q0
      subst hs
      refine ⟨_, ab, ao, len0, cap0, fun i => if i < len0 then q i else 0, rfl, fun _ => ⟨rfl, hlt⟩, hl, fun i hi => ?_, fun i => ?_, hcap, .inr ?_⟩
      · have h1 := (hq i hi).1
        rw [Go.WideShapes.add_plain] at h1
        show W.cell? _ = some (.int .u8 ((if i < len0 then q i else 0 : Nat) : Int))
        rw [if_pos hi]; exact h1
      · show (if i < len0 then q i else 0) < 256
        by_cases c : i < len0
        · rw [if_pos c]; exact (hq i c).2
        · rw [if_neg c]; decide
      · injection hxe with hd hp
        exact ⟨_, _, hd, by simp⟩
theorem open_steps5 {H : Type} {enc : TypeId × Value → H} {W : World} {v : Value} {d : DataW H} {p : List MemPlace} (hv : ∃ a len cap, v = .slice a len cap) (h : DataW.Trod enc Try.prog W 0 (fun _ => true) true 23 v d p) :
    ∃ (a : Option Addr) (b o n cap : Nat) (K Z : Nat → Int) (A V : Nat → Nat) (X : Nat → Option Addr) (XL XC : Nat → Nat), v = .slice a n cap ∧ (0 < n → a = some ⟨b, o, none⟩ ∧ b < W.heap.size) ∧ Steps W b o n K Z A V X XL XC ∧ n ≤ 9223372036854775807 ∧ (∀ i, i < n → ∃ g o B, Byt W (X i) g o (XL i) (XC i) B) := by
  obtain ⟨a0, len0, cap0, rfl⟩ := hv
  obtain ⟨fuel, hf⟩ := h
  have ce : Try.prog.cellsOf 32 = 5 := by kernel_rfl
  have ci : Try.prog.cellsOf 3 = 1 := by kernel_rfl
  have cu : Try.prog.cellsOf 30 = 1 := by kernel_rfl
  have cs : Try.prog.cellsOf 22 = 1 := by kernel_rfl
  have none_case : ∀ (a : Option Addr) (cap : Nat), ∃ (a' : Option Addr) (b o n cap' : Nat) (K Z : Nat → Int) (A V : Nat → Nat) (X : Nat → Option Addr) (XL XC : Nat → Nat), Value.slice a 0 cap = .slice a' n cap' ∧ (0 < n → a' = some ⟨b, o, none⟩ ∧ b < W.heap.size) ∧ Steps W b o n K Z A V X XL XC ∧ n ≤ 9223372036854775807 ∧ (∀ i, i < n → ∃ g o B, Byt W (X i) g o (XL i) (XC i) B) := fun a cap =>
    ⟨a, 0, 0, 0, cap, fun _ => 0, fun _ => 0, fun _ => 0, fun _ => 0, fun _ => none, fun _ => 0, fun _ => 0, rfl, fun h => absurd h (by omega), fun i hi => absurd hi (by omega), by omega, fun i hi => absurd hi (by omega)⟩
  rcases Deep.open_slice Try.underlying23 hf with ⟨h0, -⟩ | ⟨a, len, cap, m, n, D, Pl, h0, hb, hl, hm, hmm, -, hx⟩
  · simp [Value.cells] at h0
    obtain ⟨rfl, rfl, rfl⟩ := h0
    exact none_case _ _
  · simp [Value.cells] at h0
    obtain ⟨rfl, rfl, rfl⟩ := h0
    by_cases hz : len0 = 0
    · subst hz; exact none_case _ _
    · have hlm : len0 ≤ m := by rw [hmm]; simp; omega
      have each : ∀ i, i < len0 → ∃ q : Int × Nat × Int × Nat × Option Addr × Nat × Nat, W.cell? (a.add (i * 5)) = some (.int .i64 q.1) ∧ W.cell? (a.add (i * 5 + 1)) = some (.int .u64 (q.2.1 : Nat)) ∧ W.cell? (a.add (i * 5 + 2)) = some (.int .i64 q.2.2.1) ∧ W.cell? (a.add (i * 5 + 3)) = some (.int .u64 (q.2.2.2.1 : Nat)) ∧
          W.cell? (a.add (i * 5 + 4)) = some (.slice q.2.2.2.2.1 q.2.2.2.2.2.1 q.2.2.2.2.2.2) ∧ q.2.1 < 18446744073709551616 ∧ q.2.2.2.1 < 18446744073709551616 ∧ ∃ g o B, Byt W q.2.2.2.2.1 g o q.2.2.2.2.2.1 q.2.2.2.2.2.2 B := by
        intro i hi
        obtain ⟨cs', h1, h2⟩ := hx i (by omega)
        rw [ce] at h1
        obtain ⟨_, hlen, hcell⟩ := World.cells?_some h1
        obtain ⟨xs, k, hk, hxy, _, hxl, hff⟩ := DataW.trod_struct Try.underlying32 h2
        match xs, hxl, cs', hlen with
        | [y0, y1, y2, y3, y4], _, [v0, v1, v2, v3, v4], _ =>
          have g0 := hff 0 _ rfl
          have g1 := hff 1 _ rfl
          have g2 := hff 2 _ rfl
          have g3 := hff 3 _ rfl
          have g4 := hff 4 _ rfl
          simp [ci, cu, cs] at g0 g1 g2 g3 g4
          obtain ⟨n0, e0, -, w0⟩ := DataW.trod_int Try.underlying3 g0
          obtain ⟨n1, e1, -, w1⟩ := DataW.trod_int Try.underlying30 g1
          obtain ⟨n2, e2, -, w2⟩ := DataW.trod_int Try.underlying3 g2
          obtain ⟨n3, e3, -, w3⟩ := DataW.trod_int Try.underlying30 g3
          obtain ⟨x1, rfl, hx1⟩ := u64_of_wf w1
          obtain ⟨x3, rfl, hx3⟩ := u64_of_wf w3
          have hB : ∃ sa g o n c B, v4 = .slice sa n c ∧ Byt W sa g o n c B := by
            have hv4 : ∃ a len cap, v4 = .slice a len cap := by
              rcases Deep.open_slice Try.underlying22 g4 with ⟨h0, -⟩ | ⟨a, len, cap, m, n, D, Pl, h0, -⟩
              · simp at h0; exact ⟨_, _, _, h0⟩
              · simp at h0; exact ⟨_, _, _, h0⟩
            have hT : ∃ y P, DataW.Trod enc Try.prog W 0 (fun _ => true) true 22 v4 y P := by
              obtain ⟨x1, x2, x3, e⟩ := hv4
              subst e
              exact ⟨_, _, _, by simpa [Value.cells] using g4⟩
            obtain ⟨y, P, hT⟩ := hT
            obtain ⟨a9, b9, o9, n9, c9, R9, r1, r2, r3, r4, r5, -⟩ := open_bytes hv4 hT
            exact ⟨a9, b9, o9, n9, c9, R9, r1, r2, r3, r4, r5⟩
          obtain ⟨sa, g, o, sl, sc, B, e4, hB⟩ := hB
          have c0 := hcell 0 (by omega)
          have c1 := hcell 1 (by omega)
          have c2 := hcell 2 (by omega)
          have c3 := hcell 3 (by omega)
          have c4 := hcell 4 (by omega)
          rw [Deep.add_add] at c0 c1 c2 c3 c4
          simp at e0 e1 e2 e3
          subst e0 e1 e2 e3 e4
          exact ⟨(n0, x1, n2, x3, sa, sl, sc), by simpa using c0, by simpa using c1, by simpa using c2, by simpa using c3, by simpa using c4, hx1.out, hx3.out, g, o, B, hB⟩
      obtain ⟨q, hq⟩ := Deep.choose_lt each
      obtain ⟨ab, ao, asp⟩ := a
      have q0 := (hq 0 (by omega)).1
      have hlt : ab < W.heap.size := block_lt_of_cell q0
      have hs : asp = none := by
        cases asp with
        | none => rfl
        | some s => simp [World.cell?, Addr.add] at q0; split at q0 <;> cases q0
      subst hs
      refine ⟨_, ab, ao, len0, cap0, fun i => (q i).1, fun i => (q i).2.2.1, fun i => (q i).2.1, fun i => (q i).2.2.2.1, fun i => (q i).2.2.2.2.1, fun i => (q i).2.2.2.2.2.1, fun i => (q i).2.2.2.2.2.2, rfl, fun _ => ⟨rfl, hlt⟩, fun i hi => ?_, ?_, fun i hi => (hq i hi).2.2.2.2.2.2.2⟩
      · obtain ⟨h1, h2, h3, h4, h5, h6, h7, -⟩ := hq i hi
        rw [Go.WideShapes.add_plain] at h1 h2 h3 h4 h5
        exact ⟨h1, by rw [Nat.add_assoc]; exact h2, by rw [Nat.add_assoc]; exact h3, by rw [Nat.add_assoc]; exact h4, by rw [Nat.add_assoc]; exact h5, h6, h7⟩
      · have : len0 ≤ maxLen := Nat.le_trans hl hm
        unfold maxLen at this
        omega
theorem bytes8 : Try.prog.bytesOf 5 = 1 := by kernel_rfl
theorem few_bytes {H : Type} {d d2 : DataW H} {n : Nat} {t2 : TypeId} (hd : n = 0 ∨ ∃ elems spare, d = .slice elems spare ∧ elems.length = n) (hsz : (DataW.weightsEach Try.prog [22, t2] [d, d2]).all (· ≤ reachBytes) = true) : n ≤ 140737488355328 := by
  rcases hd with rfl | ⟨elems, spare, rfl, rfl⟩
  · decide
  · have := sized_slice hsz (j := 0) (t := 22) (e := 5) rfl rfl Try.underlying22
    rw [bytes8] at this
    simp only [reachBytes] at this
    omega
end Go.Proofs.Ytibgdlianedcbaa
namespace Go.Proofs.Ytibgdlianedcbaa
open Go.ChangeShapes Go.WideShapes Go.ChangeAt Go.RowKit
set_option linter.unusedVariables false
def Z0 : Nat → Nat := fun _ => 0
def bL (n : Nat) (X : Nat → Nat) : List Nat := (List.range n).map X
theorem bL_len (n : Nat) (X : Nat → Nat) : (bL n X).length = n := by simp [bL]
theorem bL_get (n : Nat) (X : Nat → Nat) (i : Nat) (hi : i < n) : (bL n X).getD i 0 = X i := by simp [bL, hi]
theorem Byt.first {w : World} {sa : Option Addr} {g o n c : Nat} {X : Nat → Nat} (h : Byt w sa g o n c X) : (Builtin.firstCells 1 n (.slice sa n c)).run Try.prog w = .ok (cel8 (bL n X)).toArray w := by
  by_cases h0 : n = 0
  · subst h0
    cases sa with
    | none => exact run_firstCells_none w 1 0 0 c
    | some ad => exact run_firstCells_some w 1 0 ad 0 c [] rfl (fun j v hj => by cases hj)
  · obtain ⟨h1, h2⟩ := h.1 (by omega)
    subst h1
    refine run_firstCells_some w 1 n _ n c (cel8 (bL n X)) (by simp [cel8, bL_len]) (fun j v hj => ?_)
    have hj2 : j < (bL n X).length := by
      have := (List.getElem?_eq_some_iff.1 hj).1
      simpa [cel8] using this
    rw [cel8_get _ j hj2, bL_get n X j (by rw [bL_len] at hj2; exact hj2)] at hj
    rw [bL_len] at hj2
    rw [Go.WideShapes.add_plain, h.2.2.1 j hj2]; exact hj
theorem Byt.src {w : World} {sa : Option Addr} {g o n c : Nat} {X : Nat → Nat} (h : Byt w sa g o n c X) : Src Try.prog 1 22 (.slice sa n c) n (cel8 (bL n X)) w :=
  ⟨.inl ⟨_, Try.underlying22⟩, fun _ => rfl, h.first, (h.below (below_drewN (Below.refl _ _) 1)).first, by simp [cel8, bL_len], fun u hu => by
    obtain ⟨_, _, rfl⟩ := List.mem_map.1 hu
    rfl⟩
theorem Byt.conv {w : World} {sa : Option Addr} {g o n c : Nat} {X : Nat → Nat} (h : Byt w sa g o n c X) : (convert 22 9 (.slice sa n c)).run Try.prog w = .ok (.string (strB (bL n X))) w := by
  by_cases h0 : n = 0
  · subst h0
    cases sa with
    | none => exact run_convert_bytes_nil w 22 5 Try.underlying22 Try.underlying5 0 c _ Try.underlying9
    | some ad =>
      rw [run_convert_bytes_string w 22 9 5 _ 0 c Try.underlying22 Try.underlying5 Try.underlying9]
      exact run_bytesToString w ad 0 c [] (run_loadCells_list w ad [] (fun j v hj => by cases hj))
  · obtain ⟨e1, e2⟩ := h.1 (by omega)
    subst e1
    refine run_convert_bytes_arg w 22 5 Try.underlying22 Try.underlying5 g o n c _ (by simp [bL_len]) (fun i hi => ?_) _ Try.underlying9
    rw [h.2.2.1 i hi]
    simp [bL, hi]
theorem Bes.conv {w0 w : World} {l : List Th} (h : Bes w0 l w) (i : Nat) {a : Option Addr} {n c : Nat} {L : List Nat} (hi : l[i]? = some (eB (.slice a n c) L)) : (convert 22 9 (.slice a n c)).run Try.prog w = .ok (.string (strB L)) w := by
  obtain ⟨a9, n9, c9, g9, o9, e9, s9⟩ := h.bytes i hi
  injection e9 with e91 e92 e93
  subst e91 e92 e93
  exact conv_b s9
theorem Bes.drawn {w0 w : World} {l : List Th} (h : Bes w0 l w) (j : Nat) : Bes w0 l (w.drewN j) := h.below (below_drewN (Below.refl _ _) j)
theorem layI_congr (F : Nat → Nat) (n : Nat) (X Y : Nat → Nat) (h : ∀ i, i < n → X i = Y i) : layI F n X = layI F n Y := by
  unfold layI
  split
  · funext x
    unfold layF
    split
    · exact h _ (by omega)
    · rfl
  · rfl
/-- What the memory was when it was last copied. -/
def Oldt (t : List Th) (m r od ws : Nat) : Prop := (t = [] ∧ od = m ∧ ws = r) ∨ ∃ G, t = [eM od G, eR ws G]
/-- A copy of its own. -/
theorem append_all2 {w : World} {a : Option Addr} {n c : Nat} {L : List Nat} {ops : Array Oper} {rest : List Oper} {op : Oper} {A : Act} {Q : Exit → Act → World → Prop} (hgd : op.guard = none) (s x : Operand)
    (ho : op.op = .call { callee := .builtin .append, args := #[s, x], argTypes := #[22, 22] })
    (hl : L.length = n) (hsrc : Src Try.prog 1 22 (.slice a n c) n (cel8 L) w) (sa : Option Addr) (hs : A.eval s = .slice sa 0 0) (hx : A.eval x = .slice a n c) (hn : n ≤ 140737488355328)
    (k : ∀ a' c' g' w', SlA w' a' n c' g' 0 L → Below w.heap.size w w' → (0 < c' → w.heap.size ≤ g') → wpList Try.prog ops Q rest (A.put op.dst (.slice a' n c')) w') : wpList Try.prog ops Q (op :: rest) A w := by
  obtain ⟨a', c', g', w', hrun, h1, h2, h3⟩ := run_all2 hl hsrc sa op.type hn
  refine wpList_plain hgd fun K hK => ?_
  unfold Oper.wp execOp
  simp only [ho, resolve, invoke, builtin, Sem.run_bind, Sem.run_pure, Result.andThen_ok, List.map_toArray, List.map_cons, List.map_nil, hs, hx]
  rw [hrun]
  exact hK _ _ (k a' c' g' w' h1 h2 h3)
theorem Bes.rest {w0 w : World} {E : Th} {l : List Th} (h : Bes w0 (E :: l) w) : Bes w0 l w := h.pick _ (· + 1) (fun i F hi => by rw [List.getElem?_cons_succ]; exact hi) (fun i j _ _ hne q => hne (by omega))
theorem Bes.front {w0 w : World} {E : Th} {l : List Th} (h : Bes w0 (l ++ [E]) w) : Bes w0 (E :: l) w := h.pick _ (fun i => if i = 0 then l.length else i - 1) (fun i F hi => by
    match i, hi with
    | 0, hi => show (l ++ [E])[if 0 = 0 then l.length else 0 - 1]? = _; rw [if_pos rfl, List.getElem?_append_right (Nat.le_refl _), Nat.sub_self]; exact hi
    | n + 1, hi =>
      show (l ++ [E])[if n + 1 = 0 then l.length else n + 1 - 1]? = _
      rw [if_neg (by omega), Nat.add_sub_cancel]
      rw [List.getElem?_cons_succ] at hi
      rw [List.getElem?_append_left (len_of2 hi)]; exact hi) (fun i j hi hj hne => by
    rw [List.length_cons] at hi hj
    show (if i = 0 then l.length else i - 1) ≠ (if j = 0 then l.length else j - 1)
    split <;> split <;> omega)
theorem Bes.three {w0 w : World} {A B C : Th} {l : List Th} (h : Bes w0 (A :: B :: C :: l) w) : Bes w0 [A, B, C] w := h.pick _ id (fun i F hi => by
    match i, hi with
    | 0, hi => exact hi
    | 1, hi => exact hi
    | 2, hi => exact hi
    | n + 3, hi => simp at hi) (fun i j _ _ h => h)
theorem Bes.two {w0 w : World} {A B : Th} {l : List Th} (h : Bes w0 (A :: B :: l) w) : Bes w0 [A, B] w := h.pick _ id (fun i F hi => by
    match i, hi with
    | 0, hi => exact hi
    | 1, hi => exact hi
    | n + 2, hi => simp at hi) (fun i j _ _ h => h)
theorem Bes.swap4 {w0 w : World} {E A B C D : Th} (h : Bes w0 [E, A, B, C, D] w) : Bes w0 [C, D, A, B] w := h.pick _ (fun i => if i = 0 then 3 else if i = 1 then 4 else i - 1) (fun i F hi => by
    match i, hi with
    | 0, hi => exact hi
    | 1, hi => exact hi
    | 2, hi => exact hi
    | 3, hi => exact hi
    | n + 4, hi => simp at hi) (fun i j hi hj hne => by
    have hi2 : i < 4 := hi
    have hj2 : j < 4 := hj
    show (if i = 0 then 3 else if i = 1 then 4 else i - 1) ≠ (if j = 0 then 3 else if j = 1 then 4 else j - 1)
    split <;> split <;> (try split) <;> (try split) <;> omega)
theorem oldt_at {w0 : World} {t : List Th} {m r od ws : Nat} {F : Nat → Nat} (h : Oldt t m r od ws) : ∃ G, ∀ w9 E, Bes w0 (E :: eM m F :: eR r F :: t) w9 → (∃ R, IsRm R w9 r F) ∧ (∃ R, IsRm R w9 ws G) ∧ (∃ S, MemS S w9 m F) ∧ ∃ S, MemS S w9 od G := by
  rcases h with ⟨h1, h2, h3⟩ | ⟨G, h1⟩
  · subst h1 h2 h3
    exact ⟨F, fun w9 E h => ⟨h.isR 2 rfl, h.isR 2 rfl, h.isM 1 rfl, h.isM 1 rfl⟩⟩
  · subst h1
    exact ⟨G, fun w9 E h => ⟨h.isR 2 rfl, h.isR 4 rfl, h.isM 1 rfl, h.isM 3 rfl⟩⟩
theorem q_bool {W : World} {dd : Nat} {os : Array Obj} {f : FuncId} {args : Array Value} {n m : Bool} (h : n = m) (c : Calls Try.prog f args (Go.Sort.grow (redrawn W dd) os) (RetB n (Go.Sort.grow (redrawn W dd) os))) :
    Calls Try.prog f args (Go.Sort.grow (redrawn W dd) os) fun e w'' => e = .returned (.bool m) ∧ ∃ p : Regrown, w'' = Go.Sort.grow (redrawn W p.d) p.os := Calls.regrown_of (c.mono fun _ _ h' => ⟨by rw [h'.1, h], h'.2⟩)
/-- The row of pages, as it came out. -/
theorem IsL.parts {w : World} {base : Nat} {v : Value} {L : List Nat} (h : IsL w base v L) : ∃ a c g, v = .slice a L.length c ∧ (0 < L.length → a = some ⟨g, 0, none⟩ ∧ base ≤ g ∧ RowU w g L.length (fun i => L.getD i 0)) := by
  rcases h with ⟨h1, rfl⟩ | ⟨g, cap, h1, h2, -, h4⟩
  · exact ⟨none, 0, 0, h1, fun h => by cases h⟩
  · exact ⟨_, cap, g, h1, fun _ => ⟨rfl, h2, h4⟩⟩
end Go.Proofs.Ytibgdlianedcbaa
