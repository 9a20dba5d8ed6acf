/- The document's own answers: slices of whole numbers; rows of places. -/
import Derived.Test.YtcfeeookjgdkmaaDoorR0
import Derived.Laws.AppendOwn
import Derived.Maps.AppendAt
import Derived.OwnWalk
import Derived.LoopN
namespace Go.Proofs.YtcfeeookjgdkmaaDoor
open Go.ChangeShapes Go.WideShapes Go.ChangeAt Go.RowKit
set_option linter.unusedVariables false
set_option linter.unusedSimpArgs false
def cellsI (L : List Nat) : List Value := L.map fun (n : Nat) => Value.int .i64 (n : Int)
/-- A slice of the call's own holds the numbers. -/
def OwnI (w : World) (base : Nat) (v : Value) (L : List Nat) : Prop := w.ownsRow base 3 1 v L.length (cellsI L)
theorem own_lt {w : World} {base : Nat} {v : Value} {L : List Nat} (h : OwnI w base v L) : ∀ k, v.ownBlock = some k → base ≤ k ∧ k < w.heap.size := World.ownsRow.lt (w := w) h
theorem own_below {w w' : World} {base : Nat} {v : Value} {L : List Nat} (h : OwnI w base v L) (hb : Below w.heap.size w w') : OwnI w' base v L := by
  refine World.ownsRow.kept (w := w) h (w' := w') (row := none) ⟨hb.os, hb.tape, hb.output, hb.size, fun k hk _ => hb.block k hk⟩ ?_
  cases h' : v.ownBlock
  · exact .inl rfl
  · exact .inr (by simp)
theorem own_alloc {w : World} {base : Nat} {v : Value} {L : List Nat} (h : OwnI w base v L) (o : Obj) : OwnI (w.alloc o) base v L := World.ownsRow.alloc (w := w) h o
theorem own_built (w : World) (base n : Nat) (cs : Array Value) (L : List Nat) (hb : base ≤ w.heap.size) (hn : L.length = n) (hl : n ≤ 1000) (hc : cs = (cellsI L).toArray) : OwnI (w.alloc (Obj.cells cs 3)) base (.slice (some ⟨w.heap.size, 0, none⟩) n n) L := by
  subst hc hn
  have hcl : (cellsI L).length = L.length := by simp [cellsI]
  refine ⟨by rw [hcl]; omega, .inr ⟨w.heap.size, L.length, _, rfl, hb, heap_alloc_last w _, Nat.le_refl _, by simp only [maxLen]; omega, by rw [List.size_toArray, hcl]; omega, ?_⟩⟩
  rw [Nat.mul_one, ← hcl]; simp
theorem info3 : (Tryd.prog.info? 3).map (fun i => (i.size, i.bytes, i.zero)) = some (1, 8, some (.int .i64 0)) := by kernel_rfl
theorem i3 : ∃ i, Tryd.prog.info? 3 = some i ∧ i.size = 1 ∧ i.bytes = 8 ∧ i.zero = some (.int .i64 0) := by
  have h := info3
  cases hi : Tryd.prog.info? 3 with
  | none => rw [hi] at h; exact absurd h (by simp)
  | some i =>
    rw [hi] at h
    simp only [Option.map_some, Option.some.injEq, Prod.mk.injEq] at h
    exact ⟨i, rfl, h.1, h.2.1, h.2.2⟩
theorem append_i {ops : Array Oper} {rest : List Oper} {o : Oper} {a : Act} {w : World} {Q : Exit → Act → World → Prop} (hgd : o.guard = none) (s x : Operand)
    (ho : o.op = .call { callee := .builtin .append, args := #[s, x], argTypes := #[43, 43] })
    (base : Nat) (v : Value) (L : List Nat) (hs : a.eval s = v) (hown : OwnI w base v L) (hL : L.length ≤ 500)
    (n : Nat) (g : Nat) (hx : a.eval x = .slice (some ⟨g, 0, none⟩) 1 1) (hc : w.cell? ⟨g, 0, none⟩ = some (.int .i64 n)) (hbase : base ≤ w.heap.size)
    (h : ∀ v' w', OwnI w' base v' (L ++ [n]) → w.grownBy w' v.ownBlock → (v'.ownBlock = v.ownBlock ∨ v'.ownBlock = some w.heap.size) → wpList Tryd.prog ops Q rest (a.put o.dst v') w') : wpList Tryd.prog ops Q (o :: rest) a w := by
  obtain ⟨i, hi, h1, h2, h3⟩ := i3
  refine wpList_append_own_at w hgd s x 43 ho base 3 i _ 1 8 Tryd.underlying43 hi h3 h1 h2 rfl (by decide) v L.length (cellsI L) hs hown ⟨g, 0, none⟩ 1 1 [.int .i64 n] hx rfl ?_ (by intro u hu; simp at hu; subst hu; rfl) (by simp only [maxLen]; omega) (by omega) hbase ?_
  · intro j u hj
    match j, hj with
    | 0, hj => simp at hj; subst hj; simpa [Addr.add] using hc
  · intro v' w' q1 q2 _ q3
    refine h v' w' ?_ q2 q3
    unfold OwnI
    rw [List.length_append, show cellsI (L ++ [n]) = cellsI L ++ [.int .i64 n] by simp [cellsI]]; exact q1
theorem grown_below {w w' : World} {base : Nat} {v : Value} {L : List Nat} (h : OwnI w base v L) (hg : w.grownBy w' v.ownBlock) (hb : base ≤ w.heap.size) : Below base w w' :=
  Below.grown (Below.refl _ _) hg hb (fun k hk => (own_lt h k hk).1)
/-- Numbers at a block. -/
def NumsN (w : World) (B : Nat) (L : List Nat) : Prop := B < w.heap.size ∧ ∀ o, o < L.length → w.cell? ⟨B, o, none⟩ = some (.int .i64 (L.getD o 0 : Nat))
theorem nums_below {B B' : Nat} {w w' : World} {L : List Nat} (h : NumsN w B L) (hb : Below B' w w') (hB : w.heap.size ≤ B') : NumsN w' B L :=
  ⟨Nat.lt_of_lt_of_le h.1 hb.size, fun o ho => by rw [hb.cell (p := ⟨B, o, none⟩) (Nat.lt_of_lt_of_le h.1 hB)]; exact h.2 o ho⟩
theorem nums_alloc {B : Nat} {w : World} {L : List Nat} (h : NumsN w B L) (o : Obj) : NumsN (w.alloc o) B L := nums_below h ((Below.refl w.heap.size w).alloc (Nat.le_refl _) o) (Nat.le_refl _)
theorem nums_built (w : World) (cs : Array Value) (t : TypeId) (L : List Nat) (hc : cs = (cellsI L).toArray) : NumsN (w.alloc (Obj.cells cs t)) w.heap.size L := by
  subst hc
  refine ⟨by rw [sz_alloc]; omega, fun o ho => ?_⟩
  rw [World.cell?_alloc_at _ _ _ _ rfl]
  simp [cellsI, List.getD_eq_getElem?_getD, List.getElem?_eq_getElem ho]
theorem own_nums {w : World} {base : Nat} {v : Value} {L : List Nat} (h : OwnI w base v L) (h0 : 0 < L.length) : ∃ g cap, v = .slice (some ⟨g, 0, none⟩) L.length cap ∧ NumsN w g L := by
  rcases h.2 with ⟨rfl, h1⟩ | ⟨g, cap, cur, rfl, hbg, hg, hnc, hcm, hcs, htake⟩
  · exact absurd h1 (by omega)
  · refine ⟨g, cap, rfl, (own_lt h g rfl).2, fun o ho => ?_⟩
    have hc := World.ownsRow.cells (w := w) h rfl o (.int .i64 (L.getD o 0 : Nat)) (by simp [cellsI, List.getD_eq_getElem?_getD, List.getElem?_eq_getElem ho])
    by_cases ho0 : o = 0
    · subst ho0; simpa [Addr.add] using hc
    · simpa [Addr.add, ho0] using hc
theorem downL_len (hi k : Nat) : (downL hi k).length = k := by
  induction k with
  | zero => rfl
  | succ k ih => show (downL hi k ++ [hi - k]).length = k + 1; rw [List.length_append, ih]; rfl
def RetL (L : List Nat) (W : World) (e : Ending) (w' : World) : Prop := ∃ g cap, e = .returned (.slice (some ⟨g, 0, none⟩) L.length cap) ∧ NumsN w' g L ∧ Below W.heap.size W w'
theorem grow_i {w wr W0 w' : World} {l : Value} {L : List Nat} (hbw : Below w.heap.size w wr) (h0 : Below wr.heap.size wr W0) (hL : OwnI wr w.heap.size l L) (q2 : W0.grownBy w' l.ownBlock) : Below w.heap.size w w' :=
  below_step (grown_below (own_below hL h0) q2 (by have := hbw.size; have := h0.size; omega)) (hbw.trans (h0.mono hbw.size)) (Nat.le_refl _)
set_option maxRecDepth 100000 in
set_option maxHeartbeats 1000000 in
theorem rows_d (hi lo hi2 lo2 c1 c2 : Nat) (e1 : Hid (hi + 1 = lo + c1)) (e2 : Hid (hi2 + 1 = lo2 + c2)) (h1 : hi < 16) (h2 : hi2 < 16) (hc : 0 < c1) (w : World) :
    Calls Tryd.prog 24 #[.int .i64 hi, .int .i64 lo, .int .i64 hi2, .int .i64 lo2] w (RetL (downL hi c1 ++ downL hi2 c2) w) := by
  go_enter Tryd.func24, Tryd.ntmps24
  go_wp2_with fail
  go_loopw [9, 10] (fun l i wr => ∃ k : Nat, k ≤ c1 ∧ Hid (i = .int .i64 ((hi : Int) - k)) ∧ Hid (OwnI wr w.heap.size l (downL hi k)) ∧ Below w.heap.size w wr) (fun _ i _ => (intOf i + 1).toNat)
  case atStart => exact ⟨0, by omega, by show _ = _; simp, own_built w w.heap.size 0 _ [] (Nat.le_refl _) rfl (by decide) rfl, (by repeat (first | (with_reducible first | exact Below.refl _ _ | assumption | exact Nat.le_refl _ | refine Below.drew ?_ | refine Below.alloc ?_ ?_ _ | refine Below.setCell ?_ ?_ _ | refine le_alloc ?_ | refine le_set ?_ | refine le_drew ?_ | refine below_step (by assumption) ?_ ?_ | refine le_below (by assumption) ?_) | (dsimp only; omega)))⟩
  case round =>
    obtain ⟨k, hk, hi0, hL, hbw⟩ := hrel
    have hhi := e1.out
    by_cases hlt : k < c1
    · obtain ⟨m, hm⟩ : ∃ m : Nat, m = hi - k := ⟨_, rfl⟩
      have em := hi0.out
      rw [show (hi : Int) - (k : Int) = (m : Int) by omega] at em
      subst em
      have hlt' : (lo : Int) ≤ (m : Int) := by omega
      have HM : Hid ((m : Int) = (hi : Int) - k) := by show _ = _; omega
      have HD : Hid (downL hi (k + 1) = downL hi k ++ [m]) := by show _ = _; rw [hm]; rfl
      have hz := hbw.size
      have m1 : Hid (wrap64 ((m : Int) - 1) = (m : Int) - 1) := IntWalk.wrap64_in _ (by omega)
      clear hm hi0
      go_wp2_with (at_builtin; refine append_i rfl (.tmp 19) (.tmp 21) rfl w.heap.size u9 (downL hi k) (by simp [Act.eval, Act.put]) (own_alloc hL.out _) (by rw [downL_len]; omega) m wr.heap.size (by simp [Act.eval, Act.put]) (by rw [World.cell?_alloc_at _ _ _ _ rfl]; rfl) (by rw [sz_alloc]; omega) ?_; intro v' w' q1 q2 q3)
      have r1 := grow_i hbw ((Below.refl wr.heap.size wr).alloc (Nat.le_refl _) _) hL.out q2
      have Q1 : Hid (OwnI w' w.heap.size v' (downL hi (k + 1))) := by show OwnI _ _ _ _; rw [HD.out]; exact q1
      clear q1 q2 q3
      go_wp2_with fail
      go_roundw
      case rel => exact ⟨k + 1, by omega, by show _ = _; congr 1; have := HM.out; have := m1.out; omega, Q1, r1⟩
      case measure =>
        have := HM.out; have := m1.out
        first | (simp [intOf]; done) | (simp [intOf]; omega)
    · obtain rfl : k = c1 := by omega
      have em := hi0.out
      have hlt' : ¬ (lo : Int) ≤ (hi : Int) - k := by omega
      subst em
      clear hi0
      go_wp2_with fail
      clear hlt'
      go_loopw [9, 11] (fun l i wr => ∃ j : Nat, j ≤ c2 ∧ Hid (i = .int .i64 ((hi2 : Int) - j)) ∧ Hid (OwnI wr w.heap.size l (downL hi k ++ downL hi2 j)) ∧ Below w.heap.size w wr) (fun _ i _ => (intOf i + 1).toNat)
      case atStart => exact ⟨0, by omega, by show _ = _; simp, by show OwnI _ _ _ (_ ++ []); rw [List.append_nil]; exact hL.out, hbw⟩
      case round =>
        clear hL hbw
        obtain ⟨j, hj, hi0, hL, hbw⟩ := hrel
        have hhi2 := e2.out
        by_cases hlt : j < c2
        · obtain ⟨m, hm⟩ : ∃ m : Nat, m = hi2 - j := ⟨_, rfl⟩
          have em := hi0.out
          rw [show (hi2 : Int) - (j : Int) = (m : Int) by omega] at em
          subst em
          have hlt' : (lo2 : Int) ≤ (m : Int) := by omega
          have hlt2 : (0 : Int) ≤ (hi2 : Int) := by omega
          have HM : Hid ((m : Int) = (hi2 : Int) - j) := by show _ = _; omega
          have HD : Hid (downL hi2 (j + 1) = downL hi2 j ++ [m]) := by show _ = _; rw [hm]; rfl
          have hz := hbw.size
          have m1 : Hid (wrap64 ((m : Int) - 1) = (m : Int) - 1) := IntWalk.wrap64_in _ (by omega)
          clear hm hi0 hlt2
          go_wp2_with (at_builtin; refine append_i rfl (.tmp 33) (.tmp 35) rfl w.heap.size u9 (downL hi k ++ downL hi2 j) (by simp [Act.eval, Act.put]) (own_alloc hL.out _) (by rw [List.length_append, downL_len, downL_len]; omega) m wr.heap.size (by simp [Act.eval, Act.put]) (by rw [World.cell?_alloc_at _ _ _ _ rfl]; rfl) (by rw [sz_alloc]; omega) ?_; intro v' w' q1 q2 q3)
          have r1 := grow_i hbw ((Below.refl wr.heap.size wr).alloc (Nat.le_refl _) _) hL.out q2
          have Q1 : Hid (OwnI w' w.heap.size v' (downL hi k ++ downL hi2 (j + 1))) := by show OwnI _ _ _ _; rw [HD.out, ← List.append_assoc]; exact q1
          clear q1 q2 q3
          go_wp2_with fail
          go_roundw
          case rel => exact ⟨j + 1, by omega, by show _ = _; congr 1; have := HM.out; have := m1.out; omega, Q1, r1⟩
          case measure =>
            have := HM.out; have := m1.out
            first | (simp [intOf]; done) | (simp [intOf]; omega)
        · obtain rfl : j = c2 := by omega
          have em := hi0.out
          have hlt' : ¬ (lo2 : Int) ≤ (hi2 : Int) - j := by omega
          subst em
          obtain ⟨g, cap, hv, hN⟩ := own_nums hL.out (by rw [List.length_append, downL_len]; omega)
          subst hv
          clear hi0
          go_wp2_with fail
          go_ret
          exact ⟨g, cap, by rw [List.length_append]; rfl, hN, hbw⟩
set_option maxRecDepth 100000 in
set_option maxHeartbeats 1000000 in
theorem rows_n (hi lo c1 : Nat) (e1 : Hid (hi + 1 = lo + c1)) (h1 : hi < 16) (hc : 0 < c1) (w : World) :
    Calls Tryd.prog 24 #[.int .i64 hi, .int .i64 lo, .int .i64 (-1), .int .i64 0] w (RetL (downL hi c1) w) := by
  go_enter Tryd.func24, Tryd.ntmps24
  go_wp2_with fail
  go_loopw [9, 10] (fun l i wr => ∃ k : Nat, k ≤ c1 ∧ Hid (i = .int .i64 ((hi : Int) - k)) ∧ Hid (OwnI wr w.heap.size l (downL hi k)) ∧ Below w.heap.size w wr) (fun _ i _ => (intOf i + 1).toNat)
  case atStart => exact ⟨0, by omega, by show _ = _; simp, own_built w w.heap.size 0 _ [] (Nat.le_refl _) rfl (by decide) rfl, (by repeat (first | (with_reducible first | exact Below.refl _ _ | assumption | exact Nat.le_refl _ | refine Below.drew ?_ | refine Below.alloc ?_ ?_ _ | refine Below.setCell ?_ ?_ _ | refine le_alloc ?_ | refine le_set ?_ | refine le_drew ?_ | refine below_step (by assumption) ?_ ?_ | refine le_below (by assumption) ?_) | (dsimp only; omega)))⟩
  case round =>
    obtain ⟨k, hk, hi0, hL, hbw⟩ := hrel
    have hhi := e1.out
    by_cases hlt : k < c1
    · obtain ⟨m, hm⟩ : ∃ m : Nat, m = hi - k := ⟨_, rfl⟩
      have em := hi0.out
      rw [show (hi : Int) - (k : Int) = (m : Int) by omega] at em
      subst em
      have hlt' : (lo : Int) ≤ (m : Int) := by omega
      have HM : Hid ((m : Int) = (hi : Int) - k) := by show _ = _; omega
      have HD : Hid (downL hi (k + 1) = downL hi k ++ [m]) := by show _ = _; rw [hm]; rfl
      have hz := hbw.size
      have m1 : Hid (wrap64 ((m : Int) - 1) = (m : Int) - 1) := IntWalk.wrap64_in _ (by omega)
      clear hm hi0
      go_wp2_with (at_builtin; refine append_i rfl (.tmp 19) (.tmp 21) rfl w.heap.size u9 (downL hi k) (by simp [Act.eval, Act.put]) (own_alloc hL.out _) (by rw [downL_len]; omega) m wr.heap.size (by simp [Act.eval, Act.put]) (by rw [World.cell?_alloc_at _ _ _ _ rfl]; rfl) (by rw [sz_alloc]; omega) ?_; intro v' w' q1 q2 q3)
      have r1 := grow_i hbw ((Below.refl wr.heap.size wr).alloc (Nat.le_refl _) _) hL.out q2
      have Q1 : Hid (OwnI w' w.heap.size v' (downL hi (k + 1))) := by show OwnI _ _ _ _; rw [HD.out]; exact q1
      clear q1 q2 q3
      go_wp2_with fail
      go_roundw
      case rel => exact ⟨k + 1, by omega, by show _ = _; congr 1; have := HM.out; have := m1.out; omega, Q1, r1⟩
      case measure =>
        have := HM.out; have := m1.out
        first | (simp [intOf]; done) | (simp [intOf]; omega)
    · obtain rfl : k = c1 := by omega
      have em := hi0.out
      have hlt' : ¬ (lo : Int) ≤ (hi : Int) - k := by omega
      subst em
      clear hi0
      go_wp2_with fail
      clear hlt'
      obtain ⟨g, cap, hv, hN⟩ := own_nums hL.out (by rw [downL_len]; omega)
      subst hv
      refine wp_loop_rounds 1 ?_
      rw [rounds_succ]
      go_wp2_with fail
      go_ret
      exact ⟨g, cap, rfl, hN, hbw⟩
theorem eight_c (w : World) : Calls Tryd.prog 26 #[] w (RetL [5, 4, 3, 7, 6] w) := by
  go_enter Tryd.func26, Tryd.ntmps26
  go_wp2_with fail
  go_ret
  exact ⟨w.heap.size, 5, rfl, nums_built w _ _ [5, 4, 3, 7, 6] rfl, (by repeat (first | (with_reducible first | exact Below.refl _ _ | assumption | exact Nat.le_refl _ | refine Below.drew ?_ | refine Below.alloc ?_ ?_ _ | refine Below.setCell ?_ ?_ _ | refine le_alloc ?_ | refine le_set ?_ | refine le_drew ?_ | refine below_step (by assumption) ?_ ?_ | refine le_below (by assumption) ?_) | (dsimp only; omega)))⟩
theorem four_c (w : World) : Calls Tryd.prog 27 #[] w (RetL [5, 4, 3, 2, 6] w) := by
  go_enter Tryd.func27, Tryd.ntmps27
  go_wp2_with fail
  go_ret
  exact ⟨w.heap.size, 5, rfl, nums_built w _ _ [5, 4, 3, 2, 6] rfl, (by repeat (first | (with_reducible first | exact Below.refl _ _ | assumption | exact Nat.le_refl _ | refine Below.drew ?_ | refine Below.alloc ?_ ?_ _ | refine Below.setCell ?_ ?_ _ | refine le_alloc ?_ | refine le_set ?_ | refine le_drew ?_ | refine below_step (by assumption) ?_ ?_ | refine le_below (by assumption) ?_) | (dsimp only; omega)))⟩
theorem fromSp8_c (w : World) : Calls Tryd.prog 34 #[] w (RetL [5, 4, 3, 8, 7, 6] w) := by
  go_enter Tryd.func34, Tryd.ntmps34
  go_wp2_with fail
  go_ret
  exact ⟨w.heap.size, 6, rfl, nums_built w _ _ [5, 4, 3, 8, 7, 6] rfl, (by repeat (first | (with_reducible first | exact Below.refl _ _ | assumption | exact Nat.le_refl _ | refine Below.drew ?_ | refine Below.alloc ?_ ?_ _ | refine Below.setCell ?_ ?_ _ | refine le_alloc ?_ | refine le_set ?_ | refine le_drew ?_ | refine below_step (by assumption) ?_ ?_ | refine le_below (by assumption) ?_) | (dsimp only; omega)))⟩
theorem fromSp4_c (w : World) : Calls Tryd.prog 35 #[] w (RetL [5, 4, 3, 2, 7, 6] w) := by
  go_enter Tryd.func35, Tryd.ntmps35
  go_wp2_with fail
  go_ret
  exact ⟨w.heap.size, 6, rfl, nums_built w _ _ [5, 4, 3, 2, 7, 6] rfl, (by repeat (first | (with_reducible first | exact Below.refl _ _ | assumption | exact Nat.le_refl _ | refine Below.drew ?_ | refine Below.alloc ?_ ?_ _ | refine Below.setCell ?_ ?_ _ | refine le_alloc ?_ | refine le_set ?_ | refine le_drew ?_ | refine below_step (by assumption) ?_ ?_ | refine le_below (by assumption) ?_) | (dsimp only; omega)))⟩
theorem farL_r (w : World) : Calls Tryd.prog 24 #[.int .i64 12, .int .i64 10, .int .i64 6, .int .i64 5] w (RetL farL w) := rows_d 12 10 6 5 3 2 (by show _ = _; rfl) (by show _ = _; rfl) (by decide) (by decide) (by decide) w
theorem wideL_r (w : World) : Calls Tryd.prog 24 #[.int .i64 12, .int .i64 5, .int .i64 (-1), .int .i64 0] w (RetL wideL w) := rows_n 12 5 8 (by show _ = _; rfl) (by decide) (by decide) w
theorem lowL_r (w : World) : Calls Tryd.prog 24 #[.int .i64 12, .int .i64 12, .int .i64 6, .int .i64 2] w (RetL lowL w) := rows_d 12 12 6 2 1 5 (by show _ = _; rfl) (by show _ = _; rfl) (by decide) (by decide) (by decide) w
theorem awayL_r (w : World) : Calls Tryd.prog 24 #[.int .i64 12, .int .i64 10, .int .i64 6, .int .i64 2] w (RetL awayL w) := rows_d 12 10 6 2 3 5 (by show _ = _; rfl) (by show _ = _; rfl) (by decide) (by decide) (by decide) w
theorem jumpL_r (w : World) : Calls Tryd.prog 24 #[.int .i64 12, .int .i64 2, .int .i64 (-1), .int .i64 0] w (RetL jumpL w) := rows_n 12 2 11 (by show _ = _; rfl) (by decide) (by decide) w
theorem downL7_r (w : World) : Calls Tryd.prog 24 #[.int .i64 12, .int .i64 7, .int .i64 (-1), .int .i64 0] w (RetL downL7 w) := rows_n 12 7 6 (by show _ = _; rfl) (by decide) (by decide) w
end Go.Proofs.YtcfeeookjgdkmaaDoor
