/- sameList; Write as one contract; what grows. -/
import Derived.Test.YtibgdlianedcbaaB14
namespace Go.Proofs.Ytibgdlianedcbaa
open Go.Maps Go.WideMaps Go.ChangeShapes Go.WideShapes Go.ChangeAt Go.RowKit
set_option linter.unusedVariables false
set_option linter.unusedSimpArgs false
theorem list_eq {L M : List Nat} (hl : L.length = M.length) (h : ∀ i, i < L.length → L.getD i 0 = M.getD i 0) : L = M := by
  apply List.ext_getElem hl
  intro i h1 h2
  have := h i h1
  rw [List.getD_eq_getElem?_getD, List.getD_eq_getElem?_getD, List.getElem?_eq_getElem h1, List.getElem?_eq_getElem h2] at this
  exact this
/-- A slice that reads as a list. -/
def IsA (w : World) (a : Option Addr) (L : List Nat) : Prop := 0 < L.length → ∃ g, a = some ⟨g, 0, none⟩ ∧ RowU w g L.length (fun i => L.getD i 0)
theorem RowU.below {w w' : World} {g n : Nat} {X : Nat → Nat} (h : RowU w g n X) (hb : Below w.heap.size w w') : RowU w' g n X :=
  ⟨Nat.lt_of_lt_of_le h.1 hb.size, fun i hi => ⟨by rw [hb.cell (p := ⟨g, i, none⟩) h.1]; exact (h.2 i hi).1, by rw [hb.frozen (p := ⟨g, i, none⟩) h.1]; exact (h.2 i hi).2⟩⟩
theorem IsA.below {w w' : World} {a : Option Addr} {L : List Nat} (h : IsA w a L) (hb : Below w.heap.size w w') : IsA w' a L := fun h0 => by
  obtain ⟨g, h1, h2⟩ := h h0
  exact ⟨g, h1, h2.below hb⟩
set_option maxRecDepth 100000 in
set_option maxHeartbeats 2000000 in
theorem list_c (a b : Option Addr) (n n' c c' : Nat) (L M : List Nat) (w : World) (hl : Hid (L.length = n)) (hm : Hid (M.length = n')) (ha : Hid (IsA w a L)) (hb : Hid (IsA w b M)) (hn : Hid (n < 4611686018427387904)) :
    Calls Try.prog 20 #[.slice a n c, .slice b n' c'] w (RetB (decide (L = M)) w) := by
  have n62 : (n : Int) < 4611686018427387904 := by have := hn.out; omega
  by_cases e : n = n'
  · subst e
    have e1 : ((n : Int) != (n : Int)) = false := by simp
    go_enter Try.func20, Try.ntmps20
    go_wp2_with fail
    go_loopw [5] (fun i wr => ∃ k : Nat, k ≤ n ∧ i = .int .i64 k ∧ Hid (Below w.heap.size w wr ∧ ∀ j, j < k → L.getD j 0 = M.getD j 0)) (fun i _ => n - (intOf i).toNat)
    case atStart => exact ⟨0, Nat.zero_le _, rfl, Below.refl _ _, fun j hj => by cases hj⟩
    case round =>
      obtain ⟨k, hk, rfl, HI⟩ := hrel
      by_cases hlt : k < n
      · have hlt' : (k : Int) < n := by omega
        obtain ⟨g, rfl, hg⟩ := ha.out (by rw [hl.out]; omega)
        obtain ⟨g2, rfl, hg2⟩ := hb.out (by rw [hm.out]; omega)
        have q1 := ((hg.below HI.out.1).2 k (by rw [hl.out]; exact hlt)).1
        have q2 := ((hg2.below HI.out.1).2 k (by rw [hm.out]; exact hlt)).1
        clear hg hg2
        have q1' : wr.cell? ⟨g, k, none⟩ = some (.int .u64 (L.getD k 0 : Nat)) := q1
        have q2' : wr.cell? ⟨g2, k, none⟩ = some (.int .u64 (M.getD k 0 : Nat)) := q2
        obtain ⟨x, hx⟩ : ∃ x, L.getD k 0 = x := ⟨_, rfl⟩
        obtain ⟨y, hy⟩ : ∃ y, M.getD k 0 = y := ⟨_, rfl⟩
        rw [hx] at q1'
        rw [hy] at q2'
        have HX := Lib.hid hx; have HY := Lib.hid hy
        clear q1 q2 hx hy
        cases hxy : (x == y)
        · have e2 : ((x : Int) != (y : Int)) = true := by have := hxy; simp at this; simp; omega
          have e3 : ((x : Int) == (y : Int)) = false := by have := hxy; simp at this; simp; omega
          have HN : Hid (x ≠ y) := by have := hxy; simp at this; exact this
          have HLT : Hid (k < n) := hlt
          clear hxy
          go_wp2_with fail
          go_quiet (fail)
          go_wp2_with fail
          go_ret
          exact retB_mk (decide_eq_false (fun h => HN.out (by rw [← HX.out, ← HY.out, h]))).symm (below_drewN HI.out.1 _)
        · obtain rfl : x = y := by simpa using hxy
          have e2 : ((x : Int) != (x : Int)) = false := by simp
          clear hxy
          go_wp2_with fail
          go_quiet (fail)
          go_wp2_with fail
          go_roundw
          case rel => exact ⟨k + 1, by omega, by go_num, below_drewN HI.out.1 _, fun j hj => by
            by_cases ej : j = k
            · rw [ej, HX.out, HY.out]
            · exact HI.out.2 j (by omega)⟩
          case measure => simp [intOf]; omega
      · obtain rfl : k = n := by omega
        go_wp2_with fail
        go_ret
        exact retB_mk (decide_eq_true (list_eq (by rw [hl.out, hm.out]) (fun i hi => HI.out.2 i (by rw [← hl.out]; exact hi)))).symm HI.out.1
  · have e1 : ((n : Int) != (n' : Int)) = true := by simp; omega
    have e2 : ((n : Int) == (n' : Int)) = false := by simp; omega
    have HN : Hid (n ≠ n') := e
    clear e
    go_enter Try.func20, Try.ntmps20
    go_wp2_with fail
    go_ret
    exact retB_mk (decide_eq_false (fun h => HN.out (by rw [← hl.out, ← hm.out, h]))).symm (by repeat (first | (with_reducible first | exact Below.refl _ _ | assumption | exact Nat.le_refl _ | refine Below.drew ?_ | refine Below.alloc ?_ ?_ _ | refine below_drewN ?_ _ | refine Below.setCell ?_ ?_ _ | refine le_alloc ?_ | refine le_set ?_ | refine le_drew ?_ | refine le_drewN ?_ | refine below_step (by assumption) ?_ ?_ | refine le_below (by assumption) ?_) | (dsimp only; omega)))
theorem IsL.open {w : World} {base : Nat} {v : Value} {L : List Nat} (h : IsL w base v L) : ∃ a c, v = .slice a L.length c ∧ IsA w a L := by
  rcases h with ⟨h1, rfl⟩ | ⟨g, cap, h1, -, -, h4⟩
  · exact ⟨none, 0, h1, fun h => by cases h⟩
  · exact ⟨_, cap, h1, fun _ => ⟨g, rfl, h4⟩⟩
/-- What a write leaves. -/
def wrF (F : Nat → Nat) (a : Nat) (sz : Int) (v : Nat) : Nat → Nat := if hasV a sz = true then layF F a sz.toNat (byteV v) else F
def RetWr (S : Nat → Prop) (m : Nat) (ok : Bool) (F : Nat → Nat) (W : World) (e : Ending) (w' : World) : Prop := e = .returned (.bool ok) ∧ ∃ S', MemS S' w' m F ∧ Own S W w' ∧ ∀ i, S' i → i < w'.heap.size ∧ (S i ∨ W.heap.size ≤ i)
theorem write_c (S : Nat → Prop) (m a v : Nat) (sz : Int) (F : Nat → Nat) (w : World) (hM : Hid (MemS S w m F)) (hSb : Hid (∀ i, S i → i < w.heap.size)) (ha : Hid (a < 18446744073709551616)) (hv : Hid (v < 18446744073709551616)) :
    Calls Try.prog 12 #[.pointer (some ⟨m, 0, none⟩), .int .u64 a, .int .i64 sz, .int .u64 v] w (RetWr S m (hasV a sz) (wrF F a sz v) w) := by
  unfold wrF
  cases hh : hasV a sz
  · refine (write_n m a sz v w ha hh).mono (fun e w' h => ?_)
    obtain ⟨h1, h2⟩ := h
    rw [if_neg (by decide)]
    exact ⟨h1, S, hM.out.kept (T := fun _ => False) (Own.below h2) (fun _ _ h => h), Own.below h2, fun i hi => ⟨Nat.lt_of_lt_of_le (hSb.out i hi) h2.size, Or.inl hi⟩⟩
  · have h := hh
    unfold hasV at h
    have h2 := (of_decide_eq_true h).1
    obtain ⟨n, rfl⟩ : ∃ n : Nat, sz = n := ⟨sz.toNat, by omega⟩
    rw [if_pos rfl, Int.toNat_natCast]
    refine (write_y S m a n v F w hM hSb (by show _ ∨ _; omega) ha hv hh).mono (fun e w' h => ?_)
    obtain ⟨h1, S', q1, q2, q3⟩ := h
    exact ⟨h1, S', q1, q2, q3⟩
theorem below_own {B : Nat} {W w w' : World} {S : Nat → Prop} (h : Below B W w) (ho : Own S w w') (hS : ∀ i, S i → B ≤ i) (hB : B ≤ w.heap.size) : Below B W w' :=
  ⟨ho.os.trans h.os, ho.tape.trans h.tape, ho.output.trans h.output, Nat.le_trans h.size ho.size, fun i hi => (ho.block i (by omega) (fun q => by have := hS i q; omega)).trans (h.block i hi)⟩
end Go.Proofs.Ytibgdlianedcbaa
