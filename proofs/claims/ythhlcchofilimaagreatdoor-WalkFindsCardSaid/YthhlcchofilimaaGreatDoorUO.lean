/- Taken from other texts: what is needed of them. -/
import Derived.Test.YthhlcchofilimaaGreatDoorUA
import Derived.Test.YthhlcchofilimaaGreatDoorUB
import Derived.Test.YthhlcchofilimaaGreatDoorUC
import Derived.Test.YthhlcchofilimaaGreatDoorUD
import Derived.Test.YthhlcchofilimaaGreatDoorUE
import Derived.Test.YthhlcchofilimaaGreatDoorUG
import Derived.Test.YthhlcchofilimaaGreatDoorUH
import Derived.Test.YthhlcchofilimaaGreatDoorUI
import Derived.Test.YthhlcchofilimaaGreatDoorUJ
import Derived.Test.YthhlcchofilimaaGreatDoorUK
import Derived.Test.YthhlcchofilimaaGreatDoorUL
import Derived.Test.YthhlcchofilimaaGreatDoorUM
import Derived.Test.YthhlcchofilimaaGreatDoorUN
import Derived.Deep.AppendSrc
namespace Go.Proofs.YthhlcchofilimaaGreatDoor.U
set_option linter.unusedVariables false
set_option linter.unusedSimpArgs false
set_option maxRecDepth 20000
open Go.ChangeShapes Go.WideShapes Go.ChangeAt Go.RowKit
open M (Fp Dj Cw Up Th Grp GrpAt jn exT)
set_option maxRecDepth 20000
def oneB (e : Ev) : Bool := (e.kind == 1 && (e.n == 0 && decide ((e.v : Int) ≤ 255))) || (e.kind == 2 && (decide (1 ≤ e.n) && (decide (e.n ≤ 8) && decide ((e.v : Int) ≤ 1))))
def okL : Int → List Ev → Bool
  | _, [] => true
  | last, e :: r => (decide (last ≤ e.cyc) && oneB e) && okL e.cyc r
def okIn (L : List Ev) : Bool := decide (L.length ≤ 1024) && okL 0 L
theorem isOne_c (e : Ev) (w : World) : Calls Tryz.prog 52 #[evV e] w (RetB (oneB e) w) := by
  obtain ⟨y, k, n, v⟩ := e
  unfold evV oneB
  dsimp only
  go_enter Tryz.func52, Tryz.ntmps52
  go_wp2_with fail
  all_goals
    go_ret
    refine retB_mk ?_ (by repeat (first | (with_reducible first | exact Below.refl _ _ | assumption | exact Nat.le_refl _ | refine Below.drew ?_ | refine Below.alloc ?_ ?_ _ | refine below_drewN ?_ _ | refine Below.setCell ?_ ?_ _ | refine le_alloc ?_ | refine le_set ?_ | refine le_drew ?_ | refine le_drewN ?_ | refine below_step (by assumption) ?_ ?_ | refine le_below (by assumption) ?_) | (dsimp only; omega)))
    (try simp [*]) <;> (try (intros; first | omega | (have q := eq_of_beq ‹(k == 1) = true›; omega)))
theorem infoE : (Tryz.prog.info? 67).map (fun i => (i.size, i.bytes, i.zero)) = some (4, 32, some (.agg #[.int .i64 0, .int .i64 0, .int .i64 0, .int .u64 0])) := by kernel_rfl
theorem iE : ∃ i, Tryz.prog.info? 67 = some i ∧ i.size = 4 ∧ i.bytes = 32 ∧ i.zero = some (.agg #[.int .i64 0, .int .i64 0, .int .i64 0, .int .u64 0]) := by
  have h := infoE
  cases hi : Tryz.prog.info? 67 with
  | none => rw [hi] at h; exact absurd h (by simp)
  | some i =>
    rw [hi] at h
    simp only [Option.map_some, Option.some.injEq, Prod.mk.injEq] at h
    exact ⟨i, rfl, h.1, h.2.1, h.2.2⟩
theorem evs_len : ∀ L : List Ev, (evsCells L).length = L.length * 4
  | [] => rfl
  | e :: r => by
    show (evCells e ++ evsCells r).length = _
    rw [List.length_append, evs_len r, List.length_cons]
    show 4 + _ = _
    omega
theorem evs_get : ∀ (L : List Ev) (i j : Nat) (e : Ev), L[i]? = some e → j < 4 → (evsCells L)[4 * i + j]? = (evCells e)[j]?
  | [], i, j, e, h, hj => by simp at h
  | x :: r, 0, j, e, h, hj => by
    obtain rfl : x = e := by simpa using h
    show (evCells x ++ evsCells r)[4 * 0 + j]? = _
    rw [Nat.mul_zero, Nat.zero_add, List.getElem?_append_left (by exact hj)]
  | x :: r, i + 1, j, e, h, hj => by
    show (evCells x ++ evsCells r)[4 * (i + 1) + j]? = _
    rw [List.getElem?_append_right (by show 4 ≤ _; omega), show 4 * (i + 1) + j - (evCells x).length = 4 * i + j by show _ - 4 = _; omega]
    exact evs_get r i j e (by simpa using h) hj
theorem IsE.at {w : World} {a : Option Addr} {n c g o : Nat} {L : List Ev} (h : IsE w a n c g o L) {i : Nat} {e : Ev} (he : L[i]? = some e) : w.cell? ⟨g, o + i * 4, none⟩ = some (.int .i64 e.cyc) ∧ w.cell? ⟨g, o + i * 4 + 1, none⟩ = some (.int .i64 e.kind) ∧ w.cell? ⟨g, o + i * 4 + 2, none⟩ = some (.int .i64 e.n) ∧ w.cell? ⟨g, o + i * 4 + 3, none⟩ = some (.int .u64 (e.v : Nat)) := by
  have hi : i < n := by rw [← h.len]; exact (List.getElem?_eq_some_iff.1 he).1
  have q : ∀ j, j < 4 → w.cell? ⟨g, o + i * 4 + j, none⟩ = (evCells e)[j]? := fun j hj => by
    rw [show o + i * 4 + j = o + (4 * i + j) by omega, h.cell _ (by omega)]
    exact evs_get L i j e he hj
  exact ⟨q 0 (by decide), q 1 (by decide), q 2 (by decide), q 3 (by decide)⟩
theorem evs_one : ∀ (L : List Ev), ∀ u ∈ evsCells L, u.oneCell' = true
  | [], u, h => (List.not_mem_nil h).elim
  | x :: r, u, h => by
    rcases List.mem_append.1 (show u ∈ evCells x ++ evsCells r from h) with q | q
    · simp only [evCells, List.mem_cons, List.not_mem_nil, or_false] at q
      rcases q with rfl | rfl | rfl | rfl <;> rfl
    · exact evs_one r u q
theorem IsE.src {w : World} {a : Option Addr} {n c g o : Nat} {L : List Ev} (h : IsE w a n c g o L) : Src Tryz.prog 4 33 (.slice a n c) n (evsCells L) w := by
  by_cases h0 : n = 0
  · subst h0
    have hL : L = [] := List.length_eq_zero_iff.1 h.len
    subst hL
    cases a with
    | none => exact Src.ofNil w Tryz.underlying33 c
    | some a => exact Src.ofSlice w Tryz.underlying33 a 0 c [] rfl (fun j u h => by simp at h) (fun u h => by simp at h)
  · have ha := (h.addr (by omega)).1
    subst ha
    exact Src.ofSlice w Tryz.underlying33 ⟨g, o, none⟩ n c (evsCells L) (by rw [evs_len, h.len]) (fun j u hj => by
      have hj2 := (List.getElem?_eq_some_iff.1 hj).1
      rw [evs_len, h.len] at hj2
      have := h.cell j (by omega)
      rw [hj] at this
      by_cases h00 : j = 0
      · subst h00; exact this
      · rw [show Addr.add ⟨g, o, none⟩ j = ⟨g, o + j, none⟩ by simp [Addr.add, h00]]; exact this) (evs_one L)
theorem isE_new (w : World) (L : List Ev) (k C : Nat) (t : TypeId) (hC : L.length ≤ C) : IsE (w.alloc (.cells ((evsCells L).toArray ++ Builtin.zeroCells (Value.agg #[.int .i64 0, .int .i64 0, .int .i64 0, .int .u64 0]).cells k) t)) (some ⟨w.heap.size, 0, none⟩) L.length C w.heap.size 0 L := by
  refine ⟨rfl, hC, fun _ => ⟨rfl, by rw [sz_alloc]; omega⟩, fun i hi => ?_⟩
  rw [World.cell?_alloc_new, Nat.zero_add, Array.getElem?_append_left (by rw [List.size_toArray, evs_len]; omega), List.getElem?_toArray]
theorem isE_nil (w : World) (a : Option Addr) (c g : Nat) : IsE w a 0 c g 0 [] := ⟨rfl, Nat.zero_le _, fun h => absurd h (Nat.lt_irrefl _), fun i hi => by omega⟩
theorem run_ev {w : World} {a : Option Addr} {n c g o : Nat} {L : List Ev} (h : IsE w a n c g o L) (sa : Option Addr) (ty : TypeId) (hn : n ≤ 4398046511104) :
    ∃ a' c' g' w', (Builtin.append_ #[33, 33] ty #[.slice sa 0 0, .slice a n c]).run Tryz.prog w = .ok (.slice a' n c') w' ∧ IsE w' a' n c' g' 0 L ∧ Below w.heap.size w w' ∧ (0 < n → w.heap.size ≤ g') := by
  obtain ⟨i, hi, h1, h2, h3⟩ := iE
  have hsrc := h.src
  by_cases h0 : n = 0
  · subst h0
    have hL : L = [] := List.length_eq_zero_iff.1 h.len
    subst hL
    exact ⟨sa, 0, 0, w, run_append_nothing (P := Tryz.prog) w 33 33 ty 67 i Tryz.underlying33 hi sa 0 0 (Nat.le_refl _) _ (by rw [h1]; exact hsrc), isE_nil _ _ _ _, Below.refl _ _, fun h => absurd h (Nat.lt_irrefl _)⟩
  · have hold : (Builtin.firstCells i.size 0 (.slice sa 0 0)).run Tryz.prog w.drew = .ok (#[] : Array Value) w.drew := by
      cases sa with
      | none => exact run_firstCells_none w.drew i.size 0 0 0
      | some s => exact run_firstCells_some w.drew i.size 0 s 0 0 [] (by simp) (fun j u h => by simp at h)
    have hg := run_append_grow_src (P := Tryz.prog) w 33 33 ty 67 i _ Tryz.underlying33 hi h3 sa 0 0 [] hold _ n _ (by rw [h1]; exact hsrc) (by omega) (by omega) (growslice_fits (by omega) (by rw [h2]; omega))
    rw [Nat.zero_add] at hg
    have hge := grownCap_ge w n 0 67
    have hnew := isE_new w.drew L (grownCap w n 0 67 - n) (grownCap w n 0 67) 67 (by rw [h.len]; omega)
    rw [h.len] at hnew
    exact ⟨_, _, _, _, hg, hnew, Below.alloc (below_drewN (Below.refl _ _) 1) (Nat.le_refl _) _, fun _ => Nat.le_refl _⟩
theorem list_ev {w : World} {a : Option Addr} {n c g o : Nat} {L : List Ev} {ops : Array Oper} {rest : List Oper} {op : Oper} {A : Act} {Q : Exit → Act → World → Prop} (hgd : op.guard = none) (s x : Operand)
    (ho : op.op = .call { callee := .builtin .append, args := #[s, x], argTypes := #[33, 33] })
    (h : IsE w a n c g o L) (sa : Option Addr) (hs : A.eval s = .slice sa 0 0) (hx : A.eval x = .slice a n c) (hn : n ≤ 4398046511104)
    (k : ∀ a' c' g' w', IsE w' a' n c' g' 0 L → Below w.heap.size w w' → (0 < n → w.heap.size ≤ g') → wpList Tryz.prog ops Q rest (A.put op.dst (.slice a' n c')) w') : wpList Tryz.prog ops Q (op :: rest) A w := by
  obtain ⟨a', c', g', w', hrun, h1, h2, h3⟩ := run_ev h sa op.type hn
  refine wpList_plain hgd fun K hK => ?_
  unfold Oper.wp execOp
  simp only [ho, resolve, invoke, builtin, Sem.run_bind, Sem.run_pure, Result.andThen_ok, List.map_toArray, List.map_cons, List.map_nil, hs, hx]
  rw [hrun]
  exact hK _ _ (k a' c' g' w' h1 h2 h3)
theorem IsE.below {w w' : World} {a : Option Addr} {n c g o : Nat} {L : List Ev} (h : IsE w a n c g o L) (hb : Below w.heap.size w w') : IsE w' a n c g o L := h.keptW (Cw.of_below (fun _ _ => False) hb) (fun _ _ q => q)
def RetE (n : Nat) (L : List Ev) (w : World) (e : Ending) (w' : World) : Prop := ∃ a' c' g', e = .returned (.slice a' n c') ∧ IsE w' a' n c' g' 0 L ∧ (0 < n → w.heap.size ≤ g') ∧ Below w.heap.size w w'
theorem clone_c (a : Option Addr) (n c g o : Nat) (L : List Ev) (w : World) (h : Hid (IsE w a n c g o L)) (hn : Hid (n ≤ 4398046511104)) : Calls Tryz.prog 18 #[.slice a n c] w (RetE n L w) := by
  cases a with
  | none =>
    have h0 : n = 0 := by
      have := h.out.addr
      by_cases h0 : 0 < n
      · exact absurd (this h0).1 (by simp)
      · omega
    subst h0
    have hL : L = [] := List.length_eq_zero_iff.1 h.out.len
    subst hL
    have he : ∀ w : World, (binOp .eql 33 (.slice none 0 c) (.slice none 0 0)).run Tryz.prog w = .ok (.bool true) w := fun _ => rfl
    go_enter Tryz.func18, Tryz.ntmps18
    go_wp2_with fail
    go_ret
    exact ⟨none, 0, 0, rfl, isE_nil _ _ _ _, fun h => absurd h (Nat.lt_irrefl _), (by repeat (first | (with_reducible first | exact Below.refl _ _ | assumption | exact Nat.le_refl _ | refine Below.drew ?_ | refine Below.alloc ?_ ?_ _ | refine below_drewN ?_ _ | refine Below.setCell ?_ ?_ _ | refine le_alloc ?_ | refine le_set ?_ | refine le_drew ?_ | refine le_drewN ?_ | refine below_step (by assumption) ?_ ?_ | refine le_below (by assumption) ?_) | (dsimp only; omega)))⟩
  | some a =>
    have he : ∀ w : World, (binOp .eql 33 (.slice (some a) n c) (.slice none 0 0)).run Tryz.prog w = .ok (.bool false) w := fun _ => rfl
    have HE := Lib.hid (h.out.below (below_one w (Obj.cells #[] 67)))
    go_enter Tryz.func18, Tryz.ntmps18
    go_wp2_with (refine list_ev rfl (.tmp 5) (.tmp 6) rfl HE.out _ rfl rfl hn.out ?_; intro a' c' g' w2 q1 q2 q3)
    go_ret
    exact ⟨a', c', g', rfl, q1, fun h0 => by have := q3 h0; rw [sz_alloc] at this; omega, (below_one w _).trans (q2.mono (by rw [sz_alloc]; omega))⟩
theorem okL_drop (L : List Ev) (last : Int) (k : Nat) (e : Ev) (h : L[k]? = some e) : okL last (L.drop k) = ((decide (last ≤ e.cyc) && oneB e) && okL e.cyc (L.drop (k + 1))) := by
  have hk := (List.getElem?_eq_some_iff.1 h).1
  rw [List.drop_eq_getElem_cons hk]
  have : L[k] = e := (List.getElem?_eq_some_iff.1 h).2
  rw [this]; rfl
theorem mayCome_c (a : Option Addr) (n c g o : Nat) (L : List Ev) (w : World) (h : Hid (IsE w a n c g o L)) (hf : Hid (n < 4398046511104)) : Calls Tryz.prog 16 #[.slice a n c] w (RetB (okIn L) w) := by
  have hl := h.out.len
  by_cases hn : n ≤ 1024
  · have e1 : okIn L = okL 0 L := by unfold okIn; rw [hl, decide_eq_true hn]; rfl
    rw [e1]
    have hn' : (n : Int) ≤ 1024 := by omega
    clear e1 hl
    go_enter Tryz.func16, Tryz.ntmps16
    go_wp2_with fail
    go_loopw [3, 11] (fun lv iv wr => ∃ (k : Nat) (last : Int), k ≤ n ∧ lv = .int .i64 last ∧ iv = .int .i64 k ∧ Hid (okL 0 L = okL last (L.drop k)) ∧ Hid (Below w.heap.size w wr)) (fun _ iv _ => n - (intOf iv).toNat)
    case atStart => exact ⟨0, 0, Nat.zero_le _, rfl, rfl, rfl, Below.refl _ _⟩
    case round =>
      obtain ⟨k, last, hk, rfl, rfl, HO, HB⟩ := hrel
      by_cases hlt : k < n
      · obtain ⟨e, he⟩ : ∃ e, L[k]? = some e := ⟨_, List.getElem?_eq_getElem (by rw [h.out.len]; exact hlt)⟩
        have hE := h.out.below HB.out
        obtain ⟨q0, q1, q2, q3⟩ := hE.at he
        have ha := (hE.addr (by omega)).1
        have hgl := (hE.addr (by omega)).2
        have kk : (k : Int) < n := by omega
        have kk1 : IntKind.i64.wrap ((k : Int) + 1) = (k : Int) + 1 := IntWalk.i64_in _ (by omega)
        have HD : Hid (okL 0 L = ((decide (last ≤ e.cyc) && oneB e) && okL e.cyc (L.drop (k + 1)))) := HO.out.trans (okL_drop L last k e he)
        have ho := isOne_c e
        obtain ⟨y, kd, en, ev⟩ := e
        dsimp only at q0 q1 q2 q3
        have HQ := Lib.hid h.out
        clear hE he HO
        subst ha
        by_cases hy : last ≤ y
        · have hy' : decide (y < last) = false := decide_eq_false (by omega)
          have HY := Lib.hid hy
          have hgn : ¬ g = wr.heap.size := by omega
          clear hy
          cases hb : oneB ⟨y, kd, en, ev⟩
          · rw [hb] at ho
            have HX : Hid (okL 0 L = false) := by show _ = _; rw [HD.out, hb, Bool.and_false, Bool.false_and]
            clear HD hb
            go_wp2_with fail
            refine (ho _).mono ?_; rintro e w1 ⟨rfl, hb1⟩
            have HB1 : Hid (Below w.heap.size w w1) := (HB.out.alloc HB.out.size _).trans (hb1.mono (by rw [sz_alloc]; have := HB.out.size; omega))
            clear hb1
            go_wp2_with fail
            go_ret
            exact retB_mk HX.out.symm HB1.out
          · rw [hb] at ho
            have HX : Hid (okL 0 L = okL y (L.drop (k + 1))) := by show _ = _; rw [HD.out, hb, decide_eq_true HY.out, Bool.and_true, Bool.true_and]
            clear HD hb
            go_wp2_with fail
            refine (ho _).mono ?_; rintro e w1 ⟨rfl, hb1⟩
            have HB1 : Hid (Below w.heap.size w w1) := (HB.out.alloc HB.out.size _).trans (hb1.mono (by rw [sz_alloc]; have := HB.out.size; omega))
            have k0 : w1.cell? ⟨wr.heap.size, 0, none⟩ = some (.int .i64 y) := (hb1.cell (p := ⟨wr.heap.size, 0, none⟩) (by show wr.heap.size < _; rw [sz_alloc]; omega)).trans (by rw [World.cell?_alloc_at _ _ _ _ rfl]; rfl)
            clear hb1
            go_wp2_with fail
            go_roundw
            case rel => exact ⟨k + 1, y, by omega, rfl, by go_num, HX, HB1⟩
            case measure => simp only [intOf]; omega
        · have hy' : decide (y < last) = true := decide_eq_true (by omega)
          have hy2 : y < last := by omega
          have HX : Hid (okL 0 L = false) := by show _ = _; rw [HD.out, decide_eq_false hy, Bool.false_and, Bool.false_and]
          clear HD hy
          go_wp2_with fail
          go_ret
          exact retB_mk HX.out.symm (HB.out.alloc HB.out.size _)
      · have nk : decide ((k : Int) < n) = false := decide_eq_false (by omega)
        go_wp2_with fail
        go_ret
        exact retB_mk (by rw [HO.out, List.drop_of_length_le (by rw [h.out.len]; omega)]; rfl) HB.out
  · have e1 : okIn L = false := by unfold okIn; rw [hl, decide_eq_false hn]; rfl
    rw [e1]
    have hn' : (1024 : Int) < n := by omega
    clear e1 hl
    go_enter Tryz.func16, Tryz.ntmps16
    go_wp2_with fail
    go_ret
    exact retB_mk rfl (by repeat (first | (with_reducible first | exact Below.refl _ _ | assumption | exact Nat.le_refl _ | refine Below.drew ?_ | refine Below.alloc ?_ ?_ _ | refine below_drewN ?_ _ | refine Below.setCell ?_ ?_ _ | refine le_alloc ?_ | refine le_set ?_ | refine le_drew ?_ | refine le_drewN ?_ | refine below_step (by assumption) ?_ ?_ | refine le_below (by assumption) ?_) | (dsimp only; omega)))
end Go.Proofs.YthhlcchofilimaaGreatDoor.U
