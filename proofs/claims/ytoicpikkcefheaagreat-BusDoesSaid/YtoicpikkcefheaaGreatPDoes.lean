/- PROVED: 'BusDoes' returns true whatever the image, the inputs and the steps are: every call answers as the chapter says, of every setup, in every order; copies go on alike; the setup stays as it is, and may be written over. No condition. -/
import Derived.Test.YtoicpikkcefheaaGreatSH
import Derived.Test.YtoicpikkcefheaaGreatBL
import Derived.Deep.CutBlock
namespace Go.Proofs.YtoicpikkcefheaaGreat.M
open Go.Maps Go.WideMaps Go.ChangeShapes Go.WideShapes Go.ChangeAt Go.RowKit
set_option linter.unusedVariables false
set_option linter.unusedSimpArgs false
set_option maxRecDepth 20000
def bL (n : Nat) (X : Nat → Nat) : List Nat := (List.range n).map X
theorem bL_len (n : Nat) (X : Nat → Nat) : (bL n X).length = n := by simp [bL]
theorem bL_get (n : Nat) (X : Nat → Nat) (i : Nat) (hi : i < n) : (bL n X).getD i 0 = X i := by simp [bL, hi]
theorem Byt.first {w : World} {sa : Option Addr} {g o n c : Nat} {X : Nat → Nat} (h : Byt w sa g o n c X) : (Builtin.firstCells 1 n (.slice sa n c)).run Tryz.prog w = .ok (cel8 (bL n X)).toArray w := by
  by_cases h0 : n = 0
  · subst h0
    cases sa with
    | none => exact run_firstCells_none w 1 0 0 c
    | some ad => exact run_firstCells_some w 1 0 ad 0 c [] rfl (fun j v hj => by cases hj)
  · obtain ⟨h1, h2⟩ := h.1 (by omega)
    subst h1
    refine run_firstCells_some w 1 n _ n c (cel8 (bL n X)) (by simp [cel8, bL_len]) (fun j v hj => ?_)
    have hj2 : j < (bL n X).length := by
      have := (List.getElem?_eq_some_iff.1 hj).1
      simpa [cel8] using this
    rw [cel8_get _ j hj2, bL_get n X j (by rw [bL_len] at hj2; exact hj2)] at hj
    rw [bL_len] at hj2
    rw [Go.WideShapes.add_plain, h.2.2.1 j hj2]; exact hj
theorem Byt.src {w : World} {sa : Option Addr} {g o n c : Nat} {X : Nat → Nat} (h : Byt w sa g o n c X) : Src Tryz.prog 1 22 (.slice sa n c) n (cel8 (bL n X)) w :=
  ⟨.inl ⟨_, Tryz.underlying22⟩, fun _ => rfl, h.first, (h.below (below_drewN (Below.refl _ _) 1)).first, by simp [cel8, bL_len], fun u hu => by
    obtain ⟨_, _, rfl⟩ := List.mem_map.1 hu
    rfl⟩
theorem Byt.conv {w : World} {sa : Option Addr} {g o n c : Nat} {X : Nat → Nat} (h : Byt w sa g o n c X) : (convert 22 9 (.slice sa n c)).run Tryz.prog w = .ok (.string (T.strB (bL n X))) w := by
  by_cases h0 : n = 0
  · subst h0
    cases sa with
    | none => exact run_convert_bytes_nil w 22 5 Tryz.underlying22 Tryz.underlying5 0 c _ Tryz.underlying9
    | some ad =>
      rw [run_convert_bytes_string w 22 9 5 _ 0 c Tryz.underlying22 Tryz.underlying5 Tryz.underlying9]
      exact run_bytesToString w ad 0 c [] (run_loadCells_list w ad [] (fun j v hj => by cases hj))
  · obtain ⟨e1, e2⟩ := h.1 (by omega)
    subst e1
    refine run_convert_bytes_arg w 22 5 Tryz.underlying22 Tryz.underlying5 g o n c _ (by simp [bL_len]) (fun i hi => ?_) _ Tryz.underlying9
    rw [h.2.2.1 i hi]
    simp [bL, hi]
/-- A copy of its own. -/
theorem append_all2 {w : World} {a : Option Addr} {n c : Nat} {L : List Nat} {ops : Array Oper} {rest : List Oper} {op : Oper} {A : Act} {Q : Exit → Act → World → Prop} (hgd : op.guard = none) (s x : Operand)
    (ho : op.op = .call { callee := .builtin .append, args := #[s, x], argTypes := #[22, 22] })
    (hl : L.length = n) (hsrc : Src Tryz.prog 1 22 (.slice a n c) n (cel8 L) w) (sa : Option Addr) (hs : A.eval s = .slice sa 0 0) (hx : A.eval x = .slice a n c) (hn : n ≤ 140737488355328)
    (k : ∀ a' c' g' w', SlA w' a' n c' g' 0 L → Below w.heap.size w w' → (0 < c' → w.heap.size ≤ g') → wpList Tryz.prog ops Q rest (A.put op.dst (.slice a' n c')) w') : wpList Tryz.prog ops Q (op :: rest) A w := by
  obtain ⟨a', c', g', w', hrun, h1, h2, h3⟩ := run_all2 hl hsrc sa op.type hn
  refine wpList_plain hgd fun K hK => ?_
  unfold Oper.wp execOp
  simp only [ho, resolve, invoke, builtin, Sem.run_bind, Sem.run_pure, Result.andThen_ok, List.map_toArray, List.map_cons, List.map_nil, hs, hx]
  rw [hrun]
  exact hK _ _ (k a' c' g' w' h1 h2 h3)
end Go.Proofs.YtoicpikkcefheaaGreat.M
namespace Go.Proofs.YtoicpikkcefheaaGreat
open Go.ChangeShapes Go.WideShapes Go.ChangeAt Go.RowKit
open M (Fp Dj Cw Up Th Grp GrpAt GrpC Cpd jn exT)
set_option linter.unusedVariables false
set_option linter.unusedSimpArgs false
set_option maxRecDepth 20000
theorem run_ev2 {w : World} {a : Option Addr} {n c g o : Nat} {L : List Ev} (h : IsE w a n c g o L) (sa : Option Addr) (ty : TypeId) (hn : n ≤ 4398046511104) :
    ∃ a' c' g' w', (Builtin.append_ #[23, 23] ty #[.slice sa 0 0, .slice a n c]).run Tryz.prog w = .ok (.slice a' n c') w' ∧ IsE w' a' n c' g' 0 L ∧ Below w.heap.size w w' ∧ (0 < n → w.heap.size ≤ g') ∧ (∀ i, i < 4 * n → w'.frozen? ⟨g', i, none⟩ = false) := by
  obtain ⟨i, hi, h1, h2, h3⟩ := iE
  have hsrc := h.src
  by_cases h0 : n = 0
  · subst h0
    have hL : L = [] := List.length_eq_zero_iff.1 h.len
    subst hL
    exact ⟨sa, 0, 0, w, run_append_nothing (P := Tryz.prog) w 23 23 ty 38 i Tryz.underlying23 hi sa 0 0 (Nat.le_refl _) _ (by rw [h1]; exact hsrc), isE_nil _ _ _ _, Below.refl _ _, fun h => absurd h (Nat.lt_irrefl _), fun i hi => absurd hi (by omega)⟩
  · have hold : (Builtin.firstCells i.size 0 (.slice sa 0 0)).run Tryz.prog w.drew = .ok (#[] : Array Value) w.drew := by
      cases sa with
      | none => exact run_firstCells_none w.drew i.size 0 0 0
      | some s => exact run_firstCells_some w.drew i.size 0 s 0 0 [] (by simp) (fun j u h => by simp at h)
    have hg := run_append_grow_src (P := Tryz.prog) w 23 23 ty 38 i _ Tryz.underlying23 hi h3 sa 0 0 [] hold _ n _ (by rw [h1]; exact hsrc) (by omega) (by omega) (growslice_fits (by omega) (by rw [h2]; omega))
    rw [Nat.zero_add] at hg
    have hge := grownCap_ge w n 0 38
    have hnew := isE_new w.drew L (grownCap w n 0 38 - n) (grownCap w n 0 38) 38 (by rw [h.len]; omega)
    rw [h.len] at hnew
    exact ⟨_, _, _, _, hg, hnew, Below.alloc (below_drewN (Below.refl _ _) 1) (Nat.le_refl _) _, fun _ => Nat.le_refl _, fun i hi => by rw [World.frozen?_alloc_at _ _ _ _ rfl]⟩
theorem list_ev2 {w : World} {a : Option Addr} {n c g o : Nat} {L : List Ev} {ops : Array Oper} {rest : List Oper} {op : Oper} {A : Act} {Q : Exit → Act → World → Prop} (hgd : op.guard = none) (s x : Operand)
    (ho : op.op = .call { callee := .builtin .append, args := #[s, x], argTypes := #[23, 23] })
    (h : IsE w a n c g o L) (sa : Option Addr) (hs : A.eval s = .slice sa 0 0) (hx : A.eval x = .slice a n c) (hn : n ≤ 4398046511104)
    (k : ∀ a' c' g' w', IsE w' a' n c' g' 0 L → Below w.heap.size w w' → (0 < n → w.heap.size ≤ g') → (∀ i, i < 4 * n → w'.frozen? ⟨g', i, none⟩ = false) → wpList Tryz.prog ops Q rest (A.put op.dst (.slice a' n c')) w') : wpList Tryz.prog ops Q (op :: rest) A w := by
  obtain ⟨a', c', g', w', hrun, h1, h2, h3, h4⟩ := run_ev2 h sa op.type hn
  refine wpList_plain hgd fun K hK => ?_
  unfold Oper.wp execOp
  simp only [ho, resolve, invoke, builtin, Sem.run_bind, Sem.run_pure, Result.andThen_ok, List.map_toArray, List.map_cons, List.map_nil, hs, hx]
  rw [hrun]
  exact hK _ _ (k a' c' g' w' h1 h2 h3 h4)
/-- A block of its own that the law writes. -/
def eOwB (g n : Nat) (C : Nat → Value) : Th where
  P R W w := (∀ i j, R i j ↔ i = g ∧ 0 < n) ∧ (∀ i j, W i j ↔ i = g ∧ 0 < n) ∧ (0 < n → g < w.heap.size) ∧ ∀ i, i < n → w.cell? ⟨g, i, none⟩ = some (C i) ∧ w.frozen? ⟨g, i, none⟩ = false
  kept := fun ⟨h1, h2, h3, h4⟩ hc hd => by
    have nb : 0 < n → ∀ j, ¬ _ := fun hn j ht => hd g j ht ((h1 g j).2 ⟨rfl, hn⟩)
    exact ⟨h1, h2, fun hn => Nat.lt_of_lt_of_le (h3 hn) hc.size, fun i hi => ⟨(hc.cell g i (h3 (by omega)) (nb (by omega) i)).trans (h4 i hi).1, (hc.frozen g i (h3 (by omega)) (nb (by omega) i)).trans (h4 i hi).2⟩⟩
  wr h := fun k j q => (h.1 k j).2 ((h.2.1 k j).1 q)
  rlt h := fun k j q => by
    obtain ⟨e, hn⟩ := (h.1 k j).1 q
    rw [e]; exact h.2.2.1 hn
section
variable {R0 W0 : Fp} {w0 w w' : World} {l : List Th}
theorem push_blk (h : Grp R0 W0 w0 l w) (hb : Below w.heap.size w w') {g n : Nat} {C : Nat → Value} (h1 : 0 < n → g < w'.heap.size) (h2 : 0 < n → w.heap.size ≤ g) (h3 : ∀ i, i < n → w'.cell? ⟨g, i, none⟩ = some (C i) ∧ w'.frozen? ⟨g, i, none⟩ = false) : Grp R0 W0 w0 (l ++ [eOwB g n C]) w' :=
  h.push hb (R1 := fun i _ => i = g ∧ 0 < n) (W1 := fun i _ => i = g ∧ 0 < n) ⟨fun _ _ => Iff.rfl, fun _ _ => Iff.rfl, h1, h3⟩ (fun k j q => by rw [q.1]; exact h2 q.2)
theorem blk_at (h : Grp R0 W0 w0 l w) (i : Nat) {g n : Nat} {C : Nat → Value} (hi : l[i]? = some (eOwB g n C)) (j : Nat) (hj : j < n) : w.cell? ⟨g, j, none⟩ = some (C j) ∧ w.frozen? ⟨g, j, none⟩ = false := by
  obtain ⟨R, W, q⟩ := h.get i hi
  exact q.2.2.2 j hj
def putV (C : Nat → Value) (j : Nat) (v : Value) (i : Nat) : Value := if i = j then v else C i
theorem put_blk (h : Grp R0 W0 w0 l w) (i : Nat) {g n : Nat} {C : Nat → Value} (hi : l[i]? = some (eOwB g n C)) (j : Nat) (hj : j < n) (v : Value) : Grp R0 W0 w0 (l.set i (eOwB g n (putV C j v))) (w.setCell ⟨g, j, none⟩ v) := by
  refine h.set i hi (fun R W ⟨h1, h2, h3, h4⟩ => ?_)
  have hsz : (w.setCell ⟨g, j, none⟩ v).heap.size = w.heap.size := sz_set _ _ _
  have up : ∀ {Q : Fp} (a b : Nat), Up Q w (w.setCell ⟨g, j, none⟩ v) a b ↔ Q a b := fun a b => ⟨fun q => q.elim id (fun q => by rw [hsz] at q; omega), .inl⟩
  have hs : (w.cell? ⟨g, j, none⟩).isSome = true := by rw [(h4 j hj).1]; rfl
  have hset : Cw W w (w.setCell ⟨g, j, none⟩ v) := (M.Ch.set W w g j v ((h2 g j).2 ⟨rfl, by omega⟩) hs).weak
  refine ⟨⟨fun a b => (up a b).trans (h1 a b), fun a b => (up a b).trans (h2 a b), fun hn => by rw [hsz]; exact h3 hn, fun k hk => ⟨?_, by rw [World.frozen?_setCell]; exact (h4 k hk).2⟩⟩, hset⟩
  unfold putV
  by_cases e : k = j
  · subst e
    rw [if_pos rfl, World.cell?_setCell_same _ _ _ (h4 k hk).1]
  · rw [if_neg e, World.cell?_setCell_other _ _ _ _ (by intro q; injection q with q1 q2; exact e q2.symm)]
    exact (h4 k hk).1
end
end Go.Proofs.YtoicpikkcefheaaGreat
namespace Go.Proofs.YtoicpikkcefheaaGreat
open Go.ChangeShapes Go.WideShapes Go.ChangeAt Go.RowKit Go.Sort
open M (Fp Dj Cw Up Th Grp GrpAt GrpC Cpd jn exT)
set_option linter.unusedVariables false
set_option linter.unusedSimpArgs false
set_option maxRecDepth 20000
set_option maxHeartbeats 8000000 in
theorem does_no (w : World) (ia : Option Addr) (ig io n ic : Nat) (X : Nat → Nat) (ea : Option Addr) (en ec eg eo : Nat) (L : List Ev) (sa : Option Addr) (b0 o0 N cap : Nat) (K Z : Nat → Int) (A V : Nat → Nat)
    (hI : Hid (M.Byt w ia ig io n ic X)) (hn0 : Hid (n ≤ 140737488355328)) (hE : Hid (IsE w ea en ec eg eo L)) (hf : Hid (en < 4398046511104)) (hS : Hid (Steps w b0 o0 N K Z A V)) (hsa : Hid (0 < N → sa = some ⟨b0, o0, none⟩ ∧ b0 < w.heap.size)) (hN : Hid (N < 4398046511104)) (ho : Hid (okNew n L = false)) :
    Calls Tryz.prog 3 #[.slice ia n ic, .slice ea en ec, .slice sa N cap] w (RetB true w) := by
  go_enter Tryz.func3, Tryz.ntmps3
  go_wp2_with fail
  refine (fixed_c w).mono ?_; rintro e w1 ⟨rfl, hb1⟩
  have HB := Lib.hid hb1; clear hb1
  have HI1 : Hid (M.Byt w1 ia ig io n ic X) := hI.out.below HB.out
  have HBA : Hid (Below w1.heap.size w1 (w1.alloc (Obj.cells #[] 5))) := below_one w1 _
  go_upto_region 4 with (at_builtin; first
    | (refine M.append_all2 rfl _ _ rfl (M.bL_len n X) (HI1.out.below HBA.out).src _ rfl rfl hn0.out ?_; intro a1 cc1 g1 w2 q1 q2 q3)
    | (refine M.append_all2 rfl _ _ rfl (M.bL_len n X) HI1.out.src _ rfl rfl hn0.out ?_; intro a1 cc1 g1 w2 q1 q2 q3))
  have q4 : Below w1.heap.size w1 w2 := HBA.out.trans (q2.mono (by rw [sz_alloc]; omega))
  have q5 : 0 < n → w1.heap.size ≤ g1 := fun h => Nat.le_trans (by rw [sz_alloc]; omega) (q3 (Nat.lt_of_lt_of_le h q1.le))
  have HG2 : Hid (Gr w [eOwB g1 n (fun i => .int .u8 (X i : Nat))] w2) := by
    have := push_blk (R0 := fun _ _ => False) (W0 := fun _ _ => False) ((grp_nil _ _ w).below HB.out) q4 (g := g1) (n := n) (C := fun i => .int .u8 (X i : Nat)) (fun h => (q1.addr (Nat.lt_of_lt_of_le h q1.le)).2) q5 (fun i hi => by
      have h := q1.cell i hi
      have h2 := (q1.there i (Nat.lt_of_lt_of_le hi q1.le)).2
      rw [Nat.zero_add] at h h2
      rw [M.bL_get n X i hi] at h
      exact ⟨h, h2⟩)
    exact this
  have HO2 : Hid (M.Byt w2 a1 g1 0 n cc1 X) := ⟨fun h => q1.addr (Nat.lt_of_lt_of_le h q1.le), q1.le, fun i hi => by
    have h := q1.cell i hi
    rw [M.bL_get n X i hi] at h; exact h, hI.out.2.2.2⟩
  have HB2 : Hid (Below w.heap.size w w2) := HB.out.trans (q4.mono HB.out.size)
  have HE2 : Hid (IsE w2 ea en ec eg eo L) := hE.out.below HB2.out
  have HBA2 : Hid (Below w2.heap.size w2 (w2.alloc (Obj.cells #[] 38))) := below_one w2 _
  clear q1 q2 q3 q4 q5 HI1 HBA HB
  go_upto_region 5 with (at_builtin; first
    | (refine list_ev2 rfl _ _ rfl (HE2.out.below HBA2.out) _ rfl rfl (Nat.le_of_lt hf.out) ?_; intro a2 cc2 g2 w3 q1 q2 q3 q4)
    | (refine list_ev2 rfl _ _ rfl HE2.out _ rfl rfl (Nat.le_of_lt hf.out) ?_; intro a2 cc2 g2 w3 q1 q2 q3 q4))
  have q5 : Below w2.heap.size w2 w3 := HBA2.out.trans (q2.mono (by rw [sz_alloc]; omega))
  have q6 : 0 < en → w2.heap.size ≤ g2 := fun h => Nat.le_trans (by rw [sz_alloc]; omega) (q3 h)
  have HG3 : Hid (Gr w [eOwB g1 n (fun i => .int .u8 (X i : Nat)), eOwB g2 (4 * en) (fun i => ((evsCells L)[i]?).getD (.int .u8 0))] w3) := by
    have := push_blk HG2.out q5 (g := g2) (n := 4 * en) (C := fun i => ((evsCells L)[i]?).getD (.int .u8 0)) (fun h => (q1.addr (by omega)).2) (fun h => q6 (by omega)) (fun i hi => by
      have h := q1.cell i hi
      rw [Nat.zero_add] at h
      refine ⟨?_, q4 i hi⟩
      rw [h]
      have hl : i < (evsCells L).length := by rw [evs_len, q1.len]; omega
      rw [List.getElem?_eq_getElem hl]; rfl)
    exact this
  have HO3 : Hid (M.Byt w3 a1 g1 0 n cc1 X) := HO2.out.below q5
  have HP3 := Lib.hid q1
  have HB3 : Hid (Below w.heap.size w w3) := HB2.out.trans (q5.mono HB2.out.size)
  clear q1 q2 q3 q4 q5 q6 HG2 HO2 HE2 HBA2 HB2
  have c1 := new_c a1 g1 0 n cc1 X a2 en cc2 g2 0 L 0 0 0 0 none 0 0 w3 HO3 HP3 hf
  rw [ho.out] at c1
  go_wp2_with fail
  refine c1.mono ?_; rintro e w4 ⟨-, h1, hb⟩
  obtain rfl := h1 rfl
  have HG4 : Hid (Gr w [eOwB g1 n (fun i => .int .u8 (X i : Nat)), eOwB g2 (4 * en) (fun i => ((evsCells L)[i]?).getD (.int .u8 0))] w4) := HG3.out.below hb
  have HO4 : Hid (M.Byt w4 a1 g1 0 n cc1 X) := HO3.out.below hb
  have HP4 : Hid (IsE w4 a2 en cc2 g2 0 L) := HP3.out.below hb
  have HB4 : Hid (Below w.heap.size w w4) := HB3.out.trans (hb.mono HB3.out.size)
  clear hb h1 c1 HG3 HO3 HP3 HB3
  have c2 := rnew_c ia ig io n ic X ea en ec eg eo L 0 0 0 0 none 0 0 w4 (Lib.hid (hI.out.below HB4.out)) (Lib.hid (hE.out.below HB4.out)) hf (Lib.hid (fun h => by unfold okIn at h; rw [Bool.and_eq_true] at h; exact okL_all h.2))
  rw [ho.out] at c2
  go_wp2_with fail
  refine c2.mono ?_; rintro e w5 ⟨-, h1, hb⟩
  obtain rfl := h1 rfl
  have HG : Hid (Gr w [eOwB g1 n (fun i => .int .u8 (X i : Nat)), eOwB g2 (4 * en) (fun i => ((evsCells L)[i]?).getD (.int .u8 0))] w5) := HG4.out.below hb
  have HO5 : Hid (M.Byt w5 a1 g1 0 n cc1 X) := HO4.out.below hb
  have HP5 : Hid (IsE w5 a2 en cc2 g2 0 L) := HP4.out.below hb
  clear hb h1 c2 HG4 HO4 HP4 HB4
  have cv1 := HO5.out.conv
  have cv2 := (hI.out.below (gr_out HG.out)).conv
  obtain ⟨SB, hSB⟩ : ∃ SB, T.strB (M.bL n X) = SB := ⟨_, rfl⟩
  rw [hSB] at cv1 cv2
  clear hSB
  have HA2 : Hid (0 < en → a2 = some ⟨g2, 0, none⟩) := fun h => (HP5.out.addr h).1
  have HA1 : Hid (0 < n → a1 = some ⟨g1, 0, none⟩) := fun h => (HO5.out.1 h).1
  have HLn : Hid (L.length = en) := HP5.out.len
  clear HO5 HP5
  go_wp2_with fail
  clear cv1 cv2
  go_loopw [13] (fun iv wr => ∃ (k : Nat) (C : Nat → Value), k ≤ en ∧ iv = .int .i64 k ∧ Hid (Gr w [eOwB g1 n (fun i => .int .u8 (X i : Nat)), eOwB g2 (4 * en) C] wr) ∧ Hid (∀ i, 4 * k ≤ i → i < 4 * en → some (C i) = (evsCells L)[i]?)) (fun iv _ => en - (intOf iv).toNat)
  case atStart => exact ⟨0, _, Nat.zero_le _, rfl, HG, fun i _ hi => by
    have hl : i < (evsCells L).length := by rw [evs_len, HLn.out]; omega
    show some ((_ : Option Value).getD _) = _
    rw [List.getElem?_eq_getElem hl]; rfl⟩
  case round =>
    clear HG
    obtain ⟨k, C, hk, rfl, HG, HC⟩ := hrel
    by_cases hlt : k < en
    · have hlt' : (k : Int) < en := by omega
      obtain rfl := HA2.out (by omega)
      have hev := hE.out.below (gr_out HG.out)
      obtain ⟨rfl, -⟩ := hE.out.addr (by omega)
      obtain ⟨⟨y, kd, m, v⟩, he⟩ : ∃ e, L[k]? = some e := ⟨_, List.getElem?_eq_getElem (by rw [HLn.out]; exact hlt)⟩
      obtain ⟨o0', o1', o2', o3'⟩ := hev.at he
      have ic' : ∀ j, j < 4 → wr.cell? ⟨g2, k * 4 + j, none⟩ = (evCells ⟨y, kd, m, v⟩)[j]? ∧ wr.frozen? ⟨g2, k * 4 + j, none⟩ = false := fun j hj => by
        obtain ⟨q1, q2⟩ := blk_at HG.out 1 rfl (k * 4 + j) (by omega)
        refine ⟨?_, q2⟩
        rw [q1, HC.out _ (by omega) (by omega), show k * 4 + j = 4 * k + j by omega]
        exact evs_get L k j _ he hj
      have i0 : wr.cell? ⟨g2, k * 4, none⟩ = some (.int .i64 y) := (ic' 0 (by decide)).1
      have i1 : wr.cell? ⟨g2, k * 4 + 1, none⟩ = some (.int .i64 kd) := (ic' 1 (by decide)).1
      have i2 : wr.cell? ⟨g2, k * 4 + 2, none⟩ = some (.int .i64 m) := (ic' 2 (by decide)).1
      have i3 : wr.cell? ⟨g2, k * 4 + 3, none⟩ = some (.int .u64 (v : Nat)) := (ic' 3 (by decide)).1
      have kk1 : IntKind.i64.wrap ((k : Int) + 1) = (k : Int) + 1 := by have := hf.out; exact IntWalk.i64_in _ (by omega)
      have KA := cell_regrown i0; have KB := cell_regrown i1; have KC := cell_regrown i2; have KD := cell_regrown i3
      have KE := cell_regrown o0'; have KF := cell_regrown o1'; have KG := cell_regrown o2'; have KH := cell_regrown o3'
      clear hev he ic'
      go_wp2_with fail
      refine wp_region_quiet_below (by kernel_rfl) (by kernel_rfl) ?_
      repeat (go_big_quiet_step (fail))
      refine wpQuiet_nil ?_
      intro _ hw'
      obtain ⟨⟨dq, osq⟩, hw''⟩ := hw'
      subst hw''
      have hb := below_regrown wr dq osq
      generalize grow (redrawn wr dq) osq = w6 at hb ⊢
      replace HG := Lib.hid (HG.out.below hb)
      clear hb KA KB KC KD KE KF KG KH i0 i1 i2 i3 o0' o1' o2' o3'
      have ic2 : ∀ j, j < 4 → (w6.cell? ⟨g2, k * 4 + j, none⟩).isSome = true ∧ w6.frozen? ⟨g2, k * 4 + j, none⟩ = false := fun j hj => by
        obtain ⟨q1, q2⟩ := blk_at HG.out 1 rfl (k * 4 + j) (by omega)
        exact ⟨by rw [q1]; rfl, q2⟩
      have i0 : w6.cell? ⟨g2, k * 4, none⟩ = some (C (k * 4)) := (blk_at HG.out 1 rfl (k * 4) (by omega)).1
      have i1 : w6.cell? ⟨g2, k * 4 + 1, none⟩ = some (C (k * 4 + 1)) := (blk_at HG.out 1 rfl (k * 4 + 1) (by omega)).1
      have i2 : w6.cell? ⟨g2, k * 4 + 2, none⟩ = some (C (k * 4 + 2)) := (blk_at HG.out 1 rfl (k * 4 + 2) (by omega)).1
      have i3 : w6.cell? ⟨g2, k * 4 + 3, none⟩ = some (C (k * 4 + 3)) := (blk_at HG.out 1 rfl (k * 4 + 3) (by omega)).1
      have f0 : w6.frozen? ⟨g2, k * 4, none⟩ = false := (ic2 0 (by decide)).2
      have f1 : w6.frozen? ⟨g2, k * 4 + 1, none⟩ = false := (ic2 1 (by decide)).2
      have f2 : w6.frozen? ⟨g2, k * 4 + 2, none⟩ = false := (ic2 2 (by decide)).2
      have f3 : w6.frozen? ⟨g2, k * 4 + 3, none⟩ = false := (ic2 3 (by decide)).2
      have HP := Lib.hid (put_blk (put_blk (put_blk (put_blk HG.out 1 rfl (k * 4) (by omega) (.int .i64 1)) 1 rfl (k * 4 + 1) (by omega) (.int .i64 1)) 1 rfl (k * 4 + 2) (by omega) (.int .i64 0)) 1 rfl (k * 4 + 3) (by omega) (.int .u64 9))
      have HCn : Hid (∀ i, 4 * (k + 1) ≤ i → i < 4 * en → some (putV (putV (putV (putV C (k * 4) (.int .i64 1)) (k * 4 + 1) (.int .i64 1)) (k * 4 + 2) (.int .i64 0)) (k * 4 + 3) (.int .u64 9) i) = (evsCells L)[i]?) := fun i h1 h2 => by
        unfold putV
        rw [if_neg (by omega), if_neg (by omega), if_neg (by omega), if_neg (by omega)]
        exact HC.out i (by omega) h2
      clear HG HC ic2
      go_wp2_with fail
      exact ⟨⟨k + 1, _, by omega, by go_num, HP, HCn⟩, by simp [intOf]; omega⟩
    · have hlt' : ¬ (k : Int) < en := by omega
      clear HC
      go_wp2_with fail
      go_loopw [14] (fun iv wr => ∃ (k : Nat) (C1 C : Nat → Value), k ≤ n ∧ iv = .int .i64 k ∧ Hid (Gr w [eOwB g1 n C1, eOwB g2 (4 * en) C] wr)) (fun iv _ => n - (intOf iv).toNat)
      case atStart => exact ⟨0, _, _, Nat.zero_le _, rfl, HG⟩
      case round =>
        clear HG
        obtain ⟨j, C1, C2, hj, rfl, HG⟩ := hrel
        by_cases hjl : j < n
        · have hjl' : (j : Int) < n := by omega
          obtain rfl := HA1.out (by omega)
          obtain ⟨i0, f0⟩ := blk_at HG.out 0 rfl j hjl
          have HP := Lib.hid (put_blk HG.out 0 rfl j hjl (.int .u8 90))
          have kk1 : IntKind.i64.wrap ((j : Int) + 1) = (j : Int) + 1 := by have := hn0.out; exact IntWalk.i64_in _ (by omega)
          clear HG
          go_wp2_with fail
          exact ⟨⟨j + 1, _, _, by omega, by go_num, HP⟩, by simp [intOf]; omega⟩
        · have hjl' : ¬ (j : Int) < n := by omega
          go_wp2_with fail
          go_ret
          exact retB_mk rfl (gr_out HG.out)
end Go.Proofs.YtoicpikkcefheaaGreat
namespace Go.Proofs.YtoicpikkcefheaaGreat
open Go.ChangeShapes Go.WideShapes Go.ChangeAt Go.RowKit Go.Sort
open M (Fp Dj Cw Up Th Grp GrpAt GrpC Cpd jn exT)
set_option linter.unusedVariables false
set_option linter.unusedSimpArgs false
set_option maxRecDepth 20000
set_option maxHeartbeats 8000000 in
theorem does_yes (w : World) (ia : Option Addr) (ig io n ic : Nat) (X : Nat → Nat) (ea : Option Addr) (en ec eg eo : Nat) (L : List Ev) (sa : Option Addr) (b0 o0 N cap : Nat) (K Z : Nat → Int) (A V : Nat → Nat)
    (hI : Hid (M.Byt w ia ig io n ic X)) (hn0 : Hid (n ≤ 140737488355328)) (hE : Hid (IsE w ea en ec eg eo L)) (hf : Hid (en < 4398046511104)) (hS : Hid (Steps w b0 o0 N K Z A V)) (hsa : Hid (0 < N → sa = some ⟨b0, o0, none⟩ ∧ b0 < w.heap.size)) (hN : Hid (N < 4398046511104)) (ho : Hid (okNew n L = true)) :
    Calls Tryz.prog 3 #[.slice ia n ic, .slice ea en ec, .slice sa N cap] w (RetB true w) := by
  go_enter Tryz.func3, Tryz.ntmps3
  go_wp2_with fail
  refine (fixed_c w).mono ?_; rintro e w1 ⟨rfl, hb1⟩
  have HB := Lib.hid hb1; clear hb1
  have HI1 : Hid (M.Byt w1 ia ig io n ic X) := hI.out.below HB.out
  have HBA : Hid (Below w1.heap.size w1 (w1.alloc (Obj.cells #[] 5))) := below_one w1 _
  go_upto_region 4 with (at_builtin; first
    | (refine M.append_all2 rfl _ _ rfl (M.bL_len n X) (HI1.out.below HBA.out).src _ rfl rfl hn0.out ?_; intro a1 cc1 g1 w2 q1 q2 q3)
    | (refine M.append_all2 rfl _ _ rfl (M.bL_len n X) HI1.out.src _ rfl rfl hn0.out ?_; intro a1 cc1 g1 w2 q1 q2 q3))
  have q4 : Below w1.heap.size w1 w2 := HBA.out.trans (q2.mono (by rw [sz_alloc]; omega))
  have q5 : 0 < n → w1.heap.size ≤ g1 := fun h => Nat.le_trans (by rw [sz_alloc]; omega) (q3 (Nat.lt_of_lt_of_le h q1.le))
  have HG2 : Hid (Gr w [eOwB g1 n (fun i => .int .u8 (X i : Nat))] w2) := by
    have := push_blk (R0 := fun _ _ => False) (W0 := fun _ _ => False) ((grp_nil _ _ w).below HB.out) q4 (g := g1) (n := n) (C := fun i => .int .u8 (X i : Nat)) (fun h => (q1.addr (Nat.lt_of_lt_of_le h q1.le)).2) q5 (fun i hi => by
      have h := q1.cell i hi
      have h2 := (q1.there i (Nat.lt_of_lt_of_le hi q1.le)).2
      rw [Nat.zero_add] at h h2
      rw [M.bL_get n X i hi] at h
      exact ⟨h, h2⟩)
    exact this
  have HO2 : Hid (M.Byt w2 a1 g1 0 n cc1 X) := ⟨fun h => q1.addr (Nat.lt_of_lt_of_le h q1.le), q1.le, fun i hi => by
    have h := q1.cell i hi
    rw [M.bL_get n X i hi] at h; exact h, hI.out.2.2.2⟩
  have HB2 : Hid (Below w.heap.size w w2) := HB.out.trans (q4.mono HB.out.size)
  have HE2 : Hid (IsE w2 ea en ec eg eo L) := hE.out.below HB2.out
  have HBA2 : Hid (Below w2.heap.size w2 (w2.alloc (Obj.cells #[] 38))) := below_one w2 _
  clear q1 q2 q3 q4 q5 HI1 HBA HB
  go_upto_region 5 with (at_builtin; first
    | (refine list_ev2 rfl _ _ rfl (HE2.out.below HBA2.out) _ rfl rfl (Nat.le_of_lt hf.out) ?_; intro a2 cc2 g2 w3 q1 q2 q3 q4)
    | (refine list_ev2 rfl _ _ rfl HE2.out _ rfl rfl (Nat.le_of_lt hf.out) ?_; intro a2 cc2 g2 w3 q1 q2 q3 q4))
  have q5 : Below w2.heap.size w2 w3 := HBA2.out.trans (q2.mono (by rw [sz_alloc]; omega))
  have q6 : 0 < en → w2.heap.size ≤ g2 := fun h => Nat.le_trans (by rw [sz_alloc]; omega) (q3 h)
  have HG3 : Hid (Gr w [eOwB g1 n (fun i => .int .u8 (X i : Nat)), eOwB g2 (4 * en) (fun i => ((evsCells L)[i]?).getD (.int .u8 0))] w3) := by
    have := push_blk HG2.out q5 (g := g2) (n := 4 * en) (C := fun i => ((evsCells L)[i]?).getD (.int .u8 0)) (fun h => (q1.addr (by omega)).2) (fun h => q6 (by omega)) (fun i hi => by
      have h := q1.cell i hi
      rw [Nat.zero_add] at h
      refine ⟨?_, q4 i hi⟩
      rw [h]
      have hl : i < (evsCells L).length := by rw [evs_len, q1.len]; omega
      rw [List.getElem?_eq_getElem hl]; rfl)
    exact this
  have HO3 : Hid (M.Byt w3 a1 g1 0 n cc1 X) := HO2.out.below q5
  have HP3 := Lib.hid q1
  have HB3 : Hid (Below w.heap.size w w3) := HB2.out.trans (q5.mono HB2.out.size)
  clear q1 q2 q3 q4 q5 q6 HG2 HO2 HE2 HBA2 HB2
  have c1 := new_c a1 g1 0 n cc1 X a2 en cc2 g2 0 L 0 0 0 0 none 0 0 w3 HO3 HP3 hf
  rw [ho.out] at c1
  go_wp2_with fail
  refine c1.mono ?_; rintro e w4 ⟨h1, -, hb⟩
  obtain ⟨b, R, W, rfl, q, hn⟩ := h1 rfl
  have HG4 : Hid (Gr w [eOwB g1 n (fun i => .int .u8 (X i : Nat)), eOwB g2 (4 * en) (fun i => ((evsCells L)[i]?).getD (.int .u8 0)), eBus b (Bs0 n X L)] w4) := HG3.out.push hb q hn
  have HO4 : Hid (M.Byt w4 a1 g1 0 n cc1 X) := HO3.out.below hb
  have HP4 : Hid (IsE w4 a2 en cc2 g2 0 L) := HP3.out.below hb
  have HB4 : Hid (Below w.heap.size w w4) := HB3.out.trans (hb.mono HB3.out.size)
  clear hb h1 c1 q hn HG3 HO3 HP3 HB3
  have c2 := rnew_c ia ig io n ic X ea en ec eg eo L 0 0 0 0 none 0 0 w4 (Lib.hid (hI.out.below HB4.out)) (Lib.hid (hE.out.below HB4.out)) hf (Lib.hid (fun h => by unfold okIn at h; rw [Bool.and_eq_true] at h; exact okL_all h.2))
  rw [ho.out] at c2
  go_wp2_with fail
  refine c2.mono ?_; rintro e w5 ⟨h1, -, hb⟩
  obtain ⟨r, R, W, rfl, q, hn⟩ := h1 rfl
  have HG : Hid (Gr w [eOwB g1 n (fun i => .int .u8 (X i : Nat)), eOwB g2 (4 * en) (fun i => ((evsCells L)[i]?).getD (.int .u8 0)), eBus b (Bs0 n X L), eRB r (Bs0 n X L)] w5) := HG4.out.push hb q hn
  have HO5 : Hid (M.Byt w5 a1 g1 0 n cc1 X) := HO4.out.below hb
  have HP5 : Hid (IsE w5 a2 en cc2 g2 0 L) := HP4.out.below hb
  have HInv := Lib.hid (inv_new n X L ho.out)
  clear hb h1 c2 q hn HG4 HO4 HP4 HB4
  generalize Bs0 n X L = S0 at *
  have cv1 := HO5.out.conv
  have cv2 := (hI.out.below (gr_out HG.out)).conv
  obtain ⟨SB, hSB⟩ : ∃ SB, T.strB (M.bL n X) = SB := ⟨_, rfl⟩
  rw [hSB] at cv1 cv2
  clear hSB
  have HA2 : Hid (0 < en → a2 = some ⟨g2, 0, none⟩) := fun h => (HP5.out.addr h).1
  have HA1 : Hid (0 < n → a1 = some ⟨g1, 0, none⟩) := fun h => (HO5.out.1 h).1
  have HLn : Hid (L.length = en) := HP5.out.len
  clear HO5 HP5
  go_wp2_with fail
  clear cv1 cv2
  go_loopw [13] (fun iv wr => ∃ (k : Nat) (C : Nat → Value), k ≤ en ∧ iv = .int .i64 k ∧ Hid (Gr w [eOwB g1 n (fun i => .int .u8 (X i : Nat)), eOwB g2 (4 * en) C, eBus b S0, eRB r S0] wr) ∧ Hid (∀ i, 4 * k ≤ i → i < 4 * en → some (C i) = (evsCells L)[i]?)) (fun iv _ => en - (intOf iv).toNat)
  case atStart => exact ⟨0, _, Nat.zero_le _, rfl, HG, fun i _ hi => by
    have hl : i < (evsCells L).length := by rw [evs_len, HLn.out]; omega
    show some ((_ : Option Value).getD _) = _
    rw [List.getElem?_eq_getElem hl]; rfl⟩
  case round =>
    clear HG
    obtain ⟨k, C, hk, rfl, HG, HC⟩ := hrel
    by_cases hlt : k < en
    · have hlt' : (k : Int) < en := by omega
      obtain rfl := HA2.out (by omega)
      have hev := hE.out.below (gr_out HG.out)
      obtain ⟨rfl, -⟩ := hE.out.addr (by omega)
      obtain ⟨⟨y, kd, m, v⟩, he⟩ : ∃ e, L[k]? = some e := ⟨_, List.getElem?_eq_getElem (by rw [HLn.out]; exact hlt)⟩
      obtain ⟨o0', o1', o2', o3'⟩ := hev.at he
      have ic' : ∀ j, j < 4 → wr.cell? ⟨g2, k * 4 + j, none⟩ = (evCells ⟨y, kd, m, v⟩)[j]? ∧ wr.frozen? ⟨g2, k * 4 + j, none⟩ = false := fun j hj => by
        obtain ⟨q1, q2⟩ := blk_at HG.out 1 rfl (k * 4 + j) (by omega)
        refine ⟨?_, q2⟩
        rw [q1, HC.out _ (by omega) (by omega), show k * 4 + j = 4 * k + j by omega]
        exact evs_get L k j _ he hj
      have i0 : wr.cell? ⟨g2, k * 4, none⟩ = some (.int .i64 y) := (ic' 0 (by decide)).1
      have i1 : wr.cell? ⟨g2, k * 4 + 1, none⟩ = some (.int .i64 kd) := (ic' 1 (by decide)).1
      have i2 : wr.cell? ⟨g2, k * 4 + 2, none⟩ = some (.int .i64 m) := (ic' 2 (by decide)).1
      have i3 : wr.cell? ⟨g2, k * 4 + 3, none⟩ = some (.int .u64 (v : Nat)) := (ic' 3 (by decide)).1
      have kk1 : IntKind.i64.wrap ((k : Int) + 1) = (k : Int) + 1 := by have := hf.out; exact IntWalk.i64_in _ (by omega)
      have KA := cell_regrown i0; have KB := cell_regrown i1; have KC := cell_regrown i2; have KD := cell_regrown i3
      have KE := cell_regrown o0'; have KF := cell_regrown o1'; have KG := cell_regrown o2'; have KH := cell_regrown o3'
      clear hev he ic'
      go_wp2_with fail
      refine wp_region_quiet_below (by kernel_rfl) (by kernel_rfl) ?_
      repeat (go_big_quiet_step (fail))
      refine wpQuiet_nil ?_
      intro _ hw'
      obtain ⟨⟨dq, osq⟩, hw''⟩ := hw'
      subst hw''
      have hb := below_regrown wr dq osq
      generalize grow (redrawn wr dq) osq = w6 at hb ⊢
      replace HG := Lib.hid (HG.out.below hb)
      clear hb KA KB KC KD KE KF KG KH i0 i1 i2 i3 o0' o1' o2' o3'
      have ic2 : ∀ j, j < 4 → (w6.cell? ⟨g2, k * 4 + j, none⟩).isSome = true ∧ w6.frozen? ⟨g2, k * 4 + j, none⟩ = false := fun j hj => by
        obtain ⟨q1, q2⟩ := blk_at HG.out 1 rfl (k * 4 + j) (by omega)
        exact ⟨by rw [q1]; rfl, q2⟩
      have i0 : w6.cell? ⟨g2, k * 4, none⟩ = some (C (k * 4)) := (blk_at HG.out 1 rfl (k * 4) (by omega)).1
      have i1 : w6.cell? ⟨g2, k * 4 + 1, none⟩ = some (C (k * 4 + 1)) := (blk_at HG.out 1 rfl (k * 4 + 1) (by omega)).1
      have i2 : w6.cell? ⟨g2, k * 4 + 2, none⟩ = some (C (k * 4 + 2)) := (blk_at HG.out 1 rfl (k * 4 + 2) (by omega)).1
      have i3 : w6.cell? ⟨g2, k * 4 + 3, none⟩ = some (C (k * 4 + 3)) := (blk_at HG.out 1 rfl (k * 4 + 3) (by omega)).1
      have f0 : w6.frozen? ⟨g2, k * 4, none⟩ = false := (ic2 0 (by decide)).2
      have f1 : w6.frozen? ⟨g2, k * 4 + 1, none⟩ = false := (ic2 1 (by decide)).2
      have f2 : w6.frozen? ⟨g2, k * 4 + 2, none⟩ = false := (ic2 2 (by decide)).2
      have f3 : w6.frozen? ⟨g2, k * 4 + 3, none⟩ = false := (ic2 3 (by decide)).2
      have HP := Lib.hid (put_blk (put_blk (put_blk (put_blk HG.out 1 rfl (k * 4) (by omega) (.int .i64 1)) 1 rfl (k * 4 + 1) (by omega) (.int .i64 1)) 1 rfl (k * 4 + 2) (by omega) (.int .i64 0)) 1 rfl (k * 4 + 3) (by omega) (.int .u64 9))
      have HCn : Hid (∀ i, 4 * (k + 1) ≤ i → i < 4 * en → some (putV (putV (putV (putV C (k * 4) (.int .i64 1)) (k * 4 + 1) (.int .i64 1)) (k * 4 + 2) (.int .i64 0)) (k * 4 + 3) (.int .u64 9) i) = (evsCells L)[i]?) := fun i h1 h2 => by
        unfold putV
        rw [if_neg (by omega), if_neg (by omega), if_neg (by omega), if_neg (by omega)]
        exact HC.out i (by omega) h2
      clear HG HC ic2
      go_wp2_with fail
      exact ⟨⟨k + 1, _, by omega, by go_num, HP, HCn⟩, by simp [intOf]; omega⟩
    · have hlt' : ¬ (k : Int) < en := by omega
      clear HC
      go_wp2_with fail
      go_loopw [14] (fun iv wr => ∃ (k : Nat) (C1 C : Nat → Value), k ≤ n ∧ iv = .int .i64 k ∧ Hid (Gr w [eOwB g1 n C1, eOwB g2 (4 * en) C, eBus b S0, eRB r S0] wr)) (fun iv _ => n - (intOf iv).toNat)
      case atStart => exact ⟨0, _, _, Nat.zero_le _, rfl, HG⟩
      case round =>
        clear HG
        obtain ⟨j, C1, C2, hj, rfl, HG⟩ := hrel
        by_cases hjl : j < n
        · have hjl' : (j : Int) < n := by omega
          obtain rfl := HA1.out (by omega)
          obtain ⟨i0, f0⟩ := blk_at HG.out 0 rfl j hjl
          have HP := Lib.hid (put_blk HG.out 0 rfl j hjl (.int .u8 90))
          have kk1 : IntKind.i64.wrap ((j : Int) + 1) = (j : Int) + 1 := by have := hn0.out; exact IntWalk.i64_in _ (by omega)
          clear HG
          go_wp2_with fail
          exact ⟨⟨j + 1, _, _, by omega, by go_num, HP⟩, by simp [intOf]; omega⟩
        · have hjl' : ¬ (j : Int) < n := by omega
          have HG2 : Hid (Gr w [eBus b S0, eRB r S0] wr) := HG.out.pick _ (· + 2) (fun i F hi => by
            match i, hi with
            | 0, hi => exact hi
            | 1, hi => exact hi
            | n + 2, hi => simp at hi) (fun i j _ _ h q => h (by omega))
          clear HG
          go_wp2_with fail
          go_loopw [9, 11, 15] (fun bv rv iv wr => ∃ (k b r : Nat) (S : Bs), k ≤ N ∧ iv = .int .i64 k ∧ bv = .pointer (some ⟨b, 0, none⟩) ∧ rv = .pointer (some ⟨r, 0, none⟩) ∧ Hid (Gr w [eBus b S, eRB r S] wr) ∧ Hid (Inv S k)) (fun _ _ iv _ => N - (intOf iv).toNat)
          case atStart => exact ⟨0, b, r, S0, Nat.zero_le _, rfl, rfl, rfl, HG2, HInv⟩
          case round =>
            clear HG2 HInv
            obtain ⟨k, b, r, S, hk, rfl, rfl, rfl, HG, HInv⟩ := hrel
            by_cases hlt : k < N
            · have hlt' : (k : Int) < N := by omega
              obtain ⟨rfl, hbl⟩ := hsa.out (by omega)
              obtain ⟨y0, y1, y2, y3, lx, lv, lz⟩ := (steps_kept hS.out (gr_out HG.out) hbl) k hlt
              obtain ⟨xk, hxk⟩ : ∃ x, K k = x := ⟨_, rfl⟩
              obtain ⟨xa, hxa⟩ : ∃ x, A k = x := ⟨_, rfl⟩
              obtain ⟨xz, hxz⟩ : ∃ x, Z k = x := ⟨_, rfl⟩
              obtain ⟨xv, hxv⟩ : ∃ x, V k = x := ⟨_, rfl⟩
              rw [hxk] at y0; rw [hxa] at y1 lx; rw [hxz] at y2 lz; rw [hxv] at y3 lv
              clear hxk hxa hxz hxv hbl
              replace lv : Hid (xv < W64) := lv
              replace lx : Hid (xa < W64) := lx
              replace lz := Lib.hid lz
              have hsn : Hid (S.D.U.sent.length < 70368744177664) := by have h1 := HInv.out.2.1; have h2 := hN.out; show _ < _; omega
              have kk1 : IntKind.i64.wrap ((k : Int) + 1) = (k : Int) + 1 := by have := hN.out; exact IntWalk.i64_in _ (by omega)
              go_upto_region 25 with fail
              have HX : Hid (Gr w [eBus b S, eRB r S, eX wr.heap.size xk xz xa xv] (wr.alloc (Obj.cells #[.int .i64 xk, .int .u64 (xa : Nat), .int .i64 xz, .int .u64 (xv : Nat)] 40))) := newX HG.out xk xz xa xv _
              clear HG y0 y1 y2 y3
              generalize wr.alloc (Obj.cells #[Value.int .i64 xk, Value.int .u64 (xa : Nat), Value.int .i64 xz, Value.int .u64 (xv : Nat)] 40) = wx at *
              generalize wr.heap.size = x0 at *
              obtain ⟨hxs, z0, z1, z2, z3⟩ := isX HX.out 2 rfl
              by_cases e0 : xk = 0
              · as_aux_lemma =>
                  subst e0
                  have WI := wr_inv S xa xv xz
                  obtain ⟨ok, hok⟩ : ∃ ok, mayB 2 xa xz = ok := ⟨_, rfl⟩
                  have WM := fun w9 (g : Gr w [eBus b S, eRB r S, eX x0 0 xz xa xv] w9) => writeB g 0 rfl xa xv xz lx.out lz.out lv.out hsn.out
                  obtain ⟨S1, hS1⟩ : ∃ S1, S.wr xa xz xv = S1 := ⟨_, rfl⟩
                  have WR := fun w9 (g : Gr w [eBus b S1, eRB r S, eX x0 0 xz xa xv] w9) => writeR g 1 rfl xa xv xz lx.out lv.out hsn.out
                  rw [hok] at WM WR
                  rw [hS1] at WM WR WI
                  have WI2 := Lib.hid WI
                  clear hok hS1 WI
                  replace WM := Lib.hid WM; replace WR := Lib.hid WR
                  go_wp2_with fail
                  refine (WM.out _ HX.out).mono ?_; rintro e w3 ⟨rfl, g⟩
                  replace HX : Hid (Gr w [eBus b S1, eRB r S, eX x0 0 xz xa xv] w3) := g; clear g
                  clear hxs z0 z1 z2 z3
                  obtain ⟨hxs, z0, z1, z2, z3⟩ := isX HX.out 2 rfl
                  go_wp2_with fail
                  refine (WR.out _ HX.out).mono ?_; rintro e w9 ⟨rfl, g⟩
                  replace HX : Hid (Gr w [eBus b S1, eRB r S1, eX x0 0 xz xa xv] w9) := g; clear g
                  clear hxs z0 z1 z2 z3
                  have HG2 : Hid (Gr w [eBus b S1, eRB r S1] w9) := pick2 HX.out
                  have HI2 : Hid (Inv S1 (k + 1)) := ⟨by rw [WI2.out.1]; exact HInv.out.1, by have h1 := WI2.out.2.2; have h2 := HInv.out.2.1; omega, by rw [WI2.out.2.1]; exact HInv.out.2.2.1, by rw [WI2.out.2.1]; have := HInv.out.2.2.2; omega⟩
                  clear HX HInv
                  go_wp2_with fail
                  exact ⟨⟨k + 1, b, r, _, by omega, by go_num, rfl, rfl, HG2, HI2⟩, by simp [intOf]; omega⟩
              · by_cases e1 : xk = 1
                · as_aux_lemma =>
                    clear e0
                    subst e1
                    obtain ⟨kv, hkv⟩ : ∃ kv, IntKind.i64.wrap (xv : Int) = kv := ⟨_, rfl⟩
                    have RI := rd_inv S kv xa xz
                    have WM := fun w9 (g : Gr w [eBus b S, eRB r S, eX x0 1 xz xa xv] w9) => readB g 0 rfl kv xa xz lx.out lz.out
                    obtain ⟨ok, hok⟩ : ∃ ok, mayB kv xa xz = ok := ⟨_, rfl⟩
                    obtain ⟨vl, hvl⟩ : ∃ vl, S.val kv xa xz = vl := ⟨_, rfl⟩
                    obtain ⟨S1, hS1⟩ : ∃ S1, S.rd kv xa xz = S1 := ⟨_, rfl⟩
                    have WR := fun w9 (g : Gr w [eBus b S1, eRB r S, eX x0 1 xz xa xv] w9) => readR g 1 rfl kv xa xz lx.out
                    rw [hok, hvl] at WM WR
                    rw [hS1] at WM WR RI
                    have RI2 := Lib.hid RI
                    clear hok hvl hS1 RI
                    replace WM := Lib.hid WM; replace WR := Lib.hid WR
                    go_wp2_with fail
                    refine (WM.out _ HX.out).mono ?_; rintro e w3 ⟨rfl, g⟩
                    replace HX : Hid (Gr w [eBus b S1, eRB r S, eX x0 1 xz xa xv] w3) := g; clear g
                    clear hxs z0 z1 z2 z3
                    obtain ⟨hxs, z0, z1, z2, z3⟩ := isX HX.out 2 rfl
                    go_wp2_with fail
                    refine (WR.out _ HX.out).mono ?_; rintro e w9 ⟨rfl, g⟩
                    replace HX : Hid (Gr w [eBus b S1, eRB r S1, eX x0 1 xz xa xv] w9) := g; clear g
                    clear hxs z0 z1 z2 z3
                    have HG2 : Hid (Gr w [eBus b S1, eRB r S1] w9) := pick2 HX.out
                    have HI2 : Hid (Inv S1 (k + 1)) := ⟨by rw [RI2.out.1]; exact HInv.out.1, by rw [RI2.out.2.2.1]; have h2 := HInv.out.2.1; omega, by rw [RI2.out.2.1]; exact HInv.out.2.2.1, by rw [RI2.out.2.1]; have := HInv.out.2.2.2; omega⟩
                    clear HX HInv
                    go_wp2_with fail
                    exact ⟨⟨k + 1, b, r, _, by omega, by go_num, rfl, rfl, HG2, HI2⟩, by simp [intOf]; omega⟩
                · by_cases e2 : xk = 2
                  · as_aux_lemma =>
                      clear e0 e1
                      subst e2
                      have TI := tick_sent S HInv.out.1
                      have WI := wr_inv S.tick xa xv xz
                      have CM := Lib.hid (fun w9 (g : Gr w [eBus b S, eRB r S, eX x0 2 xz xa xv] w9) => copyB g 0 rfl)
                      go_wp2_with fail
                      refine (CM.out _ HX.out).mono ?_; rintro e w3 ⟨b', rfl, g, -⟩
                      replace HX : Hid (Gr w [eBus b S, eRB r S, eX x0 2 xz xa xv, eBus b' S] w3) := g; clear g
                      have CR := Lib.hid (fun w9 (g : Gr w [eBus b S, eRB r S, eX x0 2 xz xa xv, eBus b' S] w9) => copyRb g 1 rfl hsn.out)
                      clear hxs z0 z1 z2 z3
                      obtain ⟨hxs, z0, z1, z2, z3⟩ := isX HX.out 2 rfl
                      go_wp2_with fail
                      refine (CR.out _ HX.out).mono ?_; rintro e w4 ⟨r', rfl, g, -⟩
                      replace HX : Hid (Gr w [eBus b S, eRB r S, eX x0 2 xz xa xv, eBus b' S, eRB r' S] w4) := g; clear g
                      have HT := Lib.hid (fun w9 (g : Gr w [eBus b S, eRB r S, eX x0 2 xz xa xv, eBus b' S, eRB r' S] w9) => tickB g 0 rfl ⟨HInv.out.2.2.1, by have h1 := HInv.out.2.2.2; have h2 := hN.out; omega⟩ HInv.out.1)
                      have hs1 : S.tick.D.U.sent.length < 70368744177664 := by rw [TI.2.1]; exact hsn.out
                      have HS1 := Lib.hid hs1
                      obtain ⟨S1, hS1⟩ : ∃ S1, S.tick = S1 := ⟨_, rfl⟩
                      rw [hS1] at HT HS1
                      have HW := Lib.hid (fun w9 (g : Gr w [eBus b S1, eRB r S, eX x0 2 xz xa xv, eBus b' S, eRB r' S] w9) => writeB g 0 rfl xa xv xz lx.out lz.out lv.out HS1.out)
                      obtain ⟨S2, hS2⟩ : ∃ S2, S1.wr xa xz xv = S2 := ⟨_, rfl⟩
                      rw [hS2] at HW
                      have HR := Lib.hid (fun w9 (g : Gr w [eBus b S2, eRB r S, eX x0 2 xz xa xv, eBus b' S, eRB r' S] w9) => readB g 0 rfl 1 xa xz lx.out lz.out)
                      obtain ⟨S3, hS3⟩ : ∃ S3, S2.rd 1 xa xz = S3 := ⟨_, rfl⟩
                      obtain ⟨v3, hv3⟩ : ∃ v3, S2.val 1 xa xz = v3 := ⟨_, rfl⟩
                      rw [hS3, hv3] at HR
                      obtain ⟨m2, hm2⟩ : ∃ m2, mayB 2 xa xz = m2 := ⟨_, rfl⟩
                      rw [hm2] at HW
                      obtain ⟨m1, hm1⟩ : ∃ m1, mayB 1 xa xz = m1 := ⟨_, rfl⟩
                      rw [hm1] at HR
                      clear hS1 hS2 hS3 hv3 hm2 hm1 hs1 TI WI CM CR
                      clear hxs z0 z1 z2 z3
                      obtain ⟨hxs, z0, z1, z2, z3⟩ := isX HX.out 2 rfl
                      go_wp2_with fail
                      refine (HT.out _ HX.out).mono ?_; rintro e w5 ⟨rfl, g⟩
                      replace HX : Hid (Gr w [eBus b S1, eRB r S, eX x0 2 xz xa xv, eBus b' S, eRB r' S] w5) := g; clear g
                      clear hxs z0 z1 z2 z3
                      obtain ⟨hxs, z0, z1, z2, z3⟩ := isX HX.out 2 rfl
                      go_wp2_with fail
                      refine (HW.out _ HX.out).mono ?_; rintro e w6 ⟨rfl, g⟩
                      replace HX : Hid (Gr w [eBus b S2, eRB r S, eX x0 2 xz xa xv, eBus b' S, eRB r' S] w6) := g; clear g
                      clear hxs z0 z1 z2 z3
                      obtain ⟨hxs, z0, z1, z2, z3⟩ := isX HX.out 2 rfl
                      go_wp2_with fail
                      refine (HR.out _ HX.out).mono ?_; rintro e w9 ⟨rfl, g⟩
                      replace HX : Hid (Gr w [eBus b S3, eRB r S, eX x0 2 xz xa xv, eBus b' S, eRB r' S] w9) := g; clear g
                      clear hxs z0 z1 z2 z3
                      have HG2 : Hid (Gr w [eBus b' S, eRB r' S] w9) := HX.out.pick _ (· + 3) (fun i F hi => by
                        match i, hi with
                        | 0, hi => exact hi
                        | 1, hi => exact hi
                        | n + 2, hi => simp at hi) (fun i j _ _ h q => h (by omega))
                      have HI2 : Hid (Inv S (k + 1)) := ⟨HInv.out.1, by have := HInv.out.2.1; omega, HInv.out.2.2.1, by have := HInv.out.2.2.2; omega⟩
                      clear HX HInv
                      go_wp2_with fail
                      exact ⟨⟨k + 1, b', r', _, by omega, by go_num, rfl, rfl, HG2, HI2⟩, by simp [intOf]; omega⟩
                  · by_cases e3 : xk = 3
                    · as_aux_lemma =>
                        clear e0 e1 e2
                        subst e3
                        have TI := tick_sent S HInv.out.1
                        have HT := fun w9 (g : Gr w [eBus b S, eRB r S, eX x0 3 xz xa xv] w9) => tickB g 0 rfl ⟨HInv.out.2.2.1, by have h1 := HInv.out.2.2.2; have h2 := hN.out; omega⟩ HInv.out.1
                        have hcy : -1 ≤ S.cyc ∧ S.cyc < 4611686018427387904 := ⟨HInv.out.2.2.1, by have h1 := HInv.out.2.2.2; have h2 := hN.out; omega⟩
                        have HCY := Lib.hid hcy
                        obtain ⟨S1, hS1⟩ : ∃ S1, S.tick = S1 := ⟨_, rfl⟩
                        have HT2 := fun w9 (g : Gr w [eBus b S1, eRB r S, eX x0 3 xz xa xv] w9) => tickR g 1 rfl HCY.out
                        rw [hS1] at HT HT2 TI
                        have TI2 := Lib.hid TI
                        clear hS1 TI hcy
                        replace HT := Lib.hid HT; replace HT2 := Lib.hid HT2
                        go_wp2_with fail
                        refine (HT.out _ HX.out).mono ?_; rintro e w3 ⟨rfl, g⟩
                        replace HX : Hid (Gr w [eBus b S1, eRB r S, eX x0 3 xz xa xv] w3) := g; clear g
                        clear hxs z0 z1 z2 z3
                        obtain ⟨hxs, z0, z1, z2, z3⟩ := isX HX.out 2 rfl
                        go_wp2_with fail
                        refine (HT2.out _ HX.out).mono ?_; rintro e w9 ⟨rfl, g⟩
                        replace HX : Hid (Gr w [eBus b S1, eRB r S1, eX x0 3 xz xa xv] w9) := g; clear g
                        clear hxs z0 z1 z2 z3
                        have HG2 : Hid (Gr w [eBus b S1, eRB r S1] w9) := pick2 HX.out
                        have HI2 : Hid (Inv S1 (k + 1)) := ⟨TI2.out.1, by rw [TI2.out.2.1]; have := HInv.out.2.1; omega, by rw [TI2.out.2.2.2.1]; have := HInv.out.2.2.1; omega, by rw [TI2.out.2.2.2.1]; have := HInv.out.2.2.2; omega⟩
                        clear HX HInv
                        go_wp2_with fail
                        exact ⟨⟨k + 1, b, r, _, by omega, by go_num, rfl, rfl, HG2, HI2⟩, by simp [intOf]; omega⟩
                    · by_cases e4 : xk = 4
                      · as_aux_lemma =>
                          clear e0 e1 e2 e3
                          subst e4
                          obtain ⟨kv, hkv⟩ : ∃ kv, IntKind.i64.wrap (xv : Int) = kv := ⟨_, rfl⟩
                          obtain ⟨m1, hm1⟩ : ∃ m1, mayB kv xa xz = m1 := ⟨_, rfl⟩
                          obtain ⟨p1, hp1⟩ : ∃ p1, M.hasV xa xz = p1 := ⟨_, rfl⟩
                          have q1 := calls_regrown (W := wx) (fun w9 hb => mayQ (HX.out.below hb) 0 rfl kv xa xz lx.out lz.out)
                          have q2 := calls_regrown (W := wx) (fun w9 hb => mayR (HX.out.below hb) 1 rfl hsn.out kv xa xz lx.out)
                          have q3 := calls_regrown (W := wx) (fun w9 hb => plainQ (HX.out.below hb) 0 rfl xa xz lx.out)
                          have q4 := calls_regrown (W := wx) (fun w9 hb => plainR (HX.out.below hb) 1 rfl xa xz lx.out)
                          rw [hm1] at q1 q2
                          rw [hp1] at q3 q4
                          have K1 := cell_regrown z1; have K2 := cell_regrown z2; have K3 := cell_regrown z3
                          clear hm1 hp1
                          go_wp2_with fail
                          refine wp_region_quiet_below (by kernel_rfl) (by kernel_rfl) ?_
                          repeat (go_big_quiet_step (first | (go_at_call 15; exact q1 _ _) | (go_at_call 16; exact q2 _ _) | (go_at_call 17; exact q3 _ _) | (go_at_call 18; exact q4 _ _)))
                          refine wpQuiet_nil ?_
                          intro _ hw'
                          obtain ⟨⟨dq, osq⟩, hw''⟩ := hw'
                          subst hw''
                          have hb := below_regrown wx dq osq
                          generalize grow (redrawn wx dq) osq = w9 at hb ⊢
                          replace HX := Lib.hid (HX.out.below hb)
                          clear hb q1 q2 q3 q4 K1 K2 K3
                          clear hxs z0 z1 z2 z3
                          have HG2 : Hid (Gr w [eBus b S, eRB r S] w9) := pick2 HX.out
                          have HI2 : Hid (Inv S (k + 1)) := ⟨HInv.out.1, by have := HInv.out.2.1; omega, HInv.out.2.2.1, by have := HInv.out.2.2.2; omega⟩
                          clear HX HInv
                          go_wp2_with fail
                          exact ⟨⟨k + 1, b, r, _, by omega, by go_num, rfl, rfl, HG2, HI2⟩, by simp [intOf]; omega⟩
                      · as_aux_lemma =>
                          have AC := Lib.hid (fun w9 (g : Gr w [eBus b S, eRB r S, eX x0 xk xz xa xv] w9) => asked_c w w9 b r S _ g hsn)
                          go_wp2_with fail
                          refine (AC.out _ HX.out).mono ?_; rintro e w9 ⟨rfl, g⟩
                          replace HX : Hid (Gr w [eBus b S, eRB r S, eX x0 xk xz xa xv] w9) := g; clear g
                          clear hxs z0 z1 z2 z3
                          have HG2 : Hid (Gr w [eBus b S, eRB r S] w9) := pick2 HX.out
                          have HI2 : Hid (Inv S (k + 1)) := ⟨HInv.out.1, by have := HInv.out.2.1; omega, HInv.out.2.2.1, by have := HInv.out.2.2.2; omega⟩
                          clear HX HInv
                          go_wp2_with fail
                          exact ⟨⟨k + 1, b, r, _, by omega, by go_num, rfl, rfl, HG2, HI2⟩, by simp [intOf]; omega⟩
            · have hlt' : ¬ (k : Int) < N := by omega
              have hsn : Hid (S.D.U.sent.length < 70368744177664) := by have h1 := HInv.out.2.1; have h2 := hN.out; show _ < _; omega
              have RI := rd_inv S 1 2147483648 8
              have HR1 := fun w9 (g : Gr w [eBus b S, eRB r S] w9) => readB g 0 rfl 1 2147483648 8 (by decide) wf_lits.2.2
              obtain ⟨S1, hS1⟩ : ∃ S1, S.rd 1 2147483648 8 = S1 := ⟨_, rfl⟩
              obtain ⟨v1, hv1⟩ : ∃ v1, S.val 1 2147483648 8 = v1 := ⟨_, rfl⟩
              obtain ⟨m1, hm1⟩ : ∃ m1, mayB 1 2147483648 8 = m1 := ⟨_, rfl⟩
              have HR2 := fun w9 (g : Gr w [eBus b S1, eRB r S] w9) => readR g 1 rfl 1 2147483648 8 (by decide)
              rw [hS1, hv1, hm1] at HR1 HR2
              rw [hS1] at RI
              have hsn1 : Hid (S1.D.U.sent.length < 70368744177664) := by show _ < _; rw [RI.2.2.1]; exact hsn.out
              have AC := Lib.hid (fun w9 (g : Gr w [eBus b S1, eRB r S1] w9) => asked_c w w9 b r S1 _ g hsn1)
              replace HR1 := Lib.hid HR1; replace HR2 := Lib.hid HR2
              clear hS1 hv1 hm1 RI HInv
              go_wp2_with fail
              refine (HR1.out _ HG.out).mono ?_; rintro e w3 ⟨rfl, g⟩
              replace HG : Hid (Gr w [eBus b S1, eRB r S] w3) := g; clear g
              go_wp2_with fail
              refine (HR2.out _ HG.out).mono ?_; rintro e w4 ⟨rfl, g⟩
              replace HG : Hid (Gr w [eBus b S1, eRB r S1] w4) := g; clear g
              go_wp2_with fail
              refine (AC.out _ HG.out).mono ?_; rintro e w5 ⟨rfl, g⟩
              go_wp2_with fail
              go_ret
              exact retB_mk rfl (gr_out g)
end Go.Proofs.YtoicpikkcefheaaGreat
namespace Go.Proofs.YtoicpikkcefheaaGreat
open Go.ChangeShapes Go.WideShapes Go.ChangeAt Go.RowKit
set_option linter.unusedVariables false
set_option linter.unusedSimpArgs false
theorem open_image {H : Type} {enc : TypeId × Value → H} {W : World} {v : Value} {d : DataW H} {p : List MemPlace} (hv : ∃ a len cap, v = .slice a len cap) (h : DataW.Trod enc Tryz.prog W 0 (fun _ => true) true 22 v d p) :
    ∃ (a : Option Addr) (b o n cap : Nat) (R : Nat → Nat), v = .slice a n cap ∧ (0 < n → a = some ⟨b, o, none⟩ ∧ b < W.heap.size) ∧ n ≤ cap ∧ (∀ i, i < n → W.cell? ⟨b, o + i, none⟩ = some (.int .u8 (R i : Nat))) ∧ (∀ i, R i < 256) ∧ n ≤ 9223372036854775807 ∧ (n = 0 ∨ ∃ elems spare, d = .slice elems spare ∧ elems.length = n) := by
  obtain ⟨a0, len0, cap0, rfl⟩ := hv
  obtain ⟨fuel, hf⟩ := h
  have cu : Tryz.prog.cellsOf 5 = 1 := by kernel_rfl
  rcases Deep.open_slice1 Tryz.underlying22 cu hf with ⟨h0, -⟩ | ⟨a, len, cap, m, n, V, D, Pl, h0, hb, hl, hm, hmm, hxe, hx⟩
  · simp [Value.cells] at h0
    obtain ⟨rfl, rfl, rfl⟩ := h0
    exact ⟨none, 0, 0, 0, 0, fun _ => 0, rfl, fun h => absurd h (by omega), Nat.le_refl _, fun i hi => absurd hi (by omega), fun _ => by show 0 < 256; decide, by omega, .inl rfl⟩
  · simp [Value.cells] at h0
    obtain ⟨rfl, rfl, rfl⟩ := h0
    have hcap : len0 ≤ 9223372036854775807 := by
      have : len0 ≤ maxLen := Nat.le_trans hl hm
      unfold maxLen at this
      omega
    by_cases hz : len0 = 0
    · subst hz
      exact ⟨some a, 0, 0, 0, cap0, fun _ => 0, rfl, fun h => absurd h (by omega), Nat.zero_le _, fun i hi => absurd hi (by omega), fun _ => by show 0 < 256; decide, by omega, .inl rfl⟩
    · have hlm : len0 ≤ m := by rw [hmm]; simp; omega
      have each : ∀ i, i < len0 → ∃ r : Nat, W.cell? (a.add i) = some (.int .u8 (r : Nat)) ∧ r < 256 := by
        intro i hi
        obtain ⟨h1, h2⟩ := hx i (by omega)
        obtain ⟨k, e0, -, w0⟩ := DataW.trod_int Tryz.underlying5 h2
        obtain ⟨r, rfl, hr⟩ := u8_of_wf w0
        simp at e0
        rw [e0] at h1
        exact ⟨r, h1, hr.out⟩
      obtain ⟨q, hq⟩ := Deep.choose_lt each
      obtain ⟨ab, ao, asp⟩ := a
      have q0 := (hq 0 (by omega)).1
      have hlt : ab < W.heap.size := block_lt_of_cell q0
      have hs : asp = none := by
        cases asp with
        | none => rfl
        | some s => simp [World.cell?, Addr.add] at q0; split at q0 <;> cases q0
      subst hs
      refine ⟨_, ab, ao, len0, cap0, fun i => if i < len0 then q i else 0, rfl, fun _ => ⟨rfl, hlt⟩, hl, fun i hi => ?_, fun i => ?_, hcap, .inr ?_⟩
      · have h1 := (hq i hi).1
        rw [Go.WideShapes.add_plain] at h1
        show W.cell? _ = some (.int .u8 ((if i < len0 then q i else 0 : Nat) : Int))
        rw [if_pos hi]; exact h1
      · show (if i < len0 then q i else 0) < 256
        by_cases c : i < len0
        · rw [if_pos c]; exact (hq i c).2
        · rw [if_neg c]; decide
      · injection hxe with hd hp
        exact ⟨_, _, hd, by simp⟩
theorem few_image {H : Type} {ts : List TypeId} {ds : List (DataW H)} {d : DataW H} {n j : Nat} (hd : n = 0 ∨ ∃ elems spare, d = .slice elems spare ∧ elems.length = n) (hsz : (DataW.weightsEach Tryz.prog ts ds).all (· ≤ reachBytes) = true) (ht : ts[j]? = some 22) (hdj : ds[j]? = some d) : n ≤ 140737488355328 := by
  rcases hd with rfl | ⟨elems, spare, rfl, rfl⟩
  · decide
  · have := sized_slice hsz (j := j) (t := 22) (e := 5) ht hdj Tryz.underlying22
    rw [show Tryz.prog.bytesOf 5 = 1 by kernel_rfl] at this
    simp only [reachBytes] at this
    omega
theorem busDoes_walk {H : Type} {enc : TypeId × Value → H} {W : World} {v0 v1 v2 : Value} {d0 d1 d2 : DataW H} {p0 p1 p2 : List MemPlace} (hv0 : ∃ a len cap, v0 = .slice a len cap) (hv1 : ∃ a len cap, v1 = .slice a len cap) (hv2 : ∃ a len cap, v2 = .slice a len cap)
    (h0 : DataW.Trod enc Tryz.prog W 0 (fun _ => true) true 22 v0 d0 p0) (h1 : DataW.Trod enc Tryz.prog W 0 (fun _ => true) true 23 v1 d1 p1) (h2 : DataW.Trod enc Tryz.prog W 0 (fun _ => true) true 24 v2 d2 p2)
    (hsz : (DataW.weightsEach Tryz.prog [22, 23, 24] [d0, d1, d2]).all (· ≤ reachBytes) = true) :
    Calls Tryz.prog 3 #[v0, v1, v2] W (RetB true W) := by
  obtain ⟨ia, ig, io, n, ic, X, rfl, i1, i2, i3, i4, i5, hd0⟩ := open_image hv0 h0
  obtain ⟨ea, eg, eo, en, ec, L, rfl, hE, hL, hd⟩ := open_events hv1 h1
  obtain ⟨sa, b, o, N, cap, K, Z, A, V, rfl, hS, hsa, hd2⟩ := open_steps hv2 h2
  cases ho : okNew n L
  · exact does_no W ia ig io n ic X ea en ec eg eo L sa b o N cap K Z A V (Lib.hid ⟨i1, i2, i3, i4⟩) (Lib.hid (few_image hd0 hsz (j := 0) rfl rfl)) (Lib.hid hE) (Lib.hid (few hd hsz (j := 1) rfl rfl Tryz.underlying23 (by kernel_rfl))) (Lib.hid hS) (Lib.hid hsa) (Lib.hid (few hd2 hsz (j := 2) rfl rfl Tryz.underlying24 (by kernel_rfl))) (Lib.hid ho)
  · exact does_yes W ia ig io n ic X ea en ec eg eo L sa b o N cap K Z A V (Lib.hid ⟨i1, i2, i3, i4⟩) (Lib.hid (few_image hd0 hsz (j := 0) rfl rfl)) (Lib.hid hE) (Lib.hid (few hd hsz (j := 1) rfl rfl Tryz.underlying23 (by kernel_rfl))) (Lib.hid hS) (Lib.hid hsa) (Lib.hid (few hd2 hsz (j := 2) rfl rfl Tryz.underlying24 (by kernel_rfl))) (Lib.hid ho)
end Go.Proofs.YtoicpikkcefheaaGreat
namespace Go.Proofs.YtoicpikkcefheaaGreat.busDoes
open Go.ChangeShapes Go.WideShapes Go.ChangeAt Go.RowKit
set_option linter.unusedVariables false
set_option linter.unusedSimpArgs false
theorem own : ownKnob Tryz.prog.godebug = none := by kernel_rfl
set_option maxRecDepth 100000 in
theorem lifted (os : Os) (started : os.Started) (H : Type) (enc : TypeId × Value → H) :
    ReturnsInHanded {} Tryz.checked os 3 .any (Rows.busDoesSpec.pre6 enc Tryz.prog Tryz.f3 Rows.busDoesRow.domain false) (Rows.busDoesSpec.post enc Tryz.prog Tryz.f3 false true false false) := by
  refine returnsInHanded_of_change_sized (C := Tryz.checked) own started (by kernel_rfl) Tryz.func3
    (ChangeSpec.witness6 (enc := enc) (C := Tryz.checked) false ⟨#[], #[.slice none 0 0, .slice none 0 0, .slice none 0 0], []⟩ 8 (by kernel_rfl) (by kernel_rfl) (by kernel_rfl) (by kernel_rfl)) ?_
  intro W base args ds gs before hval0 hW hcnd hsz0 _
  have hsz1 : (DataW.weightsEach Tryz.prog (Tryz.f3.params.toList ++ Rows.busDoesSpec.plain.varTypes Tryz.prog) (ds ++ gs)).all (· ≤ reachBytes) = true := hsz0
  have hval : ∀ (j : Nat) t v, Tryz.f3.params[j]? = some t → args[j]? = some v → Value.okWide Tryz.prog W .any base t v := hval0
  have hW' := hW
  have hlt := fun p hp => hW.lt (p := p) hp
  obtain ⟨p, q, hA0, hV, rfl, hfz, hnd⟩ := hW
  have hA : DataW.TrodAll enc Tryz.prog W 0 (fun _ => true) true Tryz.f3.params.toList args.toList ds p := hA0
  rw [Tryz.params3] at hA hval
  obtain ⟨v0, vs0, d0, ds0, p0, q0, hargs, rfl, rfl, h0, r0⟩ := trodAll_cons hA
  obtain ⟨v1, vs1, d1, ds1, p1, q1, rfl, rfl, rfl, h1, r1⟩ := trodAll_cons r0
  obtain ⟨v2, vs2, d2, ds2, p2, q2, rfl, rfl, rfl, h2, r2⟩ := trodAll_cons r1
  obtain ⟨rfl, rfl, rfl⟩ := trodAll_nil r2
  obtain rfl : args = #[v0, v1, v2] := by cases args; simp_all
  obtain ⟨rfl, rfl⟩ := trodVars_none hV
  have hs0 := okWide_slice Tryz.underlying22 (hval 0 22 v0 rfl rfl)
  have hs1 := okWide_slice Tryz.underlying23 (hval 1 23 v1 rfl rfl)
  have hs2 := okWide_slice Tryz.underlying24 (hval 2 24 v2 rfl rfl)
  have hsz : (DataW.weightsEach Tryz.prog [22, 23, 24] [d0, d1, d2]).all (· ≤ reachBytes) = true := hsz1
  clear hA0 hval0 hsz0 hsz1
  simp only [List.append_nil] at hW' hlt
  refine (busDoes_walk hs0 hs1 hs2 h0 h1 h2 hsz).mono fun e W' ⟨he, hg⟩ => ?_
  subst he
  have ht0 := Below.trod laidOut (by kernel_rfl) (of_decide_eq_true (by kernel_rfl)) h0 hg (fun x hx => hlt x (List.mem_append_left _ hx))
  have ht1 := Below.trod laidOut (by kernel_rfl) (of_decide_eq_true (by kernel_rfl)) h1 hg (fun x hx => hlt x (List.mem_append_right _ (List.mem_append_left _ hx)))
  have ht2 := Below.trod laidOut (by kernel_rfl) (of_decide_eq_true (by kernel_rfl)) h2 hg (fun x hx => hlt x (List.mem_append_right _ (List.mem_append_right _ hx)))
  refine ⟨_, rfl, post_old hW' (fun _ _ _ => (trodAll_cons_mk (shut_bool Tryz.underlying4 _) trodAll_mk0)) ?_ (fun _ => rfl) hg⟩
  have := trodAll_cons_mk ht0 (trodAll_cons_mk ht1 (trodAll_cons_mk ht2 (trodAll_mk0 (enc := enc) (P := Tryz.prog) (w := W') (base := 0) (spare := fun b => decide (b < W.heap.size)) (held := true))))
  have h9 : DataW.TrodAll enc Tryz.prog W' 0 (fun b => decide (b < W.heap.size)) true [22, 23, 24] [v0, v1, v2] [d0, d1, d2] (p0 ++ (p1 ++ p2)) := by simpa using this
  exact h9
theorem over : Rows.busDoesRow.holds Tryz.pinned (OpenSpec.ofChange Rows.busDoesSpec) :=
  OpenClaim.holds_of_wide 3 Tryz.f3 rfl rfl rfl rfl rfl rfl rfl ⟨rfl, rfl, rfl, rfl, rfl⟩ rfl rfl rfl rfl rfl (by kernel_rfl) Tryz.func3 (by kernel_rfl)
    (of_decide_eq_true (by kernel_rfl)) (by unfold Func.isWrapper; first | (rw [if_pos (by decide +kernel)]; kernel_rfl) | (rw [if_neg (by decide +kernel)]; exact ⟨rfl, rfl⟩))
    (fun os started H enc _ => lifted os started H enc)
theorem proved : Rows.BusDoesSaid := over
#print axioms proved
end Go.Proofs.YtoicpikkcefheaaGreat.busDoes
