/- Whole pages: as values, how they compare; a page with bytes that is named; New with its footprint; Lay. -/
import Derived.Test.YtibgdlianedcbaaB8
import Derived.ChangeKeysEq
import Derived.Laws.Rows
import Derived.Deep.WholeRow
namespace Go.Proofs.Ytibgdlianedcbaa
open Go.Maps Go.WideMaps Go.ChangeShapes Go.WideShapes Go.ChangeAt Go.RowKit
set_option linter.unusedVariables false
set_option linter.unusedSimpArgs false
theorem PageIs.congr {w : World} {p : Nat} {f g : Nat → Nat} (h : PageIs w p f) (e : ∀ i, i < 4096 → f i = g i) : PageIs w p g :=
  ⟨h.1, fun i hi => by rw [← e i hi]; exact h.2 i hi⟩
/-- A page's bytes as a value. -/
def pgA (f : Nat → Nat) : Array Value := ((List.range 4096).map (fun i => (.int .u8 (f i : Nat) : Value))).toArray
theorem pgA_size (f : Nat → Nat) : (pgA f).size = 4096 := by simp [pgA]
theorem pgA_get (f : Nat → Nat) (i : Nat) (hi : i < 4096) : (pgA f)[i]? = some (.int .u8 (f i : Nat)) := by
  unfold pgA
  rw [List.getElem?_toArray, List.getElem?_map, List.getElem?_range hi]; rfl
theorem one_gen (f : Nat → Nat) (n : Nat) : (((List.range n).map (fun i => (.int .u8 (f i : Nat) : Value))).toArray).all (·.oneCell') = true := by
  rw [← Array.all_toList, List.all_eq_true]
  intro v hv
  obtain ⟨i, -, rfl⟩ := List.mem_map.1 hv
  rfl
theorem pgA_one (f : Nat → Nat) : (pgA f).all (·.oneCell') = true := one_gen f 4096
theorem pgA_zero : pgA (fun _ => 0) = Array.replicate 4096 (.int .u8 0) := by
  apply Array.ext_getElem?
  intro i
  by_cases hi : i < 4096
  · rw [pgA_get _ i hi, Array.getElem?_replicate, if_pos hi]; rfl
  · rw [Array.getElem?_eq_none (by rw [pgA_size]; omega), Array.getElem?_replicate, if_neg hi]
theorem page_built : Try.prog.built 61 [] = some (pgA (fun _ => 0)) := by rw [pgA_zero]; kernel_rfl
theorem info_page (f : Nat → Nat) : (Try.prog.info? 61).map (·.size) = some (pgA f).size := by rw [pgA_size]; kernel_rfl
theorem page_cells {w : World} {p : Nat} {f : Nat → Nat} (h : PageIs w p f) : ∀ j, j < (pgA f).size → w.cell? ⟨p, 0 + j, none⟩ = (pgA f)[j]? := by
  intro j hj
  rw [pgA_size] at hj
  rw [Nat.zero_add, (h.2 j hj).1, pgA_get f j hj]
theorem page_new (w : World) (f : Nat → Nat) (t : TypeId) : PageIs (w.alloc (Obj.cells (pgA f) t)) w.heap.size f := by
  refine ⟨by simp, fun i hi => ⟨?_, ?_⟩⟩
  · rw [World.cell?_alloc_at _ _ _ _ rfl]; exact pgA_get f i hi
  · rw [World.frozen?_alloc_at _ _ _ _ rfl]
def eqL (f g : Nat → Nat) : List Nat → Bool
  | [] => true
  | i :: l => (f i == g i) && eqL f g l
theorem eqL_all (f g : Nat → Nat) : ∀ l : List Nat, eqL f g l = true ↔ ∀ i, i ∈ l → f i = g i
  | [] => by simp [eqL]
  | i :: l => by
    simp only [eqL, Bool.and_eq_true, beq_iff_eq, eqL_all f g l, List.mem_cons]
    constructor
    · rintro ⟨h1, h2⟩ j (rfl | hj)
      · exact h1
      · exact h2 j hj
    · intro h
      exact ⟨h i (Or.inl rfl), fun j hj => h j (Or.inr hj)⟩
/-- Are two pages the same? -/
def eqPg (f g : Nat → Nat) : Bool := eqL f g (List.range 4096)
theorem eqPg_true (f g : Nat → Nat) : eqPg f g = true ↔ ∀ i, i < 4096 → f i = g i := by
  unfold eqPg
  rw [eqL_all]
  simp only [List.mem_range]
theorem plain8 : Try.prog.plainKey 5 = true := by kernel_rfl
theorem run_items (w : World) (f g : Nat → Nat) (d : Nat) : ∀ l : List Nat, (∀ i, i ∈ l → i < 4096) → (Op.eqItems (d + 1) 5 1 (pgA f) (pgA g) l).run Try.prog w = .ok (eqL f g l) w
  | [], _ => by simp [Op.eqItems, eqL]
  | i :: l, h => by
    have hi := h i (List.mem_cons_self)
    have p1 := run_part_plain (P := Try.prog) w plain8 (xs := pgA f) (off := i * 1) (by rw [Nat.mul_one]; exact pgA_get f i hi)
    have p2 := run_part_plain (P := Try.prog) w plain8 (xs := pgA g) (off := i * 1) (by rw [Nat.mul_one]; exact pgA_get g i hi)
    have p3 := run_equalIn_int (P := Try.prog) w d 5 .u8 .u8 (f i : Nat) (g i : Nat) Try.underlying5
    have ih := run_items w f g d l (fun j hj => h j (List.mem_cons_of_mem _ hj))
    have e : (((f i : Nat) : Int) == ((g i : Nat) : Int)) = (f i == g i) := by rw [Bool.eq_iff_iff]; simp; omega
    simp only [Op.eqItems, Sem.run_bind, p1, p2, p3, Result.andThen_ok, eqL, e]
    cases f i == g i
    · simp
    · simpa using ih
theorem info8 : ∃ i, Try.prog.info? 5 = some i := by
  cases h : Try.prog.info? 5 with
  | some i => exact ⟨i, rfl⟩
  | none =>
    have : (Try.prog.info? 5).isSome = true := by kernel_rfl
    rw [h] at this; cases this
theorem cells8' : Try.prog.cellsOf 5 = 1 := by kernel_rfl
theorem run_eq_page (w : World) (f g : Nat → Nat) : (Op.equal 61 (.agg (pgA f)) (.agg (pgA g))).run Try.prog w = .ok (eqPg f g) w := by
  obtain ⟨i, hi⟩ := info8
  unfold Op.equal
  rw [show Op.maxDepth = 9999 + 1 from rfl, run_equalIn_array w 9999 (pgA f) (pgA g) Try.underlying61 hi, cells8']
  exact run_items w f g 9998 _ (fun j hj => List.mem_range.1 hj)
theorem run_neq_page (w : World) (x y : Operand) (f g : Nat → Nat) : (do eqGuard .neq 61 x y (.agg (pgA f)) (.agg (pgA g)); binOp .neq 61 (.agg (pgA f)) (.agg (pgA g)) : Sem Value).run Try.prog w = .ok (.bool (!(eqPg f g))) w := by
  rw [Sem.run_bind, run_eqGuard_agg w .neq 61 x y _ _ Try.eqGuardType61, Result.andThen_ok]
  simp only [binOp, Sem.run_bind, run_eq_page w f g, Result.andThen_ok]
  rfl
theorem exec_neq_page {o : Oper} {a : Act} (x y : Operand) (t : TypeId) (ho : o.op = .binOp .neq 61 x y t) (f g : Nat → Nat) (hx : a.eval x = .agg (pgA f)) (hy : a.eval y = .agg (pgA g)) (w : World) :
    (execOp a.eval o).run Try.prog w = .ok (.value (.bool (!(eqPg f g)))) w := by
  have h := run_neq_page w x y f g
  unfold execOp
  simp only [ho, hx, hy]
  rw [Sem.run_bind, h]
  rfl
theorem wpList_neq_page {ops : Array Oper} {rest : List Oper} {o : Oper} {a : Act} {w : World} {Q : Exit → Act → World → Prop} (hgd : o.guard = none) (x y : Operand) (t : TypeId) (ho : o.op = .binOp .neq 61 x y t) (f g : Nat → Nat)
    (hx : a.eval x = .agg (pgA f)) (hy : a.eval y = .agg (pgA g)) (h : wpList Try.prog ops Q rest (a.put o.dst (.bool (!(eqPg f g)))) w) : wpList Try.prog ops Q (o :: rest) a w :=
  wpList_plain hgd fun K hK => by
    unfold Oper.wp
    rw [exec_neq_page x y t ho f g hx hy w]
    exact hK _ _ h
theorem quiet_neq_page {o : Oper} {a : Act} {C : World → Prop} {K : Act → Prop} (x y : Operand) (t : TypeId) (ho : o.op = .binOp .neq 61 x y t) (f g : Nat → Nat)
    (hx : a.eval x = .agg (pgA f)) (hy : a.eval y = .agg (pgA g)) (b : Bool) (hb : eqPg f g = !b) (h : K (a.put o.dst (.bool b))) : o.quiet Try.prog a C K :=
  ⟨_, fun w _ => by unfold Oper.quietAt; rw [exec_neq_page x y t ho f g hx hy w, hb, Bool.not_not]; exact ⟨rfl, rfl⟩, h⟩
theorem run_load_page {o : Oper} {a : Act} (x : Operand) (ho : o.op = .load 61 x) (p : Nat) (hx : a.eval x = .pointer (some ⟨p, 0, none⟩)) (f : Nat → Nat) (w : World) (hp : PageIs w p f) :
    (execOp a.eval o).run Try.prog w = .ok (.value (.agg (pgA f))) w := by
  have hl : (loadCells ⟨p, 0, none⟩ (pgA f).toList.length).run Try.prog w = .ok (pgA f).toList.toArray w :=
    run_loadCells_list (P := Try.prog) w ⟨p, 0, none⟩ (pgA f).toList (fun j v hv => by
      have hadd : (⟨p, 0, none⟩ : Addr).add j = ⟨p, 0 + j, none⟩ := by unfold Addr.add; split <;> simp_all
      have hj : j < (pgA f).size := by
        have := (List.getElem?_eq_some_iff.1 hv).1
        simpa using this
      rw [hadd, page_cells hp j hj]
      simpa using hv)
  have hi := info_page f
  have hlv : (loadVar 61 ⟨p, 0, none⟩).run Try.prog w = .ok (.agg (pgA f)) w := by
    cases hq : Try.prog.info? 61 with
    | none => simp [hq] at hi
    | some i =>
      have hs : i.size = (pgA f).size := by simpa [hq] using hi
      have hagg : (isAgg 61).run Try.prog w = .ok true w := by
        unfold isAgg
        rw [Sem.run_bind, run_underlying Try.underlying61 w]
        rfl
      simp only [Array.length_toList, Array.toArray_toList] at hl
      simp only [loadVar, Sem.run_bind, hagg, Result.andThen_ok, if_true, sizeOf, typeInfo, hq, hs, hl]
      simp [hq, hs, hl, Sem.run_bind]
  unfold execOp
  simp only [ho, hx, Instr.loadAt, Instr.sureAddr, Sem.run_bind, Sem.run_pure, Result.andThen_ok, hlv]
theorem wpList_load_page {ops : Array Oper} {rest : List Oper} {o : Oper} {a : Act} {w : World} {Q : Exit → Act → World → Prop} (hgd : o.guard = none) (x : Operand) (ho : o.op = .load 61 x) (p : Nat) (hx : a.eval x = .pointer (some ⟨p, 0, none⟩))
    (f : Nat → Nat) (hp : PageIs w p f) (h : wpList Try.prog ops Q rest (a.put o.dst (.agg (pgA f))) w) : wpList Try.prog ops Q (o :: rest) a w :=
  wpList_plain hgd fun K hK => by
    unfold Oper.wp
    rw [run_load_page x ho p hx f w hp]
    exact hK _ _ h
theorem quiet_load_page {o : Oper} {a : Act} {W : World} {K : Act → Prop} (x : Operand) (ho : o.op = .load 61 x) (p : Nat) (hx : a.eval x = .pointer (some ⟨p, 0, none⟩)) (f : Nat → Nat) (hp : PageIs W p f)
    (h : K (a.put o.dst (.agg (pgA f)))) : o.quiet Try.prog a (fun w' => ∃ n, w' = W.drewN n) K :=
  ⟨_, fun w hw => by
    obtain ⟨n, rfl⟩ := hw
    unfold Oper.quietAt
    rw [run_load_page x ho p hx f _ (hp.kept (grown_below (below_drewN (Below.refl _ _) n)) (by simp))]
    exact ⟨rfl, rfl⟩, h⟩
/-- A new page is named. -/
theorem MemD.putG {S : Nat → Prop} {w w' : World} {m b : Nat} {D : DataW Unit} {F : Nat → Nat} (h : MemD S w m b D F) (s i0 p : Nat) (hi : i0 < 256) (hs : s = 2147483648 + 4096 * i0) (hh : Maps.has D (keyL s) = false) (R : Nat → Nat) (hp : PageIs w p R) (hpS : ¬ S p)
    (hst : w'.ownsMap Try.prog 58 pageR b (cntD D + 1) (D.put (keyL s) (pageD p))) (hmt : w.mapTurned w' b) : MemD (fun i => S i ∨ i = p) w' m b (D.put (keyL s) (pageD p)) (fun x => if s ≤ x ∧ x < s + 4096 then R (x - s) else F x) := by
  obtain ⟨h0, hm, h1, hb, hne, h2, ⟨h3, h4, h5⟩, h6⟩ := h
  have hg := hmt.grown
  have hD := h2.isMap
  have hpm : p ≠ m := by rintro rfl; exact hpS hm
  have hpb : p ≠ b := by rintro rfl; exact hpS hb
  have other : ∀ s2, s2 < 18446744073709551616 → s2 ≠ s → Maps.has (D.put (keyL s) (pageD p)) (keyL s2) = Maps.has D (keyL s2) ∧ (D.put (keyL s) (pageD p)).atKey (keyL s2) noneD = D.atKey (keyL s2) noneD := fun s2 hs2 e =>
    ⟨Maps.has_put_other (keyL_ne (wfU hs2) (wfU (by omega)) e) _, Maps.atKey_put_other (keyL_ne (wfU hs2) (wfU (by omega)) e) _ _⟩
  have same : (D.put (keyL s) (pageD p)).atKey (keyL s) noneD = pageD p := Maps.atKey_put_same hD (by trivial) _ _
  have inj : ∀ x y, pageD x = pageD y → x = y := fun x y e => by unfold pageD at e; simp at e; omega
  refine ⟨Nat.lt_of_lt_of_le h0 hg.size, Or.inl hm, ?_, Or.inl hb, hne, ?_, ⟨fun s2 hs2 hh2 => ?_, fun s2 hs2 h40 hh2 i hi2 => ?_, fun s2 s3 q hs2 hs3 hh2 hh3 e2 e3 => ?_⟩, fun s2 q hs2 hh2 e2 => ?_⟩
  · rw [World.cell?_of_block (w := w) (a := ⟨m, 0, none⟩) (hg.block m h0 (by intro e; injection e with e; exact hne e.symm))]; exact h1
  · rw [hs] at hh hst ⊢
    rw [cnt_put hD i0 hi hh]
    exact hst
  · by_cases e : s2 = s
    · subst e
      refine ⟨p, same, ?_⟩
      obtain ⟨q2, q3⟩ := hp.kept hg (by intro e; injection e with e; exact hpb e)
      refine ⟨q2, fun i hi3 => ⟨?_, (q3 i hi3).2⟩⟩
      rw [(q3 i hi3).1]
      show some (Value.int .u8 ((R i : Nat) : Int)) = some (Value.int .u8 ((if s2 ≤ s2 + i ∧ s2 + i < s2 + 4096 then R (s2 + i - s2) else F (s2 + i) : Nat) : Int))
      rw [if_pos (by omega), Nat.add_sub_cancel_left]
    · obtain ⟨o1, o2⟩ := other s2 hs2 e
      rw [o1] at hh2
      rw [o2]
      obtain ⟨p2, q1, q2⟩ := h3 s2 hs2 hh2
      have h42 := (h6 s2 p2 hs2 hh2 q1).2.2.2.1
      exact ⟨p2, q1, (q2.kept hg (by intro e; injection e with e; exact (h6 s2 p2 hs2 hh2 q1).2.2.1 e)).congr (fun i hi3 => by
        show F (s2 + i) = if s ≤ s2 + i ∧ s2 + i < s + 4096 then R (s2 + i - s) else F (s2 + i)
        rw [if_neg (by omega)])⟩
  · by_cases e : s2 = s
    · subst e
      rw [Maps.has_put_same hD (by trivial)] at hh2
      cases hh2
    · rw [(other s2 hs2 e).1] at hh2
      show (if s ≤ s2 + i ∧ s2 + i < s + 4096 then R (s2 + i - s) else F (s2 + i)) = 0
      rw [if_neg (by omega)]
      exact h4 s2 hs2 h40 hh2 i hi2
  · by_cases a : s2 = s
    · subst a
      rw [same] at e2
      have eq := inj _ _ e2
      subst eq
      by_cases c : s3 = s2
      · exact c.symm
      · exfalso
        obtain ⟨o1, o2⟩ := other s3 hs3 c
        rw [o1] at hh3
        rw [o2] at e3
        exact hpS (h6 s3 p hs3 hh3 e3).1
    · obtain ⟨o1, o2⟩ := other s2 hs2 a
      rw [o1] at hh2
      rw [o2] at e2
      by_cases c : s3 = s
      · subst c
        rw [same] at e3
        have eq := inj _ _ e3
        subst eq
        exact absurd (h6 s2 p hs2 hh2 e2).1 hpS
      · obtain ⟨o3, o4⟩ := other s3 hs3 c
        rw [o3] at hh3
        rw [o4] at e3
        exact h5 s2 s3 q hs2 hs3 hh2 hh3 e2 e3
  · by_cases a : s2 = s
    · subst a
      rw [same] at e2
      have eq := inj _ _ e2
      subst eq
      exact ⟨Or.inr rfl, hpm, hpb, by omega, by omega, by omega⟩
    · obtain ⟨o1, o2⟩ := other s2 hs2 a
      rw [o1] at hh2
      rw [o2] at e2
      obtain ⟨k1, k2, k3, k4⟩ := h6 s2 q hs2 hh2 e2
      exact ⟨Or.inl k1, k2, k3, k4⟩
/-- A memory is its bytes where it may have any. -/
theorem MemD.congr {S : Nat → Prop} {w : World} {m b : Nat} {D : DataW Unit} {F G : Nat → Nat} (h : MemD S w m b D F) (e : ∀ s i, s < 18446744073709551616 → s % 4096 = 0 → i < 4096 → F (s + i) = G (s + i)) : MemD S w m b D G := by
  obtain ⟨h0, hm, h1, hb, hne, h2, ⟨h3, h4, h5⟩, h6⟩ := h
  refine ⟨h0, hm, h1, hb, hne, h2, ⟨fun s hs hh => ?_, fun s hs ha hh i hi => by rw [← e s i hs ha hi]; exact h4 s hs ha hh i hi, h5⟩, h6⟩
  obtain ⟨p, q1, q2⟩ := h3 s hs hh
  exact ⟨p, q1, q2.congr (fun i hi => e s i hs (h6 s p hs hh q1).2.2.2.1 hi)⟩
def RetS (F : Nat → Nat) (W : World) (e : Ending) (w' : World) : Prop := ∃ m S, e = .returned (.pointer (some ⟨m, 0, none⟩)) ∧ MemS S w' m F ∧ (∀ i, S i → W.heap.size ≤ i ∧ i < w'.heap.size) ∧ Below W.heap.size W w'
theorem cnt_nil : cntD (.map []) = 0 := by
  unfold cntD
  rw [List.countP_eq_zero]
  intro i _
  show ¬ (Maps.has (.map [] : DataW Unit) (keyL (2147483648 + 4096 * i)) = true)
  rw [show Maps.has (.map [] : DataW Unit) (keyL (2147483648 + 4096 * i)) = false from rfl]
  decide
theorem new_s (w : World) : Calls Try.prog 8 #[] w (RetS (fun _ => 0) w) := by
  have hmm := @run_makeMap_plain Try.prog
  go_enter Try.func8, Try.ntmps8
  go_wp2_with fail
  go_ret
  refine ⟨w.heap.size + 1, fun i => i = w.heap.size ∨ i = w.heap.size + 1, rfl, ⟨w.heap.size, .map [], ?_, Or.inr rfl, ?_, Or.inl rfl, by omega, ?_, laid_nil _, fun s p _ hh _ => by cases hh⟩, fun i hi => ?_, Below.alloc (Below.alloc (Below.refl _ _) (Nat.le_refl _) _) (by simp) _⟩
  · simp
  · rw [World.cell?_alloc_at _ _ _ _ (by simp)]; rfl
  · rw [cnt_nil]; exact (World.ownsMap_made _ _ _ _).kept (World.grownBy_alloc _ _ none) (by simp)
  · simp; omega
end Go.Proofs.Ytibgdlianedcbaa
