/- Taken from other texts: what is needed of them. -/
import Derived.Test.YtoicpikkcefheaaGreatMA
import Derived.Test.YtoicpikkcefheaaGreatMB
import Derived.ChangeKeysEq
import Derived.Laws.Rows
import Derived.Deep.WholeRow
import Derived.Maps.RangeWalk
namespace Go.Proofs.YtoicpikkcefheaaGreat.M
set_option linter.unusedVariables false
set_option linter.unusedSimpArgs false
set_option maxRecDepth 20000
open Go.Maps Go.WideMaps Go.ChangeShapes Go.WideShapes Go.ChangeAt Go.RowKit
theorem PageIs.congr {w : World} {p : Nat} {f g : Nat → Nat} (h : PageIs w p f) (e : ∀ i, i < 4096 → f i = g i) : PageIs w p g :=
  ⟨h.1, fun i hi => by rw [← e i hi]; exact h.2 i hi⟩
/-- A page's bytes as a value. -/
def pgA (f : Nat → Nat) : Array Value := ((List.range 4096).map (fun i => (.int .u8 (f i : Nat) : Value))).toArray
theorem pgA_size (f : Nat → Nat) : (pgA f).size = 4096 := by simp [pgA]
theorem pgA_get (f : Nat → Nat) (i : Nat) (hi : i < 4096) : (pgA f)[i]? = some (.int .u8 (f i : Nat)) := by
  unfold pgA
  rw [List.getElem?_toArray, List.getElem?_map, List.getElem?_range hi]; rfl
theorem one_gen (f : Nat → Nat) (n : Nat) : (((List.range n).map (fun i => (.int .u8 (f i : Nat) : Value))).toArray).all (·.oneCell') = true := by
  rw [← Array.all_toList, List.all_eq_true]
  intro v hv
  obtain ⟨i, -, rfl⟩ := List.mem_map.1 hv
  rfl
theorem pgA_one (f : Nat → Nat) : (pgA f).all (·.oneCell') = true := one_gen f 4096
theorem pgA_zero : pgA (fun _ => 0) = Array.replicate 4096 (.int .u8 0) := by
  apply Array.ext_getElem?
  intro i
  by_cases hi : i < 4096
  · rw [pgA_get _ i hi, Array.getElem?_replicate, if_pos hi]; rfl
  · rw [Array.getElem?_eq_none (by rw [pgA_size]; omega), Array.getElem?_replicate, if_neg hi]
theorem info_page (f : Nat → Nat) : (Tryz.prog.info? 115).map (·.size) = some (pgA f).size := by rw [pgA_size]; kernel_rfl
theorem page_cells {w : World} {p : Nat} {f : Nat → Nat} (h : PageIs w p f) : ∀ j, j < (pgA f).size → w.cell? ⟨p, 0 + j, none⟩ = (pgA f)[j]? := by
  intro j hj
  rw [pgA_size] at hj
  rw [Nat.zero_add, (h.2 j hj).1, pgA_get f j hj]
theorem page_new (w : World) (f : Nat → Nat) (t : TypeId) : PageIs (w.alloc (Obj.cells (pgA f) t)) w.heap.size f := by
  refine ⟨by simp, fun i hi => ⟨?_, ?_⟩⟩
  · rw [World.cell?_alloc_at _ _ _ _ rfl]; exact pgA_get f i hi
  · rw [World.frozen?_alloc_at _ _ _ _ rfl]
theorem run_load_page {o : Oper} {a : Act} (x : Operand) (ho : o.op = .load 115 x) (p : Nat) (hx : a.eval x = .pointer (some ⟨p, 0, none⟩)) (f : Nat → Nat) (w : World) (hp : PageIs w p f) :
    (execOp a.eval o).run Tryz.prog w = .ok (.value (.agg (pgA f))) w := by
  have hl : (loadCells ⟨p, 0, none⟩ (pgA f).toList.length).run Tryz.prog w = .ok (pgA f).toList.toArray w :=
    run_loadCells_list (P := Tryz.prog) w ⟨p, 0, none⟩ (pgA f).toList (fun j v hv => by
      have hadd : (⟨p, 0, none⟩ : Addr).add j = ⟨p, 0 + j, none⟩ := by unfold Addr.add; split <;> simp_all
      have hj : j < (pgA f).size := by
        have := (List.getElem?_eq_some_iff.1 hv).1
        simpa using this
      rw [hadd, page_cells hp j hj]
      simpa using hv)
  have hi := info_page f
  have hlv : (loadVar 115 ⟨p, 0, none⟩).run Tryz.prog w = .ok (.agg (pgA f)) w := by
    cases hq : Tryz.prog.info? 115 with
    | none => simp [hq] at hi
    | some i =>
      have hs : i.size = (pgA f).size := by simpa [hq] using hi
      have hagg : (isAgg 115).run Tryz.prog w = .ok true w := by
        unfold isAgg
        rw [Sem.run_bind, run_underlying Tryz.underlying115 w]
        rfl
      simp only [Array.length_toList, Array.toArray_toList] at hl
      simp only [loadVar, Sem.run_bind, hagg, Result.andThen_ok, if_true, sizeOf, typeInfo, hq, hs, hl]
      simp [hq, hs, hl, Sem.run_bind]
  unfold execOp
  simp only [ho, hx, Instr.loadAt, Instr.sureAddr, Sem.run_bind, Sem.run_pure, Result.andThen_ok, hlv]
theorem wpList_load_page {ops : Array Oper} {rest : List Oper} {o : Oper} {a : Act} {w : World} {Q : Exit → Act → World → Prop} (hgd : o.guard = none) (x : Operand) (ho : o.op = .load 115 x) (p : Nat) (hx : a.eval x = .pointer (some ⟨p, 0, none⟩))
    (f : Nat → Nat) (hp : PageIs w p f) (h : wpList Tryz.prog ops Q rest (a.put o.dst (.agg (pgA f))) w) : wpList Tryz.prog ops Q (o :: rest) a w :=
  wpList_plain hgd fun K hK => by
    unfold Oper.wp
    rw [run_load_page x ho p hx f w hp]
    exact hK _ _ h
/-- A new page is named. -/
theorem MemD.putG {S : Nat → Prop} {w w' : World} {m b : Nat} {D : DataW Unit} {F : Nat → Nat} (h : MemD S w m b D F) (s i0 p : Nat) (hi : i0 < 256) (hs : s = 2147483648 + 4096 * i0) (hh : Maps.has D (keyL s) = false) (R : Nat → Nat) (hp : PageIs w p R) (hpS : ¬ S p)
    (hst : w'.ownsMap Tryz.prog 112 pageR b (cntD D + 1) (D.put (keyL s) (pageD p))) (hmt : w.mapTurned w' b) : MemD (fun i => S i ∨ i = p) w' m b (D.put (keyL s) (pageD p)) (fun x => if s ≤ x ∧ x < s + 4096 then R (x - s) else F x) := by
  obtain ⟨h0, hm, h1, hb, hne, h2, ⟨h3, h4, h5⟩, h6⟩ := h
  have hg := hmt.grown
  have hD := h2.isMap
  have hpm : p ≠ m := by rintro rfl; exact hpS hm
  have hpb : p ≠ b := by rintro rfl; exact hpS hb
  have other : ∀ s2, s2 < 18446744073709551616 → s2 ≠ s → Maps.has (D.put (keyL s) (pageD p)) (keyL s2) = Maps.has D (keyL s2) ∧ (D.put (keyL s) (pageD p)).atKey (keyL s2) noneD = D.atKey (keyL s2) noneD := fun s2 hs2 e =>
    ⟨Maps.has_put_other (keyL_ne (wfU hs2) (wfU (by omega)) e) _, Maps.atKey_put_other (keyL_ne (wfU hs2) (wfU (by omega)) e) _ _⟩
  have same : (D.put (keyL s) (pageD p)).atKey (keyL s) noneD = pageD p := Maps.atKey_put_same hD (by trivial) _ _
  have inj : ∀ x y, pageD x = pageD y → x = y := fun x y e => by unfold pageD at e; simp at e; omega
  refine ⟨Nat.lt_of_lt_of_le h0 hg.size, Or.inl hm, ?_, Or.inl hb, hne, ?_, ⟨fun s2 hs2 hh2 => ?_, fun s2 hs2 h40 hh2 i hi2 => ?_, fun s2 s3 q hs2 hs3 hh2 hh3 e2 e3 => ?_⟩, fun s2 q hs2 hh2 e2 => ?_⟩
  · rw [World.cell?_of_block (w := w) (a := ⟨m, 0, none⟩) (hg.block m h0 (by intro e; injection e with e; exact hne e.symm))]; exact h1
  · rw [hs] at hh hst ⊢
    rw [cnt_put hD i0 hi hh]
    exact hst
  · by_cases e : s2 = s
    · subst e
      refine ⟨p, same, ?_⟩
      obtain ⟨q2, q3⟩ := hp.kept hg (by intro e; injection e with e; exact hpb e)
      refine ⟨q2, fun i hi3 => ⟨?_, (q3 i hi3).2⟩⟩
      rw [(q3 i hi3).1]
      show some (Value.int .u8 ((R i : Nat) : Int)) = some (Value.int .u8 ((if s2 ≤ s2 + i ∧ s2 + i < s2 + 4096 then R (s2 + i - s2) else F (s2 + i) : Nat) : Int))
      rw [if_pos (by omega), Nat.add_sub_cancel_left]
    · obtain ⟨o1, o2⟩ := other s2 hs2 e
      rw [o1] at hh2
      rw [o2]
      obtain ⟨p2, q1, q2⟩ := h3 s2 hs2 hh2
      have h42 := (h6 s2 p2 hs2 hh2 q1).2.2.2.1
      exact ⟨p2, q1, (q2.kept hg (by intro e; injection e with e; exact (h6 s2 p2 hs2 hh2 q1).2.2.1 e)).congr (fun i hi3 => by
        show F (s2 + i) = if s ≤ s2 + i ∧ s2 + i < s + 4096 then R (s2 + i - s) else F (s2 + i)
        rw [if_neg (by omega)])⟩
  · by_cases e : s2 = s
    · subst e
      rw [Maps.has_put_same hD (by trivial)] at hh2
      cases hh2
    · rw [(other s2 hs2 e).1] at hh2
      show (if s ≤ s2 + i ∧ s2 + i < s + 4096 then R (s2 + i - s) else F (s2 + i)) = 0
      rw [if_neg (by omega)]
      exact h4 s2 hs2 h40 hh2 i hi2
  · by_cases a : s2 = s
    · subst a
      rw [same] at e2
      have eq := inj _ _ e2
      subst eq
      by_cases c : s3 = s2
      · exact c.symm
      · exfalso
        obtain ⟨o1, o2⟩ := other s3 hs3 c
        rw [o1] at hh3
        rw [o2] at e3
        exact hpS (h6 s3 p hs3 hh3 e3).1
    · obtain ⟨o1, o2⟩ := other s2 hs2 a
      rw [o1] at hh2
      rw [o2] at e2
      by_cases c : s3 = s
      · subst c
        rw [same] at e3
        have eq := inj _ _ e3
        subst eq
        exact absurd (h6 s2 p hs2 hh2 e2).1 hpS
      · obtain ⟨o3, o4⟩ := other s3 hs3 c
        rw [o3] at hh3
        rw [o4] at e3
        exact h5 s2 s3 q hs2 hs3 hh2 hh3 e2 e3
  · by_cases a : s2 = s
    · subst a
      rw [same] at e2
      have eq := inj _ _ e2
      subst eq
      exact ⟨Or.inr rfl, hpm, hpb, by omega, by omega, by omega⟩
    · obtain ⟨o1, o2⟩ := other s2 hs2 a
      rw [o1] at hh2
      rw [o2] at e2
      obtain ⟨k1, k2, k3, k4⟩ := h6 s2 q hs2 hh2 e2
      exact ⟨Or.inl k1, k2, k3, k4⟩
/-- A memory is its bytes where it may have any. -/
theorem MemD.congr {S : Nat → Prop} {w : World} {m b : Nat} {D : DataW Unit} {F G : Nat → Nat} (h : MemD S w m b D F) (e : ∀ s i, s < 18446744073709551616 → s % 4096 = 0 → i < 4096 → F (s + i) = G (s + i)) : MemD S w m b D G := by
  obtain ⟨h0, hm, h1, hb, hne, h2, ⟨h3, h4, h5⟩, h6⟩ := h
  refine ⟨h0, hm, h1, hb, hne, h2, ⟨fun s hs hh => ?_, fun s hs ha hh i hi => by rw [← e s i hs ha hi]; exact h4 s hs ha hh i hi, h5⟩, h6⟩
  obtain ⟨p, q1, q2⟩ := h3 s hs hh
  exact ⟨p, q1, q2.congr (fun i hi => e s i hs (h6 s p hs hh q1).2.2.2.1 hi)⟩
def RetS (F : Nat → Nat) (W : World) (e : Ending) (w' : World) : Prop := ∃ m S, e = .returned (.pointer (some ⟨m, 0, none⟩)) ∧ MemS S w' m F ∧ (∀ i, S i → W.heap.size ≤ i ∧ i < w'.heap.size) ∧ Below W.heap.size W w'
theorem cnt_nil : cntD (.map []) = 0 := by
  unfold cntD
  rw [List.countP_eq_zero]
  intro i _
  show ¬ (Maps.has (.map [] : DataW Unit) (keyL (2147483648 + 4096 * i)) = true)
  rw [show Maps.has (.map [] : DataW Unit) (keyL (2147483648 + 4096 * i)) = false from rfl]
  decide
theorem new_s (w : World) : Calls Tryz.prog 24 #[] w (RetS (fun _ => 0) w) := by
  have hmm := @run_makeMap_plain Tryz.prog
  go_enter Tryz.func24, Tryz.ntmps24
  go_wp2_with fail
  go_ret
  refine ⟨w.heap.size + 1, fun i => i = w.heap.size ∨ i = w.heap.size + 1, rfl, ⟨w.heap.size, .map [], ?_, Or.inr rfl, ?_, Or.inl rfl, by omega, ?_, laid_nil _, fun s p _ hh _ => by cases hh⟩, fun i hi => ?_, Below.alloc (Below.alloc (Below.refl _ _) (Nat.le_refl _) _) (by simp) _⟩
  · simp
  · rw [World.cell?_alloc_at _ _ _ _ (by simp)]; rfl
  · rw [cnt_nil]; exact (World.ownsMap_made _ _ _ _).kept (World.grownBy_alloc _ _ none) (by simp)
  · simp; omega
end Go.Proofs.YtoicpikkcefheaaGreat.M
namespace Go.Proofs.YtoicpikkcefheaaGreat.M
set_option linter.unusedVariables false
set_option linter.unusedSimpArgs false
set_option maxRecDepth 20000
open Go.Maps Go.WideMaps Go.ChangeShapes Go.WideShapes Go.ChangeAt Go.RowKit
theorem keyOf_u64 {v : Value} {d : Nat} {ls : List Lit} (h : Tryz.prog.keyLits (d + 1) 29 [v] = some ls) : ∃ s : Nat, s < 18446744073709551616 ∧ v = .int .u64 s ∧ ls = [.int .u64 s] := by
  unfold Program.keyLits at h
  rw [Tryz.underlying29] at h
  cases v <;> simp at h
  obtain ⟨⟨rfl, hw⟩, rfl⟩ := h
  rename_i n
  simp [Lit.wf, IntKind.min, IntKind.max, IntKind.signed, IntKind.bits] at hw
  obtain ⟨h0, h1⟩ := hw
  exact ⟨n.toNat, by omega, by rw [Int.toNat_of_nonneg h0], by rw [Int.toNat_of_nonneg h0]⟩
theorem keySpot_inv {key : Value} {kl : Lit} (h : keyOf Tryz.prog 112 key = some kl) : ∃ s : Nat, s < 18446744073709551616 ∧ key = keyV s ∧ kl = keyL s := by
  have k1 : Tryz.prog.keyType 112 = true := by kernel_rfl
  have k2 : Tryz.prog.cellsOf 112 = 1 := by kernel_rfl
  have k3 : Tryz.prog.cellsOf 29 = 1 := by kernel_rfl
  obtain ⟨d, k5⟩ : ∃ d, Tryz.prog.types.size + 1 = d + 2 := ⟨Tryz.prog.types.size - 1, by have : 0 < Tryz.prog.types.size := of_decide_eq_true (by kernel_rfl); omega⟩
  unfold keyOf at h
  rw [Tryz.underlying112] at h
  simp only [k1, k5, Bool.true_and] at h
  split at h
  · rename_i hf
    cases key <;> simp only [Value.formed, Tryz.underlying112, Bool.false_eq_true] at hf
    rename_i xs
    rw [k2] at hf
    have hs : xs.size = 1 := by simpa using hf
    obtain ⟨v, rfl⟩ : ∃ v, xs = #[v] := by
      obtain ⟨l⟩ := xs
      match l, hs with
      | [v], _ => exact ⟨v, rfl⟩
    rw [Option.map_eq_some_iff] at h
    obtain ⟨ls, h1, rfl⟩ := h
    simp only [Value.cells] at h1
    unfold Program.keyLits at h1
    rw [Tryz.underlying112] at h1
    simp [k2, k3, List.mapM_cons, List.mapM_nil] at h1
    obtain ⟨la, ha, hb⟩ := Option.bind_eq_some_iff.1 h1
    obtain ⟨s, hs2, rfl, rfl⟩ := keyOf_u64 ha
    simp at hb
    subst hb
    exact ⟨s, hs2, rfl, rfl⟩
  · cases h
/-- A page's place, or none. -/
def mkP : Option Nat → Value
  | none => .pointer none
  | some p => pageV p
theorem pageR_shape (v : Value) (y : DataW Unit × List MemPlace) (h : pageR v = some y) : ∃ c, v = mkP c := by
  unfold pageR at h
  split at h
  · exact ⟨none, rfl⟩
  · rename_i p; exact ⟨some p, rfl⟩
  · cases h
theorem keyL_inj {s t : Nat} (hs : s < 18446744073709551616) (ht : t < 18446744073709551616) (h : keyL s = keyL t) : s = t := by
  by_cases e : s = t
  · exact e
  · exact absurd h (keyL_ne (wfU hs) (wfU ht) e)
theorem sameKey_L (s t : Nat) : (keyL s).sameKey (keyL t) = true ↔ keyL s = keyL t := by
  unfold keyL Lit.sameKey
  simp
/-- A key that is still to come is one of the map's. -/
theorem ranges_has {w : World} {b r n : Nat} {D : DataW Unit} {left : Lit → Bool} {cnt : Nat} (h : w.ranges Tryz.prog 112 pageR b r n D left cnt) {s : Nat} (hl : left (keyL s) = true) : Maps.has D (keyL s) = true := by
  obtain ⟨es, clock, since, seen, c0, h1, h2, h3, h4, h5, h6, h7, h8, h9, h10⟩ := h
  obtain ⟨x, hx, he⟩ := h9 _ hl
  subst h4
  show List.any _ _ = true
  rw [List.any_eq_true]
  exact ⟨_, mem_sorted.2 (List.mem_map.2 ⟨x, hx, rfl⟩), by rw [he]; exact (sameKey_L s s).2 rfl⟩
/-- The step of a range over a memory's pages. -/
theorem wpList_next_pages {ops : Array Oper} {rest : List Oper} {o : Oper} {a : Act} {Q : Exit → Act → World → Prop} {w : World} (hg : o.guard = none) (it : Operand) (hop : o.op = Op.next it false) (S : Nat → Prop) (m b r : Nat) (D : DataW Unit) (F : Nat → Nat) (left : Lit → Bool) (cnt : Nat)
    (hM : MemD S w m b D F) (hit : a.eval it = .pointer (some ⟨r, 0, none⟩)) (h : w.ranges Tryz.prog 112 pageR b r (cntD D) D left cnt)
    (hDone : cnt = 0 → (∀ kl, left kl = false) → wpList Tryz.prog ops Q rest (a.put o.dst (.tuple #[.bool false])) w)
    (hMore : ∀ (s p : Nat) (w' : World) (cnt' : Nat), s < 18446744073709551616 → left (keyL s) = true → Maps.has D (keyL s) = true → D.atKey (keyL s) noneD = pageD p → w'.ranges Tryz.prog 112 pageR b r (cntD D) D (fun z => left z && !z.sameKey (keyL s)) cnt' → cnt' < cnt →
      w.grownBy w' (some r) → w'.heap.size = w.heap.size → (Instr.entry (.pointer (some ⟨r, 0, none⟩))).run Tryz.prog w' = .ok (.tuple #[.agg #[.int .u64 s], .pointer (some ⟨p, 0, none⟩)]) w' → wpList Tryz.prog ops Q rest (a.put o.dst (.tuple #[.bool true, .agg #[.int .u64 s], .pointer (some ⟨p, 0, none⟩)])) w') :
    wpList Tryz.prog ops Q (o :: rest) a w := by
  refine wpList_next_ranges w hg it hop 112 lawSpot pageR (mkK := keyV) (mkV := mkP) (fun key kl hk => ?_) pageR_shape b r (cntD D) D left cnt hit h hDone (fun x c kl y w' cnt' hkey hlk hR hat hrg hlt hgr hsz hen => ?_)
  · obtain ⟨s, -, h1, -⟩ := keySpot_inv hk
    exact ⟨s, h1⟩
  · obtain ⟨s, hs, h1, rfl⟩ := keySpot_inv hkey
    obtain rfl : x = s := by unfold keyV at h1; simp at h1; omega
    have hh := ranges_has h hlk
    obtain ⟨p, q1, -⟩ := hM.2.2.2.2.2.2.1.1 x hs hh
    have hy : y.1 = pageD p := by rw [← hat noneD]; exact q1
    obtain ⟨y1, y2⟩ := y
    have hy' : y1 = pageD p := hy
    subst hy'
    have hv := pageR_inv hR
    rw [hv] at hen ⊢
    exact hMore x p w' cnt' hs hlk hh q1 hrg hlt hgr hsz hen
end Go.Proofs.YtoicpikkcefheaaGreat.M
namespace Go.Proofs.YtoicpikkcefheaaGreat.M
set_option linter.unusedVariables false
set_option linter.unusedSimpArgs false
set_option maxRecDepth 20000
open Go.Maps Go.WideMaps Go.ChangeShapes Go.WideShapes Go.ChangeAt Go.RowKit
/-- An image was laid. -/
def RetLay (S : Nat → Prop) (m n : Nat) (F R : Nat → Nat) (W : World) (e : Ending) (w' : World) : Prop := e = .returned (.bool true) ∧ Laying S W m 2147483648 n F R w'
set_option maxRecDepth 100000 in
theorem lay_c (S : Nat → Prop) (m g o n c : Nat) (F R : Nat → Nat) (w : World) (hM : Hid (MemS S w m F)) (hSb : Hid (∀ i, S i → i < w.heap.size)) (hg : Hid (g < w.heap.size ∧ ¬ S g)) (hn : Hid (n ≤ 1048576)) (hnc : Hid (n ≤ c)) (hr : Hid (∀ i, i < n → w.cell? ⟨g, o + i, none⟩ = some (.int .u8 (R i)))) :
    Calls Tryz.prog 25 #[.pointer (some ⟨m, 0, none⟩), .slice (some ⟨g, o, none⟩) n c] w (RetLay S m n F R w) := by
  have h1 : ¬ ((1048576 : Int) < n) := by have := hn.out; omega
  go_enter Tryz.func25, Tryz.ntmps25
  go_wp2_with fail
  refine (put_c S m g o n c 2147483648 F R w hM hSb hg (Lib.hid ⟨Nat.le_refl _, by have := hn.out; omega⟩) (Lib.hid ⟨hnc.out, by have := hn.out; omega⟩) hr).mono ?_; rintro e w1 ⟨rfl, hl⟩
  have HL := Lib.hid hl
  clear hl
  go_wp2_with fail
  go_ret
  exact ⟨rfl, HL.out⟩
theorem lay_big (m n c : Nat) (a : Option Addr) (w : World) (hn : (1048576 : Int) < n) : Calls Tryz.prog 25 #[.pointer (some ⟨m, 0, none⟩), .slice a n c] w (RetB false w) := by
  go_enter Tryz.func25, Tryz.ntmps25
  go_wp2_with fail
  go_ret
  exact retB_mk rfl (by repeat (first | (with_reducible first | exact Below.refl _ _ | assumption | exact Nat.le_refl _ | refine Below.drew ?_ | refine Below.alloc ?_ ?_ _ | refine below_drewN ?_ _ | refine Below.setCell ?_ ?_ _ | refine le_alloc ?_ | refine le_set ?_ | refine le_drew ?_ | refine le_drewN ?_ | refine below_step (by assumption) ?_ ?_ | refine le_below (by assumption) ?_) | (dsimp only; omega)))
end Go.Proofs.YtoicpikkcefheaaGreat.M
namespace Go.Proofs.YtoicpikkcefheaaGreat.M
set_option linter.unusedVariables false
set_option linter.unusedSimpArgs false
set_option maxRecDepth 20000
open Go.Maps Go.WideMaps Go.ChangeShapes Go.WideShapes Go.ChangeAt Go.RowKit
def RetD (W : World) (e : Ending) (w' : World) : Prop := ∃ m b, e = .returned (.pointer (some ⟨m, 0, none⟩)) ∧ MemD (fun i => i = b ∨ i = m) w' m b (.map []) (fun _ => 0) ∧ W.heap.size ≤ b ∧ b < w'.heap.size ∧ W.heap.size ≤ m ∧ Below W.heap.size W w'
theorem new_d (w : World) : Calls Tryz.prog 24 #[] w (RetD w) := by
  have hmm := @run_makeMap_plain Tryz.prog
  go_enter Tryz.func24, Tryz.ntmps24
  go_wp2_with fail
  go_ret
  refine ⟨w.heap.size + 1, w.heap.size, rfl, ⟨?_, Or.inr rfl, ?_, Or.inl rfl, by omega, ?_, laid_nil _, fun s p _ hh _ => by cases hh⟩, Nat.le_refl _, by simp; omega, by omega, Below.alloc (Below.alloc (Below.refl _ _) (Nat.le_refl _) _) (by simp) _⟩
  · simp
  · rw [World.cell?_alloc_at _ _ _ _ (by simp)]; rfl
  · rw [cnt_nil]; exact (World.ownsMap_made _ _ _ _).kept (World.grownBy_alloc _ _ none) (by simp)
theorem grown_none {w w' : World} (h : w.grownBy w' none) : Below w.heap.size w w' := (Below.refl _ _).grown h (Nat.le_refl _) (fun j hj => by cases hj)
theorem zero_pgA (w : World) : (zeroValue 115).run Tryz.prog w = .ok (.agg (pgA (fun _ => 0))) w := by rw [pgA_zero]; kernel_rfl
theorem setRow1 (w : World) (A : Obj) (c c' : Array Value) (t : TypeId) : ((w.alloc A).alloc (.cells c t)).setRow (w.heap.size + 1) c' = (w.alloc A).alloc (.cells c' t) := by
  have := World.setRow_alloc_new (w.alloc A) c c' t
  rwa [sz_alloc] at this
/-- What has been copied: the pages that are no longer to come. -/
def Copied (D E : DataW Unit) (F G : Nat → Nat) (left : Lit → Bool) : Prop := ∀ s, s < 18446744073709551616 → Maps.has E (keyL s) = (Maps.has D (keyL s) && !left (keyL s)) ∧ (Maps.has E (keyL s) = true → ∀ i, i < 4096 → G (s + i) = F (s + i))
theorem copy_end {S T : Nat → Prop} {w w' : World} {m b o c : Nat} {D E : DataW Unit} {F G : Nat → Nat} {left : Lit → Bool} (hM : MemD S w m b D F) (hN : MemD T w' o c E G) (hC : Copied D E F G left) (hl : ∀ kl, left kl = false) : MemD T w' o c E F := by
  refine hN.congr (fun s i hs ha hi => ?_)
  obtain ⟨h1, h2⟩ := hC s hs
  rw [hl, Bool.not_false, Bool.and_true] at h1
  cases hE : Maps.has E (keyL s)
  · rw [hE] at h1
    rw [hN.2.2.2.2.2.2.1.2.1 s hs ha hE i hi, hM.2.2.2.2.2.2.1.2.1 s hs ha h1.symm i hi]
  · exact h2 hE i hi
theorem copy_step {D E : DataW Unit} {F G : Nat → Nat} {left : Lit → Bool} {s : Nat} {d : DataW Unit} (hE : Maps.IsMap E) (h : Copied D E F G left) (hs : s < 18446744073709551616 ∧ s % 4096 = 0 ∧ 2147483648 ≤ s ∧ s < 2148532224) (hh : Maps.has D (keyL s) = true) (h4 : ∀ t, t < 18446744073709551616 → Maps.has E (keyL t) = true → t % 4096 = 0) :
    Copied D (E.put (keyL s) d) F (fun x => if s ≤ x ∧ x < s + 4096 then F (s + (x - s)) else G x) (fun z => left z && !z.sameKey (keyL s)) := by
  intro t ht
  by_cases e : t = s
  · subst e
    have hk : (keyL t).sameKey (keyL t) = true := (sameKey_L t t).2 rfl
    refine ⟨?_, fun _ i hi => ?_⟩
    · rw [Maps.has_put_same hE (by trivial)]
      show true = (Maps.has D (keyL t) && !(left (keyL t) && !(keyL t).sameKey (keyL t)))
      rw [hk, hh]; simp
    show (if t ≤ t + i ∧ t + i < t + 4096 then F (t + (t + i - t)) else G (t + i)) = F (t + i)
    rw [if_pos (by omega), Nat.add_sub_cancel_left]
  · have hk : (keyL t).sameKey (keyL s) = false := by
      cases k : (keyL t).sameKey (keyL s)
      · rfl
      · exact absurd (keyL_inj ht hs.1 ((sameKey_L t s).1 k)) e
    rw [Maps.has_put_other (keyL_ne (wfU ht) (wfU hs.1) e)]
    obtain ⟨h1, h2⟩ := h t ht
    refine ⟨?_, fun hE2 i hi => ?_⟩
    · rw [h1]
      show _ = (Maps.has D (keyL t) && !(left (keyL t) && !(keyL t).sameKey (keyL s)))
      rw [hk]; simp
    have := h4 t ht hE2
    show (if s ≤ t + i ∧ t + i < s + 4096 then F (s + (t + i - s)) else G (t + i)) = F (t + i)
    rw [if_neg (by omega)]
    exact h2 hE2 i hi
set_option maxRecDepth 100000 in
set_option maxHeartbeats 4000000 in
theorem copy_c (S : Nat → Prop) (m : Nat) (F : Nat → Nat) (w : World) (hM : Hid (MemS S w m F)) : Calls Tryz.prog 47 #[.pointer (some ⟨m, 0, none⟩)] w (RetS F w) := by
  obtain ⟨b, D, hm⟩ := hM.out
  have HM := Lib.hid hm
  clear hm
  have hz := fun w => zero_pgA w
  go_enter Tryz.func47, Tryz.ntmps47
  go_wp2_with fail
  refine (new_d w).mono ?_; rintro e w1 ⟨o, c, rfl, hN, hc, hcl, ho, hb1⟩
  have HN := Lib.hid hN; have HB1 := Lib.hid hb1
  have HC : Hid (w.heap.size ≤ c ∧ c < w1.heap.size ∧ w.heap.size ≤ o ∧ o < w1.heap.size) := ⟨hc, hcl, ho, hN.1⟩
  have hM1 : Hid (MemD S w1 m b D F) := HM.out.kept (T := fun _ => False) (Own.below hb1) (fun _ _ h => h)
  have hcm := hM1.out.2.2.1
  clear hN hb1 hc hcl ho
  go_wp2_with (at_range; refine wpList_range_own _ rfl _ 82 rfl 112 113 lawSpot Tryz.underlying82 pageR b (cntD D) D rfl hM1.out.2.2.2.2.2.1 ?_; intro w0 hrg0 hg0 hs0)
  go_frame
  have HRG := Lib.hid hrg0
  have HG0 := Lib.hid hg0
  have HS0 := Lib.hid hs0
  clear hrg0 hg0 hs0 hcm
  go_loopw [5] (fun _ wr => ∃ (left : Lit → Bool) (cnt : Nat) (T : Nat → Prop) (E : DataW Unit) (G : Nat → Nat), wr.ranges Tryz.prog 112 pageR b w1.heap.size (cntD D) D left cnt ∧ Hid (MemD T wr o c E G) ∧ Hid (∀ i, T i → w.heap.size ≤ i ∧ i < wr.heap.size ∧ i ≠ w1.heap.size) ∧ Hid (Below w.heap.size w wr) ∧ Hid (Copied D E F G left) ∧ Hid (w1.heap.size < wr.heap.size)) (fun _ wr => wr.rangeLeft b w1.heap.size)
  case atStart =>
    refine ⟨_, _, fun i => i = c ∨ i = o, .map [], fun _ => 0, HRG.out, ?_, ?_, ?_, ?_, ?_⟩
    · exact HN.out.kept (T := fun _ => False) (Own.below (grown_none HG0.out)) (fun _ _ h => h)
    · intro i hi
      have := HC.out; have := HS0.out
      rcases hi with rfl | rfl <;> omega
    · exact HB1.out.trans ((grown_none HG0.out).mono HB1.out.size)
    · intro s hs
      refine ⟨?_, fun h => by cases h⟩
      show false = _
      cases Maps.has D (keyL s) <;> rfl
    · show _ < _
      rw [HS0.out]; omega
  case round =>
    obtain ⟨left, cnt, T, E, G, hrg, hN, hT, hW, hC, hZ⟩ := hrel
    have hMr : Hid (MemD S wr m b D F) := HM.out.kept (T := fun _ => False) (Own.below hW.out) (fun _ _ h => h)
    go_wp2_with (at_next; refine wpList_next_pages rfl _ rfl S m b w1.heap.size D F left cnt hMr.out rfl hrg ?_ ?_)
    · intro _ hl0
      have HL := Lib.hid hl0
      clear hl0
      go_wp2_with fail
      go_ret
      refine ⟨o, T, rfl, ⟨c, E, copy_end HM.out hN.out hC.out HL.out⟩, fun i hi => ?_, hW.out⟩
      have := hT.out i hi
      exact ⟨this.1, this.2.1⟩
    · intro s p w2 cnt1 hs hlk hh hat hrg1 hlt hg1 hs1 hen
      have HR1 := Lib.hid hrg1
      have HSZ : Hid (w2.heap.size = wr.heap.size) := hs1
      have HZ2 : Hid (w1.heap.size < w2.heap.size) := by show _ < _; rw [hs1]; exact hZ.out
      have HW2 : Hid (Below w.heap.size w w2) := hW.out.grown hg1 hW.out.size (fun j hj => by cases hj; exact HB1.out.size)
      have hMw : Hid (MemD S w2 m b D F) := HM.out.kept (T := fun _ => False) (Own.below HW2.out) (fun _ _ h => h)
      have hNw : Hid (MemD T w2 o c E G) := hN.out.kept (T := fun i => i = w1.heap.size) (Own.grown hg1 rfl) (fun i hi e => (hT.out i hi).2.2 e)
      have hr6 := HM.out.2.2.2.2.2.2.2 s p hs hh hat
      have HS : Hid (s < 18446744073709551616 ∧ s % 4096 = 0 ∧ 2147483648 ≤ s ∧ s < 2148532224) := ⟨hs, hr6.2.2.2⟩
      have HPg : Hid (PageIs w2 p (fun i => F (s + i))) := by
        obtain ⟨p2, q1, q2⟩ := hMw.out.2.2.2.2.2.2.1.1 s hs hh
        have : p2 = p := by have := q1.symm.trans hat; unfold pageD at this; simp at this; omega
        rw [← this]; exact q2
      have HLT := Lib.hid hlt
      have HHH : Hid (Maps.has D (keyL s) = true ∧ left (keyL s) = true) := ⟨hh, hlk⟩
      clear hrg1 hg1 hs1 hr6 hs hlk hh hat hlt
      have hbA : Below w2.heap.size w2 (w2.alloc (Obj.cells #[.int .u64 s] 112)) := Below.alloc (Below.refl _ _) (Nat.le_refl _) _
      have HPa : Hid (PageIs (w2.alloc (Obj.cells #[.int .u64 s] 112)) p (fun i => F (s + i))) := HPg.out.kept (grown_below hbA) (by simp)
      have hco : w2.cell? ⟨o, 0, none⟩ = some (.map (some c)) := hNw.out.2.2.1
      have hol := hNw.out.1
      have hon : ¬ o = w2.heap.size := by omega
      have hon1 : ¬ o = w2.heap.size + 1 := by omega
      have hon2 : ¬ w2.heap.size = w2.heap.size + 1 := by omega
      clear hbA
      go_wp2_with (first
        | (refine wpList_load_page rfl _ rfl p rfl _ HPa.out ?_)
        | (refine wpList_store_row rfl 115 _ _ rfl (w2.heap.size + 1) (pgA (fun i => F (s + i))) rfl rfl 115 (pgA (fun _ => 0)) (heap_alloc2_new _ _ _) (info_page _) (by rw [pgA_size, pgA_size]) (pgA_one _) ?_; rw [setRow1]))
      go_frame
      have hNd : MemD T (((w2.alloc (Obj.cells #[.int .u64 s] 112)).alloc (Obj.cells (pgA (fun i => F (s + i))) 115)).drew) o c E G := hNw.out.kept (T := fun _ => False) (Own.below (by exact (below_drewN (Below.alloc (Below.alloc (Below.refl _ _) (Nat.le_refl _) _) (by rw [sz_alloc]; omega) _) 1))) (fun _ _ h => h)
      have hpgn : PageIs (((w2.alloc (Obj.cells #[.int .u64 s] 112)).alloc (Obj.cells (pgA (fun i => F (s + i))) 115)).drew) (w2.heap.size + 1) (fun i => F (s + i)) := by
        have h := page_new (w2.alloc (Obj.cells #[.int .u64 s] 112)) (fun i => F (s + i)) 115
        rw [sz_alloc] at h
        exact h.kept (grown_below (below_drewN (Below.refl _ _) 1)) (by simp)
      obtain ⟨w3, hrun, hst, hmt⟩ := hNd.2.2.2.2.2.1.store lawSpot Tryz.underlying82 (Nat.lt_of_le_of_lt (cnt_le E) (by decide)) (keySpot s (wfU HS.out.1)) (pageR_mk (w2.heap.size + 1))
      have hrun' : (Instr.mapUpdate 82 (.map (some c)) (.agg #[.int .u64 s]) (.pointer (some ⟨w2.heap.size + 1, 0, none⟩))).run Tryz.prog (((w2.alloc (Obj.cells #[.int .u64 s] 112)).alloc (Obj.cells (pgA (fun i => F (s + i))) 115)).drew) = .ok () w3 := hrun
      clear hrun
      have HND := Lib.hid hNd; have HPN := Lib.hid hpgn; have HST := Lib.hid hst; have HMT := Lib.hid hmt
      clear hNd hpgn hst hmt
      go_region
      go_wp2_with fail
      obtain ⟨i0, hi0, hsi⟩ : ∃ i0, i0 < 256 ∧ s = 2147483648 + 4096 * i0 := ⟨(s - 2147483648) / 4096, by have := HS.out; omega, by have := HS.out; omega⟩
      have hEh : Maps.has E (keyL s) = false := by rw [(hC.out s HS.out.1).1, HHH.out.2]; simp
      have hnT : ¬ T (w2.heap.size + 1) := fun h => by have := (hT.out _ h).2.1; have := HSZ.out; omega
      have hd3 := HND.out.putG s i0 (w2.heap.size + 1) hi0 hsi hEh (fun i => F (s + i)) HPN.out hnT HST.out HMT.out
      have hg3 := HMT.out.grown
      have hsz3 := hg3.size
      rw [show ((w2.alloc (Obj.cells #[.int .u64 s] 112)).alloc (Obj.cells (pgA (fun i => F (s + i))) 115)).drew.heap.size = w2.heap.size + 2 by show ((w2.alloc (Obj.cells #[.int .u64 s] 112)).alloc (Obj.cells (pgA (fun i => F (s + i))) 115)).heap.size = _; rw [sz_alloc, sz_alloc]] at hsz3
      have hbS : b < w.heap.size := by
        obtain ⟨es, clock, q, -⟩ := HM.out.2.2.2.2.2.1
        exact (Array.getElem?_eq_some_iff.1 q).1
      have hcb : c ≠ b := by have := HC.out; omega
      have hcr : c ≠ w1.heap.size := by have := HC.out; omega
      have hr3 := (((HR1.out.alloc (Obj.cells #[.int .u64 s] 112)).alloc (Obj.cells (pgA (fun i => F (s + i))) 115)).kept (grown_below (below_drewN (Below.refl _ _) 1)) (by simp) (by simp)).kept hg3 (by intro e; injection e with e; exact hcb e.symm) (by intro e; injection e with e; exact hcr e.symm)
      go_roundw
      case rel =>
        refine ⟨_, cnt1, _, _, _, hr3, hd3, fun i hi => ?_, ?_, copy_step hNw.out.2.2.2.2.2.1.isMap hC.out HS.out HHH.out.1 (fun t ht h => ?_), ?_⟩
        · have := HSZ.out; have := HZ2.out; have := HC.out; have := HB1.out.size
          rcases hi with hi | hi
          · have := hT.out i hi; omega
          · omega
        · have h4 : Below w.heap.size w (((w2.alloc (Obj.cells #[.int .u64 s] 112)).alloc (Obj.cells (pgA (fun i => F (s + i))) 115)).drew) := below_drewN ((HW2.out.alloc HW2.out.size _).alloc (by rw [sz_alloc]; have := HW2.out.size; omega) _) 1
          exact h4.grown hg3 h4.size (fun j hj => by cases hj; exact HC.out.1)
        · obtain ⟨p2, q1, -⟩ := hNw.out.2.2.2.2.2.2.1.1 t ht h
          exact (hNw.out.2.2.2.2.2.2.2 t p2 ht h q1).2.2.2.1
        · show _ < _
          have := HZ2.out
          omega
      case measure => rw [hr3.left_eq, hrg.left_eq]; exact HLT.out
end Go.Proofs.YtoicpikkcefheaaGreat.M
