/- Pages: the pages that have bytes, in their order. -/
import Derived.Test.YtibgdlianedcbaaB13
import Derived.Test.YtibgdlianedcbaaN2
import Derived.Laws.AppendOwn
namespace Go.Proofs.Ytibgdlianedcbaa
open Go.Maps Go.WideMaps Go.ChangeShapes Go.WideShapes Go.ChangeAt Go.RowKit
set_option linter.unusedVariables false
set_option linter.unusedSimpArgs false
def cells64 (L : List Nat) : List Value := L.map fun (n : Nat) => Value.int .u64 (n : Int)
def OwnS (w : World) (base : Nat) (v : Value) (L : List Nat) : Prop := w.ownsRow base 30 1 v L.length (cells64 L)
theorem own_lt {w : World} {base : Nat} {v : Value} {L : List Nat} (h : OwnS w base v L) : ∀ k, v.ownBlock = some k → base ≤ k ∧ k < w.heap.size := World.ownsRow.lt (w := w) h
theorem own_below {w w' : World} {base : Nat} {v : Value} {L : List Nat} (h : OwnS w base v L) (hb : Below w.heap.size w w') : OwnS w' base v L := by
  refine World.ownsRow.kept (w := w) h (w' := w') (row := none) ⟨hb.os, hb.tape, hb.output, hb.size, fun k hk _ => hb.block k hk⟩ ?_
  cases h' : v.ownBlock
  · exact .inl rfl
  · exact .inr (by simp)
theorem own_grown {w w' : World} {base r : Nat} {v : Value} {L : List Nat} (h : OwnS w base v L) (hg : w.grownBy w' (some r)) (hr : r < base) : OwnS w' base v L := by
  refine World.ownsRow.kept (w := w) h (w' := w') (row := some r) hg ?_
  cases h' : v.ownBlock
  · exact .inl rfl
  · have := own_lt h _ h'
    exact .inr (by simp; omega)
theorem own_nil (w : World) (base : Nat) : OwnS w base (.slice none 0 0) [] := ⟨rfl, .inl ⟨rfl, rfl⟩⟩
theorem info64 : (Try.prog.info? 30).map (fun i => (i.size, i.bytes, i.zero)) = some (1, 8, some (.int .u64 0)) := by kernel_rfl
theorem i64' : ∃ i, Try.prog.info? 30 = some i ∧ i.size = 1 ∧ i.bytes = 8 ∧ i.zero = some (.int .u64 0) := by
  have h := info64
  cases hi : Try.prog.info? 30 with
  | none => rw [hi] at h; exact absurd h (by simp)
  | some i =>
    rw [hi] at h
    simp only [Option.map_some, Option.some.injEq, Prod.mk.injEq] at h
    exact ⟨i, rfl, h.1, h.2.1, h.2.2⟩
theorem append_s {ops : Array Oper} {rest : List Oper} {o : Oper} {a : Act} {w : World} {Q : Exit → Act → World → Prop} (hgd : o.guard = none) (s x : Operand)
    (ho : o.op = .call { callee := .builtin .append, args := #[s, x], argTypes := #[37, 37] })
    (base : Nat) (v : Value) (L : List Nat) (hs : a.eval s = v) (hown : OwnS w base v L) (hL : L.length ≤ 1000)
    (n : Nat) (g : Nat) (hx : a.eval x = .slice (some ⟨g, 0, none⟩) 1 1) (hc : w.cell? ⟨g, 0, none⟩ = some (.int .u64 n)) (hbase : base ≤ w.heap.size)
    (h : ∀ v' w', OwnS w' base v' (L ++ [n]) → w.grownBy w' v.ownBlock → wpList Try.prog ops Q rest (a.put o.dst v') w') : wpList Try.prog ops Q (o :: rest) a w := by
  obtain ⟨i, hi, h1, h2, h3⟩ := i64'
  refine wpList_append_own w hgd s x 37 ho base 30 i _ 1 8 Try.underlying37 hi h3 h1 h2 rfl (by decide) v L.length (cells64 L) hs hown ⟨g, 0, none⟩ 1 1 [.int .u64 n] hx rfl ?_ (by intro u hu; simp at hu; subst hu; rfl) (by simp only [maxLen]; omega) (by omega) hbase ?_
  · intro j u hj
    match j, hj with
    | 0, hj => simp at hj; subst hj; simpa [Addr.add] using hc
  · intro v' w' q1 q2 q4
    refine h v' w' ?_ q2
    unfold OwnS
    rw [List.length_append, show cells64 (L ++ [n]) = cells64 L ++ [.int .u64 n] by simp [cells64]]; exact q1
theorem wpList_zero_page {ops : Array Oper} {rest : List Oper} {o : Oper} {a : Act} {w : World} {Q : Exit → Act → World → Prop} (hgd : o.guard = none) (ho : o.op = .build 61 #[])
    (h : wpList Try.prog ops Q rest (a.put o.dst (.agg (pgA (fun _ => 0)))) w) : wpList Try.prog ops Q (o :: rest) a w :=
  wpList_plain hgd fun K hK => by
    have hr := run_build (P := Try.prog) w 61 #[] _ page_built
    unfold Oper.wp execOp
    simp only [ho]
    simp [Sem.run_bind, hr]
    exact hK _ _ h
theorem wpList_neq_b {ops : Array Oper} {rest : List Oper} {o : Oper} {a : Act} {w : World} {Q : Exit → Act → World → Prop} (hgd : o.guard = none) (x y : Operand) (t : TypeId) (ho : o.op = .binOp .neq 61 x y t) (f g : Nat → Nat)
    (hx : a.eval x = .agg (pgA f)) (hy : a.eval y = .agg (pgA g)) (b : Bool) (hb : eqPg f g = !b) (h : wpList Try.prog ops Q rest (a.put o.dst (.bool b)) w) : wpList Try.prog ops Q (o :: rest) a w :=
  wpList_neq_page hgd x y t ho f g hx hy (by rw [hb, Bool.not_not]; exact h)
theorem ranges_le {w : World} {b r n : Nat} {D : DataW Unit} {left : Lit → Bool} {cnt : Nat} (h : w.ranges Try.prog 58 pageR b r n D left cnt) : cnt ≤ n := by
  obtain ⟨es, clock, since, seen, c0, h1, h2, h3, h4, h5, h6, h7, h8, h9, h10⟩ := h
  rw [← h7]
  refine Nat.le_trans ?_ h3
  unfold leftOf
  exact Array.size_filter_le
/-- Sort does its work on so many numbers. -/
def SortOk (n : Nat) : Prop := ∀ (g c : Nat) (X : Nat → Nat) (w : World), RowU w g n X → Calls Try.prog 29 #[.slice (some ⟨g, 0, none⟩) n c] w (fun e w' => e = .returned (.tuple #[]) ∧ Sorting g n 0 n X w w')
theorem sort_few (n : Nat) (h : n ≤ 12) : SortOk n := fun g c X w hR => sort12 g n c X w hR (by omega)
theorem ins_nil (w : World) : Calls Try.prog 35 #[.slice none 0 0, .int .i64 0, .int .i64 0] w (fun e w' => e = .returned (.tuple #[]) ∧ w' = w) := by
  go_enter Try.func35, Try.ntmps35
  go_wp2_with fail
  refine wp_loop_rounds 1 ?_
  rw [rounds_succ]
  go_wp2_with fail
  go_end0
  exact ⟨rfl, rfl⟩
theorem sort_nil (w : World) : Calls Try.prog 29 #[.slice none 0 0] w (fun e w' => e = .returned (.tuple #[]) ∧ w' = w) := by
  have hp : ∀ l w, Calls Try.prog 33 #[.slice none 0 0, .int .i64 0, .int .i64 0, .int .i64 l] w (fun e w' => e = .returned (.tuple #[]) ∧ w' = w) := fun l w => by
    go_enter Try.func33, Try.ntmps33
    go_wp2_with fail
    refine wp_loop_rounds 1 ?_
    rw [rounds_succ]
    go_wp2_with fail
    refine (ins_nil w).mono ?_; rintro e w1 ⟨rfl, h1⟩
    subst h1
    go_wp2_with fail
    exact bodyPost_ret (v := .tuple #[]) (by simp [results, Try.results33, go_sem] <;> (first | rfl | (repeat' (first | rfl | apply And.intro)))) rfl ⟨rfl, rfl⟩
  go_enter Try.func29, Try.ntmps29
  go_wp2_with fail
  refine (Try.bits_Len 0 _ (by omega) (by omega)).mono ?_; rintro e w1 ⟨rfl, h1⟩
  subst h1
  go_wp2_with fail
  refine (hp _ _).mono ?_; rintro e w2 ⟨rfl, h2⟩
  subst h2
  go_wp2_with fail
  go_end0
  exact ⟨rfl, rfl⟩
/-- What has been collected. -/
def Coll (D : DataW Unit) (F : Nat → Nat) (left : Lit → Bool) (L : List Nat) : Prop := L.Nodup ∧ (∀ s, s ∈ L → s < 18446744073709551616) ∧ ∀ s, s < 18446744073709551616 → (s ∈ L ↔ Maps.has D (keyL s) = true ∧ left (keyL s) = false ∧ eqPg (fun i => F (s + i)) (fun _ => 0) = false)
theorem strike_L (left : Lit → Bool) (s t : Nat) (hs : s < 18446744073709551616) (ht : t < 18446744073709551616) : (left (keyL t) && !(keyL t).sameKey (keyL s)) = if t = s then false else left (keyL t) := by
  by_cases e : t = s
  · subst e
    rw [if_pos rfl, (sameKey_L t t).2 rfl]; simp
  · rw [if_neg e]
    have hk : (keyL t).sameKey (keyL s) = false := by
      cases k : (keyL t).sameKey (keyL s)
      · rfl
      · exact absurd (keyL_inj ht hs ((sameKey_L t s).1 k)) e
    rw [hk]; simp
theorem coll_add {D : DataW Unit} {F : Nat → Nat} {left : Lit → Bool} {L : List Nat} {s : Nat} (h : Coll D F left L) (hs : s < 18446744073709551616) (hh : Maps.has D (keyL s) = true ∧ left (keyL s) = true) (he : eqPg (fun i => F (s + i)) (fun _ => 0) = false) : Coll D F (fun z => left z && !z.sameKey (keyL s)) (L ++ [s]) := by
  obtain ⟨h1, h2, h3⟩ := h
  have hn : s ∉ L := fun hm => by have := ((h3 s hs).1 hm).2.1; rw [hh.2] at this; cases this
  refine ⟨?_, fun t ht => ?_, fun t ht => ?_⟩
  · rw [List.nodup_append]
    exact ⟨h1, by simp, fun a ha b hb => by
      have : b = s := by simpa using hb
      subst this
      intro e; subst e; exact hn ha⟩
  · rcases List.mem_append.1 ht with h | h
    · exact h2 t h
    · have : t = s := by simpa using h
      rw [this]; exact hs
  · show t ∈ L ++ [s] ↔ _ ∧ (left (keyL t) && !(keyL t).sameKey (keyL s)) = false ∧ _
    rw [strike_L left s t hs ht, List.mem_append, List.mem_singleton, h3 t ht]
    by_cases e : t = s
    · subst e
      rw [if_pos rfl]
      exact ⟨fun _ => ⟨hh.1, rfl, he⟩, fun _ => Or.inr rfl⟩
    · rw [if_neg e]
      exact ⟨fun q => q.elim id (fun q => absurd q e), Or.inl⟩
theorem coll_skip {D : DataW Unit} {F : Nat → Nat} {left : Lit → Bool} {L : List Nat} {s : Nat} (h : Coll D F left L) (hs : s < 18446744073709551616) (hh : Maps.has D (keyL s) = true ∧ left (keyL s) = true) (he : eqPg (fun i => F (s + i)) (fun _ => 0) = true) : Coll D F (fun z => left z && !z.sameKey (keyL s)) L := by
  obtain ⟨h1, h2, h3⟩ := h
  refine ⟨h1, h2, fun t ht => ?_⟩
  show t ∈ L ↔ _ ∧ (left (keyL t) && !(keyL t).sameKey (keyL s)) = false ∧ _
  rw [strike_L left s t hs ht, h3 t ht]
  by_cases e : t = s
  · subst e
    rw [if_pos rfl, he]
    exact ⟨(fun q => by cases q.2.2), (fun q => by cases q.2.2)⟩
  · rw [if_neg e]
/-- A list of numbers in memory. -/
def IsL (w : World) (base : Nat) (v : Value) (L : List Nat) : Prop := (v = .slice none 0 0 ∧ L = []) ∨ ∃ g cap, v = .slice (some ⟨g, 0, none⟩) L.length cap ∧ base ≤ g ∧ L.length ≤ cap ∧ RowU w g L.length (fun i => L.getD i 0)
def RetPg (F : Nat → Nat) (W : World) (e : Ending) (w' : World) : Prop := ∃ v, e = .returned v ∧ IsL w' W.heap.size v (pagesL F) ∧ Below W.heap.size W w'
theorem coll_mem {S : Nat → Prop} {w : World} {m b : Nat} {D : DataW Unit} {F : Nat → Nat} {left : Lit → Bool} {L : List Nat} (hM : MemD S w m b D F) (h : Coll D F left L) (hl : ∀ kl, left kl = false) (s : Nat) : s ∈ L ↔ s ∈ pagesL F := by
  rw [pages_mem]
  constructor
  · intro hm
    have hs := h.2.1 s hm
    obtain ⟨h1, -, h3⟩ := (h.2.2 s hs).1 hm
    obtain ⟨p, q1, -⟩ := hM.2.2.2.2.2.2.1.1 s hs h1
    exact ⟨(hM.2.2.2.2.2.2.2 s p hs h1 q1).2.2.2, h3⟩
  · rintro ⟨⟨h1, h2, h3⟩, h4⟩
    refine (h.2.2 s (by omega)).2 ⟨?_, hl _, h4⟩
    cases hd : Maps.has D (keyL s)
    · have hz := hM.2.2.2.2.2.2.1.2.1 s (by omega) h1 hd
      have : eqPg (fun i => F (s + i)) (fun _ => 0) = true := (eqPg_true _ _).2 (fun i hi => hz i hi)
      rw [h4] at this; cases this
    · rfl
theorem own_row {w : World} {base g n cap : Nat} {L : List Nat} (h : OwnS w base (.slice (some ⟨g, 0, none⟩) n cap) L) : base ≤ g ∧ L.length = n ∧ n ≤ cap ∧ RowU w g L.length (fun i => L.getD i 0) := by
  have h0 := own_lt h g rfl
  rcases h.2 with ⟨h1, _⟩ | ⟨g', cap', cur, h1, h2, h3, h4, h5, h6, h7⟩
  · cases h1
  · cases h1
    refine ⟨h2, rfl, h4, h0.2, fun i hi => ⟨?_, ?_⟩⟩
    · rw [World.ownsRow.cellAt (w := w) h i (by omega)]
      simp [cells64, hi]
    · simp [World.frozen?, h3]
set_option maxRecDepth 100000 in
set_option maxHeartbeats 4000000 in
theorem pages_c (S : Nat → Prop) (m : Nat) (F : Nat → Nat) (w : World) (hM : Hid (MemS S w m F)) (hS : Hid (SortOk (pagesL F).length)) : Calls Try.prog 18 #[.pointer (some ⟨m, 0, none⟩)] w (RetPg F w) := by
  obtain ⟨b, D, hm⟩ := hM.out
  have HM := Lib.hid hm
  have hcm := hm.2.2.1
  clear hm
  go_enter Try.func18, Try.ntmps18
  go_wp2_with (at_range; refine wpList_range_own _ rfl _ 47 rfl 58 59 lawSpot Try.underlying47 pageR b (cntD D) D rfl HM.out.2.2.2.2.2.1 ?_; intro w0 hrg0 hg0 hs0)
  go_frame
  have HRG := Lib.hid hrg0
  have HG0 := Lib.hid hg0
  have HS0 := Lib.hid hs0
  clear hrg0 hg0 hs0 hcm
  go_loopw [3] (fun v wr => ∃ (left : Lit → Bool) (cnt : Nat) (L : List Nat), wr.ranges Try.prog 58 pageR b w.heap.size (cntD D) D left cnt ∧ Hid (OwnS wr (w.heap.size + 1) v L) ∧ Hid (Below w.heap.size w wr ∧ w.heap.size < wr.heap.size) ∧ Hid (Coll D F left L) ∧ Hid (L.length + cnt ≤ 256)) (fun _ wr => wr.rangeLeft b w.heap.size)
  case atStart =>
    refine ⟨_, _, [], HRG.out, own_nil _ _, ⟨grown_none HG0.out, ?_⟩, ⟨List.nodup_nil, (fun s h => by cases h), fun s hs => ?_⟩, ?_⟩
    · rw [HS0.out]; omega
    · constructor
      · intro h; cases h
      · rintro ⟨h1, h2, -⟩; rw [h1] at h2; cases h2
    · have h1 := ranges_le HRG.out
      have h2 := cnt_le D
      show 0 + _ ≤ 256
      omega
  case round =>
    obtain ⟨left, cnt, L, hrg, hO, hW, hC, hK⟩ := hrel
    have hMr : Hid (MemD S wr m b D F) := HM.out.kept (T := fun _ => False) (Own.below hW.out.1) (fun _ _ h => h)
    go_wp2_with (at_next; refine wpList_next_pages rfl _ rfl S m b w.heap.size D F left cnt hMr.out rfl hrg ?_ ?_)
    · intro _ hl0
      have HL := Lib.hid hl0
      clear hl0
      obtain ⟨hlen, hsrt⟩ := sorted_pages hC.out.1 (coll_mem HM.out hC.out HL.out)
      have HLEN := Lib.hid hlen
      have HSRT := Lib.hid hsrt
      clear hlen hsrt
      go_wp2_with fail
      rcases hO.out.2 with ⟨hv, hn0⟩ | ⟨g, cap, cur, hv, -⟩
      · have HN0 := Lib.hid hn0
        clear hn0
        subst hv
        refine (sort_nil _).mono ?_; rintro e w3 ⟨rfl, h3⟩
        subst h3
        go_wp2_with fail
        go_ret
        exact ⟨_, rfl, .inl ⟨rfl, List.length_eq_zero_iff.1 (by rw [← HLEN.out]; exact HN0.out)⟩, hW.out.1⟩
      · subst hv
        have hrow := Lib.hid (own_row hO.out)
        have hS2 : Hid (SortOk L.length) := by rw [HLEN.out]; exact hS.out
        refine (hS2.out g cap _ _ hrow.out.2.2.2).mono ?_; rintro e w3 ⟨rfl, Y, hy1, hy2, hy3, hy4⟩
        have HY1 := Lib.hid hy1; have HY2 := Lib.hid (HSRT.out Y hy2 hy3); have HY4 := Lib.hid hy4
        clear hy1 hy2 hy3 hy4
        go_wp2_with fail
        go_ret
        refine ⟨_, rfl, .inr ⟨g, cap, by rw [← HLEN.out]; rfl, by have := hrow.out.1; omega, by rw [← HLEN.out]; exact hrow.out.2.2.1, HY1.out.1, fun i hi => ?_⟩, hW.out.1.grown HY4.out hW.out.1.size (fun j hj => by cases hj; have := hrow.out.1; omega)⟩
        have := HY1.out.2 i (by rw [HLEN.out]; exact hi)
        show _ = some (Value.int .u64 ((pagesL F).getD i 0 : Nat)) ∧ _
        rw [← HY2.out]
        have e : ((List.range L.length).map Y).getD i 0 = Y i := by
          have hi2 : i < L.length := by rw [HLEN.out]; exact hi
          simp [hi2]
        rw [e]
        exact this
    · intro s p w2 cnt1 hs hlk hh hat hrg1 hlt hg1 hs1 hen
      have HR1 := Lib.hid hrg1
      have HSZ : Hid (w2.heap.size = wr.heap.size) := hs1
      have HW2 : Hid (Below w.heap.size w w2) := hW.out.1.grown hg1 hW.out.1.size (fun j hj => by cases hj; exact Nat.le_refl _)
      have hO2 := Lib.hid (own_grown hO.out hg1 (Nat.lt_succ_self _))
      have hMw : Hid (MemD S w2 m b D F) := HM.out.kept (T := fun _ => False) (Own.below HW2.out) (fun _ _ h => h)
      have hr6 := HM.out.2.2.2.2.2.2.2 s p hs hh hat
      have HS : Hid (s < 18446744073709551616 ∧ s % 4096 = 0 ∧ 2147483648 ≤ s ∧ s < 2148532224) := ⟨hs, hr6.2.2.2⟩
      have HPg : Hid (PageIs w2 p (fun i => F (s + i))) := by
        obtain ⟨p2, q1, q2⟩ := hMw.out.2.2.2.2.2.2.1.1 s hs hh
        have : p2 = p := by have := q1.symm.trans hat; unfold pageD at this; simp at this; omega
        rw [← this]; exact q2
      have HLT := Lib.hid hlt
      have HHH : Hid (Maps.has D (keyL s) = true ∧ left (keyL s) = true) := ⟨hh, hlk⟩
      clear hrg1 hg1 hs1 hr6 hs hlk hh hat hlt
      have hbA : Below w2.heap.size w2 (w2.alloc (Obj.cells #[.int .u64 s] 58)) := Below.alloc (Below.refl _ _) (Nat.le_refl _) _
      have HPa : Hid (PageIs (w2.alloc (Obj.cells #[.int .u64 s] 58)) p (fun i => F (s + i))) := HPg.out.kept (grown_below hbA) (by simp)
      clear hbA
      cases hz : eqPg (fun i => F (s + i)) (fun _ => 0)
      · have HE := Lib.hid hz
        clear hz
        go_wp2_with (first
          | (refine wpList_load_page rfl _ rfl p rfl _ HPa.out ?_)
          | (refine wpList_zero_page rfl rfl ?_)
          | (refine wpList_neq_b rfl _ _ _ rfl _ _ rfl rfl true HE.out ?_)
          | (refine append_s rfl _ _ rfl (w.heap.size + 1) _ L rfl (own_below hO2.out (Below.alloc (Below.alloc (Below.refl _ _) (Nat.le_refl _) _) (by rw [sz_alloc]; omega) _)) (by have := hK.out; omega) s (w2.heap.size + 1) rfl (by rw [World.cell?_alloc_at _ _ _ _ (sz_alloc _ _).symm]; rfl) (by rw [sz_alloc, sz_alloc]; have := HSZ.out; have := hW.out.2; omega) ?_; intro v3 w3 hown3 hg3))
        have hg3' : ((w2.alloc (Obj.cells #[.int .u64 s] 58)).alloc (Obj.cells #[.int .u64 s] 30)).grownBy w3 u3.ownBlock := hg3
        clear hg3
        have hlt3 := own_lt hO2.out
        have hbS : b < w.heap.size := by
          obtain ⟨es, clock, q, -⟩ := HM.out.2.2.2.2.2.1
          exact (Array.getElem?_eq_some_iff.1 q).1
        have hr3 := ((HR1.out.alloc (Obj.cells #[.int .u64 s] 58)).alloc (Obj.cells #[.int .u64 s] 30)).kept hg3' (by intro e; have := hlt3 _ e.symm; omega) (by intro e; have := hlt3 _ e.symm; omega)
        have h4 : Below w.heap.size w ((w2.alloc (Obj.cells #[.int .u64 s] 58)).alloc (Obj.cells #[.int .u64 s] 30)) := (HW2.out.alloc HW2.out.size _).alloc (by rw [sz_alloc]; have := HW2.out.size; omega) _
        go_roundw
        case rel =>
          refine ⟨_, cnt1, L ++ [s], hr3, hown3, ⟨h4.grown hg3' h4.size (fun j hj => by have := hlt3 j hj; omega), ?_⟩, coll_add hC.out HS.out.1 HHH.out HE.out, ?_⟩
          · have := hg3'.size
            rw [sz_alloc, sz_alloc] at this
            have := HSZ.out; have := hW.out.2
            omega
          · show (L ++ [s]).length + cnt1 ≤ 256
            rw [List.length_append]
            have := hK.out; have := HLT.out
            show L.length + 1 + cnt1 ≤ 256
            omega
        case measure => rw [hr3.left_eq, hrg.left_eq]; exact HLT.out
      · have HE := Lib.hid hz
        clear hz
        go_wp2_with (first
          | (refine wpList_load_page rfl _ rfl p rfl _ HPa.out ?_)
          | (refine wpList_zero_page rfl rfl ?_)
          | (refine wpList_neq_b rfl _ _ _ rfl _ _ rfl rfl false HE.out ?_; go_frame))
        have hr3 := HR1.out.alloc (Obj.cells #[.int .u64 s] 58)
        go_roundw
        case rel =>
          refine ⟨_, cnt1, L, hr3, own_below hO2.out (Below.alloc (Below.refl _ _) (Nat.le_refl _) _), ⟨HW2.out.alloc HW2.out.size _, ?_⟩, coll_skip hC.out HS.out.1 HHH.out HE.out, ?_⟩
          · rw [sz_alloc]; have := HSZ.out; have := hW.out.2; omega
          · have := hK.out; have := HLT.out; show _ ≤ 256; omega
        case measure => rw [hr3.left_eq, hrg.left_eq]; exact HLT.out
end Go.Proofs.Ytibgdlianedcbaa
