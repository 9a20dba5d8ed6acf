/- Mathematics of TlbKeeps; slices that grow beside things. -/
import Derived.Test.YtdplcdgdndeopaaG3
namespace Go.Proofs.Ytdplcdgdndeopaa
open Go.ChangeShapes Go.WideShapes Go.ChangeAt Go.RowKit Go.Sort
set_option linter.unusedVariables false
set_option linter.unusedSimpArgs false
/-- A slice of entries as a thing, wherever it stands. -/
def eS0 (t : TypeId) (v : Value) (L : List En) : Th where
  P S w := OwnE t w 0 v L ∧ ∀ k, S k ↔ v.ownBlock = some k
  kept := fun ⟨h1, h2⟩ ho hd => ⟨h1.own ho (fun k hk => hd k ((h2 k).2 hk)), h2⟩
  lt := fun ⟨h1, h2⟩ i q => (h1.lt i ((h2 i).1 q)).2
theorem OwnE.zero {t : TypeId} {w : World} {base : Nat} {v : Value} {L : List En} (h : OwnE t w base v L) : OwnE t w 0 v L := by
  rcases h.2 with ⟨e, h0⟩ | ⟨g, cap, cur, e, hbg, r⟩
  · exact ⟨h.1, .inl ⟨e, h0⟩⟩
  · exact ⟨h.1, .inr ⟨g, cap, cur, e, Nat.zero_le _, r⟩⟩
section
variable {w0 w w' : World} {l : List Th}
theorem s0At (h : Grp w0 l w) (i : Nat) {t : TypeId} {v : Value} {L : List En} (hi : l[i]? = some (eS0 t v L)) : OwnE t w 0 v L := by
  obtain ⟨S, q⟩ := h.get i hi
  exact q.1
theorem newS0 (h : Grp w0 l w) (hb : Below w.heap.size w w') {t : TypeId} {v : Value} {L : List En} {base : Nat} (ho : OwnE t w' base v L) (hbase : w.heap.size ≤ base) : Grp w0 (l ++ [eS0 t v L]) w' :=
  h.push hb (S1 := fun k => v.ownBlock = some k) ⟨ho.zero, fun _ => Iff.rfl⟩ (fun k hk => Nat.le_trans hbase (ho.lt k hk).1)
theorem growS0 (h : Grp w0 l w) (i : Nat) {t : TypeId} {v v' : Value} {L L' : List En} (hi : l[i]? = some (eS0 t v L)) (ho : OwnE t w' 0 v' L') (hg : w.grownBy w' v.ownBlock) (hv : v'.ownBlock = v.ownBlock ∨ v'.ownBlock = some w.heap.size) : Grp w0 (l.set i (eS0 t v' L')) w' := by
  obtain ⟨S, h⟩ := h
  have hS := (h.each i _ hi).2
  refine h.set i hi (S' := fun k => v'.ownBlock = some k) ⟨ho, fun _ => Iff.rfl⟩ ⟨hg.os, hg.tape, hg.output, hg.size, fun k hk hn => hg.block k hk (fun e => hn ((hS k).2 e.symm))⟩ (fun k hk => ?_)
  rcases hv with e | e
  · exact .inl ((hS k).2 (e ▸ hk))
  · rw [e] at hk
    exact .inr (Nat.le_of_eq (Option.some.inj hk))
end
theorem sameB_iff (x y : En) : sameB x y = true ↔ x.ad = y.ad ∧ x.lv = y.lv ∧ x.gl = y.gl ∧ (y.gl = true ∨ x.sp = y.sp) := by
  unfold sameB
  simp only [Bool.and_eq_true, Bool.or_eq_true, beq_iff_eq, and_assoc]
theorem sameB_refl (x : En) : sameB x x = true := (sameB_iff x x).2 ⟨rfl, rfl, rfl, .inr rfl⟩
theorem sameB_symm {x y : En} (h : sameB x y = true) : sameB y x = true := by
  obtain ⟨a, b, c, d⟩ := (sameB_iff x y).1 h
  exact (sameB_iff y x).2 ⟨a.symm, b.symm, c.symm, d.elim (fun q => .inl (c.trans q)) (fun q => .inr q.symm)⟩
theorem sameB_trans {x y z : En} (h : sameB x y = true) (k : sameB y z = true) : sameB x z = true := by
  obtain ⟨a, b, c, d⟩ := (sameB_iff x y).1 h
  obtain ⟨a', b', c', d'⟩ := (sameB_iff y z).1 k
  refine (sameB_iff x z).2 ⟨a.trans a', b.trans b', c.trans c', ?_⟩
  rcases d' with q | q
  · exact .inl q
  · rcases d with r | r
    · exact .inl (c'.symm.trans r)
    · exact .inr (r.trans q)
/-- What may be there is listed. -/
structure Ki (X : St) (P : List En) (n : Nat) : Prop where
  ok : X.Ok
  al : Al X
  uq : ∀ m k, m < 8 → k < 8 → X.is m = true → X.is k = true → sameB (X.e m) (X.e k) = true → m = k
  mem : ∀ k, k < 8 → X.is k = true → X.e k ∈ P
  pok : ∀ x ∈ P, x.Ok
  len : P.length ≤ n
theorem Ki.start (sd : Nat) (h : sd < 18446744073709551616) : Ki (S0 sd) [] 0 := ⟨S0_ok sd h, S0_al sd, (fun _ _ _ _ h => nomatch h), (fun _ _ h => nomatch h), (fun _ h => nomatch h), Nat.le_refl _⟩
theorem Ki.more {X : St} {P : List En} {n : Nat} (h : Ki X P n) : Ki X P (n + 1) := ⟨h.ok, h.al, h.uq, h.mem, h.pok, Nat.le_succ_of_le h.len⟩
theorem placeN_lt (X : St) (hX : X.Ok) (x : En) : (placeN X x).1 < 8 := (place_lt X hX x).1
theorem place_else {X : St} {P : List En} {n : Nat} (h : Ki X P n) (x : En) {k : Nat} (hk : k < 8) (hi : X.is k = true) (hne : k ≠ (placeN X x).1) : sameB (X.e k) x = false := by
  cases hs : sameB (X.e k) x with
  | false => rfl
  | true =>
    exfalso
    unfold placeN at hne
    split at hne
    · next n hf =>
      obtain ⟨_, q2, q3, q4⟩ := fst_some hf
      simp only [Bool.and_eq_true] at q3
      exact hne (h.uq k n hk (by omega) hi q3.1 (sameB_trans hs (sameB_symm q3.2)))
    · next hf =>
      have := fst_none hf k (Nat.zero_le _) (by omega)
      simp only [hi, hs, Bool.and_self] at this
      cases this
theorem Ki.put {X : St} {P : List En} {n : Nat} (h : Ki X P n) (x : En) (hx : x.Wf) (ho : okP x = true) : Ki (putS X x) (P.filter (fun y => !sameB y x) ++ [x]) (n + 1) := by
  have hp := placeN_lt X h.ok x
  have he : ∀ k, (putS X x).e k = setF X.e (placeN X x).1 x k := fun k => by unfold putS; rw [if_pos ho]
  have hi : ∀ k, (putS X x).is k = setF X.is (placeN X x).1 true k := fun k => by unfold putS; rw [if_pos ho]
  refine ⟨putS_ok X h.ok x hx, putS_al h.al x, fun m k hm hk im ik hs => ?_, fun k hk ik => ?_, fun y hy => ?_, ?_⟩
  · rw [he, he] at hs
    rw [hi] at im ik
    by_cases em : m = (placeN X x).1
    · by_cases ek : k = (placeN X x).1
      · rw [em, ek]
      · exfalso
        rw [em, setF_at, setF_ne _ _ ek] at hs
        rw [setF_ne _ _ ek] at ik
        have := place_else h x hk ik ek
        rw [sameB_symm hs] at this; cases this
    · by_cases ek : k = (placeN X x).1
      · exfalso
        rw [ek, setF_at, setF_ne _ _ em] at hs
        rw [setF_ne _ _ em] at im
        have := place_else h x hm im em
        rw [hs] at this; cases this
      · rw [setF_ne _ _ em, setF_ne _ _ ek] at hs
        rw [setF_ne _ _ em] at im
        rw [setF_ne _ _ ek] at ik
        exact h.uq m k hm hk im ik hs
  · rw [he]
    rw [hi] at ik
    by_cases ek : k = (placeN X x).1
    · rw [ek, setF_at]; simp
    · rw [setF_ne _ _ ek] at ik ⊢
      refine List.mem_append_left _ (List.mem_filter.2 ⟨h.mem k hk ik, ?_⟩)
      rw [place_else h x hk ik ek]; rfl
  · rcases List.mem_append.1 hy with q | q
    · exact h.pok y (List.mem_filter.1 q).1
    · obtain rfl := List.mem_singleton.1 q
      exact okP_ok ho hx
  · rw [List.length_append]
    have := List.length_filter_le (fun y => !sameB y x) P
    have := h.len
    show _ + 1 ≤ _
    omega
theorem Ki.fence {X : St} {P : List En} {n : Nat} (h : Ki X P n) (bA : Bool) (a : Nat) (bS : Bool) (s : Nat) : Ki (fenceS X bA a bS s) (P.filter (fun y => !goesB y bA a bS s)) n := by
  have he : ∀ k, (fenceS X bA a bS s).is k = true → X.is k = true ∧ goesB (X.e k) bA a bS s = false ∧ (fenceS X bA a bS s).e k = X.e k := fun k hk => by
    have hk : (if goesB (X.e k) bA a bS s = true then false else X.is k) = true := hk
    split at hk
    · cases hk
    · next hg =>
      refine ⟨hk, by simpa using hg, ?_⟩
      show (if goesB (X.e k) bA a bS s = true then E0 else X.e k) = _
      rw [if_neg hg]
  refine ⟨fenceS_ok X h.ok _ _ _ _, fenceS_al h.al _ _ _ _, fun m k hm hk im ik hs => ?_, fun k hk ik => ?_, fun y hy => h.pok y (List.mem_filter.1 hy).1, Nat.le_trans (List.length_filter_le _ _) h.len⟩
  · obtain ⟨a1, _, a3⟩ := he m im
    obtain ⟨b1, _, b3⟩ := he k ik
    rw [a3, b3] at hs
    exact h.uq m k hm hk a1 b1 hs
  · obtain ⟨a1, a2, a3⟩ := he k ik
    rw [a3]
    exact List.mem_filter.2 ⟨h.mem k hk a1, by rw [a2]; rfl⟩
theorem len_sub {α : Type} : ∀ {l P : List α}, l.Nodup → (∀ x ∈ l, x ∈ P) → l.length ≤ P.length
  | [], P, _, _ => Nat.zero_le _
  | x :: l, P, hn, hs => by
    classical
    have hx : x ∈ P := hs x (List.mem_cons_self ..)
    have h1 : l.length ≤ (P.erase x).length := len_sub (List.nodup_cons.1 hn).2 (fun y hy => by
      have hne : y ≠ x := fun e => (List.nodup_cons.1 hn).1 (e ▸ hy)
      exact (List.mem_erase_of_ne hne).2 (hs y (List.mem_cons_of_mem _ hy)))
    have h2 := List.length_erase_of_mem hx
    have h3 : 0 < P.length := List.length_pos_of_mem hx
    show l.length + 1 ≤ _
    omega
theorem Ki.few {X : St} {P : List En} {n : Nat} (h : Ki X P n) : (allS X).length ≤ P.length := by
  refine len_sub ?_ (fun x hx => ?_)
  · unfold allS
    have hr : (List.range 8).Nodup := by decide
    have gen : ∀ l : List Nat, l.Nodup → (∀ k ∈ l, k < 8) → ((l.filter X.is).map X.e).Nodup := by
      intro l
      induction l with
      | nil => intro _ _; exact List.nodup_nil
      | cons a l ih =>
        intro hn hl
        obtain ⟨h1, h2⟩ := List.nodup_cons.1 hn
        have ih := ih h2 (fun k hk => hl k (List.mem_cons_of_mem _ hk))
        cases ha : X.is a with
        | false => rw [List.filter_cons_of_neg (by rw [ha]; decide)]; exact ih
        | true =>
          rw [List.filter_cons_of_pos ha, List.map_cons]
          refine List.nodup_cons.2 ⟨fun hm => ?_, ih⟩
          obtain ⟨b, hb, e⟩ := List.mem_map.1 hm
          obtain ⟨hb1, hb2⟩ := List.mem_filter.1 hb
          have : a = b := h.uq a b (hl a (List.mem_cons_self ..)) (hl b (List.mem_cons_of_mem _ hb1)) ha hb2 (by rw [e]; exact sameB_refl _)
          exact h1 (this ▸ hb1)
    exact gen _ hr (fun k hk => List.mem_range.1 hk)
  · obtain ⟨k, hk, hi, rfl⟩ := allS_mem hx
    exact h.mem k hk hi
/-- What Find tells. -/
theorem find_facts {X : St} {P : List En} {n : Nat} (h : Ki X P n) (s a : Nat) (hb : findB X s a = true) : findE X s a ∈ P ∧ hasB (findE X s a) a = true ∧ meantB (findE X s a) s = true := by
  unfold findB at hb
  unfold findE
  cases hf : findN X s a with
  | none => rw [hf] at hb; cases hb
  | some k =>
    obtain ⟨_, q2, q3, _⟩ := fst_some hf
    unfold findP at q3
    simp only [Bool.and_eq_true] at q3
    exact ⟨h.mem k (by omega) q3.1.1, q3.1.2, q3.2⟩
theorem findE_ok {X : St} (hX : X.Ok) (s a : Nat) : (findE X s a).Ok := by
  unfold findE
  split
  · exact hX.e _
  · exact E0_ok
/-- What was put is found. -/
theorem put_found {X : St} {P : List En} {n : Nat} (h : Ki X P n) (x : En) (ho : okP x = true) : findB (putS X x) x.sp x.ad = true := by
  have hp := placeN_lt X h.ok x
  have hP : findP (putS X x) x.sp x.ad (placeN X x).1 = true := by
    unfold findP putS
    rw [if_pos ho]
    simp only [setF_at, Bool.true_and, Bool.and_eq_true]
    exact ⟨by unfold hasB; simp, by unfold meantB; simp⟩
  unfold findB findN
  cases hf : fst (findP (putS X x) x.sp x.ad) 0 8 with
  | some k => rfl
  | none =>
    have := fst_none hf _ (Nat.zero_le _) (by omega : (placeN X x).1 < 0 + 8)
    rw [hP] at this; cases this
theorem OwnE.slice3 {t : TypeId} {w : World} {base : Nat} {v : Value} {L : List En} (h : OwnE t w base v L) : ∃ a n c, v = .slice a n c ∧ Hid (L.length = n) := by
  obtain ⟨a, c, e⟩ := h.slice
  exact ⟨a, _, c, e, rfl⟩
theorem rowxq {w : World} {g : Nat} {ad sp lf : Nat} {lv : Int} {gl : Bool} (h : Row w g 36 (En.v ⟨ad, lv, sp, gl, lf⟩)) : w.cell? ⟨g, 0, none⟩ = some (.int .u64 (ad : Nat)) ∧ w.cell? ⟨g, 1, none⟩ = some (.int .i64 lv) ∧ w.cell? ⟨g, 2, none⟩ = some (.int .u64 (sp : Nat)) ∧ w.cell? ⟨g, 3, none⟩ = some (.bool gl) ∧ w.cell? ⟨g, 4, none⟩ = some (.int .u64 (lf : Nat)) :=
  ⟨(h.cell 0).trans rfl, (h.cell 1).trans rfl, (h.cell 2).trans rfl, (h.cell 3).trans rfl, (h.cell 4).trans rfl⟩
def enB (x y : En) : Bool := x.ad == y.ad && x.lv == y.lv && x.sp == y.sp && x.gl == y.gl && x.lf == y.lf
theorem enB_iff (x y : En) : enB x y = true ↔ x = y := by
  cases x; cases y
  unfold enB
  simp [and_assoc]
/-- Seen among the first ones. -/
def seenB (P : List En) (f : En) (j : Nat) : Bool := (P.take j).any (fun y => enB y f)
theorem seen_next (P : List En) (f : En) (j : Nat) (y : En) (h : P[j]? = some y) : seenB P f (j + 1) = (seenB P f j || enB y f) := by
  unfold seenB
  rw [List.take_add_one, h, List.any_append]
  simp
theorem seen_all {P : List En} {f : En} (h : f ∈ P) : seenB P f P.length = true := by
  unfold seenB
  rw [List.take_length, List.any_eq_true]
  exact ⟨f, h, (enB_iff f f).2 rfl⟩
theorem take_filter_n {α : Type} (pr : α → Bool) (L : List α) (j : Nat) (x : α) (hx : L[j]? = some x) (hp : pr x = false) : (L.take (j + 1)).filter pr = (L.take j).filter pr := by
  rw [List.take_add_one, hx, List.filter_append]; simp [hp]
theorem take_filter_y {α : Type} (pr : α → Bool) (L : List α) (j : Nat) (x : α) (hx : L[j]? = some x) (hp : pr x = true) : (L.take (j + 1)).filter pr = (L.take j).filter pr ++ [x] := by
  rw [List.take_add_one, hx, List.filter_append]; simp [hp]
theorem take_filter_len {α : Type} (pr : α → Bool) (L : List α) (j : Nat) : ((L.take j).filter pr).length ≤ L.length := Nat.le_trans (List.length_filter_le _ _) (by rw [List.length_take]; exact Nat.min_le_right _ _)
end Go.Proofs.Ytdplcdgdndeopaa
