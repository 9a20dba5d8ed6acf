/- Mathematics of TlbFences. -/
import Derived.Test.YtdplcdgdndeopaaG2
import Derived.Test.YtdplcdgdndeopaaM1
namespace Go.Proofs.Ytdplcdgdndeopaa
open Go.ChangeShapes Go.WideShapes Go.ChangeAt Go.RowKit Go.Sort
set_option linter.unusedVariables false
set_option linter.unusedSimpArgs false
theorem all_fence (X : St) (bA : Bool) (a : Nat) (bS : Bool) (s : Nat) : allS (fenceS X bA a bS s) = (allS X).filter (fun x => !goesB x bA a bS s) := by
  have gen : ∀ l : List Nat, (l.filter (fenceS X bA a bS s).is).map (fenceS X bA a bS s).e = ((l.filter X.is).map X.e).filter (fun x => !goesB x bA a bS s) := by
    intro l
    induction l with
    | nil => rfl
    | cons n l ih =>
      have hi : (fenceS X bA a bS s).is n = if goesB (X.e n) bA a bS s = true then false else X.is n := rfl
      have he : (fenceS X bA a bS s).e n = if goesB (X.e n) bA a bS s = true then E0 else X.e n := rfl
      cases hg : goesB (X.e n) bA a bS s with
      | true =>
        rw [hg, if_pos rfl] at hi
        rw [List.filter_cons_of_neg (by rw [hi]; decide), ih]
        cases hx : X.is n with
        | true => rw [List.filter_cons_of_pos hx, List.map_cons, List.filter_cons_of_neg (by rw [hg]; decide)]
        | false => rw [List.filter_cons_of_neg (by rw [hx]; decide)]
      | false =>
        rw [hg, if_neg (by decide)] at hi he
        cases hx : X.is n with
        | true =>
          rw [hx] at hi
          rw [List.filter_cons_of_pos hi, List.map_cons, ih, he, List.filter_cons_of_pos hx, List.map_cons, List.filter_cons_of_pos (by rw [hg]; decide)]
        | false =>
          rw [hx] at hi
          rw [List.filter_cons_of_neg (by rw [hi]; decide), ih, List.filter_cons_of_neg (by rw [hx]; decide)]
  exact gen _
theorem all_gone (X : St) (a s : Nat) : allS (fenceS X false a false s) = [] := by
  rw [all_fence]
  rw [List.filter_eq_nil_iff]
  intro x _
  simp [goesB]
/-- Of all that are there. -/
theorem allS_mem {X : St} {x : En} (h : x ∈ allS X) : ∃ n, n < 8 ∧ X.is n = true ∧ X.e n = x := by
  unfold allS at h
  rw [List.mem_map] at h
  obtain ⟨n, hn, e⟩ := h
  rw [List.mem_filter, List.mem_range] at hn
  exact ⟨n, hn.1, hn.2, e⟩
theorem take_goes {α : Type} (pr : α → Bool) (L : List α) (j : Nat) (x : α) (hx : L[j]? = some x) (hp : pr x = false) : ((L.take (j + 1)).filter pr).length = ((L.take j).filter pr).length := by
  rw [List.take_add_one, hx, List.filter_append]
  simp [hp]
theorem take_stays {α : Type} (pr : α → Bool) (L : List α) (j : Nat) (x : α) (hx : L[j]? = some x) (hp : pr x = true) : ((L.take (j + 1)).filter pr).length = ((L.take j).filter pr).length + 1 ∧ (L.filter pr)[((L.take j).filter pr).length]? = some x ∧ ((L.take j).filter pr).length < (L.filter pr).length := by
  have hj : j < L.length := (List.getElem?_eq_some_iff.1 hx).1
  have e1 : L.filter pr = (L.take j).filter pr ++ x :: (L.drop (j + 1)).filter pr := by
    have : L = L.take j ++ x :: L.drop (j + 1) := by
      have h1 := (List.getElem?_eq_some_iff.1 hx).2
      rw [← h1, List.getElem_cons_drop, List.take_append_drop]
    rw [show L.filter pr = (L.take j ++ x :: L.drop (j + 1)).filter pr from congrArg _ this, List.filter_append, List.filter_cons_of_pos hp]
  refine ⟨?_, ?_, ?_⟩
  · rw [List.take_add_one, hx, List.filter_append]
    simp [hp]
  · rw [e1, List.getElem?_append_right (Nat.le_refl _), Nat.sub_self]; rfl
  · rw [e1, List.length_append, List.length_cons]; omega
/-- A slice's block keeps what it lists, whatever is written elsewhere. -/
theorem OwnE.own {t : TypeId} {S : Nat → Prop} {w w' : World} {base : Nat} {v : Value} {L : List En} (h : OwnE t w base v L) (ho : Own S w w') (hn : ∀ k, v.ownBlock = some k → ¬ S k) : OwnE t w' base v L := by
  rcases h.2 with ⟨e, h0⟩ | ⟨g, cap, cur, e, hbg, hg, r1, r2, r3, r4⟩
  · exact ⟨h.1, .inl ⟨e, h0⟩⟩
  · exact ⟨h.1, .inr ⟨g, cap, cur, e, hbg, (ho.block g (h.lt g (by rw [e]; rfl)).2 (hn g (by rw [e]; rfl))).trans hg, r1, r2, r3, r4⟩⟩
/-- A slice of entries as a thing. -/
def eSl (t : TypeId) (base : Nat) (v : Value) (L : List En) : Th where
  P S w := OwnE t w base v L ∧ ∀ k, S k ↔ v.ownBlock = some k
  kept := fun ⟨h1, h2⟩ ho hd => ⟨h1.own ho (fun k hk => hd k ((h2 k).2 hk)), h2⟩
  lt := fun ⟨h1, h2⟩ i q => (h1.lt i ((h2 i).1 q)).2
theorem slAt {w0 w : World} {l : List Th} (h : Grp w0 l w) (i : Nat) {t : TypeId} {base : Nat} {v : Value} {L : List En} (hi : l[i]? = some (eSl t base v L)) : OwnE t w base v L := by
  obtain ⟨S, q⟩ := h.get i hi
  exact q.1
/-- A slice of one's own beside things. -/
theorem newSl {w0 w w' : World} {l : List Th} (h : Grp w0 l w) (hb : Below w.heap.size w w') {t : TypeId} {v : Value} {L : List En} {base : Nat} (ho : OwnE t w' base v L) (hbase : w.heap.size ≤ base) : Grp w0 (l ++ [eSl t base v L]) w' :=
  h.push hb (S1 := fun k => v.ownBlock = some k) ⟨ho, fun _ => Iff.rfl⟩ (fun k hk => Nat.le_trans hbase (ho.lt k hk).1)
theorem allS' {w0 w : World} {l : List Th} {fN fF fP fX fA fC : FuncId} {tE : TypeId} {T : Nat → St → Th} (O : TOk fN fF fP fX fA fC tE T) (h : Grp w0 l w) (i : Nat) {b : Nat} {X : St} (hi : l[i]? = some (T b X)) (hX : X.Ok) :
    Calls Try.prog fA #[.pointer (some ⟨b, 0, none⟩)] w (fun e w' => ∃ a c, e = .returned (.slice a (allS X).length c) ∧ Grp w0 (l ++ [eSl tE w.heap.size (.slice a (allS X).length c) (allS X)]) w') := by
  obtain ⟨S, q⟩ := h.get i hi
  refine (O.all q hX).mono ?_
  rintro e w' ⟨v, rfl, h1, h2⟩
  obtain ⟨a, c, rfl⟩ := h1.slice
  exact ⟨a, c, rfl, newSl h h2 h1 (Nat.le_refl _)⟩
end Go.Proofs.Ytdplcdgdndeopaa
