/- Entries written over in a slice of one's own. -/
import Derived.Test.YtdplcdgdndeopaaG1
namespace Go.Proofs.Ytdplcdgdndeopaa
open Go.ChangeShapes Go.WideShapes Go.ChangeAt Go.RowKit Go.Sort
set_option linter.unusedVariables false
set_option linter.unusedSimpArgs false
theorem cellsE_len (x : En) : (cellsE x).length = 5 := rfl
theorem cellsEs_cons (x : En) (L : List En) : cellsEs (x :: L) = cellsE x ++ cellsEs L := rfl
theorem cellsEs_take : ∀ (L : List En) (k : Nat), (cellsEs L).take (k * 5) = cellsEs (L.take k)
  | [], k => by simp [cellsEs]
  | x :: L, 0 => by simp [cellsEs]
  | x :: L, k + 1 => by
    rw [cellsEs_cons, List.take_succ_cons, cellsEs_cons, List.take_append, cellsE_len, List.take_of_length_le (by rw [cellsE_len]; omega), show (k + 1) * 5 - 5 = k * 5 by omega, cellsEs_take L k]
theorem cellsEs_drop : ∀ (L : List En) (k : Nat), (cellsEs L).drop (k * 5) = cellsEs (L.drop k)
  | [], k => by simp [cellsEs]
  | x :: L, 0 => by simp
  | x :: L, k + 1 => by
    rw [cellsEs_cons, List.drop_succ_cons, List.drop_append, cellsE_len, List.drop_of_length_le (by rw [cellsE_len]; omega), List.nil_append, show (k + 1) * 5 - 5 = k * 5 by omega, cellsEs_drop L k]
theorem cellsEs_set (L : List En) (k : Nat) (x : En) (hk : k < L.length) : cellsEs (L.set k x) = cellsEs (L.take k) ++ cellsE x ++ cellsEs (L.drop (k + 1)) := by
  rw [List.set_eq_take_append_cons_drop, if_pos hk, cellsEs_append, cellsEs_cons, List.append_assoc]
/-- A place of it is written over. -/
theorem OwnE.lay {t : TypeId} {w : World} {base : Nat} {a : Option Addr} {n c : Nat} {L : List En} (h : OwnE t w base (.slice a n c) L) {k : Nat} (hk : k < n) (x : En) :
    ∃ (g : Nat) (cur new : Array Value), a = some ⟨g, 0, none⟩ ∧ base ≤ g ∧ w.heap[g]? = some (.cells cur t (0, 0)) ∧ k * 5 + 5 ≤ cur.size ∧ (cur.toList.take (k * 5) ++ cellsE x ++ cur.toList.drop (k * 5 + 5)).toArray = new ∧ OwnE t (w.setRow g new) base (.slice a n c) (L.set k x) := by
  have hn := h.cells.1
  rcases h.2 with ⟨e, h0⟩ | ⟨g, cap, cur, e, hbg, hg, hnc, hcm, hcs, htake⟩
  · cases e; omega
  · injection e with e1 e2 e3
    subst e1 e3
    refine ⟨g, cur, _, rfl, hbg, hg, ?_, rfl, ?_⟩
    · rw [hcs]; have : (k + 1) * 5 ≤ c * 5 := Nat.mul_le_mul_right 5 (by omega); omega
    · have hlen : cur.toList.length = c * 5 := by rw [Array.length_toList]; exact hcs
      have hk5 : k * 5 + 5 ≤ cur.toList.length := by rw [hlen]; have : (k + 1) * 5 ≤ c * 5 := Nat.mul_le_mul_right 5 (by omega); omega
      refine ⟨by rw [cellsEs_len], .inr ⟨g, c, (cur.toList.take (k * 5) ++ cellsE x ++ cur.toList.drop (k * 5 + 5)).toArray, by rw [List.length_set]; rw [← e2], hbg, ?_, by rw [List.length_set]; exact hnc, hcm, ?_, ?_⟩⟩
      · show (w.heap.modify g _)[g]? = _
        rw [Array.getElem?_modify, if_pos rfl, hg]; simp [Obj.cells]
      · simp only [List.size_toArray, List.length_append, List.length_take, List.length_drop, cellsE_len]
        rw [hlen]; rw [hlen] at hk5; omega
      · have hL : cur.toList.take (L.length * 5) = cellsEs L := htake
        rw [List.length_set, cellsEs_set L k x (by omega)]
        have h1 : cur.toList.take (k * 5) = cellsEs (L.take k) := by
          rw [← cellsEs_take, ← hL, List.take_take, Nat.min_eq_left (Nat.mul_le_mul_right 5 (by omega))]
        have h2 : (cur.toList.drop (k * 5 + 5)).take (L.length * 5 - (k * 5 + 5)) = cellsEs (L.drop (k + 1)) := by
          rw [← cellsEs_drop, ← hL, List.drop_take, show (k + 1) * 5 = k * 5 + 5 by omega]
        rw [← h2, ← h1]
        have l1 : (cur.toList.take (k * 5)).length = k * 5 := by rw [List.length_take]; omega
        have hk1 : (k + 1) * 5 ≤ L.length * 5 := Nat.mul_le_mul_right 5 (by omega)
        show List.take (L.length * 5) (cur.toList.take (k * 5) ++ cellsE x ++ cur.toList.drop (k * 5 + 5)) = _
        rw [List.take_append, List.length_append, l1, cellsE_len, List.take_of_length_le (by rw [List.length_append, l1, cellsE_len]; omega)]
end Go.Proofs.Ytdplcdgdndeopaa
