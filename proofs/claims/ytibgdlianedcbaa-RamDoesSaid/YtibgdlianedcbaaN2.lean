/- Rows of numbers as lists; the pages that have bytes, in their order. -/
import Derived.Test.YtibgdlianedcbaaN1
import Derived.Test.YtibgdlianedcbaaM2
namespace Go.Proofs.Ytibgdlianedcbaa
set_option linter.unusedVariables false
set_option linter.unusedSimpArgs false
theorem cntV_list (X : Nat → Nat) (v : Nat) : ∀ n, ((List.range n).map X).count v = cntV X v n
  | 0 => rfl
  | n + 1 => by
    rw [List.range_succ, List.map_append, List.count_append, cntV_list X v n]
    show _ + List.count v [X n] = cntV X v n + _
    rw [List.count_singleton]
    by_cases c : X n = v
    · rw [if_pos c, if_pos (by simp [c])]
    · rw [if_neg c, if_neg (by simp; omega)]
theorem map_getD (L : List Nat) : (List.range L.length).map (fun i => L.getD i 0) = L := by
  apply List.ext_getElem
  · simp
  · intro i h1 h2
    simp [h2]
theorem nodup_count {L : List Nat} (h : L.Nodup) (v : Nat) : L.count v = if v ∈ L then 1 else 0 := by
  by_cases c : v ∈ L
  · rw [if_pos c]
    have h1 := List.nodup_iff_count.1 h v
    have h2 := List.count_pos_iff.2 c
    omega
  · rw [if_neg c]; exact List.count_eq_zero.2 c
/-- The pages that have a byte that isn't 0. -/
def pagesL (F : Nat → Nat) : List Nat := ((List.range 256).map (fun i => 2147483648 + 4096 * i)).filter (fun s => !eqPg (fun i => F (s + i)) (fun _ => 0))
theorem pages_mem (F : Nat → Nat) (s : Nat) : s ∈ pagesL F ↔ (s % 4096 = 0 ∧ 2147483648 ≤ s ∧ s < 2148532224) ∧ eqPg (fun i => F (s + i)) (fun _ => 0) = false := by
  unfold pagesL
  rw [List.mem_filter, List.mem_map]
  simp only [List.mem_range, Bool.not_eq_true']
  constructor
  · rintro ⟨⟨i, hi, rfl⟩, h⟩
    exact ⟨⟨by omega, by omega, by omega⟩, h⟩
  · rintro ⟨⟨h1, h2, h3⟩, h⟩
    exact ⟨⟨(s - 2147483648) / 4096, by omega, by omega⟩, h⟩
theorem pages_sorted (F : Nat → Nat) : (pagesL F).Pairwise (· < ·) := by
  unfold pagesL
  refine List.Pairwise.filter _ ?_
  rw [List.pairwise_map]
  exact List.Pairwise.imp (fun h => by omega) List.pairwise_lt_range
theorem pages_nodup (F : Nat → Nat) : (pagesL F).Nodup := (pages_sorted F).imp (fun h => by omega)
theorem pages_len (F : Nat → Nat) : (pagesL F).length ≤ 256 := by
  unfold pagesL
  refine Nat.le_trans (List.length_filter_le _ _) ?_
  simp
theorem pages_srt (F : Nat → Nat) : Srt (fun i => (pagesL F).getD i 0) 0 (pagesL F).length := by
  intro k l _ h2 h3
  have h := List.pairwise_iff_getElem.1 (pages_sorted F) k l (by omega) h3 h2
  show (pagesL F).getD k 0 ≤ (pagesL F).getD l 0
  have hk : k < (pagesL F).length := by omega
  rw [List.getD_eq_getElem?_getD, List.getD_eq_getElem?_getD, List.getElem?_eq_getElem hk, List.getElem?_eq_getElem h3]
  exact Nat.le_of_lt h
/-- What is sorted of the pages in whatever order are the pages. -/
theorem sorted_pages {F : Nat → Nat} {L : List Nat} (hn : L.Nodup) (hm : ∀ s, s ∈ L ↔ s ∈ pagesL F) : L.length = (pagesL F).length ∧ ∀ Y, Sw 0 L.length (fun i => L.getD i 0) Y → Srt Y 0 L.length → (List.range L.length).map Y = pagesL F := by
  have hc : ∀ v, L.count v = (pagesL F).count v := fun v => by
    rw [nodup_count hn, nodup_count (pages_nodup F)]
    simp only [hm v]
  have hlen : L.length = (pagesL F).length := (List.perm_iff_count.2 hc).length_eq
  refine ⟨hlen, fun Y hY hs => ?_⟩
  have hcc : ∀ v, cntV Y v L.length = cntV (fun i => (pagesL F).getD i 0) v L.length := fun v => by
    rw [hY.cnt v, ← cntV_list, map_getD, hc v, hlen, ← cntV_list, map_getD]
  have hu := srt_unique L.length hs (by rw [hlen]; exact pages_srt F) hcc
  rw [← map_getD (pagesL F), ← hlen]
  apply List.map_congr_left
  intro i hi
  exact hu i (List.mem_range.1 hi)
end Go.Proofs.Ytibgdlianedcbaa
