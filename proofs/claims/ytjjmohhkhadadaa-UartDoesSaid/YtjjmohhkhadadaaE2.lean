/- The calls, made upon one of several things. -/
import Derived.Test.YtjjmohhkhadadaaE1
namespace Go.Proofs.Ytjjmohhkhadadaa
open Go.ChangeShapes Go.WideShapes Go.ChangeAt Go.RowKit
set_option linter.unusedVariables false
set_option linter.unusedSimpArgs false
section
variable {w0 w w' : World} {l : List Ent} {E E' : Ent}
theorem AllAt.push3 {R W : Nat → Fp} (h : AllAt w0 l R W w) {R1 W1 : Fp} (hE : E.P R1 W1 w) (hr : ∀ i, i < l.length → Dj (W i) R1) (hw : ∀ i, i < l.length → Dj W1 (R i)) (hn : ∀ k j, R1 k j → w0.heap.size ≤ k) : All w0 (l ++ [E]) w := by
  obtain ⟨h1, h2, h3, h4⟩ := h
  refine ⟨fun k => if k = l.length then R1 else R k, fun k => if k = l.length then W1 else W k, ⟨fun k F hk => ?_, fun a b ha hb' hne => ?_, fun k hk => ?_, h4⟩⟩
  · by_cases e : k = l.length
    · subst e
      rw [List.getElem?_append_right (Nat.le_refl _), Nat.sub_self] at hk
      obtain rfl : E = F := by simpa using hk
      show E.P (if _ then _ else _) (if _ then _ else _) w
      rw [if_pos rfl, if_pos rfl]; exact hE
    · have hk2 : k < l.length := by
        have := len_of hk
        rw [List.length_append] at this
        have : k < l.length + 1 := this
        omega
      rw [List.getElem?_append_left hk2] at hk
      show F.P (if _ then _ else _) (if _ then _ else _) w
      rw [if_neg e, if_neg e]
      exact h1 k F hk
  · rw [List.length_append] at ha hb'
    have ha2 : a < l.length + 1 := ha
    have hb2 : b < l.length + 1 := hb'
    show Dj (if a = l.length then _ else _) (if b = l.length then _ else _)
    by_cases ea : a = l.length
    · have eb : ¬ b = l.length := fun q => hne (ea.trans q.symm)
      rw [if_pos ea, if_neg eb]; exact hw b (by omega)
    · rw [if_neg ea]
      by_cases eb : b = l.length
      · rw [if_pos eb]; exact hr a (by omega)
      · rw [if_neg eb]; exact h2 a b (by omega) (by omega) hne
  · rw [List.length_append] at hk
    have hk2 : k < l.length + 1 := hk
    show ∀ x y, (if k = l.length then _ else _ : Fp) x y → _
    by_cases e : k = l.length
    · rw [if_pos e]; exact hn
    · rw [if_neg e]; exact h3 k (by omega)
theorem AllAt.tight {R W : Nat → Fp} (h : AllAt w0 l R W w) (i : Nat) (hi : l[i]? = some E) {W0 : Fp} (hE : E.P (R i) W0 w) (hW : ∀ k j, W0 k j → W i k j) : AllAt w0 l R (fun k => if k = i then W0 else W k) w := by
  refine ⟨fun k F hk => ?_, fun a b ha hb hne => ?_, h.new, h.out⟩
  · by_cases e : k = i
    · subst e
      rw [hi] at hk
      obtain rfl : E = F := by simpa using hk
      show E.P (R k) (if k = k then _ else _) w
      rw [if_pos rfl]; exact hE
    · show F.P (R k) (if k = i then _ else _) w
      rw [if_neg e]; exact h.each k F hk
  · show Dj (if a = i then _ else _) _
    by_cases e : a = i
    · subst e
      rw [if_pos rfl]
      intro x y hx hy
      exact h.dj a b ha hb hne x y (hW x y hx) hy
    · rw [if_neg e]; exact h.dj a b ha hb hne
/-- A copy that reads what the old one reads. -/
theorem AllAt.copied {R W : Nat → Fp} (h : AllAt w0 l R W w) (i : Nat) (hi : l[i]? = some E) {R1 W1 W0 : Fp} (hb : Below w.heap.size w w') (h0 : E.P (R i) W0 w') (hW : ∀ k j, W0 k j → W i k j) (hE : E'.P R1 W1 w') (hw : ∀ k j, W1 k j → w.heap.size ≤ k) (hr : ∀ k j, R1 k j → w.heap.size ≤ k ∨ R i k j) (hd : Dj W0 R1) : All w0 (l ++ [E']) w' := by
  have hh : AllAt w0 l R W w' := ⟨fun k F hk => F.kept (h.each k F hk) (Ch.of_below (fun _ _ => False) hb) (fun _ _ h => h.elim), h.dj, h.new, h.out.trans (hb.mono h.out.size)⟩
  have ht := hh.tight i hi h0 hW
  have il := len_of hi
  have wl : ∀ k, k < l.length → ∀ x y, W k x y → x < w.heap.size := fun k hk => by
    obtain ⟨F, hF⟩ : ∃ F, l[k]? = some F := ⟨_, List.getElem?_eq_getElem hk⟩
    exact fun x y q => F.rlt (h.each k F hF) x y (F.wr (h.each k F hF) x y q)
  -- the new one is laid behind: its writes are new to the world ahead
  refine AllAt.push3 ht hE (fun a ha => ?_) (fun a ha => ?_) (fun k j hk => ?_)
  · show Dj (if a = i then _ else _) R1
    by_cases e : a = i
    · rw [if_pos e]; exact hd
    · rw [if_neg e]
      intro x y hx hy
      rcases hr x y hy with q | q
      · have := wl a ha x y hx; omega
      · exact h.dj a i ha il e x y hx q
  · intro x y hx hy
    have := hw x y hx
    obtain ⟨F, hF⟩ : ∃ F, l[a]? = some F := ⟨_, List.getElem?_eq_getElem ha⟩
    have := F.rlt (h.each a F hF) x y hy
    omega
  · rcases hr k j hk with q | q
    · exact Nat.le_trans h.out.size q
    · exact h.new i il k j q
section
variable {b x v N : Nat} {U : Ur}
theorem newA (h : All w0 l w) : Calls Try.prog 8 #[] w (fun e w' => ∃ b, e = .returned (.pointer (some ⟨b, 0, none⟩)) ∧ All w0 (l ++ [eU b U0]) w') :=
  (new_c w).mono (fun e w' ⟨b, R, W, h1, h2, h3, h4⟩ => ⟨b, h1, h.push h4 h2 h3⟩)
theorem newrA (h : All w0 l w) : Calls Try.prog 9 #[] w (fun e w' => ∃ b, e = .returned (.pointer (some ⟨b, 0, none⟩)) ∧ All w0 (l ++ [eR b 0 U0]) w') :=
  (newr_c w).mono (fun e w' ⟨b, R, h1, h2, h3, h4⟩ => ⟨b, h1, h.push h4 ⟨rfl, h2⟩ h3⟩)
theorem giveA (h : All w0 l w) (i : Nat) (hi : l[i]? = some (eU b U)) (hx : Hid (x < 256)) : Calls Try.prog 16 #[.pointer (some ⟨b, 0, none⟩), .int .u8 x] w (fun e w' => e = .returned (.tuple #[]) ∧ All w0 (l.set i (eU b (giveF U x))) w') :=
  h.step i hi _ (fun R W q => give_c R W b x U w q hx)
theorem readA (h : All w0 l w) (i : Nat) (hi : l[i]? = some (eU b U)) (a : Nat) (z : Int) : Calls Try.prog 12 #[.pointer (some ⟨b, 0, none⟩), .int .u64 a, .int .i64 z] w (fun e w' => e = .returned (.tuple #[.int .u64 (valK (kd a z) U : Nat), .bool (okK (kd a z))]) ∧ All w0 (l.set i (eU b (nextK (kd a z) U))) w') :=
  h.step i hi _ (fun R W q => read_c R W b a z U w q)
theorem writeA (h : All w0 l w) (i : Nat) (hi : l[i]? = some (eU b U)) (a : Nat) (z : Int) (hv : Hid (v < 18446744073709551616)) (hn : Hid (U.sent.length < 70368744177664)) : Calls Try.prog 10 #[.pointer (some ⟨b, 0, none⟩), .int .u64 a, .int .i64 z, .int .u64 v] w (fun e w' => e = .returned (.bool (okK (kd a z))) ∧ All w0 (l.set i (eU b (wrK (kd a z) U v))) w') :=
  h.step i hi _ (fun R W q => write_c R W b a v z U w q hv hn)
theorem upA (h : All w0 l w) (i : Nat) (hi : l[i]? = some (eU b U)) : Calls Try.prog 18 #[.pointer (some ⟨b, 0, none⟩)] w (fun e w' => e = .returned (.bool (upF U)) ∧ w' = w) := by
  obtain ⟨R, W, q⟩ := h.get i hi
  exact up_c R W b U w q
theorem sentA (h : All w0 l w) (i : Nat) (hi : l[i]? = some (eU b U)) (hn : Hid (U.sent.length < 70368744177664)) : Calls Try.prog 20 #[.pointer (some ⟨b, 0, none⟩)] w (RetSl U.sent w) := by
  obtain ⟨R, W, q⟩ := h.get i hi
  exact sent_c R W b U w q hn
theorem copyA (h : All w0 l w) (i : Nat) (hi : l[i]? = some (eU b U)) : Calls Try.prog 14 #[.pointer (some ⟨b, 0, none⟩)] w (fun e w' => ∃ b', e = .returned (.pointer (some ⟨b', 0, none⟩)) ∧ All w0 (l ++ [eU b' U]) w') := by
  obtain ⟨R, W, h⟩ := h
  refine (copy_c (R i) (W i) b U w (h.each i _ hi)).mono ?_
  rintro e w' ⟨b', R', W', W0, rfl, h1, h2, h3, h4, h5, h6, h7⟩
  exact ⟨b', rfl, h.copied i hi h7 h1 h2 h3 h4 h5 h6⟩
theorem giverA (h : All w0 l w) (i : Nat) (hi : l[i]? = some (eR b N U)) (hx : Hid (x < 256)) (hN : Hid (N < 70368744177664)) : Calls Try.prog 17 #[.pointer (some ⟨b, 0, none⟩), .int .u8 x] w (fun e w' => e = .returned (.tuple #[]) ∧ All w0 (l.set i (eR b (N + 1) (giveF U x))) w') :=
  h.step i hi _ (fun R W q => (giver_c W N b x U w q.2 hx hN).mono (fun e w' ⟨h1, h2, h3⟩ => ⟨h1, ⟨by rw [q.1], h2⟩, h3⟩))
theorem readrA (h : All w0 l w) (i : Nat) (hi : l[i]? = some (eR b N U)) (a : Nat) (z : Int) (hN : Hid (N < 70368744177664)) : Calls Try.prog 13 #[.pointer (some ⟨b, 0, none⟩), .int .u64 a, .int .i64 z] w (fun e w' => e = .returned (.tuple #[.int .u64 (valK (kd a z) U : Nat), .bool (okK (kd a z))]) ∧ All w0 (l.set i (eR b N (nextK (kd a z) U))) w') :=
  h.step i hi _ (fun R W q => (readr_c W N b a z U w q.2 hN).mono (fun e w' ⟨h1, h2, h3⟩ => ⟨h1, ⟨by rw [q.1], h2⟩, h3⟩))
theorem writerA (h : All w0 l w) (i : Nat) (hi : l[i]? = some (eR b N U)) (a : Nat) (z : Int) (hv : Hid (v < 18446744073709551616)) (hn : Hid (U.sent.length < 70368744177664)) : Calls Try.prog 11 #[.pointer (some ⟨b, 0, none⟩), .int .u64 a, .int .i64 z, .int .u64 v] w (fun e w' => e = .returned (.bool (okK (kd a z))) ∧ All w0 (l.set i (eR b N (wrK (kd a z) U v))) w') :=
  h.step i hi _ (fun R W q => (writer_c W N b a v z U w q.2 hv hn).mono (fun e w' ⟨h1, h2, h3⟩ => ⟨h1, ⟨by rw [q.1], h2⟩, h3⟩))
theorem uprA (h : All w0 l w) (i : Nat) (hi : l[i]? = some (eR b N U)) : Calls Try.prog 19 #[.pointer (some ⟨b, 0, none⟩)] w (RetB (upF U) w) := by
  obtain ⟨R, W, q⟩ := h.get i hi
  exact upr_c W N b U w q.2
theorem sentrA (h : All w0 l w) (i : Nat) (hi : l[i]? = some (eR b N U)) (hn : Hid (U.sent.length < 70368744177664)) : Calls Try.prog 21 #[.pointer (some ⟨b, 0, none⟩)] w (RetSl U.sent w) := by
  obtain ⟨R, W, q⟩ := h.get i hi
  exact sentr_c W N b U w q.2 hn
theorem copyrA (h : All w0 l w) (i : Nat) (hi : l[i]? = some (eR b N U)) (hN : Hid (N < 70368744177664)) (hn : Hid (U.sent.length < 70368744177664)) : Calls Try.prog 15 #[.pointer (some ⟨b, 0, none⟩)] w (fun e w' => ∃ b', e = .returned (.pointer (some ⟨b', 0, none⟩)) ∧ All w0 (l ++ [eR b' N U]) w') := by
  obtain ⟨R, W, q⟩ := h.get i hi
  refine (copyr_c W N b U w q.2 hN hn).mono ?_
  rintro e w' ⟨b', R', rfl, h1, h2, h3⟩
  exact ⟨b', rfl, h.push h3 ⟨rfl, h1⟩ h2⟩
end
end
end Go.Proofs.Ytjjmohhkhadadaa
