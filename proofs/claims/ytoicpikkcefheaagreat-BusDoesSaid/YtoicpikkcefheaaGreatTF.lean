/- Taken from other texts: what is needed of them. -/
import Derived.Test.YtoicpikkcefheaaGreatTA
import Derived.Test.YtoicpikkcefheaaGreatTB
import Derived.Test.YtoicpikkcefheaaGreatTD
import Derived.Test.YtoicpikkcefheaaGreatTE
namespace Go.Proofs.YtoicpikkcefheaaGreat.T
set_option linter.unusedVariables false
set_option linter.unusedSimpArgs false
set_option maxRecDepth 20000
open Go.ChangeShapes Go.WideShapes Go.ChangeAt Go.RowKit
abbrev Fp := Nat → Nat → Prop
def Dj (T R : Fp) : Prop := ∀ k j, T k j → ¬ R k j
/-- A thing in memory: what it reads lies in R, what it may write in W. -/
structure Ent where
  P : Fp → Fp → World → Prop
  kept : ∀ {T R W : Fp} {w w' : World}, P R W w → Ch T w w' → Dj T R → P R W w'
  wr : ∀ {R W : Fp} {w : World}, P R W w → ∀ k j, W k j → R k j
  rlt : ∀ {R W : Fp} {w : World}, P R W w → ∀ k j, R k j → k < w.heap.size
/-- Several things, none of which writes what another one reads; all of them are newer than w0. -/
structure AllAt (w0 : World) (l : List Ent) (R W : Nat → Fp) (w : World) : Prop where
  each : ∀ (i : Nat) (E : Ent), l[i]? = some E → E.P (R i) (W i) w
  dj : ∀ i j, i < l.length → j < l.length → i ≠ j → Dj (W i) (R j)
  new : ∀ i, i < l.length → ∀ k j, R i k j → w0.heap.size ≤ k
  out : Below w0.heap.size w0 w
def All (w0 : World) (l : List Ent) (w : World) : Prop := ∃ R W : Nat → Fp, AllAt w0 l R W w
section
variable {w0 w w' : World} {l : List Ent} {E E' : Ent}
theorem All.out (h : All w0 l w) : Below w0.heap.size w0 w := h.choose_spec.choose_spec.out
theorem All.get (h : All w0 l w) (i : Nat) (hi : l[i]? = some E) : ∃ R W, E.P R W w := by
  obtain ⟨R, W, h⟩ := h
  exact ⟨_, _, h.each i E hi⟩
theorem len_of {i : Nat} (hi : l[i]? = some E) : i < l.length := (List.getElem?_eq_some_iff.1 hi).1
theorem All.below (h : All w0 l w) (hb : Below w.heap.size w w') : All w0 l w' := by
  obtain ⟨R, W, h1, h2, h3, h4⟩ := h
  exact ⟨R, W, ⟨fun i E hi => E.kept (h1 i E hi) (Ch.of_below (fun _ _ => False) hb) (fun _ _ h => h.elim), h2, h3, h4.trans (hb.mono h4.size)⟩⟩
theorem AllAt.set {R W : Nat → Fp} (h : AllAt w0 l R W w) (i : Nat) (hi : l[i]? = some E) (c1 : E'.P (Up (R i) w w') (Up (W i) w w') w') (c2 : Ch (W i) w w') : All w0 (l.set i E') w' := by
  obtain ⟨h1, h2, h3, h4⟩ := h
  have il := len_of hi
  refine ⟨fun k => if k = i then Up (R i) w w' else R k, fun k => if k = i then Up (W i) w w' else W k, ⟨fun k F hk => ?_, fun a b ha hb hne => ?_, fun k hk => ?_, c2.below (fun k j hk => h3 i il k j (E.wr (h1 i E hi) k j hk)) h4 h4.size⟩⟩
  · by_cases e : k = i
    · subst e
      rw [List.getElem?_set_self il] at hk
      obtain rfl : E' = F := by simpa using hk
      show E'.P (if k = k then _ else _) (if k = k then _ else _) w'
      rw [if_pos rfl, if_pos rfl]; exact c1
    · rw [List.getElem?_set_ne (fun q => e q.symm)] at hk
      show F.P (if k = i then _ else _) (if k = i then _ else _) w'
      rw [if_neg e, if_neg e]
      exact F.kept (h1 k F hk) c2 (h2 i k il (len_of hk) (fun q => e q.symm))
  · rw [List.length_set] at ha hb
    show Dj (if a = i then _ else _) (if b = i then _ else _)
    have lt : ∀ k, k < l.length → ∀ x y, R k x y → x < w.heap.size := fun k hk => by
      obtain ⟨F, hF⟩ : ∃ F, l[k]? = some F := ⟨_, List.getElem?_eq_getElem hk⟩
      exact F.rlt (h1 k F hF)
    have wl : ∀ k, k < l.length → ∀ x y, W k x y → x < w.heap.size := fun k hk => by
      obtain ⟨F, hF⟩ : ∃ F, l[k]? = some F := ⟨_, List.getElem?_eq_getElem hk⟩
      exact fun x y q => F.rlt (h1 k F hF) x y (F.wr (h1 k F hF) x y q)
    by_cases ea : a = i
    · subst ea
      have eb : ¬ b = a := fun q => hne q.symm
      rw [if_pos rfl, if_neg eb]
      intro x y hx hy
      rcases hx with hx | hx
      · exact h2 a b ha hb hne x y hx hy
      · have := lt b hb x y hy; omega
    · rw [if_neg ea]
      by_cases eb : b = i
      · subst eb
        rw [if_pos rfl]
        intro x y hx hy
        rcases hy with hy | hy
        · exact h2 a b ha hb hne x y hx hy
        · have := wl a ha x y hx; omega
      · rw [if_neg eb]; exact h2 a b ha hb hne
  · rw [List.length_set] at hk
    show ∀ x y, (if k = i then _ else _ : Fp) x y → _
    by_cases e : k = i
    · subst e
      rw [if_pos rfl]
      intro x y hx
      rcases hx with hx | hx
      · exact h3 k hk x y hx
      · exact Nat.le_trans h4.size hx.1
    · rw [if_neg e]; exact h3 k hk
/-- One of them has done something. -/
theorem All.set (h : All w0 l w) (i : Nat) (hi : l[i]? = some E) (hc : ∀ R W, E.P R W w → E'.P (Up R w w') (Up W w w') w' ∧ Ch W w w') : All w0 (l.set i E') w' := by
  obtain ⟨R, W, h⟩ := h
  obtain ⟨c1, c2⟩ := hc _ _ (h.each i E hi)
  exact h.set i hi c1 c2
/-- A call that is made upon one of them. -/
theorem All.step (h : All w0 l w) (i : Nat) (hi : l[i]? = some E) (E' : Ent) {f : FuncId} {args : Array Value} {v : Value} (hc : ∀ R W, E.P R W w → Calls Tryz.prog f args w (fun e w' => e = .returned v ∧ E'.P (Up R w w') (Up W w w') w' ∧ Ch W w w')) :
    Calls Tryz.prog f args w (fun e w' => e = .returned v ∧ All w0 (l.set i E') w') := by
  obtain ⟨R, W, h⟩ := h
  refine (hc _ _ (h.each i E hi)).mono ?_
  rintro e w' ⟨rfl, c1, c2⟩
  exact ⟨rfl, h.set i hi c1 c2⟩
/-- A new one. -/
theorem All.push (h : All w0 l w) (hb : Below w.heap.size w w') {R1 W1 : Fp} (hE : E.P R1 W1 w') (hn : ∀ k j, R1 k j → w.heap.size ≤ k) : All w0 (l ++ [E]) w' := by
  obtain ⟨R, W, h1, h2, h3, h4⟩ := h
  have lt : ∀ k, k < l.length → ∀ x y, R k x y → x < w.heap.size := fun k hk => by
    obtain ⟨F, hF⟩ : ∃ F, l[k]? = some F := ⟨_, List.getElem?_eq_getElem hk⟩
    exact F.rlt (h1 k F hF)
  have wl : ∀ k, k < l.length → ∀ x y, W k x y → x < w.heap.size := fun k hk => by
    obtain ⟨F, hF⟩ : ∃ F, l[k]? = some F := ⟨_, List.getElem?_eq_getElem hk⟩
    exact fun x y q => F.rlt (h1 k F hF) x y (F.wr (h1 k F hF) x y q)
  refine ⟨fun k => if k = l.length then R1 else R k, fun k => if k = l.length then W1 else W k, ⟨fun k F hk => ?_, fun a b ha hb' hne => ?_, fun k hk => ?_, h4.trans (hb.mono h4.size)⟩⟩
  · by_cases e : k = l.length
    · subst e
      rw [List.getElem?_append_right (Nat.le_refl _), Nat.sub_self] at hk
      obtain rfl : E = F := by simpa using hk
      show E.P (if _ then _ else _) (if _ then _ else _) w'
      rw [if_pos rfl, if_pos rfl]; exact hE
    · have hk2 : k < l.length := by
        have := len_of hk
        rw [List.length_append] at this
        have : k < l.length + 1 := this
        omega
      rw [List.getElem?_append_left hk2] at hk
      show F.P (if _ then _ else _) (if _ then _ else _) w'
      rw [if_neg e, if_neg e]
      exact F.kept (h1 k F hk) (Ch.of_below (fun _ _ => False) hb) (fun _ _ h => h.elim)
  · rw [List.length_append] at ha hb'
    have ha2 : a < l.length + 1 := ha
    have hb2 : b < l.length + 1 := hb'
    show Dj (if a = l.length then _ else _) (if b = l.length then _ else _)
    by_cases ea : a = l.length
    · have eb : ¬ b = l.length := fun q => hne (ea.trans q.symm)
      rw [if_pos ea, if_neg eb]
      intro x y hx hy
      have := hn x y (E.wr hE x y hx)
      have := lt b (by omega) x y hy
      omega
    · rw [if_neg ea]
      by_cases eb : b = l.length
      · rw [if_pos eb]
        intro x y hx hy
        have := hn x y hy
        have := wl a (by omega) x y hx
        omega
      · rw [if_neg eb]; exact h2 a b (by omega) (by omega) hne
  · rw [List.length_append] at hk
    have hk2 : k < l.length + 1 := hk
    show ∀ x y, (if k = l.length then _ else _ : Fp) x y → _
    by_cases e : k = l.length
    · rw [if_pos e]
      intro x y hx
      exact Nat.le_trans h4.size (hn x y hx)
    · rw [if_neg e]; exact h3 k (by omega)
end
/-- A uart. -/
def eU (b : Nat) (U : Ur) : Ent where
  P R W w := IsU R W w b U
  kept h hc hd := h.kept hc hd
  wr := fun ⟨_, _, _, _, _, _, _, _, _, _, x⟩ => x.wr
  rlt := fun ⟨_, _, _, _, _, _, _, _, _, _, x⟩ => x.rlt
/-- The document's. -/
def eR (b N : Nat) (U : Ur) : Ent where
  P R W w := R = W ∧ IsR W N w b U
  kept h hc hd := ⟨h.1, h.2.kept hc (by rw [← h.1]; exact hd)⟩
  wr h := by rw [h.1]; exact fun _ _ h => h
  rlt h := by obtain ⟨e, K, r, sa, n, c, g, o, ta, m, d, hh, p, x⟩ := h; rw [e]; exact x.rlt
section
variable {w0 w w' : World} {l : List Ent}
end
end Go.Proofs.YtoicpikkcefheaaGreat.T
namespace Go.Proofs.YtoicpikkcefheaaGreat.T
set_option linter.unusedVariables false
set_option linter.unusedSimpArgs false
set_option maxRecDepth 20000
open Go.ChangeShapes Go.WideShapes Go.ChangeAt Go.RowKit
section
variable {w0 w w' : World} {l : List Ent} {E E' : Ent}
theorem AllAt.push3 {R W : Nat → Fp} (h : AllAt w0 l R W w) {R1 W1 : Fp} (hE : E.P R1 W1 w) (hr : ∀ i, i < l.length → Dj (W i) R1) (hw : ∀ i, i < l.length → Dj W1 (R i)) (hn : ∀ k j, R1 k j → w0.heap.size ≤ k) : All w0 (l ++ [E]) w := by
  obtain ⟨h1, h2, h3, h4⟩ := h
  refine ⟨fun k => if k = l.length then R1 else R k, fun k => if k = l.length then W1 else W k, ⟨fun k F hk => ?_, fun a b ha hb' hne => ?_, fun k hk => ?_, h4⟩⟩
  · by_cases e : k = l.length
    · subst e
      rw [List.getElem?_append_right (Nat.le_refl _), Nat.sub_self] at hk
      obtain rfl : E = F := by simpa using hk
      show E.P (if _ then _ else _) (if _ then _ else _) w
      rw [if_pos rfl, if_pos rfl]; exact hE
    · have hk2 : k < l.length := by
        have := len_of hk
        rw [List.length_append] at this
        have : k < l.length + 1 := this
        omega
      rw [List.getElem?_append_left hk2] at hk
      show F.P (if _ then _ else _) (if _ then _ else _) w
      rw [if_neg e, if_neg e]
      exact h1 k F hk
  · rw [List.length_append] at ha hb'
    have ha2 : a < l.length + 1 := ha
    have hb2 : b < l.length + 1 := hb'
    show Dj (if a = l.length then _ else _) (if b = l.length then _ else _)
    by_cases ea : a = l.length
    · have eb : ¬ b = l.length := fun q => hne (ea.trans q.symm)
      rw [if_pos ea, if_neg eb]; exact hw b (by omega)
    · rw [if_neg ea]
      by_cases eb : b = l.length
      · rw [if_pos eb]; exact hr a (by omega)
      · rw [if_neg eb]; exact h2 a b (by omega) (by omega) hne
  · rw [List.length_append] at hk
    have hk2 : k < l.length + 1 := hk
    show ∀ x y, (if k = l.length then _ else _ : Fp) x y → _
    by_cases e : k = l.length
    · rw [if_pos e]; exact hn
    · rw [if_neg e]; exact h3 k (by omega)
theorem AllAt.tight {R W : Nat → Fp} (h : AllAt w0 l R W w) (i : Nat) (hi : l[i]? = some E) {W0 : Fp} (hE : E.P (R i) W0 w) (hW : ∀ k j, W0 k j → W i k j) : AllAt w0 l R (fun k => if k = i then W0 else W k) w := by
  refine ⟨fun k F hk => ?_, fun a b ha hb hne => ?_, h.new, h.out⟩
  · by_cases e : k = i
    · subst e
      rw [hi] at hk
      obtain rfl : E = F := by simpa using hk
      show E.P (R k) (if k = k then _ else _) w
      rw [if_pos rfl]; exact hE
    · show F.P (R k) (if k = i then _ else _) w
      rw [if_neg e]; exact h.each k F hk
  · show Dj (if a = i then _ else _) _
    by_cases e : a = i
    · subst e
      rw [if_pos rfl]
      intro x y hx hy
      exact h.dj a b ha hb hne x y (hW x y hx) hy
    · rw [if_neg e]; exact h.dj a b ha hb hne
/-- A copy that reads what the old one reads. -/
theorem AllAt.copied {R W : Nat → Fp} (h : AllAt w0 l R W w) (i : Nat) (hi : l[i]? = some E) {R1 W1 W0 : Fp} (hb : Below w.heap.size w w') (h0 : E.P (R i) W0 w') (hW : ∀ k j, W0 k j → W i k j) (hE : E'.P R1 W1 w') (hw : ∀ k j, W1 k j → w.heap.size ≤ k) (hr : ∀ k j, R1 k j → w.heap.size ≤ k ∨ R i k j) (hd : Dj W0 R1) : All w0 (l ++ [E']) w' := by
  have hh : AllAt w0 l R W w' := ⟨fun k F hk => F.kept (h.each k F hk) (Ch.of_below (fun _ _ => False) hb) (fun _ _ h => h.elim), h.dj, h.new, h.out.trans (hb.mono h.out.size)⟩
  have ht := hh.tight i hi h0 hW
  have il := len_of hi
  have wl : ∀ k, k < l.length → ∀ x y, W k x y → x < w.heap.size := fun k hk => by
    obtain ⟨F, hF⟩ : ∃ F, l[k]? = some F := ⟨_, List.getElem?_eq_getElem hk⟩
    exact fun x y q => F.rlt (h.each k F hF) x y (F.wr (h.each k F hF) x y q)
  -- the new one is laid behind: its writes are new to the world ahead
  refine AllAt.push3 ht hE (fun a ha => ?_) (fun a ha => ?_) (fun k j hk => ?_)
  · show Dj (if a = i then _ else _) R1
    by_cases e : a = i
    · rw [if_pos e]; exact hd
    · rw [if_neg e]
      intro x y hx hy
      rcases hr x y hy with q | q
      · have := wl a ha x y hx; omega
      · exact h.dj a i ha il e x y hx q
  · intro x y hx hy
    have := hw x y hx
    obtain ⟨F, hF⟩ : ∃ F, l[a]? = some F := ⟨_, List.getElem?_eq_getElem ha⟩
    have := F.rlt (h.each a F hF) x y hy
    omega
  · rcases hr k j hk with q | q
    · exact Nat.le_trans h.out.size q
    · exact h.new i il k j q
section
variable {b x v N : Nat} {U : Ur}
theorem newrA (h : All w0 l w) : Calls Tryz.prog 33 #[] w (fun e w' => ∃ b, e = .returned (.pointer (some ⟨b, 0, none⟩)) ∧ All w0 (l ++ [eR b 0 U0]) w') :=
  (newr_c w).mono (fun e w' ⟨b, R, h1, h2, h3, h4⟩ => ⟨b, h1, h.push h4 ⟨rfl, h2⟩ h3⟩)
theorem copyA (h : All w0 l w) (i : Nat) (hi : l[i]? = some (eU b U)) : Calls Tryz.prog 89 #[.pointer (some ⟨b, 0, none⟩)] w (fun e w' => ∃ b', e = .returned (.pointer (some ⟨b', 0, none⟩)) ∧ All w0 (l ++ [eU b' U]) w') := by
  obtain ⟨R, W, h⟩ := h
  refine (copy_c (R i) (W i) b U w (h.each i _ hi)).mono ?_
  rintro e w' ⟨b', R', W', W0, rfl, h1, h2, h3, h4, h5, h6, h7⟩
  exact ⟨b', rfl, h.copied i hi h7 h1 h2 h3 h4 h5 h6⟩
theorem giverA (h : All w0 l w) (i : Nat) (hi : l[i]? = some (eR b N U)) (hx : Hid (x < 256)) (hN : Hid (N < 70368744177664)) : Calls Tryz.prog 55 #[.pointer (some ⟨b, 0, none⟩), .int .u8 x] w (fun e w' => e = .returned (.tuple #[]) ∧ All w0 (l.set i (eR b (N + 1) (giveF U x))) w') :=
  h.step i hi _ (fun R W q => (giver_c W N b x U w q.2 hx hN).mono (fun e w' ⟨h1, h2, h3⟩ => ⟨h1, ⟨by rw [q.1], h2⟩, h3⟩))
theorem readrA (h : All w0 l w) (i : Nat) (hi : l[i]? = some (eR b N U)) (a : Nat) (z : Int) (hN : Hid (N < 70368744177664)) : Calls Tryz.prog 86 #[.pointer (some ⟨b, 0, none⟩), .int .u64 a, .int .i64 z] w (fun e w' => e = .returned (.tuple #[.int .u64 (valK (kd a z) U : Nat), .bool (okK (kd a z))]) ∧ All w0 (l.set i (eR b N (nextK (kd a z) U))) w') :=
  h.step i hi _ (fun R W q => (readr_c W N b a z U w q.2 hN).mono (fun e w' ⟨h1, h2, h3⟩ => ⟨h1, ⟨by rw [q.1], h2⟩, h3⟩))
theorem writerA (h : All w0 l w) (i : Nat) (hi : l[i]? = some (eR b N U)) (a : Nat) (z : Int) (hv : Hid (v < 18446744073709551616)) (hn : Hid (U.sent.length < 70368744177664)) : Calls Tryz.prog 41 #[.pointer (some ⟨b, 0, none⟩), .int .u64 a, .int .i64 z, .int .u64 v] w (fun e w' => e = .returned (.bool (okK (kd a z))) ∧ All w0 (l.set i (eR b N (wrK (kd a z) U v))) w') :=
  h.step i hi _ (fun R W q => (writer_c W N b a v z U w q.2 hv hn).mono (fun e w' ⟨h1, h2, h3⟩ => ⟨h1, ⟨by rw [q.1], h2⟩, h3⟩))
theorem uprA (h : All w0 l w) (i : Nat) (hi : l[i]? = some (eR b N U)) : Calls Tryz.prog 81 #[.pointer (some ⟨b, 0, none⟩)] w (RetB (upF U) w) := by
  obtain ⟨R, W, q⟩ := h.get i hi
  exact upr_c W N b U w q.2
theorem sentrA (h : All w0 l w) (i : Nat) (hi : l[i]? = some (eR b N U)) (hn : Hid (U.sent.length < 70368744177664)) : Calls Tryz.prog 94 #[.pointer (some ⟨b, 0, none⟩)] w (RetSl U.sent w) := by
  obtain ⟨R, W, q⟩ := h.get i hi
  exact sentr_c W N b U w q.2 hn
theorem copyrA (h : All w0 l w) (i : Nat) (hi : l[i]? = some (eR b N U)) (hN : Hid (N < 70368744177664)) (hn : Hid (U.sent.length < 70368744177664)) : Calls Tryz.prog 52 #[.pointer (some ⟨b, 0, none⟩)] w (fun e w' => ∃ b', e = .returned (.pointer (some ⟨b', 0, none⟩)) ∧ All w0 (l ++ [eR b' N U]) w') := by
  obtain ⟨R, W, q⟩ := h.get i hi
  refine (copyr_c W N b U w q.2 hN hn).mono ?_
  rintro e w' ⟨b', R', rfl, h1, h2, h3⟩
  exact ⟨b', rfl, h.push h3 ⟨rfl, h1⟩ h2⟩
end
end
end Go.Proofs.YtoicpikkcefheaaGreat.T
