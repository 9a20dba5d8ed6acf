/- Things side by side in memory: what one of them does leaves the others alone. -/
import Derived.Test.YtjjmohhkhadadaaR4
namespace Go.Proofs.Ytjjmohhkhadadaa
open Go.ChangeShapes Go.WideShapes Go.ChangeAt Go.RowKit
set_option linter.unusedVariables false
set_option linter.unusedSimpArgs false
abbrev Fp := Nat → Nat → Prop
def Dj (T R : Fp) : Prop := ∀ k j, T k j → ¬ R k j
/-- A thing in memory: what it reads lies in R, what it may write in W. -/
structure Ent where
  P : Fp → Fp → World → Prop
  kept : ∀ {T R W : Fp} {w w' : World}, P R W w → Ch T w w' → Dj T R → P R W w'
  wr : ∀ {R W : Fp} {w : World}, P R W w → ∀ k j, W k j → R k j
  rlt : ∀ {R W : Fp} {w : World}, P R W w → ∀ k j, R k j → k < w.heap.size
/-- Several things, none of which writes what another one reads; all of them are newer than w0. -/
structure AllAt (w0 : World) (l : List Ent) (R W : Nat → Fp) (w : World) : Prop where
  each : ∀ (i : Nat) (E : Ent), l[i]? = some E → E.P (R i) (W i) w
  dj : ∀ i j, i < l.length → j < l.length → i ≠ j → Dj (W i) (R j)
  new : ∀ i, i < l.length → ∀ k j, R i k j → w0.heap.size ≤ k
  out : Below w0.heap.size w0 w
def All (w0 : World) (l : List Ent) (w : World) : Prop := ∃ R W : Nat → Fp, AllAt w0 l R W w
section
variable {w0 w w' : World} {l : List Ent} {E E' : Ent}
theorem All.out (h : All w0 l w) : Below w0.heap.size w0 w := h.choose_spec.choose_spec.out
theorem All.get (h : All w0 l w) (i : Nat) (hi : l[i]? = some E) : ∃ R W, E.P R W w := by
  obtain ⟨R, W, h⟩ := h
  exact ⟨_, _, h.each i E hi⟩
theorem len_of {i : Nat} (hi : l[i]? = some E) : i < l.length := (List.getElem?_eq_some_iff.1 hi).1
theorem all_nil (hb : Below w0.heap.size w0 w) : All w0 [] w := ⟨fun _ _ _ => False, fun _ _ _ => False, ⟨fun i E h => by simp at h, fun i j h => absurd h (Nat.not_lt_zero _), fun i h => absurd h (Nat.not_lt_zero _), hb⟩⟩
theorem All.below (h : All w0 l w) (hb : Below w.heap.size w w') : All w0 l w' := by
  obtain ⟨R, W, h1, h2, h3, h4⟩ := h
  exact ⟨R, W, ⟨fun i E hi => E.kept (h1 i E hi) (Ch.of_below (fun _ _ => False) hb) (fun _ _ h => h.elim), h2, h3, h4.trans (hb.mono h4.size)⟩⟩
theorem AllAt.set {R W : Nat → Fp} (h : AllAt w0 l R W w) (i : Nat) (hi : l[i]? = some E) (c1 : E'.P (Up (R i) w w') (Up (W i) w w') w') (c2 : Ch (W i) w w') : All w0 (l.set i E') w' := by
  obtain ⟨h1, h2, h3, h4⟩ := h
  have il := len_of hi
  refine ⟨fun k => if k = i then Up (R i) w w' else R k, fun k => if k = i then Up (W i) w w' else W k, ⟨fun k F hk => ?_, fun a b ha hb hne => ?_, fun k hk => ?_, c2.below (fun k j hk => h3 i il k j (E.wr (h1 i E hi) k j hk)) h4 h4.size⟩⟩
  · by_cases e : k = i
    · subst e
      rw [List.getElem?_set_self il] at hk
      obtain rfl : E' = F := by simpa using hk
      show E'.P (if k = k then _ else _) (if k = k then _ else _) w'
      rw [if_pos rfl, if_pos rfl]; exact c1
    · rw [List.getElem?_set_ne (fun q => e q.symm)] at hk
      show F.P (if k = i then _ else _) (if k = i then _ else _) w'
      rw [if_neg e, if_neg e]
      exact F.kept (h1 k F hk) c2 (h2 i k il (len_of hk) (fun q => e q.symm))
  · rw [List.length_set] at ha hb
    show Dj (if a = i then _ else _) (if b = i then _ else _)
    have lt : ∀ k, k < l.length → ∀ x y, R k x y → x < w.heap.size := fun k hk => by
      obtain ⟨F, hF⟩ : ∃ F, l[k]? = some F := ⟨_, List.getElem?_eq_getElem hk⟩
      exact F.rlt (h1 k F hF)
    have wl : ∀ k, k < l.length → ∀ x y, W k x y → x < w.heap.size := fun k hk => by
      obtain ⟨F, hF⟩ : ∃ F, l[k]? = some F := ⟨_, List.getElem?_eq_getElem hk⟩
      exact fun x y q => F.rlt (h1 k F hF) x y (F.wr (h1 k F hF) x y q)
    by_cases ea : a = i
    · subst ea
      have eb : ¬ b = a := fun q => hne q.symm
      rw [if_pos rfl, if_neg eb]
      intro x y hx hy
      rcases hx with hx | hx
      · exact h2 a b ha hb hne x y hx hy
      · have := lt b hb x y hy; omega
    · rw [if_neg ea]
      by_cases eb : b = i
      · subst eb
        rw [if_pos rfl]
        intro x y hx hy
        rcases hy with hy | hy
        · exact h2 a b ha hb hne x y hx hy
        · have := wl a ha x y hx; omega
      · rw [if_neg eb]; exact h2 a b ha hb hne
  · rw [List.length_set] at hk
    show ∀ x y, (if k = i then _ else _ : Fp) x y → _
    by_cases e : k = i
    · subst e
      rw [if_pos rfl]
      intro x y hx
      rcases hx with hx | hx
      · exact h3 k hk x y hx
      · exact Nat.le_trans h4.size hx.1
    · rw [if_neg e]; exact h3 k hk
/-- One of them has done something. -/
theorem All.set (h : All w0 l w) (i : Nat) (hi : l[i]? = some E) (hc : ∀ R W, E.P R W w → E'.P (Up R w w') (Up W w w') w' ∧ Ch W w w') : All w0 (l.set i E') w' := by
  obtain ⟨R, W, h⟩ := h
  obtain ⟨c1, c2⟩ := hc _ _ (h.each i E hi)
  exact h.set i hi c1 c2
/-- A call that is made upon one of them. -/
theorem All.step (h : All w0 l w) (i : Nat) (hi : l[i]? = some E) (E' : Ent) {f : FuncId} {args : Array Value} {v : Value} (hc : ∀ R W, E.P R W w → Calls Try.prog f args w (fun e w' => e = .returned v ∧ E'.P (Up R w w') (Up W w w') w' ∧ Ch W w w')) :
    Calls Try.prog f args w (fun e w' => e = .returned v ∧ All w0 (l.set i E') w') := by
  obtain ⟨R, W, h⟩ := h
  refine (hc _ _ (h.each i E hi)).mono ?_
  rintro e w' ⟨rfl, c1, c2⟩
  exact ⟨rfl, h.set i hi c1 c2⟩
/-- A new one. -/
theorem All.push (h : All w0 l w) (hb : Below w.heap.size w w') {R1 W1 : Fp} (hE : E.P R1 W1 w') (hn : ∀ k j, R1 k j → w.heap.size ≤ k) : All w0 (l ++ [E]) w' := by
  obtain ⟨R, W, h1, h2, h3, h4⟩ := h
  have lt : ∀ k, k < l.length → ∀ x y, R k x y → x < w.heap.size := fun k hk => by
    obtain ⟨F, hF⟩ : ∃ F, l[k]? = some F := ⟨_, List.getElem?_eq_getElem hk⟩
    exact F.rlt (h1 k F hF)
  have wl : ∀ k, k < l.length → ∀ x y, W k x y → x < w.heap.size := fun k hk => by
    obtain ⟨F, hF⟩ : ∃ F, l[k]? = some F := ⟨_, List.getElem?_eq_getElem hk⟩
    exact fun x y q => F.rlt (h1 k F hF) x y (F.wr (h1 k F hF) x y q)
  refine ⟨fun k => if k = l.length then R1 else R k, fun k => if k = l.length then W1 else W k, ⟨fun k F hk => ?_, fun a b ha hb' hne => ?_, fun k hk => ?_, h4.trans (hb.mono h4.size)⟩⟩
  · by_cases e : k = l.length
    · subst e
      rw [List.getElem?_append_right (Nat.le_refl _), Nat.sub_self] at hk
      obtain rfl : E = F := by simpa using hk
      show E.P (if _ then _ else _) (if _ then _ else _) w'
      rw [if_pos rfl, if_pos rfl]; exact hE
    · have hk2 : k < l.length := by
        have := len_of hk
        rw [List.length_append] at this
        have : k < l.length + 1 := this
        omega
      rw [List.getElem?_append_left hk2] at hk
      show F.P (if _ then _ else _) (if _ then _ else _) w'
      rw [if_neg e, if_neg e]
      exact F.kept (h1 k F hk) (Ch.of_below (fun _ _ => False) hb) (fun _ _ h => h.elim)
  · rw [List.length_append] at ha hb'
    have ha2 : a < l.length + 1 := ha
    have hb2 : b < l.length + 1 := hb'
    show Dj (if a = l.length then _ else _) (if b = l.length then _ else _)
    by_cases ea : a = l.length
    · have eb : ¬ b = l.length := fun q => hne (ea.trans q.symm)
      rw [if_pos ea, if_neg eb]
      intro x y hx hy
      have := hn x y (E.wr hE x y hx)
      have := lt b (by omega) x y hy
      omega
    · rw [if_neg ea]
      by_cases eb : b = l.length
      · rw [if_pos eb]
        intro x y hx hy
        have := hn x y hy
        have := wl a (by omega) x y hx
        omega
      · rw [if_neg eb]; exact h2 a b (by omega) (by omega) hne
  · rw [List.length_append] at hk
    have hk2 : k < l.length + 1 := hk
    show ∀ x y, (if k = l.length then _ else _ : Fp) x y → _
    by_cases e : k = l.length
    · rw [if_pos e]
      intro x y hx
      exact Nat.le_trans h4.size (hn x y hx)
    · rw [if_neg e]; exact h3 k (by omega)
/-- Some of them alone. -/
theorem All.pick (h : All w0 l w) (l' : List Ent) (ix : Nat → Nat) (hi : ∀ i E, l'[i]? = some E → l[ix i]? = some E) (hx : ∀ i j, i < l'.length → j < l'.length → i ≠ j → ix i ≠ ix j) : All w0 l' w := by
  obtain ⟨R, W, h1, h2, h3, h4⟩ := h
  have il : ∀ i, i < l'.length → ix i < l.length := fun i h => len_of (hi i _ (List.getElem?_eq_getElem h))
  exact ⟨fun i => R (ix i), fun i => W (ix i), ⟨fun i E h => h1 _ E (hi i E h), fun i j a b c => h2 _ _ (il i a) (il j b) (hx i j a b c), fun i a => h3 _ (il i a), h4⟩⟩
end
/-- A uart. -/
def eU (b : Nat) (U : Ur) : Ent where
  P R W w := IsU R W w b U
  kept h hc hd := h.kept hc hd
  wr := fun ⟨_, _, _, _, _, _, _, _, _, _, x⟩ => x.wr
  rlt := fun ⟨_, _, _, _, _, _, _, _, _, _, x⟩ => x.rlt
/-- The document's. -/
def eR (b N : Nat) (U : Ur) : Ent where
  P R W w := R = W ∧ IsR W N w b U
  kept h hc hd := ⟨h.1, h.2.kept hc (by rw [← h.1]; exact hd)⟩
  wr h := by rw [h.1]; exact fun _ _ h => h
  rlt h := by obtain ⟨e, K, r, sa, n, c, g, o, ta, m, d, hh, p, x⟩ := h; rw [e]; exact x.rlt
/-- A slice of bytes. -/
def IsS (R : Fp) (w : World) (v : Value) (L : List Nat) : Prop := ∃ a n c g o, v = .slice a n c ∧ SlA w a n c g o L ∧ (∀ i, i < c → R g (o + i)) ∧ ∀ k j, R k j → k < w.heap.size
def eS (v : Value) (L : List Nat) : Ent where
  P R W w := R = W ∧ IsS W w v L
  kept := fun h hc hd => by
    obtain ⟨e, a, n, c, g, o, h1, h2, h3, h4⟩ := h
    exact ⟨e, a, n, c, g, o, h1, h2.kept hc (fun i hi ht => hd _ _ ht (by rw [e]; exact h3 i (Nat.lt_of_lt_of_le hi h2.le))), h3, fun k j hk => Nat.lt_of_lt_of_le (h4 k j hk) hc.size⟩
  wr h := by rw [h.1]; exact fun _ _ h => h
  rlt h := by obtain ⟨e, a, n, c, g, o, h1, h2, h3, h4⟩ := h; rw [e]; exact h4
/-- One step as the round holds it. -/
def IsX (w : World) (b : Nat) (k z : Int) (x v : Nat) : Prop := b < w.heap.size ∧
  w.cell? ⟨b, 0, none⟩ = some (.int .i64 k) ∧ w.cell? ⟨b, 1, none⟩ = some (.int .u64 x) ∧ w.cell? ⟨b, 2, none⟩ = some (.int .i64 z) ∧ w.cell? ⟨b, 3, none⟩ = some (.int .u64 v)
def eX (b : Nat) (k z : Int) (x v : Nat) : Ent where
  P R W w := (∀ i j, R i j ↔ i = b) ∧ (∀ i j, ¬ W i j) ∧ IsX w b k z x v
  kept := fun ⟨h1, h2, h0, c0, c1, c2, c3⟩ hc hd => by
    have nb : ∀ j, ¬ _ := fun j ht => hd b j ht ((h1 b j).2 rfl)
    exact ⟨h1, h2, Nat.lt_of_lt_of_le h0 hc.size, (hc.cell b 0 h0 (nb 0)).trans c0, (hc.cell b 1 h0 (nb 1)).trans c1, (hc.cell b 2 h0 (nb 2)).trans c2, (hc.cell b 3 h0 (nb 3)).trans c3⟩
  wr := fun h k j hk => absurd hk (h.2.1 k j)
  rlt := fun h k j hk => by rw [(h.1 k j).1 hk]; exact h.2.2.1
section
variable {w0 w w' : World} {l : List Ent}
theorem All.isX (h : All w0 l w) (i : Nat) {b x v : Nat} {k z : Int} (hi : l[i]? = some (eX b k z x v)) : IsX w b k z x v := by
  obtain ⟨R, W, q⟩ := h.get i hi
  exact q.2.2
theorem All.newX (h : All w0 l w) (k z : Int) (x v : Nat) (t : TypeId) : All w0 (l ++ [eX w.heap.size k z x v]) (w.alloc (Obj.cells #[.int .i64 k, .int .u64 x, .int .i64 z, .int .u64 v] t)) := by
  refine h.push (below_one w _) (R1 := fun i _ => i = w.heap.size) (W1 := fun _ _ => False) ⟨fun _ _ => Iff.rfl, fun _ _ h => h, by simp, ?_, ?_, ?_, ?_⟩ (fun k j hk => Nat.le_of_eq hk.symm) <;> (rw [World.cell?_alloc_at _ _ _ _ rfl]; rfl)
theorem All.slice (h : All w0 l w) (i : Nat) {v : Value} {L : List Nat} (hi : l[i]? = some (eS v L)) : ∃ a n c g o, v = .slice a n c ∧ SlA w a n c g o L := by
  obtain ⟨R, W, e, a, n, c, g, o, h1, h2, -⟩ := h.get i hi
  exact ⟨a, n, c, g, o, h1, h2⟩
/-- A new slice. -/
theorem All.newS (h : All w0 l w) (hb : Below w.heap.size w w') {a : Option Addr} {n c g : Nat} {L : List Nat} (hs : SlA w' a n c g 0 L) (hg : 0 < c → w.heap.size ≤ g) : All w0 (l ++ [eS (.slice a n c) L]) w' := by
  refine h.push hb (R1 := fun k _ => k = g ∧ 0 < c) (W1 := fun k _ => k = g ∧ 0 < c) ⟨rfl, a, n, c, g, 0, rfl, hs, fun i hi => ⟨rfl, by omega⟩, fun k j hk => ?_⟩ (fun k j hk => ?_)
  · rw [hk.1]; exact (hs.addr hk.2).2
  · rw [hk.1]; exact hg hk.2
/-- Its front is cut off. -/
theorem All.cutS (h : All w0 l w) (i : Nat) {a : Option Addr} {n c : Nat} {L : List Nat} (hi : l[i]? = some (eS (.slice a (n + 1) c) L)) : All w0 (l.set i (eS (.slice (if c = 1 then a else a.map (·.add 1)) n (c - 1)) L.tail)) w := by
  refine h.set i hi (fun R W ⟨e, a', n', c', g, o, h1, h2, h3, h4⟩ => ?_)
  injection h1 with e1 e2 e3
  subst e1 e2 e3
  have hle := h2.le
  refine ⟨⟨by rw [e], _, _, _, g, o + 1, rfl, h2.cut, fun i hi => .inl (by rw [show o + 1 + i = o + (i + 1) by omega]; exact h3 (i + 1) (by omega)), fun k j hk => hk.elim (h4 k j) (·.2)⟩, Ch.refl _ _⟩
/-- One byte more. -/
theorem all_append {ops : Array Oper} {rest : List Oper} {op : Oper} {A : Act} {Q : Exit → Act → World → Prop} (hgd : op.guard = none) (s x : Operand)
    (ho : op.op = .call { callee := .builtin .append, args := #[s, x], argTypes := #[35, 35] })
    (h : All w0 l w) (i : Nat) {a : Option Addr} {n c : Nat} {L : List Nat} (hi : l[i]? = some (eS (.slice a n c) L)) (hs : A.eval s = .slice a n c) (hn : n < 70368744177664)
    (y g1 : Nat) (hx : A.eval x = .slice (some ⟨g1, 0, none⟩) 1 1) (hc : w.cell? ⟨g1, 0, none⟩ = some (.int .u8 y))
    (k : ∀ a' c' w', All w0 (l.set i (eS (.slice a' (n + 1) c') (L ++ [y]))) w' → w.heap.size ≤ w'.heap.size → wpList Try.prog ops Q rest (A.put op.dst (.slice a' (n + 1) c')) w') : wpList Try.prog ops Q (op :: rest) A w := by
  obtain ⟨R, W, h⟩ := h
  obtain ⟨e, a2, n2, c2, g, o, h1, h2, h3, h4⟩ := h.each i _ hi
  injection h1 with e1 e2 e3
  subst e1 e2 e3
  refine append_b hgd s x ho h2 hs hn y g1 hx hc (fun a' c' g' o' w' q1 q2 q3 => k a' c' w' (h.set i hi ⟨by rw [e], a', n + 1, c', g', o', rfl, q1, fun j hj => ?_, fun k j hk => hk.elim (fun q => Nat.lt_of_lt_of_le (h4 k j q) q2.size) (·.2)⟩ (q2.mono (fun k j hk => ?_))) q2.size)
  · rcases q3 with ⟨rfl, rfl, rfl⟩ | q3
    · exact .inl (h3 j hj)
    · exact .inr ⟨q3, (q1.addr (by omega)).2⟩
  · obtain ⟨rfl, i2, -, hi2, rfl⟩ := hk
    exact h3 i2 hi2
end
end Go.Proofs.Ytjjmohhkhadadaa
