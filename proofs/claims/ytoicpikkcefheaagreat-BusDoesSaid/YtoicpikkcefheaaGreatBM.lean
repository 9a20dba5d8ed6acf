/- A step as a thing; what a step leaves of a bus. -/
import Derived.Test.YtoicpikkcefheaaGreatBL
namespace Go.Proofs.YtoicpikkcefheaaGreat
open Go.ChangeShapes Go.WideShapes Go.ChangeAt Go.RowKit
open M (Fp Dj Cw Up Th Grp GrpAt GrpC Cpd jn exT)
set_option linter.unusedVariables false
set_option linter.unusedSimpArgs false
set_option maxRecDepth 20000
def IsX (w : World) (b : Nat) (k z : Int) (x v : Nat) : Prop := b < w.heap.size ∧ w.cell? ⟨b, 0, none⟩ = some (.int .i64 k) ∧ w.cell? ⟨b, 1, none⟩ = some (.int .u64 (x : Nat)) ∧ w.cell? ⟨b, 2, none⟩ = some (.int .i64 z) ∧ w.cell? ⟨b, 3, none⟩ = some (.int .u64 (v : Nat))
def eX (b : Nat) (k z : Int) (x v : Nat) : Th where
  P R W w := (∀ i j, R i j ↔ i = b) ∧ (∀ i j, ¬ W i j) ∧ IsX w b k z x v
  kept := fun ⟨h1, h2, h0, c0, c1, c2, c3⟩ hc hd => by
    have nb : ∀ j, ¬ _ := fun j ht => hd b j ht ((h1 b j).2 rfl)
    exact ⟨h1, h2, Nat.lt_of_lt_of_le h0 hc.size, (hc.cell b 0 h0 (nb 0)).trans c0, (hc.cell b 1 h0 (nb 1)).trans c1, (hc.cell b 2 h0 (nb 2)).trans c2, (hc.cell b 3 h0 (nb 3)).trans c3⟩
  wr h := fun k j q => (h.2.1 k j q).elim
  rlt h := fun k j q => by rw [(h.1 k j).1 q]; exact h.2.2.1
theorem newX {R0 W0 : Fp} {w0 w : World} {l : List Th} (h : Grp R0 W0 w0 l w) (k z : Int) (x v : Nat) (t : TypeId) : Grp R0 W0 w0 (l ++ [eX w.heap.size k z x v]) (w.alloc (Obj.cells #[.int .i64 k, .int .u64 x, .int .i64 z, .int .u64 v] t)) := by
  refine h.push (below_one w _) (R1 := fun i _ => i = w.heap.size) (W1 := fun _ _ => False) ⟨fun _ _ => Iff.rfl, fun _ _ h => h, by rw [sz_alloc]; omega, ?_, ?_, ?_, ?_⟩ (fun k j hk => Nat.le_of_eq hk.symm) <;> (rw [World.cell?_alloc_at _ _ _ _ rfl]; rfl)
theorem isX {R0 W0 : Fp} {w0 w : World} {l : List Th} (h : Grp R0 W0 w0 l w) (i : Nat) {b x v : Nat} {k z : Int} (hi : l[i]? = some (eX b k z x v)) : IsX w b k z x v := by
  obtain ⟨R, W, q⟩ := h.get i hi
  exact q.2.2
theorem pick2 {R0 W0 : Fp} {w0 w : World} {A B C : Th} (h : Grp R0 W0 w0 [A, B, C] w) : Grp R0 W0 w0 [A, B] w := h.pick _ id (fun i F hi => by
  match i, hi with
  | 0, hi => exact hi
  | 1, hi => exact hi
  | n + 2, hi => simp at hi) (fun i j _ _ h => h)
theorem steps_kept {w0 w : World} {b o n : Nat} {K Z : Nat → Int} {A V : Nat → Nat} (h : Steps w0 b o n K Z A V) (hb : Below w0.heap.size w0 w) (hlt : b < w0.heap.size) : Steps w b o n K Z A V := fun i hi => by
  obtain ⟨h0, h1, h2, h3, h4⟩ := h i hi
  exact ⟨(hb.cell (p := ⟨b, o + i * 4, none⟩) hlt).trans h0, (hb.cell (p := ⟨b, o + i * 4 + 1, none⟩) hlt).trans h1, (hb.cell (p := ⟨b, o + i * 4 + 2, none⟩) hlt).trans h2, (hb.cell (p := ⟨b, o + i * 4 + 3, none⟩) hlt).trans h3, h4⟩
/-- What stays so, whatever is done: the inputs ahead may come; how much was sent. -/
def Inv (S : Bs) (k : Nat) : Prop := (∀ e ∈ S.ahead, OkE e) ∧ S.D.U.sent.length ≤ k ∧ -1 ≤ S.cyc ∧ S.cyc < k
theorem give_sent (x : Nat) (U : T.Ur) : (T.giveF U x).sent = U.sent := by unfold T.giveF; split <;> rfl
theorem tick_ahead (y : Int) : ∀ (L : List Ev) (D : Dv), (∀ e ∈ L, OkE e) → (∀ e ∈ (tickEv y L D).1, OkE e) ∧ (tickEv y L D).2.U.sent = D.U.sent ∧ (tickEv y L D).2.t = D.t
  | [], D, h => ⟨h, rfl, rfl⟩
  | e :: r, D, h => by
    unfold tickEv
    split
    · obtain ⟨h1, h2, h3⟩ := tick_ahead y r (D.come e) (fun x hx => h x (List.mem_cons_of_mem _ hx))
      have c : (D.come e).U.sent = D.U.sent ∧ (D.come e).t = D.t := by
        unfold Dv.come
        split
        · exact ⟨give_sent _ _, rfl⟩
        · split <;> exact ⟨rfl, rfl⟩
      exact ⟨h1, h2.trans c.1, h3.trans c.2⟩
    · exact ⟨h, rfl, rfl⟩
theorem tick_sent (S : Bs) (h : ∀ e ∈ S.ahead, OkE e) : (∀ e ∈ S.tick.ahead, OkE e) ∧ S.tick.D.U.sent = S.D.U.sent ∧ S.tick.D.t = (S.D.t + 1) % W64 ∧ S.tick.cyc = S.cyc + 1 ∧ S.tick.F = S.F := by
  obtain ⟨h1, h2, h3⟩ := tick_ahead (S.cyc + 1) S.ahead S.D h
  exact ⟨h1, h2, by show ((tickEv (S.cyc + 1) S.ahead S.D).2.t + 1) % W64 = _; rw [h3], rfl, rfl⟩
theorem wrK_sent (k v : Nat) (U : T.Ur) : (T.wrK k U v).sent.length ≤ U.sent.length + 1 := by
  unfold T.wrK; split
  · show (U.sent ++ [v % 256]).length ≤ _; rw [List.length_append]; exact Nat.le_refl _
  · split; exact Nat.le_succ _; split; exact Nat.le_succ _; exact Nat.le_succ _
theorem next_sent (k : Nat) (U : T.Ur) : (T.nextK k U).sent = U.sent := by unfold T.nextK; split; rfl; split <;> rfl
theorem wr_inv (S : Bs) (x v : Nat) (z : Int) : (S.wr x z v).ahead = S.ahead ∧ (S.wr x z v).cyc = S.cyc ∧ (S.wr x z v).D.U.sent.length ≤ S.D.U.sent.length + 1 := by
  unfold Bs.wr
  split
  · exact ⟨rfl, rfl, Nat.le_succ _⟩
  · refine ⟨rfl, rfl, ?_⟩
    show (S.D.wr x z v).U.sent.length ≤ _
    unfold Dv.wr
    split; exact Nat.le_succ _
    split; exact Nat.le_succ _
    split; exact wrK_sent _ _ _
    exact Nat.le_succ _
theorem rd_inv (S : Bs) (k : Int) (x : Nat) (z : Int) : (S.rd k x z).ahead = S.ahead ∧ (S.rd k x z).cyc = S.cyc ∧ (S.rd k x z).D.U.sent = S.D.U.sent ∧ (S.rd k x z).D.t = S.D.t ∧ (S.rd k x z).F = S.F := by
  unfold Bs.rd
  split
  · refine ⟨rfl, rfl, ?_, ?_, rfl⟩
    · show (S.D.rd x z).U.sent = _
      unfold Dv.rd; split; rfl; split; exact next_sent _ _; rfl
    · show (S.D.rd x z).t = _
      unfold Dv.rd; split; rfl; split <;> rfl
  · exact ⟨rfl, rfl, rfl, rfl, rfl⟩
theorem wr_t (S : Bs) (x v : Nat) (z : Int) (h : dvK x ≠ 1) : (S.wr x z v).D.t = S.D.t := by
  unfold Bs.wr
  split
  · rfl
  · show (S.D.wr x z v).t = _
    unfold Dv.wr; rw [if_neg h]; split; rfl; split <;> rfl
theorem inv_new (n : Nat) (X : Nat → Nat) (L : List Ev) (h : okNew n L = true) : Inv (Bs0 n X L) 0 := by
  unfold okNew at h
  rw [Bool.and_eq_true] at h
  have h2 := h.2
  unfold okIn at h2
  rw [Bool.and_eq_true] at h2
  exact ⟨fun e he => okL_all h2.2 e he, Nat.le_refl _, by show (-1 : Int) ≤ -1; decide, by show (-1 : Int) < 0; decide⟩
theorem okD_low {x : Nat} {z : Int} (h : okD x z = true) : x < 268435464 := by
  rcases dvK_cases x with ⟨-, h1⟩ | ⟨-, h1⟩ | ⟨-, h1⟩ | ⟨e, -⟩
  · omega
  · omega
  · omega
  · unfold okD at h; rw [e] at h; simp at h
theorem hasV_iff (x : Nat) (z : Int) : M.hasV x z = true ↔ (z = 1 ∨ z = 2 ∨ z = 4 ∨ z = 8) ∧ 2147483648 ≤ x ∧ (x : Int) - 2147483648 + z ≤ 1048576 := by
  unfold M.hasV; rw [decide_eq_true_eq]
theorem may2 (x : Nat) (z : Int) : mayB 2 x z = (M.hasV x z || okD x z) := by unfold mayB; rw [if_neg (by decide), if_pos (by decide)]
/-- The byte at 0x80000003 behind a write. -/
theorem wr_F3 (S : Bs) (x v : Nat) (z : Int) : (mayB 2 x z = true ∧ x ≤ 2147483651 ∧ 2147483640 ≤ x ∧ ((2147483651 - x : Nat) : Int) < z → M.hasV x z = true ∧ (S.wr x z v).F 2147483651 = v / 256 ^ (2147483651 - x) % 256) ∧ (¬ (mayB 2 x z = true ∧ x ≤ 2147483651 ∧ 2147483640 ≤ x ∧ ((2147483651 - x : Nat) : Int) < z) → (S.wr x z v).F 2147483651 = S.F 2147483651) := by
  rw [may2]
  cases hh : M.hasV x z
  · refine ⟨fun ⟨h1, h2, h3, h4⟩ => ?_, fun _ => ?_⟩
    · have := okD_low (x := x) (z := z) (by simpa using h1); omega
    · unfold Bs.wr; rw [if_neg (by rw [hh]; decide)]
  · have h5 := (hasV_iff x z).1 hh
    have e : (S.wr x z v).F 2147483651 = if x ≤ 2147483651 ∧ 2147483651 < x + z.toNat then M.byteV v (2147483651 - x) else S.F 2147483651 := by
      unfold Bs.wr; rw [if_pos hh]
      show M.wrF S.F x z v 2147483651 = _
      unfold M.wrF; rw [if_pos hh]; rfl
    refine ⟨fun ⟨h1, h2, h3, h4⟩ => ⟨rfl, ?_⟩, fun h => ?_⟩
    · rw [e, if_pos (by omega)]; rfl
    · rw [e, if_neg (fun q => h ⟨rfl, by omega, by omega, by omega⟩)]
theorem tst_dv {k : Int} {x : Nat} (h : (decide (k < 3) && (x / 16777216 == 128 || (x / 16777216 == 16 || x / 16777216 == 12))) = true) : dvK x ≠ 1 := by
  simp only [Bool.and_eq_true, Bool.or_eq_true, beq_iff_eq] at h
  unfold dvK
  rw [if_neg (by omega)]
  split; decide
  split <;> decide
theorem hasV_y : M.hasV 2147483651 1 = true := by decide +kernel
theorem read_y (F : Nat → Nat) : M.readV F 2147483651 1 = F 2147483651 := by
  unfold M.readV
  rw [if_pos hasV_y]
  simp [M.numR, M.rB]
theorem val_y (S : Bs) : S.val 1 2147483651 1 = S.F 2147483651 := by
  unfold Bs.val
  rw [if_neg (by decide), if_pos (by decide), if_pos hasV_y, read_y]
theorem may_y : mayB 1 2147483651 1 = true := by decide +kernel
theorem rd_y (S : Bs) : S.rd 1 2147483651 1 = S := by
  unfold Bs.rd
  rw [if_neg (by rintro ⟨-, h⟩; rw [hasV_y] at h; cases h)]
theorem shr_byte (v : Nat) : IntKind.u8.wrap (v : Int) = ((v / 256 ^ 0 % 256 : Nat) : Int) ∧ IntKind.u8.wrap ((v : Int) / 256) = ((v / 256 ^ 1 % 256 : Nat) : Int) ∧ IntKind.u8.wrap ((v : Int) / 65536) = ((v / 256 ^ 2 % 256 : Nat) : Int) ∧ IntKind.u8.wrap ((v : Int) / 16777216) = ((v / 256 ^ 3 % 256 : Nat) : Int) := by
  refine ⟨?_, ?_, ?_, ?_⟩ <;> (rw [IntKind.wrap_u8]; omega)
end Go.Proofs.YtoicpikkcefheaaGreat
