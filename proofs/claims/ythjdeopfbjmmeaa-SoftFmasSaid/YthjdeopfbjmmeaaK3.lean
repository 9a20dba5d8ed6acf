/- Whole numbers without end: their digits to the base 2^32, as rows of cells. -/
import Derived.Test.YthjdeopfbjmmeaaA
import Derived.Laws.AppendOwn
import Derived.Laws.OwnMore
import Derived.Maps.AppendAt
import Derived.OwnWalk
import Derived.LoopN
import Derived.BigQuiet
import Derived.Lib.QuietBelow
namespace Go.Proofs.Ythjdeopfbjmmeaa
open Go.ChangeShapes Go.WideShapes Go.ChangeAt Go.RowKit
set_option linter.unusedVariables false
set_option linter.unusedSimpArgs false
def shd (A k : Nat) : Nat := A / 2 ^ (32 * k)
def dg (A k : Nat) : Nat := shd A k % 4294967296
theorem shd_zero (A : Nat) : shd A 0 = A := by simp [shd]
theorem shd_succ (A k : Nat) : shd A (k + 1) = shd A k / 4294967296 := by
  unfold shd
  rw [Nat.div_div_eq_div_mul, show 32 * (k + 1) = 32 * k + 32 by omega, Nat.pow_add]
theorem shd_dg (A k : Nat) : shd A k = 4294967296 * shd A (k + 1) + dg A k := by rw [shd_succ]; unfold dg; omega
theorem dg_lt (A k : Nat) : dg A k < 4294967296 := Nat.mod_lt _ (by decide)
theorem shd_eq_zero {A n : Nat} : shd A n = 0 ↔ A < 2 ^ (32 * n) := by
  unfold shd
  rw [Nat.div_eq_zero_iff]
  have := Nat.two_pow_pos (32 * n)
  omega
theorem shd_mono0 {A n k : Nat} (h : shd A n = 0) (hk : n ≤ k) : shd A k = 0 := by
  rw [shd_eq_zero] at h ⊢
  exact Nat.lt_of_lt_of_le h (Nat.pow_le_pow_right (by decide) (by omega))
theorem shd_le {A n k : Nat} (h : shd A n ≠ 0) (hk : shd A k = 0) : n < k := by
  apply Classical.byContradiction
  intro hc
  exact h (shd_mono0 hk (by omega))
theorem dg_zero {A k : Nat} (h : shd A k = 0) : dg A k = 0 := by unfold dg; rw [h]
theorem shd_le_of_le {A B : Nat} (h : A ≤ B) (k : Nat) : shd A k ≤ shd B k := Nat.div_le_div_right h
def IsRaw (w : World) (g n cap A : Nat) : Prop := g < w.heap.size ∧ n ≤ cap ∧ (∀ i, i < n → w.cell? ⟨g, i, none⟩ = some (.int .u32 (dg A i : Nat))) ∧ shd A n = 0
def IsBig (w : World) (g n cap A : Nat) : Prop := IsRaw w g n cap A ∧ (n = 0 ∨ shd A (n - 1) ≠ 0)
theorem raw_below {w w' : World} {B g n cap A : Nat} (h : IsRaw w g n cap A) (hb : Below B w w') (hB : w.heap.size ≤ B) : IsRaw w' g n cap A :=
  ⟨Nat.lt_of_lt_of_le h.1 hb.size, h.2.1, fun i hi => by rw [hb.cell (p := ⟨g, i, none⟩) (Nat.lt_of_lt_of_le h.1 hB)]; exact h.2.2.1 i hi, h.2.2.2⟩
theorem big_below {w w' : World} {B g n cap A : Nat} (h : IsBig w g n cap A) (hb : Below B w w') (hB : w.heap.size ≤ B) : IsBig w' g n cap A := ⟨raw_below h.1 hb hB, h.2⟩
theorem below_own {B : Nat} {w w' : World} (hb : Below B w w') (h : w.heap.size ≤ B) : Below w.heap.size w w' := hb.mono h
theorem big_len {w : World} {g n cap A m : Nat} (h : IsBig w g n cap A) (hm : shd A m = 0) : n ≤ m := by
  rcases h.2 with h0 | h0
  · omega
  · have := shd_le h0 hm; omega
theorem big_zero {w : World} {g n cap A : Nat} (h : IsBig w g n cap A) : n = 0 ↔ A = 0 := by
  constructor
  · intro h0; have := h.1.2.2.2; rw [h0, shd_zero] at this; exact this
  · intro h0
    rcases h.2 with h1 | h1
    · exact h1
    · rw [h0] at h1; exact absurd (by simp [shd]) h1
def RetG (A : Nat) (W : World) (e : Ending) (w' : World) : Prop := ∃ g n cap : Nat, e = .returned (.slice (some ⟨g, 0, none⟩) n cap) ∧ Hid (IsBig w' g n cap A) ∧ Below W.heap.size W w'
theorem retG_mk {A g n cap : Nat} {W w' : World} (h : IsBig w' g n cap A) (hb : Below W.heap.size W w') : RetG A W (.returned (.slice (some ⟨g, 0, none⟩) n cap)) w' := ⟨g, n, cap, rfl, h, hb⟩
/-! rows of the call's own -/
def cells32 (L : List Nat) : List Value := L.map fun (n : Nat) => Value.int .u32 (n : Int)
def OwnU (w : World) (base : Nat) (v : Value) (L : List Nat) : Prop := w.ownsRow base 90 1 v L.length (cells32 L) ∧ v ≠ .slice none 0 0
theorem own_lt {w : World} {base : Nat} {v : Value} {L : List Nat} (h : OwnU w base v L) : ∀ k, v.ownBlock = some k → base ≤ k ∧ k < w.heap.size := World.ownsRow.lt (w := w) h.1
theorem own_below {w w' : World} {base : Nat} {v : Value} {L : List Nat} (h : OwnU w base v L) (hb : Below w.heap.size w w') : OwnU w' base v L := by
  refine ⟨World.ownsRow.kept (w := w) h.1 (w' := w') (row := none) ⟨hb.os, hb.tape, hb.output, hb.size, fun k hk _ => hb.block k hk⟩ ?_, h.2⟩
  cases h' : v.ownBlock
  · exact .inl rfl
  · exact .inr (by simp)
theorem own_alloc {w : World} {base : Nat} {v : Value} {L : List Nat} (h : OwnU w base v L) (o : Obj) : OwnU (w.alloc o) base v L := ⟨World.ownsRow.alloc (w := w) h.1 o, h.2⟩
theorem own_form {w : World} {base : Nat} {v : Value} {L : List Nat} (h : OwnU w base v L) : ∃ g cap, v = .slice (some ⟨g, 0, none⟩) L.length cap ∧ L.length ≤ cap := by
  rcases h.1.2 with ⟨h1, _⟩ | ⟨g, cap, cur, h1, _, _, h2, _⟩
  · exact absurd h1 h.2
  · exact ⟨g, cap, h1, h2⟩
theorem own_built (w : World) (base n : Nat) (cs : Array Value) (L : List Nat) (hb : base ≤ w.heap.size) (hn : L.length = n) (hl : n ≤ 1000) (hc : cs = (cells32 L).toArray) : OwnU (w.alloc (Obj.cells cs 90)) base (.slice (some ⟨w.heap.size, 0, none⟩) n n) L := by
  subst hc hn
  have hcl : (cells32 L).length = L.length := by simp [cells32]
  refine ⟨⟨by rw [hcl]; omega, .inr ⟨w.heap.size, L.length, _, rfl, hb, heap_alloc_new w _, Nat.le_refl _, by simp only [maxLen]; omega, by rw [List.size_toArray, hcl]; omega, ?_⟩⟩, by simp⟩
  rw [Nat.mul_one, ← hcl]; simp
theorem info32 : (Try.prog.info? 90).map (fun i => (i.size, i.bytes, i.zero)) = some (1, 4, some (.int .u32 0)) := by kernel_rfl
theorem i32 : ∃ i, Try.prog.info? 90 = some i ∧ i.size = 1 ∧ i.bytes = 4 ∧ i.zero = some (.int .u32 0) := by
  have h := info32
  cases hi : Try.prog.info? 90 with
  | none => rw [hi] at h; exact absurd h (by simp)
  | some i =>
    rw [hi] at h
    simp only [Option.map_some, Option.some.injEq, Prod.mk.injEq] at h
    exact ⟨i, rfl, h.1, h.2.1, h.2.2⟩
theorem append_u {ops : Array Oper} {rest : List Oper} {o : Oper} {a : Act} {w : World} {Q : Exit → Act → World → Prop} (hgd : o.guard = none) (s x : Operand)
    (ho : o.op = .call { callee := .builtin .append, args := #[s, x], argTypes := #[55, 55] })
    (base : Nat) (v : Value) (L : List Nat) (hs : a.eval s = v) (hown : OwnU w base v L) (hL : L.length ≤ 1000)
    (n : Nat) (g : Nat) (hx : a.eval x = .slice (some ⟨g, 0, none⟩) 1 1) (hc : w.cell? ⟨g, 0, none⟩ = some (.int .u32 n)) (hbase : base ≤ w.heap.size)
    (h : ∀ v' w', OwnU w' base v' (L ++ [n]) → w.grownBy w' v.ownBlock → wpList Try.prog ops Q rest (a.put o.dst v') w') : wpList Try.prog ops Q (o :: rest) a w := by
  obtain ⟨i, hi, h1, h2, h3⟩ := i32
  refine wpList_append_own_at w hgd s x 55 ho base 90 i _ 1 4 Try.underlying55 hi h3 h1 h2 rfl (by decide) v L.length (cells32 L) hs hown.1 ⟨g, 0, none⟩ 1 1 [.int .u32 n] hx rfl ?_ (by intro u hu; simp at hu; subst hu; rfl) (by simp only [maxLen]; omega) (by omega) hbase ?_
  · intro j u hj
    match j, hj with
    | 0, hj => simp at hj; subst hj; simpa [Addr.add] using hc
  · intro v' w' q1 q2 q4 q3
    refine h v' w' ⟨?_, ?_⟩ q2
    · rw [List.length_append, show cells32 (L ++ [n]) = cells32 L ++ [.int .u32 n] by simp [cells32]]; exact q1
    · intro hc'
      exact hown.2 (q4.1 hc').1
theorem grown_below {w w' : World} {base : Nat} {v : Value} {L : List Nat} (h : OwnU w base v L) (hg : w.grownBy w' v.ownBlock) (hb : base ≤ w.heap.size) : Below base w w' :=
  Below.grown (Below.refl _ _) hg hb (fun k hk => (own_lt h k hk).1)
theorem grow_u {w wr W0 w' : World} {l : Value} {L : List Nat} (hbw : Below w.heap.size w wr) (h0 : Below wr.heap.size wr W0) (hL : OwnU wr w.heap.size l L) (q2 : W0.grownBy w' l.ownBlock) : Below w.heap.size w w' :=
  below_step (grown_below (own_below hL h0) q2 (by have := hbw.size; have := h0.size; omega)) (hbw.trans (h0.mono hbw.size)) (Nat.le_refl _)
/-- The first k digits. -/
def digs (k A : Nat) : List Nat := (List.range k).map (dg A)
theorem digs_len (k A : Nat) : (digs k A).length = k := by simp [digs]
theorem digs_succ (k A : Nat) : digs (k + 1) A = digs k A ++ [dg A k] := by simp [digs, List.range_succ]
theorem own_raw {w : World} {base : Nat} {v : Value} {k A : Nat} (h : OwnU w base v (digs k A)) (h0 : shd A k = 0) : ∃ g cap, v = .slice (some ⟨g, 0, none⟩) k cap ∧ IsRaw w g k cap A := by
  obtain ⟨g, cap, rfl, hc⟩ := own_form h
  rw [digs_len] at hc
  refine ⟨g, cap, by rw [digs_len], (own_lt h g rfl).2, hc, fun i hi => ?_, h0⟩
  rw [World.ownsRow.cellAt (w := w) h.1 i (by rw [digs_len]; omega)]
  simp [cells32, digs, hi]
end Go.Proofs.Ythjdeopfbjmmeaa
namespace Go.Proofs.Ythjdeopfbjmmeaa
open Go.ChangeShapes Go.WideShapes Go.ChangeAt Go.RowKit
set_option linter.unusedVariables false
set_option linter.unusedSimpArgs false
set_option maxHeartbeats 1000000 in
theorem trim_c (g n cap A : Nat) (w : World) (h : Hid (IsRaw w g n cap A)) (hn : n ≤ 1000) :
    Calls Try.prog 77 #[.slice (some ⟨g, 0, none⟩) n cap] w (fun e w' => RetG A w e w' ∧ w' = w) := by
  go_enter Try.func77, Try.ntmps77
  go_wp2_with fail
  go_loopw [3] (fun i wr => ∃ k : Nat, k ≤ n ∧ i = .int .i64 k ∧ Hid (shd A k = 0) ∧ w = wr) (fun i _ => (intOf i).toNat)
  case atStart => exact ⟨n, Nat.le_refl _, rfl, h.out.2.2.2, rfl⟩
  case round =>
    obtain ⟨k, hk, rfl, hs, rfl⟩ := hrel
    have hcap : (k : Int) ≤ (cap : Int) := by have := h.out.2.1; omega
    by_cases h0 : k = 0
    · subst h0
      go_wp2_with fail
      go_ret
      exact ⟨retG_mk ⟨⟨h.out.1, Nat.zero_le _, fun i hi => absurd hi (by omega), hs.out⟩, .inl rfl⟩ (by repeat (first | (with_reducible first | exact Below.refl _ _ | assumption | exact Nat.le_refl _ | refine Below.drew ?_ | refine Below.alloc ?_ ?_ _ | refine Below.setCell ?_ ?_ _ | refine le_alloc ?_ | refine le_set ?_ | refine le_drew ?_ | refine below_step (by assumption) ?_ ?_ | refine le_below (by assumption) ?_) | (dsimp only; omega))), rfl⟩
    · obtain ⟨j, rfl⟩ : ∃ j, k = j + 1 := ⟨k - 1, by omega⟩
      have c1 := h.out.2.2.1 j (by omega)
      have hlt : (j : Int) < (n : Int) := by omega
      have hdg := dg_lt A j
      have HS : Hid (shd A j = dg A j) := by show _ = _; rw [shd_dg, hs.out]; omega
      have e1 : (((j + 1 : Nat) : Int)) = (j : Int) + 1 := by omega
      rw [e1] at *
      have e2 : (j : Int) + 1 - 1 = (j : Int) := by omega
      by_cases hd : dg A j = 0
      · have hd' : ((dg A j : Nat) : Int) = 0 := by omega
        rw [hd'] at c1
        have HZ : Hid (shd A j = 0) := by show _ = _; rw [HS.out]; exact hd
        clear hd hd' hdg HS
        go_wp2_with fail
        go_roundw
        case rel => exact ⟨j, by omega, by first | rfl | (congr 1; omega), HZ, by trivial⟩
        case measure => first | (simp [intOf]; done) | (simp [intOf]; omega)
      · have hd' : (((dg A j : Nat) : Int) == 0) = false := by rw [beq_eq_false_iff_ne]; omega
        have HB : Hid (IsBig w g (j + 1) cap A) := ⟨⟨h.out.1, by omega, fun i hi => h.out.2.2.1 i (by omega), hs.out⟩, .inr (by show shd A j ≠ 0; rw [HS.out]; exact hd)⟩
        clear hd HS
        go_wp2_with fail
        go_ret
        exact ⟨⟨g, j + 1, cap, by first | rfl | simp, HB, (by repeat (first | (with_reducible first | exact Below.refl _ _ | assumption | exact Nat.le_refl _ | refine Below.drew ?_ | refine Below.alloc ?_ ?_ _ | refine Below.setCell ?_ ?_ _ | refine le_alloc ?_ | refine le_set ?_ | refine le_drew ?_ | refine below_step (by assumption) ?_ ?_ | refine le_below (by assumption) ?_) | (dsimp only; omega)))⟩, rfl⟩
theorem retG_of {A : Nat} {W w' : World} {e : Ending} {W0 : World} (h : RetG A W0 e w') (hb : Below W.heap.size W W0) (hle : W.heap.size ≤ W0.heap.size) : RetG A W e w' := by
  obtain ⟨g, n, cap, he, hB, hb2⟩ := h
  exact ⟨g, n, cap, he, hB, hb.trans (hb2.mono hle)⟩
set_option maxHeartbeats 1000000 in
theorem ofInt_c (x : Nat) (hx : Hid (x < 18446744073709551616)) (w : World) :
    Calls Try.prog 70 #[.int .u64 x] w (RetG x w) := by
  have e1 : ((x : Int) % 4294967296) = ((dg x 0 : Nat) : Int) := by unfold dg; rw [shd_zero]; omega
  have e2 : ((x : Int) / 4294967296 % 4294967296) = ((dg x 1 : Nat) : Int) := by unfold dg; rw [shd_succ, shd_zero]; omega
  go_enter Try.func70, Try.ntmps70
  go_wp2_with fail
  refine (trim_c _ 2 2 x _ ?_ (by decide)).mono ?_
  · refine ⟨by rw [sz_alloc]; omega, by decide, fun i hi => ?_, ?_⟩
    · rw [World.cell?_alloc_at _ _ _ _ rfl]
      match i, hi with
      | 0, _ => simp [e1]
      | 1, _ => simp [e2]
    · have := hx.out; rw [shd_succ, shd_succ, shd_zero]; omega
  · rintro e w1 ⟨⟨g, n, cap, rfl, hB, hb⟩, rfl⟩
    go_wp2_with fail
    go_ret
    exact ⟨g, n, cap, rfl, hB, (by repeat (first | (with_reducible first | exact Below.refl _ _ | assumption | exact Nat.le_refl _ | refine Below.drew ?_ | refine Below.alloc ?_ ?_ _ | refine Below.setCell ?_ ?_ _ | refine le_alloc ?_ | refine le_set ?_ | refine le_drew ?_ | refine below_step (by assumption) ?_ ?_ | refine le_below (by assumption) ?_) | (dsimp only; omega)))⟩
end Go.Proofs.Ythjdeopfbjmmeaa
namespace Go.Proofs.Ythjdeopfbjmmeaa
open Go.ChangeShapes Go.WideShapes Go.ChangeAt Go.RowKit
set_option linter.unusedVariables false
set_option linter.unusedSimpArgs false
/-- The carry of the first k digits. -/
def CarryN (A B k c : Nat) : Prop := shd (A + B) k = shd A k + shd B k + c ∧ c ≤ 1
theorem plus_step {A B k c : Nat} (h : CarryN A B k c) : dg (A + B) k = (c + dg A k + dg B k) % 4294967296 ∧ CarryN A B (k + 1) ((c + dg A k + dg B k) / 4294967296) := by
  have h1 := shd_dg A k; have h2 := shd_dg B k; have h3 := shd_dg (A + B) k
  have l1 := dg_lt A k; have l2 := dg_lt B k; have l3 := dg_lt (A + B) k
  obtain ⟨h4, h5⟩ := h
  unfold CarryN
  omega
theorem shd_plus_le {A B k : Nat} (h1 : shd A k = 0) (h2 : shd B k = 0) : shd (A + B) k ≤ 1 := by
  rw [shd_eq_zero] at h1 h2
  unfold shd
  have h3 := Nat.two_pow_pos (32 * k)
  have : (A + B) / 2 ^ (32 * k) < 2 := by rw [Nat.div_lt_iff_lt_mul h3]; omega
  omega
set_option maxHeartbeats 4000000 in
theorem bplus_c (ga na pa A gb nb pb B : Nat) (w : World) (ha : Hid (IsRaw w ga na pa A)) (hb : Hid (IsRaw w gb nb pb B)) (hna : na ≤ 900) (hnb : nb ≤ 900) :
    Calls Try.prog 67 #[.slice (some ⟨ga, 0, none⟩) na pa, .slice (some ⟨gb, 0, none⟩) nb pb] w (RetG (A + B) w) := by
  go_enter Try.func67, Try.ntmps67
  go_wp2_with fail
  go_loopw [5, 6, 7] (fun o y i wr => ∃ k c : Nat, k ≤ 901 ∧ i = .int .i64 k ∧ y = .int .u64 c ∧ Hid (CarryN A B k c) ∧ Hid (OwnU wr w.heap.size o (digs k (A + B))) ∧ Below w.heap.size w wr) (fun _ _ i _ => 901 - (intOf i).toNat)
  case atStart => exact ⟨0, 0, by decide, rfl, rfl, ⟨by rw [shd_zero, shd_zero, shd_zero]; rfl, by decide⟩, own_built w w.heap.size 0 _ [] (Nat.le_refl _) rfl (by decide) rfl, (by repeat (first | (with_reducible first | exact Below.refl _ _ | assumption | exact Nat.le_refl _ | refine Below.drew ?_ | refine Below.alloc ?_ ?_ _ | refine Below.setCell ?_ ?_ _ | refine le_alloc ?_ | refine le_set ?_ | refine le_drew ?_ | refine below_step (by assumption) ?_ ?_ | refine le_below (by assumption) ?_) | (dsimp only; omega)))⟩
  case round =>
    obtain ⟨k, c, hk, rfl, rfl, hc, hL, hbw⟩ := hrel
    have hc1 := hc.out.2
    by_cases hka : k < na
    · by_cases hkb : k < nb
      · have hkk : k ≤ 900 := by omega
        have hta : (k : Int) < (na : Int) := by omega
        have htb : (k : Int) < (nb : Int) := by omega
        have ca := (raw_below ha.out hbw (Nat.le_refl _)).2.2.1 k hka
        have la := dg_lt A k
        have cb := (raw_below hb.out hbw (Nat.le_refl _)).2.2.1 k hkb
        have lb := dg_lt B k
        have HN := plus_step (A := A) (B := B) (k := k) (c := c) hc.out
        have HS := Lib.hid HN.1; have HC := Lib.hid HN.2
        generalize dg A k = da at *
        generalize dg B k = db at *
        have hz := hbw.size
        have m1 : wrap64 ((k : Int) + 1) = (k : Int) + 1 := IntWalk.wrap64_in _ (by omega)
        clear HN hka hkb
        go_wp2_with (at_builtin; refine append_u rfl (.tmp 47) (.tmp 50) rfl w.heap.size u5 (digs k (A + B)) (by simp [Act.eval, Act.put]) (own_alloc hL.out _) (by rw [digs_len]; omega) (dg (A + B) k) wr.heap.size (by simp [Act.eval, Act.put]) (by rw [World.cell?_alloc_at _ _ _ _ rfl]; rw [HS.out]; first | (simp; done) | (simp; omega)) (by rw [sz_alloc]; omega) ?_; intro v' w' q1 q2)
        have r1 := grow_u hbw ((Below.refl wr.heap.size wr).alloc (Nat.le_refl _) _) hL.out q2
        have Q1 : Hid (OwnU w' w.heap.size v' (digs (k + 1) (A + B))) := by show OwnU _ _ _ _; rw [digs_succ]; exact q1
        clear q1 q2
        go_wp2_with fail
        go_roundw
        case rel => exact ⟨k + 1, (c + da + db) / 4294967296, by omega, by first | rfl | (congr 1; omega), by first | rfl | (congr 1; omega), HC, Q1, r1⟩
        case measure => first | (simp [intOf]; done) | (simp [intOf]; omega)
      · have hkk : k ≤ 900 := by omega
        have hta : (k : Int) < (na : Int) := by omega
        have htb : ¬ (k : Int) < (nb : Int) := by omega
        have ca := (raw_below ha.out hbw (Nat.le_refl _)).2.2.1 k hka
        have la := dg_lt A k
        have zb : dg B k = 0 := dg_zero (shd_mono0 hb.out.2.2.2 (by omega))
        have HN := plus_step (A := A) (B := B) (k := k) (c := c) hc.out
        rw [zb] at HN
        have HS := Lib.hid HN.1; have HC := Lib.hid HN.2
        generalize dg A k = da at *
        have hz := hbw.size
        have m1 : wrap64 ((k : Int) + 1) = (k : Int) + 1 := IntWalk.wrap64_in _ (by omega)
        clear HN hka hkb zb
        go_wp2_with (at_builtin; refine append_u rfl (.tmp 47) (.tmp 50) rfl w.heap.size u5 (digs k (A + B)) (by simp [Act.eval, Act.put]) (own_alloc hL.out _) (by rw [digs_len]; omega) (dg (A + B) k) wr.heap.size (by simp [Act.eval, Act.put]) (by rw [World.cell?_alloc_at _ _ _ _ rfl]; rw [HS.out]; first | (simp; done) | (simp; omega)) (by rw [sz_alloc]; omega) ?_; intro v' w' q1 q2)
        have r1 := grow_u hbw ((Below.refl wr.heap.size wr).alloc (Nat.le_refl _) _) hL.out q2
        have Q1 : Hid (OwnU w' w.heap.size v' (digs (k + 1) (A + B))) := by show OwnU _ _ _ _; rw [digs_succ]; exact q1
        clear q1 q2
        go_wp2_with fail
        go_roundw
        case rel => exact ⟨k + 1, (c + da + 0) / 4294967296, by omega, by first | rfl | (congr 1; omega), by first | rfl | (congr 1; omega), HC, Q1, r1⟩
        case measure => first | (simp [intOf]; done) | (simp [intOf]; omega)
    · by_cases hkb : k < nb
      · have hkk : k ≤ 900 := by omega
        have hta : ¬ (k : Int) < (na : Int) := by omega
        have htb : (k : Int) < (nb : Int) := by omega
        have za : dg A k = 0 := dg_zero (shd_mono0 ha.out.2.2.2 (by omega))
        have cb := (raw_below hb.out hbw (Nat.le_refl _)).2.2.1 k hkb
        have lb := dg_lt B k
        have HN := plus_step (A := A) (B := B) (k := k) (c := c) hc.out
        rw [za] at HN
        have HS := Lib.hid HN.1; have HC := Lib.hid HN.2
        generalize dg B k = db at *
        have hz := hbw.size
        have m1 : wrap64 ((k : Int) + 1) = (k : Int) + 1 := IntWalk.wrap64_in _ (by omega)
        clear HN hka hkb za
        go_wp2_with (at_builtin; refine append_u rfl (.tmp 47) (.tmp 50) rfl w.heap.size u5 (digs k (A + B)) (by simp [Act.eval, Act.put]) (own_alloc hL.out _) (by rw [digs_len]; omega) (dg (A + B) k) wr.heap.size (by simp [Act.eval, Act.put]) (by rw [World.cell?_alloc_at _ _ _ _ rfl]; rw [HS.out]; first | (simp; done) | (simp; omega)) (by rw [sz_alloc]; omega) ?_; intro v' w' q1 q2)
        have r1 := grow_u hbw ((Below.refl wr.heap.size wr).alloc (Nat.le_refl _) _) hL.out q2
        have Q1 : Hid (OwnU w' w.heap.size v' (digs (k + 1) (A + B))) := by show OwnU _ _ _ _; rw [digs_succ]; exact q1
        clear q1 q2
        go_wp2_with fail
        go_roundw
        case rel => exact ⟨k + 1, (c + 0 + db) / 4294967296, by omega, by first | rfl | (congr 1; omega), by first | rfl | (congr 1; omega), HC, Q1, r1⟩
        case measure => first | (simp [intOf]; done) | (simp [intOf]; omega)
      · by_cases hc0 : c = 0
        · subst hc0
          have hta : ¬ (k : Int) < (na : Int) := by omega
          have htb : ¬ (k : Int) < (nb : Int) := by omega
          have HZ : Hid (shd (A + B) k = 0) := by
            show _ = _
            have h1 := hc.out.1
            rw [shd_mono0 ha.out.2.2.2 (by omega), shd_mono0 hb.out.2.2.2 (by omega)] at h1
            exact h1
          obtain ⟨g, cap, hv, hR⟩ := own_raw hL.out HZ.out
          subst hv
          have HR := Lib.hid hR; clear hR
          clear hka hkb hc1 hc
          go_wp2_with fail
          refine (trim_c g k cap (A + B) _ HR (by omega)).mono ?_
          rintro e w1 ⟨⟨g1, n1, p1, rfl, hB1, hb1⟩, rfl⟩
          go_wp2_with fail
          go_ret
          exact ⟨g1, n1, p1, rfl, hB1, hbw⟩
        · obtain rfl : c = 1 := by omega
          have hkk : k ≤ 900 := by
            apply Classical.byContradiction
            intro hcc
            have h1 := hc.out.1
            have z1 := shd_mono0 ha.out.2.2.2 (show na ≤ k - 1 by omega)
            have z2 := shd_mono0 hb.out.2.2.2 (show nb ≤ k - 1 by omega)
            have z3 : shd (A + B) (k - 1) ≤ 1 := shd_plus_le z1 z2
            have z4 : shd (A + B) k = shd (A + B) (k - 1) / 4294967296 := by rw [← shd_succ]; congr 1; omega
            omega
          obtain ⟨c, hcc⟩ : ∃ c, c = 1 := ⟨_, rfl⟩
          rw [← hcc] at hc
          have hc1 : ((1 : Nat) : Int) = (c : Int) := by omega
          rw [hc1]
          have hc2 : (0 : Int) < (c : Int) := by omega
          have hc3 : c ≤ 1 := by omega
          clear hc1 hcc hc0
          have hta : ¬ (k : Int) < (na : Int) := by omega
          have htb : ¬ (k : Int) < (nb : Int) := by omega
          have za : dg A k = 0 := dg_zero (shd_mono0 ha.out.2.2.2 (by omega))
          have zb : dg B k = 0 := dg_zero (shd_mono0 hb.out.2.2.2 (by omega))
          have HN := plus_step (A := A) (B := B) (k := k) (c := c) hc.out
          rw [za] at HN
          rw [zb] at HN
          have HS := Lib.hid HN.1; have HC := Lib.hid HN.2
          have hz := hbw.size
          have m1 : wrap64 ((k : Int) + 1) = (k : Int) + 1 := IntWalk.wrap64_in _ (by omega)
          clear HN hka hkb za zb
          go_wp2_with (at_builtin; refine append_u rfl (.tmp 47) (.tmp 50) rfl w.heap.size u5 (digs k (A + B)) (by simp [Act.eval, Act.put]) (own_alloc hL.out _) (by rw [digs_len]; omega) (dg (A + B) k) wr.heap.size (by simp [Act.eval, Act.put]) (by rw [World.cell?_alloc_at _ _ _ _ rfl]; rw [HS.out]; first | (simp; done) | (simp; omega)) (by rw [sz_alloc]; omega) ?_; intro v' w' q1 q2)
          have r1 := grow_u hbw ((Below.refl wr.heap.size wr).alloc (Nat.le_refl _) _) hL.out q2
          have Q1 : Hid (OwnU w' w.heap.size v' (digs (k + 1) (A + B))) := by show OwnU _ _ _ _; rw [digs_succ]; exact q1
          clear q1 q2
          go_wp2_with fail
          go_roundw
          case rel => exact ⟨k + 1, (c + 0 + 0) / 4294967296, by omega, by first | rfl | (congr 1; omega), by first | rfl | (congr 1; omega), HC, Q1, r1⟩
          case measure => first | (simp [intOf]; done) | (simp [intOf]; omega)
/-- Are two digits one? -/
theorem less_step {A B k : Nat} (h : shd A (k + 1) = shd B (k + 1)) : (shd A k = shd B k ↔ dg A k = dg B k) ∧ (dg A k < dg B k → A < B) ∧ (dg B k < dg A k → B < A) := by
  have h1 := shd_dg A k; have h2 := shd_dg B k
  have key : ∀ X Y : Nat, shd X k < shd Y k → X < Y := fun X Y h => by
    apply Classical.byContradiction
    intro hc
    have := shd_le_of_le (show Y ≤ X by omega) k
    omega
  refine ⟨by omega, fun h => key _ _ (by omega), fun h => key _ _ (by omega)⟩
theorem less_len {w : World} {ga na pa A gb nb pb B : Nat} (ha : IsBig w ga na pa A) (hb : IsBig w gb nb pb B) (h : na < nb) : A < B := by
  apply Classical.byContradiction
  intro hc
  have h1 : shd A (nb - 1) = 0 := shd_mono0 ha.1.2.2.2 (by omega)
  have h2 := shd_le_of_le (show B ≤ A by omega) (nb - 1)
  rcases hb.2 with h3 | h3 <;> omega
set_option maxHeartbeats 4000000 in
theorem less_c (ga na pa A gb nb pb B : Nat) (w : World) (ha : Hid (IsBig w ga na pa A)) (hb : Hid (IsBig w gb nb pb B)) (hna : na ≤ 2000) (hnb : nb ≤ 2000) :
    Calls Try.prog 68 #[.slice (some ⟨ga, 0, none⟩) na pa, .slice (some ⟨gb, 0, none⟩) nb pb] w (RetB (decide (A < B)) w) := by
  by_cases hn : na = nb
  · subst hn
    go_enter Try.func68, Try.ntmps68
    go_wp2_with fail
    go_loopw [5] (fun i wr => ∃ k : Nat, k ≤ na ∧ Hid (i = .int .i64 ((k : Int) - 1)) ∧ Hid (shd A k = shd B k) ∧ Below w.heap.size w wr) (fun i _ => (intOf i + 1).toNat)
    case atStart => exact ⟨na, Nat.le_refl _, by show _ = _; rfl, by show _ = _; rw [ha.out.1.2.2.2, hb.out.1.2.2.2], (by repeat (first | (with_reducible first | exact Below.refl _ _ | assumption | exact Nat.le_refl _ | refine Below.drew ?_ | refine Below.alloc ?_ ?_ _ | refine Below.setCell ?_ ?_ _ | refine le_alloc ?_ | refine le_set ?_ | refine le_drew ?_ | refine below_step (by assumption) ?_ ?_ | refine le_below (by assumption) ?_) | (dsimp only; omega)))⟩
    case round =>
      obtain ⟨k, hk, hi, hs, hbw⟩ := hrel
      by_cases h0 : k = 0
      · subst h0
        have hi' := hi.out; subst hi'
        have E : Hid (decide (A < B) = false) := by
          show _ = _
          have := hs.out; rw [shd_zero, shd_zero] at this; subst this; simp
        go_wp2_with fail
        go_ret
        exact retB_mk E.out.symm hbw
      · obtain ⟨j, rfl⟩ : ∃ j, k = j + 1 := ⟨k - 1, by omega⟩
        have hi' := hi.out
        rw [show ((j + 1 : Nat) : Int) - 1 = (j : Int) by omega] at hi'
        subst hi'
        have hlt : (j : Int) < (na : Int) := by omega
        have hj0 : j < na := by omega
        have HL := less_step hs.out
        have ca := (raw_below ha.out.1 hbw (Nat.le_refl _)).2.2.1 j hj0
        have cb := (raw_below hb.out.1 hbw (Nat.le_refl _)).2.2.1 j hj0
        have la := dg_lt A j; have lb := dg_lt B j
        have H1 := Lib.hid HL.1; have H2 := Lib.hid HL.2.1; have H3 := Lib.hid HL.2.2
        have m1 : Hid (wrap64 ((j : Int) - 1) = (j : Int) - 1) := IntWalk.wrap64_in _ (by omega)
        generalize dg A j = da at *
        generalize dg B j = db at *
        clear HL hi hk h0
        by_cases hd : da = db
        · subst hd
          have HQ : Hid (shd A j = shd B j) := H1.out.2 rfl
          go_wp2_with fail
          go_quiet (fail)
          have hbq := below_drewN hbw nq
          go_wp2_with fail
          go_roundw
          case rel => exact ⟨j, by omega, by show _ = _; first | rfl | (congr 1; have := m1.out; omega), HQ, hbq⟩
          case measure => have := m1.out; first | (simp [intOf]; done) | (simp [intOf]; omega)
        · have hd' : ((da : Int) != (db : Int)) = true := by rw [bne_iff_ne]; omega
          have E : Hid (decide (A < B) = decide (da < db)) := by
            show _ = _
            rw [Bool.eq_iff_iff, decide_eq_true_eq, decide_eq_true_eq]
            rcases Nat.lt_or_gt_of_ne hd with h | h
            · have := H2.out h; omega
            · have := H3.out h; omega
          clear hd
          go_wp2_with fail
          go_quiet (fail)
          have hbq := below_drewN hbw nq
          have ca2 : (wr.drewN nq).cell? ⟨ga, j, none⟩ = some (.int .u32 da) := ca
          have cb2 : (wr.drewN nq).cell? ⟨gb, j, none⟩ = some (.int .u32 db) := cb
          generalize wr.drewN nq = wq at *
          go_wp2_with fail
          go_quiet (fail)
          have hbq2 := below_drewN hbq nq
          go_wp2_with fail
          go_ret
          exact retB_mk E.out.symm hbq2
  · have hb1 : ((na : Int) != (nb : Int)) = true := by rw [bne_iff_ne]; omega
    have E : Hid (decide (A < B) = decide (na < nb)) := by
      show _ = _
      rw [Bool.eq_iff_iff, decide_eq_true_eq, decide_eq_true_eq]
      rcases Nat.lt_or_gt_of_ne hn with h | h
      · have := less_len ha.out hb.out h; omega
      · have := less_len hb.out ha.out h; omega
    clear hn
    go_enter Try.func68, Try.ntmps68
    go_wp2_with fail
    go_ret
    exact retB_mk E.out.symm (by repeat (first | (with_reducible first | exact Below.refl _ _ | assumption | exact Nat.le_refl _ | refine Below.drew ?_ | refine Below.alloc ?_ ?_ _ | refine Below.setCell ?_ ?_ _ | refine le_alloc ?_ | refine le_set ?_ | refine le_drew ?_ | refine below_step (by assumption) ?_ ?_ | refine le_below (by assumption) ?_) | (dsimp only; omega)))
end Go.Proofs.Ythjdeopfbjmmeaa
namespace Go.Proofs.Ythjdeopfbjmmeaa
open Go.ChangeShapes Go.WideShapes Go.ChangeAt Go.RowKit
set_option linter.unusedVariables false
set_option linter.unusedSimpArgs false
def BorrowN (A B k c : Nat) : Prop := shd (A - B) k + shd B k + c = shd A k ∧ c ≤ 1
theorem minus_step {A B k c : Nat} (hAB : B ≤ A) (h : BorrowN A B k c) : ((dg (A - B) k : Nat) : Int) = (if dg A k < c + dg B k then (dg A k : Int) - c - dg B k + 4294967296 else (dg A k : Int) - c - dg B k) ∧ BorrowN A B (k + 1) (if dg A k < c + dg B k then 1 else 0) := by
  have h1 := shd_dg A k; have h2 := shd_dg B k; have h3 := shd_dg (A - B) k
  have l1 := dg_lt A k; have l2 := dg_lt B k; have l3 := dg_lt (A - B) k
  obtain ⟨h4, h5⟩ := h
  unfold BorrowN
  split <;> refine ⟨by omega, by omega, by omega⟩
set_option maxHeartbeats 4000000 in
theorem bminus_c (ga na pa A gb nb pb B : Nat) (w : World) (ha : Hid (IsRaw w ga na pa A)) (hb : Hid (IsRaw w gb nb pb B)) (hAB : Hid (B ≤ A)) (hna : na ≤ 900) (hnb : nb ≤ 100000) :
    Calls Try.prog 69 #[.slice (some ⟨ga, 0, none⟩) na pa, .slice (some ⟨gb, 0, none⟩) nb pb] w (RetG (A - B) w) := by
  go_enter Try.func69, Try.ntmps69
  go_wp2_with fail
  go_loopw [5, 6, 7] (fun o y i wr => ∃ k c : Nat, k ≤ na ∧ i = .int .i64 k ∧ y = .int .i64 c ∧ Hid (BorrowN A B k c) ∧ Hid (OwnU wr w.heap.size o (digs k (A - B))) ∧ Below w.heap.size w wr) (fun _ _ i _ => na - (intOf i).toNat)
  case atStart => exact ⟨0, 0, Nat.zero_le _, rfl, rfl, ⟨by rw [shd_zero, shd_zero, shd_zero]; have := hAB.out; omega, by decide⟩, own_built w w.heap.size 0 _ [] (Nat.le_refl _) rfl (by decide) rfl, (by repeat (first | (with_reducible first | exact Below.refl _ _ | assumption | exact Nat.le_refl _ | refine Below.drew ?_ | refine Below.alloc ?_ ?_ _ | refine Below.setCell ?_ ?_ _ | refine le_alloc ?_ | refine le_set ?_ | refine le_drew ?_ | refine below_step (by assumption) ?_ ?_ | refine le_below (by assumption) ?_) | (dsimp only; omega)))⟩
  case round =>
    obtain ⟨k, c, hk, rfl, rfl, hc, hL, hbw⟩ := hrel
    have hc1 := hc.out.2
    by_cases hka : k < na
    · have hkk : k ≤ 900 := by omega
      by_cases hkb : k < nb
      · by_cases hd : dg A k < c + dg B k
        · skip
          have hta : (k : Int) < (na : Int) := by omega
          have htb : (k : Int) < (nb : Int) := by omega
          have ca := (raw_below ha.out hbw (Nat.le_refl _)).2.2.1 k hka
          have la := dg_lt A k
          have cb := (raw_below hb.out hbw (Nat.le_refl _)).2.2.1 k hkb
          have lb := dg_lt B k
          have HN := minus_step (A := A) (B := B) (k := k) (c := c) hAB.out hc.out
          have ld := dg_lt (A - B) k
          have HS := Lib.hid HN.1; have HC := Lib.hid HN.2
          obtain ⟨dd, hdd⟩ : ∃ dd, dd = dg (A - B) k := ⟨_, rfl⟩
          have HD : Hid (dg (A - B) k = dd) := hdd.symm
          rw [← hdd] at HS ld
          clear hdd
          generalize dg A k = da at *
          generalize dg B k = db at *
          have hdi : (da : Int) - (c : Int) - (db : Int) < 0 := by omega
          have HV : Hid (((da : Int) - (c : Int) - (db : Int)) + 4294967296 = (dd : Int)) := by show _ = _; have := HS.out; rw [if_pos hd] at this; omega
          have HW : Hid (BorrowN A B (k + 1) 1) := by show BorrowN _ _ _ _; have := HC.out; rw [if_pos hd] at this; exact this
          have hz := hbw.size
          have m1 : wrap64 ((k : Int) + 1) = (k : Int) + 1 := IntWalk.wrap64_in _ (by omega)
          clear HN HS HC hd hka hkb
          go_wp2_with (at_builtin; refine append_u rfl (.tmp 38) (.tmp 41) rfl w.heap.size u5 (digs k (A - B)) (by simp [Act.eval, Act.put]) (own_alloc hL.out _) (by rw [digs_len]; omega) dd wr.heap.size (by simp [Act.eval, Act.put]) (by rw [World.cell?_alloc_at _ _ _ _ rfl]; have := HV.out; first | (simp; omega) | (simp [this]; done) | (simp [this]; omega)) (by rw [sz_alloc]; omega) ?_; intro v' w' q1 q2)
          have r1 := grow_u hbw ((Below.refl wr.heap.size wr).alloc (Nat.le_refl _) _) hL.out q2
          have Q1 : Hid (OwnU w' w.heap.size v' (digs (k + 1) (A - B))) := by show OwnU _ _ _ _; rw [digs_succ, HD.out]; exact q1
          clear q1 q2
          go_wp2_with fail
          go_roundw
          case rel => exact ⟨k + 1, 1, by omega, by first | rfl | (congr 1; omega), by first | rfl | (congr 1; omega), HW, Q1, r1⟩
          case measure => first | (simp [intOf]; done) | (simp [intOf]; omega)
        · skip
          have hta : (k : Int) < (na : Int) := by omega
          have htb : (k : Int) < (nb : Int) := by omega
          have ca := (raw_below ha.out hbw (Nat.le_refl _)).2.2.1 k hka
          have la := dg_lt A k
          have cb := (raw_below hb.out hbw (Nat.le_refl _)).2.2.1 k hkb
          have lb := dg_lt B k
          have HN := minus_step (A := A) (B := B) (k := k) (c := c) hAB.out hc.out
          have ld := dg_lt (A - B) k
          have HS := Lib.hid HN.1; have HC := Lib.hid HN.2
          obtain ⟨dd, hdd⟩ : ∃ dd, dd = dg (A - B) k := ⟨_, rfl⟩
          have HD : Hid (dg (A - B) k = dd) := hdd.symm
          rw [← hdd] at HS ld
          clear hdd
          generalize dg A k = da at *
          generalize dg B k = db at *
          have hdi : ¬ (da : Int) - (c : Int) - (db : Int) < 0 := by omega
          have HV : Hid (((da : Int) - (c : Int) - (db : Int)) = (dd : Int)) := by show _ = _; have := HS.out; rw [if_neg hd] at this; omega
          have HW : Hid (BorrowN A B (k + 1) 0) := by show BorrowN _ _ _ _; have := HC.out; rw [if_neg hd] at this; exact this
          have hz := hbw.size
          have m1 : wrap64 ((k : Int) + 1) = (k : Int) + 1 := IntWalk.wrap64_in _ (by omega)
          clear HN HS HC hd hka hkb
          go_wp2_with (at_builtin; refine append_u rfl (.tmp 38) (.tmp 41) rfl w.heap.size u5 (digs k (A - B)) (by simp [Act.eval, Act.put]) (own_alloc hL.out _) (by rw [digs_len]; omega) dd wr.heap.size (by simp [Act.eval, Act.put]) (by rw [World.cell?_alloc_at _ _ _ _ rfl]; have := HV.out; first | (simp; omega) | (simp [this]; done) | (simp [this]; omega)) (by rw [sz_alloc]; omega) ?_; intro v' w' q1 q2)
          have r1 := grow_u hbw ((Below.refl wr.heap.size wr).alloc (Nat.le_refl _) _) hL.out q2
          have Q1 : Hid (OwnU w' w.heap.size v' (digs (k + 1) (A - B))) := by show OwnU _ _ _ _; rw [digs_succ, HD.out]; exact q1
          clear q1 q2
          go_wp2_with fail
          go_roundw
          case rel => exact ⟨k + 1, 0, by omega, by first | rfl | (congr 1; omega), by first | rfl | (congr 1; omega), HW, Q1, r1⟩
          case measure => first | (simp [intOf]; done) | (simp [intOf]; omega)
      · by_cases hd : dg A k < c + dg B k
        · skip
          have hta : (k : Int) < (na : Int) := by omega
          have htb : ¬ (k : Int) < (nb : Int) := by omega
          have ca := (raw_below ha.out hbw (Nat.le_refl _)).2.2.1 k hka
          have la := dg_lt A k
          have zb : dg B k = 0 := dg_zero (shd_mono0 hb.out.2.2.2 (by omega))
          have HN := minus_step (A := A) (B := B) (k := k) (c := c) hAB.out hc.out
          rw [zb] at HN hd
          have ld := dg_lt (A - B) k
          have HS := Lib.hid HN.1; have HC := Lib.hid HN.2
          obtain ⟨dd, hdd⟩ : ∃ dd, dd = dg (A - B) k := ⟨_, rfl⟩
          have HD : Hid (dg (A - B) k = dd) := hdd.symm
          rw [← hdd] at HS ld
          clear hdd
          generalize dg A k = da at *
          have hdi : (da : Int) - (c : Int) < 0 := by omega
          have HV : Hid (((da : Int) - (c : Int)) + 4294967296 = (dd : Int)) := by show _ = _; have := HS.out; rw [if_pos hd] at this; omega
          have HW : Hid (BorrowN A B (k + 1) 1) := by show BorrowN _ _ _ _; have := HC.out; rw [if_pos hd] at this; exact this
          have hz := hbw.size
          have m1 : wrap64 ((k : Int) + 1) = (k : Int) + 1 := IntWalk.wrap64_in _ (by omega)
          clear HN HS HC hd hka hkb zb
          go_wp2_with (at_builtin; refine append_u rfl (.tmp 38) (.tmp 41) rfl w.heap.size u5 (digs k (A - B)) (by simp [Act.eval, Act.put]) (own_alloc hL.out _) (by rw [digs_len]; omega) dd wr.heap.size (by simp [Act.eval, Act.put]) (by rw [World.cell?_alloc_at _ _ _ _ rfl]; have := HV.out; first | (simp; omega) | (simp [this]; done) | (simp [this]; omega)) (by rw [sz_alloc]; omega) ?_; intro v' w' q1 q2)
          have r1 := grow_u hbw ((Below.refl wr.heap.size wr).alloc (Nat.le_refl _) _) hL.out q2
          have Q1 : Hid (OwnU w' w.heap.size v' (digs (k + 1) (A - B))) := by show OwnU _ _ _ _; rw [digs_succ, HD.out]; exact q1
          clear q1 q2
          go_wp2_with fail
          go_roundw
          case rel => exact ⟨k + 1, 1, by omega, by first | rfl | (congr 1; omega), by first | rfl | (congr 1; omega), HW, Q1, r1⟩
          case measure => first | (simp [intOf]; done) | (simp [intOf]; omega)
        · skip
          have hta : (k : Int) < (na : Int) := by omega
          have htb : ¬ (k : Int) < (nb : Int) := by omega
          have ca := (raw_below ha.out hbw (Nat.le_refl _)).2.2.1 k hka
          have la := dg_lt A k
          have zb : dg B k = 0 := dg_zero (shd_mono0 hb.out.2.2.2 (by omega))
          have HN := minus_step (A := A) (B := B) (k := k) (c := c) hAB.out hc.out
          rw [zb] at HN hd
          have ld := dg_lt (A - B) k
          have HS := Lib.hid HN.1; have HC := Lib.hid HN.2
          obtain ⟨dd, hdd⟩ : ∃ dd, dd = dg (A - B) k := ⟨_, rfl⟩
          have HD : Hid (dg (A - B) k = dd) := hdd.symm
          rw [← hdd] at HS ld
          clear hdd
          generalize dg A k = da at *
          have hdi : ¬ (da : Int) - (c : Int) < 0 := by omega
          have HV : Hid (((da : Int) - (c : Int)) = (dd : Int)) := by show _ = _; have := HS.out; rw [if_neg hd] at this; omega
          have HW : Hid (BorrowN A B (k + 1) 0) := by show BorrowN _ _ _ _; have := HC.out; rw [if_neg hd] at this; exact this
          have hz := hbw.size
          have m1 : wrap64 ((k : Int) + 1) = (k : Int) + 1 := IntWalk.wrap64_in _ (by omega)
          clear HN HS HC hd hka hkb zb
          go_wp2_with (at_builtin; refine append_u rfl (.tmp 38) (.tmp 41) rfl w.heap.size u5 (digs k (A - B)) (by simp [Act.eval, Act.put]) (own_alloc hL.out _) (by rw [digs_len]; omega) dd wr.heap.size (by simp [Act.eval, Act.put]) (by rw [World.cell?_alloc_at _ _ _ _ rfl]; have := HV.out; first | (simp; omega) | (simp [this]; done) | (simp [this]; omega)) (by rw [sz_alloc]; omega) ?_; intro v' w' q1 q2)
          have r1 := grow_u hbw ((Below.refl wr.heap.size wr).alloc (Nat.le_refl _) _) hL.out q2
          have Q1 : Hid (OwnU w' w.heap.size v' (digs (k + 1) (A - B))) := by show OwnU _ _ _ _; rw [digs_succ, HD.out]; exact q1
          clear q1 q2
          go_wp2_with fail
          go_roundw
          case rel => exact ⟨k + 1, 0, by omega, by first | rfl | (congr 1; omega), by first | rfl | (congr 1; omega), HW, Q1, r1⟩
          case measure => first | (simp [intOf]; done) | (simp [intOf]; omega)
    · have hta : ¬ (k : Int) < (na : Int) := by omega
      obtain rfl : k = na := by omega
      have HZ : Hid (shd (A - B) k = 0) := by
        show _ = _
        have h1 := hc.out.1
        rw [ha.out.2.2.2] at h1
        omega
      obtain ⟨g, cap, hv, hR⟩ := own_raw hL.out HZ.out
      subst hv
      have HR := Lib.hid hR; clear hR
      clear hka hc1 hc
      go_wp2_with fail
      refine (trim_c g k cap (A - B) _ HR (by omega)).mono ?_
      rintro e w1 ⟨⟨g1, n1, p1, rfl, hB1, hb1⟩, rfl⟩
      go_wp2_with fail
      go_ret
      exact ⟨g1, n1, p1, rfl, hB1, hbw⟩
end Go.Proofs.Ythjdeopfbjmmeaa
