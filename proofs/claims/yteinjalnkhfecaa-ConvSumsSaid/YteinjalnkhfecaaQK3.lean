/- Taken from other texts: what is needed of them. -/
import Derived.Test.YteinjalnkhfecaaQM
import Derived.Test.YteinjalnkhfecaaQA
import Derived.Test.YteinjalnkhfecaaQB
import Derived.Laws.AppendOwn
import Derived.Laws.OwnMore
import Derived.Maps.AppendAt
import Derived.OwnWalk
import Derived.LoopN
import Derived.BigQuiet
import Derived.Lib.QuietBelow
import Derived.Deep.DeepCutAuto
namespace Go.Proofs.Yteinjalnkhfecaa.Q
open Go.ChangeShapes Go.WideShapes Go.ChangeAt Go.RowKit
set_option linter.unusedVariables false
set_option linter.unusedSimpArgs false
def shd (A k : Nat) : Nat := A / 2 ^ (32 * k)
def dg (A k : Nat) : Nat := shd A k % 4294967296
theorem shd_zero (A : Nat) : shd A 0 = A := by simp [shd]
theorem shd_succ (A k : Nat) : shd A (k + 1) = shd A k / 4294967296 := by
  unfold shd
  rw [Nat.div_div_eq_div_mul, show 32 * (k + 1) = 32 * k + 32 by omega, Nat.pow_add]
theorem shd_dg (A k : Nat) : shd A k = 4294967296 * shd A (k + 1) + dg A k := by rw [shd_succ]; unfold dg; omega
theorem dg_lt (A k : Nat) : dg A k < 4294967296 := Nat.mod_lt _ (by decide)
theorem shd_eq_zero {A n : Nat} : shd A n = 0 ↔ A < 2 ^ (32 * n) := by
  unfold shd
  rw [Nat.div_eq_zero_iff]
  have := Nat.two_pow_pos (32 * n)
  omega
theorem shd_mono0 {A n k : Nat} (h : shd A n = 0) (hk : n ≤ k) : shd A k = 0 := by
  rw [shd_eq_zero] at h ⊢
  exact Nat.lt_of_lt_of_le h (Nat.pow_le_pow_right (by decide) (by omega))
theorem shd_le {A n k : Nat} (h : shd A n ≠ 0) (hk : shd A k = 0) : n < k := by
  apply Classical.byContradiction
  intro hc
  exact h (shd_mono0 hk (by omega))
theorem dg_zero {A k : Nat} (h : shd A k = 0) : dg A k = 0 := by unfold dg; rw [h]
theorem shd_le_of_le {A B : Nat} (h : A ≤ B) (k : Nat) : shd A k ≤ shd B k := Nat.div_le_div_right h
def IsRaw (w : World) (g n cap A : Nat) : Prop := g < w.heap.size ∧ n ≤ cap ∧ (∀ i, i < n → w.cell? ⟨g, i, none⟩ = some (.int .u32 (dg A i : Nat))) ∧ shd A n = 0
def IsBig (w : World) (g n cap A : Nat) : Prop := IsRaw w g n cap A ∧ (n = 0 ∨ shd A (n - 1) ≠ 0)
theorem raw_below {w w' : World} {B g n cap A : Nat} (h : IsRaw w g n cap A) (hb : Below B w w') (hB : w.heap.size ≤ B) : IsRaw w' g n cap A :=
  ⟨Nat.lt_of_lt_of_le h.1 hb.size, h.2.1, fun i hi => by rw [hb.cell (p := ⟨g, i, none⟩) (Nat.lt_of_lt_of_le h.1 hB)]; exact h.2.2.1 i hi, h.2.2.2⟩
theorem big_below {w w' : World} {B g n cap A : Nat} (h : IsBig w g n cap A) (hb : Below B w w') (hB : w.heap.size ≤ B) : IsBig w' g n cap A := ⟨raw_below h.1 hb hB, h.2⟩
theorem big_len {w : World} {g n cap A m : Nat} (h : IsBig w g n cap A) (hm : shd A m = 0) : n ≤ m := by
  rcases h.2 with h0 | h0
  · omega
  · have := shd_le h0 hm; omega
def RetG (A : Nat) (W : World) (e : Ending) (w' : World) : Prop := ∃ g n cap : Nat, e = .returned (.slice (some ⟨g, 0, none⟩) n cap) ∧ Hid (IsBig w' g n cap A) ∧ Below W.heap.size W w'
theorem retG_mk {A g n cap : Nat} {W w' : World} (h : IsBig w' g n cap A) (hb : Below W.heap.size W w') : RetG A W (.returned (.slice (some ⟨g, 0, none⟩) n cap)) w' := ⟨g, n, cap, rfl, h, hb⟩
def cells32 (L : List Nat) : List Value := L.map fun (n : Nat) => Value.int .u32 (n : Int)
def OwnU (w : World) (base : Nat) (v : Value) (L : List Nat) : Prop := w.ownsRow base 36 1 v L.length (cells32 L) ∧ v ≠ .slice none 0 0
theorem own_lt {w : World} {base : Nat} {v : Value} {L : List Nat} (h : OwnU w base v L) : ∀ k, v.ownBlock = some k → base ≤ k ∧ k < w.heap.size := World.ownsRow.lt (w := w) h.1
theorem own_below {w w' : World} {base : Nat} {v : Value} {L : List Nat} (h : OwnU w base v L) (hb : Below w.heap.size w w') : OwnU w' base v L := by
  refine ⟨World.ownsRow.kept (w := w) h.1 (w' := w') (row := none) ⟨hb.os, hb.tape, hb.output, hb.size, fun k hk _ => hb.block k hk⟩ ?_, h.2⟩
  cases h' : v.ownBlock
  · exact .inl rfl
  · exact .inr (by simp)
theorem own_alloc {w : World} {base : Nat} {v : Value} {L : List Nat} (h : OwnU w base v L) (o : Obj) : OwnU (w.alloc o) base v L := ⟨World.ownsRow.alloc (w := w) h.1 o, h.2⟩
theorem own_form {w : World} {base : Nat} {v : Value} {L : List Nat} (h : OwnU w base v L) : ∃ g cap, v = .slice (some ⟨g, 0, none⟩) L.length cap ∧ L.length ≤ cap := by
  rcases h.1.2 with ⟨h1, _⟩ | ⟨g, cap, cur, h1, _, _, h2, _⟩
  · exact absurd h1 h.2
  · exact ⟨g, cap, h1, h2⟩
theorem own_built (w : World) (base n : Nat) (cs : Array Value) (L : List Nat) (hb : base ≤ w.heap.size) (hn : L.length = n) (hl : n ≤ 1000) (hc : cs = (cells32 L).toArray) : OwnU (w.alloc (Obj.cells cs 36)) base (.slice (some ⟨w.heap.size, 0, none⟩) n n) L := by
  subst hc hn
  have hcl : (cells32 L).length = L.length := by simp [cells32]
  refine ⟨⟨by rw [hcl]; omega, .inr ⟨w.heap.size, L.length, _, rfl, hb, heap_alloc_new w _, Nat.le_refl _, by simp only [maxLen]; omega, by rw [List.size_toArray, hcl]; omega, ?_⟩⟩, by simp⟩
  rw [Nat.mul_one, ← hcl]; simp
theorem info32 : (Try.prog.info? 36).map (fun i => (i.size, i.bytes, i.zero)) = some (1, 4, some (.int .u32 0)) := by kernel_rfl
theorem i32 : ∃ i, Try.prog.info? 36 = some i ∧ i.size = 1 ∧ i.bytes = 4 ∧ i.zero = some (.int .u32 0) := by
  have h := info32
  cases hi : Try.prog.info? 36 with
  | none => rw [hi] at h; exact absurd h (by simp)
  | some i =>
    rw [hi] at h
    simp only [Option.map_some, Option.some.injEq, Prod.mk.injEq] at h
    exact ⟨i, rfl, h.1, h.2.1, h.2.2⟩
theorem append_u {ops : Array Oper} {rest : List Oper} {o : Oper} {a : Act} {w : World} {Q : Exit → Act → World → Prop} (hgd : o.guard = none) (s x : Operand)
    (ho : o.op = .call { callee := .builtin .append, args := #[s, x], argTypes := #[60, 60] })
    (base : Nat) (v : Value) (L : List Nat) (hs : a.eval s = v) (hown : OwnU w base v L) (hL : L.length ≤ 1000)
    (n : Nat) (g : Nat) (hx : a.eval x = .slice (some ⟨g, 0, none⟩) 1 1) (hc : w.cell? ⟨g, 0, none⟩ = some (.int .u32 n)) (hbase : base ≤ w.heap.size)
    (h : ∀ v' w', OwnU w' base v' (L ++ [n]) → w.grownBy w' v.ownBlock → wpList Try.prog ops Q rest (a.put o.dst v') w') : wpList Try.prog ops Q (o :: rest) a w := by
  obtain ⟨i, hi, h1, h2, h3⟩ := i32
  refine wpList_append_own_at w hgd s x 60 ho base 36 i _ 1 4 Try.underlying60 hi h3 h1 h2 rfl (by decide) v L.length (cells32 L) hs hown.1 ⟨g, 0, none⟩ 1 1 [.int .u32 n] hx rfl ?_ (by intro u hu; simp at hu; subst hu; rfl) (by simp only [maxLen]; omega) (by omega) hbase ?_
  · intro j u hj
    match j, hj with
    | 0, hj => simp at hj; subst hj; simpa [Addr.add] using hc
  · intro v' w' q1 q2 q4 q3
    refine h v' w' ⟨?_, ?_⟩ q2
    · rw [List.length_append, show cells32 (L ++ [n]) = cells32 L ++ [.int .u32 n] by simp [cells32]]; exact q1
    · intro hc'
      exact hown.2 (q4.1 hc').1
theorem grown_below {w w' : World} {base : Nat} {v : Value} {L : List Nat} (h : OwnU w base v L) (hg : w.grownBy w' v.ownBlock) (hb : base ≤ w.heap.size) : Below base w w' :=
  Below.grown (Below.refl _ _) hg hb (fun k hk => (own_lt h k hk).1)
theorem grow_u {w wr W0 w' : World} {l : Value} {L : List Nat} (hbw : Below w.heap.size w wr) (h0 : Below wr.heap.size wr W0) (hL : OwnU wr w.heap.size l L) (q2 : W0.grownBy w' l.ownBlock) : Below w.heap.size w w' :=
  below_step (grown_below (own_below hL h0) q2 (by have := hbw.size; have := h0.size; omega)) (hbw.trans (h0.mono hbw.size)) (Nat.le_refl _)
/-- The first k digits. -/
def digs (k A : Nat) : List Nat := (List.range k).map (dg A)
theorem digs_len (k A : Nat) : (digs k A).length = k := by simp [digs]
theorem digs_succ (k A : Nat) : digs (k + 1) A = digs k A ++ [dg A k] := by simp [digs, List.range_succ]
theorem own_raw {w : World} {base : Nat} {v : Value} {k A : Nat} (h : OwnU w base v (digs k A)) (h0 : shd A k = 0) : ∃ g cap, v = .slice (some ⟨g, 0, none⟩) k cap ∧ IsRaw w g k cap A := by
  obtain ⟨g, cap, rfl, hc⟩ := own_form h
  rw [digs_len] at hc
  refine ⟨g, cap, by rw [digs_len], (own_lt h g rfl).2, hc, fun i hi => ?_, h0⟩
  rw [World.ownsRow.cellAt (w := w) h.1 i (by rw [digs_len]; omega)]
  simp [cells32, digs, hi]
set_option maxHeartbeats 1000000 in
theorem trim_c (g n cap A : Nat) (w : World) (h : Hid (IsRaw w g n cap A)) (hn : n ≤ 1000) :
    Calls Try.prog 97 #[.slice (some ⟨g, 0, none⟩) n cap] w (fun e w' => RetG A w e w' ∧ w' = w) := by
  go_enter Try.func97, Try.ntmps97
  go_wp2_with fail
  go_loopw [3] (fun i wr => ∃ k : Nat, k ≤ n ∧ i = .int .i64 k ∧ Hid (shd A k = 0) ∧ w = wr) (fun i _ => (intOf i).toNat)
  case atStart => exact ⟨n, Nat.le_refl _, rfl, h.out.2.2.2, rfl⟩
  case round =>
    obtain ⟨k, hk, rfl, hs, rfl⟩ := hrel
    have hcap : (k : Int) ≤ (cap : Int) := by have := h.out.2.1; omega
    by_cases h0 : k = 0
    · subst h0
      go_wp2_with fail
      go_ret
      exact ⟨retG_mk ⟨⟨h.out.1, Nat.zero_le _, fun i hi => absurd hi (by omega), hs.out⟩, .inl rfl⟩ (by repeat (first | (with_reducible first | exact Below.refl _ _ | assumption | exact Nat.le_refl _ | refine Below.drew ?_ | refine Below.alloc ?_ ?_ _ | refine Below.setCell ?_ ?_ _ | refine le_alloc ?_ | refine le_set ?_ | refine le_drew ?_ | refine below_step (by assumption) ?_ ?_ | refine le_below (by assumption) ?_) | (dsimp only; omega))), rfl⟩
    · obtain ⟨j, rfl⟩ : ∃ j, k = j + 1 := ⟨k - 1, by omega⟩
      have c1 := h.out.2.2.1 j (by omega)
      have hlt : (j : Int) < (n : Int) := by omega
      have hdg := dg_lt A j
      have HS : Hid (shd A j = dg A j) := by show _ = _; rw [shd_dg, hs.out]; omega
      have e1 : (((j + 1 : Nat) : Int)) = (j : Int) + 1 := by omega
      rw [e1] at *
      have e2 : (j : Int) + 1 - 1 = (j : Int) := by omega
      by_cases hd : dg A j = 0
      · have hd' : ((dg A j : Nat) : Int) = 0 := by omega
        rw [hd'] at c1
        have HZ : Hid (shd A j = 0) := by show _ = _; rw [HS.out]; exact hd
        clear hd hd' hdg HS
        go_wp2_with fail
        go_roundw
        case rel => exact ⟨j, by omega, by first | rfl | (congr 1; omega), HZ, by trivial⟩
        case measure => first | (simp [intOf]; done) | (simp [intOf]; omega)
      · have hd' : (((dg A j : Nat) : Int) == 0) = false := by rw [beq_eq_false_iff_ne]; omega
        have HB : Hid (IsBig w g (j + 1) cap A) := ⟨⟨h.out.1, by omega, fun i hi => h.out.2.2.1 i (by omega), hs.out⟩, .inr (by show shd A j ≠ 0; rw [HS.out]; exact hd)⟩
        clear hd HS
        go_wp2_with fail
        go_ret
        exact ⟨⟨g, j + 1, cap, by first | rfl | simp, HB, (by repeat (first | (with_reducible first | exact Below.refl _ _ | assumption | exact Nat.le_refl _ | refine Below.drew ?_ | refine Below.alloc ?_ ?_ _ | refine Below.setCell ?_ ?_ _ | refine le_alloc ?_ | refine le_set ?_ | refine le_drew ?_ | refine below_step (by assumption) ?_ ?_ | refine le_below (by assumption) ?_) | (dsimp only; omega)))⟩, rfl⟩
theorem retG_of {A : Nat} {W w' : World} {e : Ending} {W0 : World} (h : RetG A W0 e w') (hb : Below W.heap.size W W0) (hle : W.heap.size ≤ W0.heap.size) : RetG A W e w' := by
  obtain ⟨g, n, cap, he, hB, hb2⟩ := h
  exact ⟨g, n, cap, he, hB, hb.trans (hb2.mono hle)⟩
set_option maxHeartbeats 1000000 in
theorem ofInt_c (x : Nat) (hx : Hid (x < 18446744073709551616)) (w : World) :
    Calls Try.prog 58 #[.int .u64 x] w (RetG x w) := by
  have e1 : ((x : Int) % 4294967296) = ((dg x 0 : Nat) : Int) := by unfold dg; rw [shd_zero]; omega
  have e2 : ((x : Int) / 4294967296 % 4294967296) = ((dg x 1 : Nat) : Int) := by unfold dg; rw [shd_succ, shd_zero]; omega
  go_enter Try.func58, Try.ntmps58
  go_wp2_with fail
  refine (trim_c _ 2 2 x _ ?_ (by decide)).mono ?_
  · refine ⟨by rw [sz_alloc]; omega, by decide, fun i hi => ?_, ?_⟩
    · rw [World.cell?_alloc_at _ _ _ _ rfl]
      match i, hi with
      | 0, _ => simp [e1]
      | 1, _ => simp [e2]
    · have := hx.out; rw [shd_succ, shd_succ, shd_zero]; omega
  · rintro e w1 ⟨⟨g, n, cap, rfl, hB, hb⟩, rfl⟩
    go_wp2_with fail
    go_ret
    exact ⟨g, n, cap, rfl, hB, (by repeat (first | (with_reducible first | exact Below.refl _ _ | assumption | exact Nat.le_refl _ | refine Below.drew ?_ | refine Below.alloc ?_ ?_ _ | refine Below.setCell ?_ ?_ _ | refine le_alloc ?_ | refine le_set ?_ | refine le_drew ?_ | refine below_step (by assumption) ?_ ?_ | refine le_below (by assumption) ?_) | (dsimp only; omega)))⟩
/-- The carry of the first k digits. -/
def CarryN (A B k c : Nat) : Prop := shd (A + B) k = shd A k + shd B k + c ∧ c ≤ 1
theorem plus_step {A B k c : Nat} (h : CarryN A B k c) : dg (A + B) k = (c + dg A k + dg B k) % 4294967296 ∧ CarryN A B (k + 1) ((c + dg A k + dg B k) / 4294967296) := by
  have h1 := shd_dg A k; have h2 := shd_dg B k; have h3 := shd_dg (A + B) k
  have l1 := dg_lt A k; have l2 := dg_lt B k; have l3 := dg_lt (A + B) k
  obtain ⟨h4, h5⟩ := h
  unfold CarryN
  omega
theorem shd_plus_le {A B k : Nat} (h1 : shd A k = 0) (h2 : shd B k = 0) : shd (A + B) k ≤ 1 := by
  rw [shd_eq_zero] at h1 h2
  unfold shd
  have h3 := Nat.two_pow_pos (32 * k)
  have : (A + B) / 2 ^ (32 * k) < 2 := by rw [Nat.div_lt_iff_lt_mul h3]; omega
  omega
set_option maxHeartbeats 4000000 in
theorem bplus_c (ga na pa A gb nb pb B : Nat) (w : World) (ha : Hid (IsRaw w ga na pa A)) (hb : Hid (IsRaw w gb nb pb B)) (hna : na ≤ 900) (hnb : nb ≤ 900) :
    Calls Try.prog 92 #[.slice (some ⟨ga, 0, none⟩) na pa, .slice (some ⟨gb, 0, none⟩) nb pb] w (RetG (A + B) w) := by
  go_enter Try.func92, Try.ntmps92
  go_wp2_with fail
  go_loopw [5, 6, 7] (fun o y i wr => ∃ k c : Nat, k ≤ 901 ∧ i = .int .i64 k ∧ y = .int .u64 c ∧ Hid (CarryN A B k c) ∧ Hid (OwnU wr w.heap.size o (digs k (A + B))) ∧ Below w.heap.size w wr) (fun _ _ i _ => 901 - (intOf i).toNat)
  case atStart => exact ⟨0, 0, by decide, rfl, rfl, ⟨by rw [shd_zero, shd_zero, shd_zero]; rfl, by decide⟩, own_built w w.heap.size 0 _ [] (Nat.le_refl _) rfl (by decide) rfl, (by repeat (first | (with_reducible first | exact Below.refl _ _ | assumption | exact Nat.le_refl _ | refine Below.drew ?_ | refine Below.alloc ?_ ?_ _ | refine Below.setCell ?_ ?_ _ | refine le_alloc ?_ | refine le_set ?_ | refine le_drew ?_ | refine below_step (by assumption) ?_ ?_ | refine le_below (by assumption) ?_) | (dsimp only; omega)))⟩
  case round =>
    obtain ⟨k, c, hk, rfl, rfl, hc, hL, hbw⟩ := hrel
    have hc1 := hc.out.2
    by_cases hka : k < na
    · by_cases hkb : k < nb
      · have hkk : k ≤ 900 := by omega
        have hta : (k : Int) < (na : Int) := by omega
        have htb : (k : Int) < (nb : Int) := by omega
        have ca := (raw_below ha.out hbw (Nat.le_refl _)).2.2.1 k hka
        have la := dg_lt A k
        have cb := (raw_below hb.out hbw (Nat.le_refl _)).2.2.1 k hkb
        have lb := dg_lt B k
        have HN := plus_step (A := A) (B := B) (k := k) (c := c) hc.out
        have HS := Lib.hid HN.1; have HC := Lib.hid HN.2
        generalize dg A k = da at *
        generalize dg B k = db at *
        have hz := hbw.size
        have m1 : wrap64 ((k : Int) + 1) = (k : Int) + 1 := IntWalk.wrap64_in _ (by omega)
        clear HN hka hkb
        go_wp2_with (at_builtin; refine append_u rfl (.tmp 47) (.tmp 50) rfl w.heap.size u5 (digs k (A + B)) (by simp [Act.eval, Act.put]) (own_alloc hL.out _) (by rw [digs_len]; omega) (dg (A + B) k) wr.heap.size (by simp [Act.eval, Act.put]) (by rw [World.cell?_alloc_at _ _ _ _ rfl]; rw [HS.out]; first | (simp; done) | (simp; omega)) (by rw [sz_alloc]; omega) ?_; intro v' w' q1 q2)
        have r1 := grow_u hbw ((Below.refl wr.heap.size wr).alloc (Nat.le_refl _) _) hL.out q2
        have Q1 : Hid (OwnU w' w.heap.size v' (digs (k + 1) (A + B))) := by show OwnU _ _ _ _; rw [digs_succ]; exact q1
        clear q1 q2
        go_wp2_with fail
        go_roundw
        case rel => exact ⟨k + 1, (c + da + db) / 4294967296, by omega, by first | rfl | (congr 1; omega), by first | rfl | (congr 1; omega), HC, Q1, r1⟩
        case measure => first | (simp [intOf]; done) | (simp [intOf]; omega)
      · have hkk : k ≤ 900 := by omega
        have hta : (k : Int) < (na : Int) := by omega
        have htb : ¬ (k : Int) < (nb : Int) := by omega
        have ca := (raw_below ha.out hbw (Nat.le_refl _)).2.2.1 k hka
        have la := dg_lt A k
        have zb : dg B k = 0 := dg_zero (shd_mono0 hb.out.2.2.2 (by omega))
        have HN := plus_step (A := A) (B := B) (k := k) (c := c) hc.out
        rw [zb] at HN
        have HS := Lib.hid HN.1; have HC := Lib.hid HN.2
        generalize dg A k = da at *
        have hz := hbw.size
        have m1 : wrap64 ((k : Int) + 1) = (k : Int) + 1 := IntWalk.wrap64_in _ (by omega)
        clear HN hka hkb zb
        go_wp2_with (at_builtin; refine append_u rfl (.tmp 47) (.tmp 50) rfl w.heap.size u5 (digs k (A + B)) (by simp [Act.eval, Act.put]) (own_alloc hL.out _) (by rw [digs_len]; omega) (dg (A + B) k) wr.heap.size (by simp [Act.eval, Act.put]) (by rw [World.cell?_alloc_at _ _ _ _ rfl]; rw [HS.out]; first | (simp; done) | (simp; omega)) (by rw [sz_alloc]; omega) ?_; intro v' w' q1 q2)
        have r1 := grow_u hbw ((Below.refl wr.heap.size wr).alloc (Nat.le_refl _) _) hL.out q2
        have Q1 : Hid (OwnU w' w.heap.size v' (digs (k + 1) (A + B))) := by show OwnU _ _ _ _; rw [digs_succ]; exact q1
        clear q1 q2
        go_wp2_with fail
        go_roundw
        case rel => exact ⟨k + 1, (c + da + 0) / 4294967296, by omega, by first | rfl | (congr 1; omega), by first | rfl | (congr 1; omega), HC, Q1, r1⟩
        case measure => first | (simp [intOf]; done) | (simp [intOf]; omega)
    · by_cases hkb : k < nb
      · have hkk : k ≤ 900 := by omega
        have hta : ¬ (k : Int) < (na : Int) := by omega
        have htb : (k : Int) < (nb : Int) := by omega
        have za : dg A k = 0 := dg_zero (shd_mono0 ha.out.2.2.2 (by omega))
        have cb := (raw_below hb.out hbw (Nat.le_refl _)).2.2.1 k hkb
        have lb := dg_lt B k
        have HN := plus_step (A := A) (B := B) (k := k) (c := c) hc.out
        rw [za] at HN
        have HS := Lib.hid HN.1; have HC := Lib.hid HN.2
        generalize dg B k = db at *
        have hz := hbw.size
        have m1 : wrap64 ((k : Int) + 1) = (k : Int) + 1 := IntWalk.wrap64_in _ (by omega)
        clear HN hka hkb za
        go_wp2_with (at_builtin; refine append_u rfl (.tmp 47) (.tmp 50) rfl w.heap.size u5 (digs k (A + B)) (by simp [Act.eval, Act.put]) (own_alloc hL.out _) (by rw [digs_len]; omega) (dg (A + B) k) wr.heap.size (by simp [Act.eval, Act.put]) (by rw [World.cell?_alloc_at _ _ _ _ rfl]; rw [HS.out]; first | (simp; done) | (simp; omega)) (by rw [sz_alloc]; omega) ?_; intro v' w' q1 q2)
        have r1 := grow_u hbw ((Below.refl wr.heap.size wr).alloc (Nat.le_refl _) _) hL.out q2
        have Q1 : Hid (OwnU w' w.heap.size v' (digs (k + 1) (A + B))) := by show OwnU _ _ _ _; rw [digs_succ]; exact q1
        clear q1 q2
        go_wp2_with fail
        go_roundw
        case rel => exact ⟨k + 1, (c + 0 + db) / 4294967296, by omega, by first | rfl | (congr 1; omega), by first | rfl | (congr 1; omega), HC, Q1, r1⟩
        case measure => first | (simp [intOf]; done) | (simp [intOf]; omega)
      · by_cases hc0 : c = 0
        · subst hc0
          have hta : ¬ (k : Int) < (na : Int) := by omega
          have htb : ¬ (k : Int) < (nb : Int) := by omega
          have HZ : Hid (shd (A + B) k = 0) := by
            show _ = _
            have h1 := hc.out.1
            rw [shd_mono0 ha.out.2.2.2 (by omega), shd_mono0 hb.out.2.2.2 (by omega)] at h1
            exact h1
          obtain ⟨g, cap, hv, hR⟩ := own_raw hL.out HZ.out
          subst hv
          have HR := Lib.hid hR; clear hR
          clear hka hkb hc1 hc
          go_wp2_with fail
          refine (trim_c g k cap (A + B) _ HR (by omega)).mono ?_
          rintro e w1 ⟨⟨g1, n1, p1, rfl, hB1, hb1⟩, rfl⟩
          go_wp2_with fail
          go_ret
          exact ⟨g1, n1, p1, rfl, hB1, hbw⟩
        · obtain rfl : c = 1 := by omega
          have hkk : k ≤ 900 := by
            apply Classical.byContradiction
            intro hcc
            have h1 := hc.out.1
            have z1 := shd_mono0 ha.out.2.2.2 (show na ≤ k - 1 by omega)
            have z2 := shd_mono0 hb.out.2.2.2 (show nb ≤ k - 1 by omega)
            have z3 : shd (A + B) (k - 1) ≤ 1 := shd_plus_le z1 z2
            have z4 : shd (A + B) k = shd (A + B) (k - 1) / 4294967296 := by rw [← shd_succ]; congr 1; omega
            omega
          obtain ⟨c, hcc⟩ : ∃ c, c = 1 := ⟨_, rfl⟩
          rw [← hcc] at hc
          have hc1 : ((1 : Nat) : Int) = (c : Int) := by omega
          rw [hc1]
          have hc2 : (0 : Int) < (c : Int) := by omega
          have hc3 : c ≤ 1 := by omega
          clear hc1 hcc hc0
          have hta : ¬ (k : Int) < (na : Int) := by omega
          have htb : ¬ (k : Int) < (nb : Int) := by omega
          have za : dg A k = 0 := dg_zero (shd_mono0 ha.out.2.2.2 (by omega))
          have zb : dg B k = 0 := dg_zero (shd_mono0 hb.out.2.2.2 (by omega))
          have HN := plus_step (A := A) (B := B) (k := k) (c := c) hc.out
          rw [za] at HN
          rw [zb] at HN
          have HS := Lib.hid HN.1; have HC := Lib.hid HN.2
          have hz := hbw.size
          have m1 : wrap64 ((k : Int) + 1) = (k : Int) + 1 := IntWalk.wrap64_in _ (by omega)
          clear HN hka hkb za zb
          go_wp2_with (at_builtin; refine append_u rfl (.tmp 47) (.tmp 50) rfl w.heap.size u5 (digs k (A + B)) (by simp [Act.eval, Act.put]) (own_alloc hL.out _) (by rw [digs_len]; omega) (dg (A + B) k) wr.heap.size (by simp [Act.eval, Act.put]) (by rw [World.cell?_alloc_at _ _ _ _ rfl]; rw [HS.out]; first | (simp; done) | (simp; omega)) (by rw [sz_alloc]; omega) ?_; intro v' w' q1 q2)
          have r1 := grow_u hbw ((Below.refl wr.heap.size wr).alloc (Nat.le_refl _) _) hL.out q2
          have Q1 : Hid (OwnU w' w.heap.size v' (digs (k + 1) (A + B))) := by show OwnU _ _ _ _; rw [digs_succ]; exact q1
          clear q1 q2
          go_wp2_with fail
          go_roundw
          case rel => exact ⟨k + 1, (c + 0 + 0) / 4294967296, by omega, by first | rfl | (congr 1; omega), by first | rfl | (congr 1; omega), HC, Q1, r1⟩
          case measure => first | (simp [intOf]; done) | (simp [intOf]; omega)
/-- Are two digits one? -/
theorem less_step {A B k : Nat} (h : shd A (k + 1) = shd B (k + 1)) : (shd A k = shd B k ↔ dg A k = dg B k) ∧ (dg A k < dg B k → A < B) ∧ (dg B k < dg A k → B < A) := by
  have h1 := shd_dg A k; have h2 := shd_dg B k
  have key : ∀ X Y : Nat, shd X k < shd Y k → X < Y := fun X Y h => by
    apply Classical.byContradiction
    intro hc
    have := shd_le_of_le (show Y ≤ X by omega) k
    omega
  refine ⟨by omega, fun h => key _ _ (by omega), fun h => key _ _ (by omega)⟩
theorem less_len {w : World} {ga na pa A gb nb pb B : Nat} (ha : IsBig w ga na pa A) (hb : IsBig w gb nb pb B) (h : na < nb) : A < B := by
  apply Classical.byContradiction
  intro hc
  have h1 : shd A (nb - 1) = 0 := shd_mono0 ha.1.2.2.2 (by omega)
  have h2 := shd_le_of_le (show B ≤ A by omega) (nb - 1)
  rcases hb.2 with h3 | h3 <;> omega
set_option maxHeartbeats 4000000 in
theorem less_c (ga na pa A gb nb pb B : Nat) (w : World) (ha : Hid (IsBig w ga na pa A)) (hb : Hid (IsBig w gb nb pb B)) (hna : na ≤ 2000) (hnb : nb ≤ 2000) :
    Calls Try.prog 54 #[.slice (some ⟨ga, 0, none⟩) na pa, .slice (some ⟨gb, 0, none⟩) nb pb] w (RetB (decide (A < B)) w) := by
  by_cases hn : na = nb
  · subst hn
    go_enter Try.func54, Try.ntmps54
    go_wp2_with fail
    go_loopw [5] (fun i wr => ∃ k : Nat, k ≤ na ∧ Hid (i = .int .i64 ((k : Int) - 1)) ∧ Hid (shd A k = shd B k) ∧ Below w.heap.size w wr) (fun i _ => (intOf i + 1).toNat)
    case atStart => exact ⟨na, Nat.le_refl _, by show _ = _; rfl, by show _ = _; rw [ha.out.1.2.2.2, hb.out.1.2.2.2], (by repeat (first | (with_reducible first | exact Below.refl _ _ | assumption | exact Nat.le_refl _ | refine Below.drew ?_ | refine Below.alloc ?_ ?_ _ | refine Below.setCell ?_ ?_ _ | refine le_alloc ?_ | refine le_set ?_ | refine le_drew ?_ | refine below_step (by assumption) ?_ ?_ | refine le_below (by assumption) ?_) | (dsimp only; omega)))⟩
    case round =>
      obtain ⟨k, hk, hi, hs, hbw⟩ := hrel
      by_cases h0 : k = 0
      · subst h0
        have hi' := hi.out; subst hi'
        have E : Hid (decide (A < B) = false) := by
          show _ = _
          have := hs.out; rw [shd_zero, shd_zero] at this; subst this; simp
        go_wp2_with fail
        go_ret
        exact retB_mk E.out.symm hbw
      · obtain ⟨j, rfl⟩ : ∃ j, k = j + 1 := ⟨k - 1, by omega⟩
        have hi' := hi.out
        rw [show ((j + 1 : Nat) : Int) - 1 = (j : Int) by omega] at hi'
        subst hi'
        have hlt : (j : Int) < (na : Int) := by omega
        have hj0 : j < na := by omega
        have HL := less_step hs.out
        have ca := (raw_below ha.out.1 hbw (Nat.le_refl _)).2.2.1 j hj0
        have cb := (raw_below hb.out.1 hbw (Nat.le_refl _)).2.2.1 j hj0
        have la := dg_lt A j; have lb := dg_lt B j
        have H1 := Lib.hid HL.1; have H2 := Lib.hid HL.2.1; have H3 := Lib.hid HL.2.2
        have m1 : Hid (wrap64 ((j : Int) - 1) = (j : Int) - 1) := IntWalk.wrap64_in _ (by omega)
        generalize dg A j = da at *
        generalize dg B j = db at *
        clear HL hi hk h0
        by_cases hd : da = db
        · subst hd
          have HQ : Hid (shd A j = shd B j) := H1.out.2 rfl
          go_wp2_with fail
          go_quiet (fail)
          have hbq := below_drewN hbw nq
          go_wp2_with fail
          go_roundw
          case rel => exact ⟨j, by omega, by show _ = _; first | rfl | (congr 1; have := m1.out; omega), HQ, hbq⟩
          case measure => have := m1.out; first | (simp [intOf]; done) | (simp [intOf]; omega)
        · have hd' : ((da : Int) != (db : Int)) = true := by rw [bne_iff_ne]; omega
          have E : Hid (decide (A < B) = decide (da < db)) := by
            show _ = _
            rw [Bool.eq_iff_iff, decide_eq_true_eq, decide_eq_true_eq]
            rcases Nat.lt_or_gt_of_ne hd with h | h
            · have := H2.out h; omega
            · have := H3.out h; omega
          clear hd
          go_wp2_with fail
          go_quiet (fail)
          have hbq := below_drewN hbw nq
          have ca2 : (wr.drewN nq).cell? ⟨ga, j, none⟩ = some (.int .u32 da) := ca
          have cb2 : (wr.drewN nq).cell? ⟨gb, j, none⟩ = some (.int .u32 db) := cb
          generalize wr.drewN nq = wq at *
          go_wp2_with fail
          go_quiet (fail)
          have hbq2 := below_drewN hbq nq
          go_wp2_with fail
          go_ret
          exact retB_mk E.out.symm hbq2
  · have hb1 : ((na : Int) != (nb : Int)) = true := by rw [bne_iff_ne]; omega
    have E : Hid (decide (A < B) = decide (na < nb)) := by
      show _ = _
      rw [Bool.eq_iff_iff, decide_eq_true_eq, decide_eq_true_eq]
      rcases Nat.lt_or_gt_of_ne hn with h | h
      · have := less_len ha.out hb.out h; omega
      · have := less_len hb.out ha.out h; omega
    clear hn
    go_enter Try.func54, Try.ntmps54
    go_wp2_with fail
    go_ret
    exact retB_mk E.out.symm (by repeat (first | (with_reducible first | exact Below.refl _ _ | assumption | exact Nat.le_refl _ | refine Below.drew ?_ | refine Below.alloc ?_ ?_ _ | refine Below.setCell ?_ ?_ _ | refine le_alloc ?_ | refine le_set ?_ | refine le_drew ?_ | refine below_step (by assumption) ?_ ?_ | refine le_below (by assumption) ?_) | (dsimp only; omega)))
def BorrowN (A B k c : Nat) : Prop := shd (A - B) k + shd B k + c = shd A k ∧ c ≤ 1
theorem minus_step {A B k c : Nat} (hAB : B ≤ A) (h : BorrowN A B k c) : ((dg (A - B) k : Nat) : Int) = (if dg A k < c + dg B k then (dg A k : Int) - c - dg B k + 4294967296 else (dg A k : Int) - c - dg B k) ∧ BorrowN A B (k + 1) (if dg A k < c + dg B k then 1 else 0) := by
  have h1 := shd_dg A k; have h2 := shd_dg B k; have h3 := shd_dg (A - B) k
  have l1 := dg_lt A k; have l2 := dg_lt B k; have l3 := dg_lt (A - B) k
  obtain ⟨h4, h5⟩ := h
  unfold BorrowN
  split <;> refine ⟨by omega, by omega, by omega⟩
set_option maxHeartbeats 4000000 in
theorem bminus_c (ga na pa A gb nb pb B : Nat) (w : World) (ha : Hid (IsRaw w ga na pa A)) (hb : Hid (IsRaw w gb nb pb B)) (hAB : Hid (B ≤ A)) (hna : na ≤ 900) (hnb : nb ≤ 100000) :
    Calls Try.prog 87 #[.slice (some ⟨ga, 0, none⟩) na pa, .slice (some ⟨gb, 0, none⟩) nb pb] w (RetG (A - B) w) := by
  go_enter Try.func87, Try.ntmps87
  go_wp2_with fail
  go_loopw [5, 6, 7] (fun o y i wr => ∃ k c : Nat, k ≤ na ∧ i = .int .i64 k ∧ y = .int .i64 c ∧ Hid (BorrowN A B k c) ∧ Hid (OwnU wr w.heap.size o (digs k (A - B))) ∧ Below w.heap.size w wr) (fun _ _ i _ => na - (intOf i).toNat)
  case atStart => exact ⟨0, 0, Nat.zero_le _, rfl, rfl, ⟨by rw [shd_zero, shd_zero, shd_zero]; have := hAB.out; omega, by decide⟩, own_built w w.heap.size 0 _ [] (Nat.le_refl _) rfl (by decide) rfl, (by repeat (first | (with_reducible first | exact Below.refl _ _ | assumption | exact Nat.le_refl _ | refine Below.drew ?_ | refine Below.alloc ?_ ?_ _ | refine Below.setCell ?_ ?_ _ | refine le_alloc ?_ | refine le_set ?_ | refine le_drew ?_ | refine below_step (by assumption) ?_ ?_ | refine le_below (by assumption) ?_) | (dsimp only; omega)))⟩
  case round =>
    obtain ⟨k, c, hk, rfl, rfl, hc, hL, hbw⟩ := hrel
    have hc1 := hc.out.2
    by_cases hka : k < na
    · have hkk : k ≤ 900 := by omega
      by_cases hkb : k < nb
      · by_cases hd : dg A k < c + dg B k
        · skip
          have hta : (k : Int) < (na : Int) := by omega
          have htb : (k : Int) < (nb : Int) := by omega
          have ca := (raw_below ha.out hbw (Nat.le_refl _)).2.2.1 k hka
          have la := dg_lt A k
          have cb := (raw_below hb.out hbw (Nat.le_refl _)).2.2.1 k hkb
          have lb := dg_lt B k
          have HN := minus_step (A := A) (B := B) (k := k) (c := c) hAB.out hc.out
          have ld := dg_lt (A - B) k
          have HS := Lib.hid HN.1; have HC := Lib.hid HN.2
          obtain ⟨dd, hdd⟩ : ∃ dd, dd = dg (A - B) k := ⟨_, rfl⟩
          have HD : Hid (dg (A - B) k = dd) := hdd.symm
          rw [← hdd] at HS ld
          clear hdd
          generalize dg A k = da at *
          generalize dg B k = db at *
          have hdi : (da : Int) - (c : Int) - (db : Int) < 0 := by omega
          have HV : Hid (((da : Int) - (c : Int) - (db : Int)) + 4294967296 = (dd : Int)) := by show _ = _; have := HS.out; rw [if_pos hd] at this; omega
          have HW : Hid (BorrowN A B (k + 1) 1) := by show BorrowN _ _ _ _; have := HC.out; rw [if_pos hd] at this; exact this
          have hz := hbw.size
          have m1 : wrap64 ((k : Int) + 1) = (k : Int) + 1 := IntWalk.wrap64_in _ (by omega)
          clear HN HS HC hd hka hkb
          go_wp2_with (at_builtin; refine append_u rfl (.tmp 38) (.tmp 41) rfl w.heap.size u5 (digs k (A - B)) (by simp [Act.eval, Act.put]) (own_alloc hL.out _) (by rw [digs_len]; omega) dd wr.heap.size (by simp [Act.eval, Act.put]) (by rw [World.cell?_alloc_at _ _ _ _ rfl]; have := HV.out; first | (simp; omega) | (simp [this]; done) | (simp [this]; omega)) (by rw [sz_alloc]; omega) ?_; intro v' w' q1 q2)
          have r1 := grow_u hbw ((Below.refl wr.heap.size wr).alloc (Nat.le_refl _) _) hL.out q2
          have Q1 : Hid (OwnU w' w.heap.size v' (digs (k + 1) (A - B))) := by show OwnU _ _ _ _; rw [digs_succ, HD.out]; exact q1
          clear q1 q2
          go_wp2_with fail
          go_roundw
          case rel => exact ⟨k + 1, 1, by omega, by first | rfl | (congr 1; omega), by first | rfl | (congr 1; omega), HW, Q1, r1⟩
          case measure => first | (simp [intOf]; done) | (simp [intOf]; omega)
        · skip
          have hta : (k : Int) < (na : Int) := by omega
          have htb : (k : Int) < (nb : Int) := by omega
          have ca := (raw_below ha.out hbw (Nat.le_refl _)).2.2.1 k hka
          have la := dg_lt A k
          have cb := (raw_below hb.out hbw (Nat.le_refl _)).2.2.1 k hkb
          have lb := dg_lt B k
          have HN := minus_step (A := A) (B := B) (k := k) (c := c) hAB.out hc.out
          have ld := dg_lt (A - B) k
          have HS := Lib.hid HN.1; have HC := Lib.hid HN.2
          obtain ⟨dd, hdd⟩ : ∃ dd, dd = dg (A - B) k := ⟨_, rfl⟩
          have HD : Hid (dg (A - B) k = dd) := hdd.symm
          rw [← hdd] at HS ld
          clear hdd
          generalize dg A k = da at *
          generalize dg B k = db at *
          have hdi : ¬ (da : Int) - (c : Int) - (db : Int) < 0 := by omega
          have HV : Hid (((da : Int) - (c : Int) - (db : Int)) = (dd : Int)) := by show _ = _; have := HS.out; rw [if_neg hd] at this; omega
          have HW : Hid (BorrowN A B (k + 1) 0) := by show BorrowN _ _ _ _; have := HC.out; rw [if_neg hd] at this; exact this
          have hz := hbw.size
          have m1 : wrap64 ((k : Int) + 1) = (k : Int) + 1 := IntWalk.wrap64_in _ (by omega)
          clear HN HS HC hd hka hkb
          go_wp2_with (at_builtin; refine append_u rfl (.tmp 38) (.tmp 41) rfl w.heap.size u5 (digs k (A - B)) (by simp [Act.eval, Act.put]) (own_alloc hL.out _) (by rw [digs_len]; omega) dd wr.heap.size (by simp [Act.eval, Act.put]) (by rw [World.cell?_alloc_at _ _ _ _ rfl]; have := HV.out; first | (simp; omega) | (simp [this]; done) | (simp [this]; omega)) (by rw [sz_alloc]; omega) ?_; intro v' w' q1 q2)
          have r1 := grow_u hbw ((Below.refl wr.heap.size wr).alloc (Nat.le_refl _) _) hL.out q2
          have Q1 : Hid (OwnU w' w.heap.size v' (digs (k + 1) (A - B))) := by show OwnU _ _ _ _; rw [digs_succ, HD.out]; exact q1
          clear q1 q2
          go_wp2_with fail
          go_roundw
          case rel => exact ⟨k + 1, 0, by omega, by first | rfl | (congr 1; omega), by first | rfl | (congr 1; omega), HW, Q1, r1⟩
          case measure => first | (simp [intOf]; done) | (simp [intOf]; omega)
      · by_cases hd : dg A k < c + dg B k
        · skip
          have hta : (k : Int) < (na : Int) := by omega
          have htb : ¬ (k : Int) < (nb : Int) := by omega
          have ca := (raw_below ha.out hbw (Nat.le_refl _)).2.2.1 k hka
          have la := dg_lt A k
          have zb : dg B k = 0 := dg_zero (shd_mono0 hb.out.2.2.2 (by omega))
          have HN := minus_step (A := A) (B := B) (k := k) (c := c) hAB.out hc.out
          rw [zb] at HN hd
          have ld := dg_lt (A - B) k
          have HS := Lib.hid HN.1; have HC := Lib.hid HN.2
          obtain ⟨dd, hdd⟩ : ∃ dd, dd = dg (A - B) k := ⟨_, rfl⟩
          have HD : Hid (dg (A - B) k = dd) := hdd.symm
          rw [← hdd] at HS ld
          clear hdd
          generalize dg A k = da at *
          have hdi : (da : Int) - (c : Int) < 0 := by omega
          have HV : Hid (((da : Int) - (c : Int)) + 4294967296 = (dd : Int)) := by show _ = _; have := HS.out; rw [if_pos hd] at this; omega
          have HW : Hid (BorrowN A B (k + 1) 1) := by show BorrowN _ _ _ _; have := HC.out; rw [if_pos hd] at this; exact this
          have hz := hbw.size
          have m1 : wrap64 ((k : Int) + 1) = (k : Int) + 1 := IntWalk.wrap64_in _ (by omega)
          clear HN HS HC hd hka hkb zb
          go_wp2_with (at_builtin; refine append_u rfl (.tmp 38) (.tmp 41) rfl w.heap.size u5 (digs k (A - B)) (by simp [Act.eval, Act.put]) (own_alloc hL.out _) (by rw [digs_len]; omega) dd wr.heap.size (by simp [Act.eval, Act.put]) (by rw [World.cell?_alloc_at _ _ _ _ rfl]; have := HV.out; first | (simp; omega) | (simp [this]; done) | (simp [this]; omega)) (by rw [sz_alloc]; omega) ?_; intro v' w' q1 q2)
          have r1 := grow_u hbw ((Below.refl wr.heap.size wr).alloc (Nat.le_refl _) _) hL.out q2
          have Q1 : Hid (OwnU w' w.heap.size v' (digs (k + 1) (A - B))) := by show OwnU _ _ _ _; rw [digs_succ, HD.out]; exact q1
          clear q1 q2
          go_wp2_with fail
          go_roundw
          case rel => exact ⟨k + 1, 1, by omega, by first | rfl | (congr 1; omega), by first | rfl | (congr 1; omega), HW, Q1, r1⟩
          case measure => first | (simp [intOf]; done) | (simp [intOf]; omega)
        · skip
          have hta : (k : Int) < (na : Int) := by omega
          have htb : ¬ (k : Int) < (nb : Int) := by omega
          have ca := (raw_below ha.out hbw (Nat.le_refl _)).2.2.1 k hka
          have la := dg_lt A k
          have zb : dg B k = 0 := dg_zero (shd_mono0 hb.out.2.2.2 (by omega))
          have HN := minus_step (A := A) (B := B) (k := k) (c := c) hAB.out hc.out
          rw [zb] at HN hd
          have ld := dg_lt (A - B) k
          have HS := Lib.hid HN.1; have HC := Lib.hid HN.2
          obtain ⟨dd, hdd⟩ : ∃ dd, dd = dg (A - B) k := ⟨_, rfl⟩
          have HD : Hid (dg (A - B) k = dd) := hdd.symm
          rw [← hdd] at HS ld
          clear hdd
          generalize dg A k = da at *
          have hdi : ¬ (da : Int) - (c : Int) < 0 := by omega
          have HV : Hid (((da : Int) - (c : Int)) = (dd : Int)) := by show _ = _; have := HS.out; rw [if_neg hd] at this; omega
          have HW : Hid (BorrowN A B (k + 1) 0) := by show BorrowN _ _ _ _; have := HC.out; rw [if_neg hd] at this; exact this
          have hz := hbw.size
          have m1 : wrap64 ((k : Int) + 1) = (k : Int) + 1 := IntWalk.wrap64_in _ (by omega)
          clear HN HS HC hd hka hkb zb
          go_wp2_with (at_builtin; refine append_u rfl (.tmp 38) (.tmp 41) rfl w.heap.size u5 (digs k (A - B)) (by simp [Act.eval, Act.put]) (own_alloc hL.out _) (by rw [digs_len]; omega) dd wr.heap.size (by simp [Act.eval, Act.put]) (by rw [World.cell?_alloc_at _ _ _ _ rfl]; have := HV.out; first | (simp; omega) | (simp [this]; done) | (simp [this]; omega)) (by rw [sz_alloc]; omega) ?_; intro v' w' q1 q2)
          have r1 := grow_u hbw ((Below.refl wr.heap.size wr).alloc (Nat.le_refl _) _) hL.out q2
          have Q1 : Hid (OwnU w' w.heap.size v' (digs (k + 1) (A - B))) := by show OwnU _ _ _ _; rw [digs_succ, HD.out]; exact q1
          clear q1 q2
          go_wp2_with fail
          go_roundw
          case rel => exact ⟨k + 1, 0, by omega, by first | rfl | (congr 1; omega), by first | rfl | (congr 1; omega), HW, Q1, r1⟩
          case measure => first | (simp [intOf]; done) | (simp [intOf]; omega)
    · have hta : ¬ (k : Int) < (na : Int) := by omega
      obtain rfl : k = na := by omega
      have HZ : Hid (shd (A - B) k = 0) := by
        show _ = _
        have h1 := hc.out.1
        rw [ha.out.2.2.2] at h1
        omega
      obtain ⟨g, cap, hv, hR⟩ := own_raw hL.out HZ.out
      subst hv
      have HR := Lib.hid hR; clear hR
      clear hka hc1 hc
      go_wp2_with fail
      refine (trim_c g k cap (A - B) _ HR (by omega)).mono ?_
      rintro e w1 ⟨⟨g1, n1, p1, rfl, hB1, hb1⟩, rfl⟩
      go_wp2_with fail
      go_ret
      exact ⟨g1, n1, p1, rfl, hB1, hbw⟩
theorem or_eq_add (a b r : Nat) (h : a < 2 ^ r) : a ||| b * 2 ^ r = a + b * 2 ^ r := by
  rw [Nat.or_comm, Nat.mul_comm b, ← Nat.two_pow_add_eq_or_of_lt h, Nat.add_comm]
theorem shd_bit (A q r : Nat) (hr : r < 32) : A / 2 ^ (32 * q + r) % 2 = dg A q / 2 ^ r % 2 := by
  unfold dg shd
  rw [Nat.pow_add, ← Nat.div_div_eq_div_mul]
  generalize A / 2 ^ (32 * q) = X
  rw [show (4294967296 : Nat) = 2 ^ 32 from rfl]
  have h := Nat.testBit_mod_two_pow X 32 r
  rw [Nat.testBit_eq_decide_div_mod_eq, Nat.testBit_eq_decide_div_mod_eq] at h
  have h1 := Nat.mod_two_eq_zero_or_one (X / 2 ^ r)
  have h2 := Nat.mod_two_eq_zero_or_one (X % 2 ^ 32 / 2 ^ r)
  simp only [hr, decide_true, Bool.true_and, decide_eq_decide] at h
  omega
theorem quo32 (n q r : Nat) (h : n = 32 * q + r) (hr : r < 32) : (n : Int).tdiv 32 = (q : Int) ∧ (n : Int).tmod 32 = (r : Int) ∧ (n : Int) / 32 = (q : Int) ∧ (n : Int) % 32 = (r : Int) := by
  refine ⟨?_, ?_, by omega, by omega⟩
  · rw [Int.tdiv_eq_ediv_of_nonneg (by omega)]; omega
  · rw [Int.tmod_eq_emod_of_nonneg (by omega)]; omega
theorem bit_num {d r : Nat} (hd : d < 4294967296) : wrap64 (bits BinOp.and IntKind.u32 ((d : Int) / 2 ^ r) 1) = ((d / 2 ^ r % 2 : Nat) : Int) := by
  have h : d / 2 ^ r < 4294967296 := Nat.lt_of_le_of_lt (Nat.div_le_self _ _) hd
  rw [div_shr, show (1 : Int) = ((1 : Nat) : Int) from rfl, u32_and_nat _ _ h (by decide), nat_mask1]
  exact IntWalk.wrap64_in _ (by omega)
def bitN (A b : Nat) : Nat := A / 2 ^ b % 2
def RetI0 (n : Int) (W : World) (e : Ending) (w' : World) : Prop := e = .returned (.int .i64 n) ∧ w' = W
theorem retI0_mk {a b : Int} {W : World} (h : a = b) : RetI0 b W (.returned (.int .i64 a)) W := ⟨by rw [h], rfl⟩
set_option maxHeartbeats 1000000 in
theorem bit_c (g n cap A : Nat) (b : Nat) (w : World) (h : Hid (IsRaw w g n cap A)) (hb : b ≤ 1000000) (hn : n ≤ 100000) :
    Calls Try.prog 91 #[.slice (some ⟨g, 0, none⟩) n cap, .int .i64 b] w (RetI0 (bitN A b) w) := by
  obtain ⟨q, r, hqr, hr⟩ : ∃ q r, b = 32 * q + r ∧ r < 32 := ⟨b / 32, b % 32, by omega, by omega⟩
  obtain ⟨e1, e2, e3, e4⟩ := quo32 b q r hqr hr
  have HB : Hid (bitN A b = dg A q / 2 ^ r % 2) := by show _ = _; rw [hqr]; exact shd_bit A q r hr
  have hnn : ¬ (b : Int) < 0 := by omega
  by_cases hq : n ≤ q
  · have hq' : (n : Int) ≤ (q : Int) := by omega
    have HZ : Hid (bitN A b = 0) := by show _ = _; rw [HB.out, dg_zero (shd_mono0 h.out.2.2.2 hq)]; simp
    clear hqr hq HB
    go_enter Try.func91, Try.ntmps91
    go_wp2_with fail
    go_ret
    exact retI0_mk (by rw [HZ.out]; rfl)
  · have hq' : ¬ (n : Int) ≤ (q : Int) := by omega
    have hq2 : (q : Int) < (n : Int) := by omega
    have c1 := h.out.2.2.1 q (by omega)
    have hr' : (r : Int) < 32 := by omega
    have hr2 : (r : Int) ≤ 32 := by omega
    have ld := dg_lt A q
    generalize dg A q = d at *
    clear hqr hq
    go_enter Try.func91, Try.ntmps91
    go_wp2_with fail
    go_ret
    exact retI0_mk (by rw [HB.out]; exact bit_num ld)
theorem make_u {ops : Array Oper} {rest : List Oper} {o : Oper} {a : Act} {w : World} {Q : Exit → Act → World → Prop} (hgd : o.guard = none) (l c : Operand)
    (ho : o.op = Op.makeSlice 60 l c) (base n : Nat) (L C : Int) (hl : a.eval l = .int .i64 L) (hc : a.eval c = .int .i64 C) (hL : L = (n : Int)) (hC : C = (n : Int)) (hn : n ≤ 1000) (hb : base ≤ w.heap.size)
    (h : ∀ w', OwnU w' base (.slice (some ⟨w.heap.size, 0, none⟩) n n) (List.replicate n 0) → Below base w w' → w.heap.size < w'.heap.size → wpList Try.prog ops Q rest (a.put o.dst (.slice (some ⟨w.heap.size, 0, none⟩) n n)) w') : wpList Try.prog ops Q (o :: rest) a w := by
  obtain ⟨i, hi, h1, h2, h3⟩ := i32
  refine wpList_make_full w hgd l c 60 ho base 36 i _ 1 Try.underlying60 hi h3 h1 .i64 .i64 L C n hl hc hL hC (by rw [h2]; omega) (by simp only [maxLen]; omega) hb ?_
  intro w' q1 q2
  have e : (madeCells (Value.int .u32 0).cells (n * 1)).toList = cells32 (List.replicate n 0) := by
    rw [Nat.mul_one]
    show (madeCells #[Value.int .u32 0] n).toList = _
    rw [toList_madeCells_one, cells32, List.map_replicate]; rfl
  rw [e] at q1
  have hg := q1.lt
  have hO : OwnU w' base (.slice (some ⟨w.heap.size, 0, none⟩) n n) (List.replicate n 0) := ⟨by rw [List.length_replicate]; exact q1, by simp⟩
  exact h w' hO (Below.grown (Below.refl _ _) q2 hb (fun k hk => by simp at hk)) (hg w.heap.size rfl).2
theorem zeros_digs {A q : Nat} (h : A % 2 ^ (32 * q) = 0) : List.replicate q 0 = digs q A := by
  apply List.ext_getElem
  · simp [digs]
  · intro i h1 h2
    have hi : i < q := by simpa using h1
    simp only [List.getElem_replicate, digs, List.getElem_map, List.getElem_range]
    unfold dg shd
    rw [show (4294967296 : Nat) = 2 ^ 32 from rfl, ← Nat.mod_mul_right_div_self, ← Nat.pow_add, ← Nat.mod_mod_of_dvd A (Nat.pow_dvd_pow 2 (show 32 * i + 32 ≤ 32 * q by omega)), h]; simp
/-- The carry of a shift. -/
def UpC (A r k c : Nat) : Prop := shd (A * 2 ^ r) k = shd A k * 2 ^ r + c ∧ c < 2 ^ r
theorem up_step {A r k c : Nat} (hr : r < 32) (h : UpC A r k c) : dg (A * 2 ^ r) k = (c + dg A k * 2 ^ r) % 4294967296 ∧ UpC A r (k + 1) ((c + dg A k * 2 ^ r) / 4294967296) := by
  obtain ⟨h1, h2⟩ := h
  have e1 : shd (A * 2 ^ r) k = 4294967296 * (shd A (k + 1) * 2 ^ r) + (c + dg A k * 2 ^ r) := by
    rw [h1, shd_dg A k, Nat.add_mul, Nat.mul_assoc]; omega
  have hd := dg_lt A k
  have e2 : dg A k * 2 ^ r + 2 ^ r ≤ 4294967296 * 2 ^ r := by
    have := Nat.mul_le_mul_right (2 ^ r) (show dg A k + 1 ≤ 4294967296 by omega)
    rw [Nat.add_mul, Nat.one_mul] at this; exact this
  unfold UpC
  refine ⟨?_, ?_, ?_⟩
  · unfold dg at e1 ⊢; rw [e1, Nat.mul_add_mod]
  · rw [shd_succ, e1]; omega
  · rw [Nat.div_lt_iff_lt_mul (by decide)]; omega
theorem up_place (A q r k : Nat) : dg (A * 2 ^ (32 * q + r)) (q + k) = dg (A * 2 ^ r) k ∧ shd (A * 2 ^ (32 * q + r)) (q + k) = shd (A * 2 ^ r) k := by
  have : shd (A * 2 ^ (32 * q + r)) (q + k) = shd (A * 2 ^ r) k := by
    unfold shd
    rw [Nat.pow_add, Nat.mul_comm (2 ^ (32 * q)), ← Nat.mul_assoc, show 32 * (q + k) = 32 * k + 32 * q by omega, Nat.pow_add, Nat.mul_div_mul_right _ _ (Nat.two_pow_pos _)]
  exact ⟨by unfold dg; rw [this], this⟩
theorem big_zero' {w : World} {g cap A : Nat} (h : IsRaw w g 0 cap A) : A = 0 := by have := h.2.2.2; rwa [shd_zero] at this
theorem up_or {c d r : Nat} (h : c < 2 ^ r) : c ||| (d * 2 ^ r) = c + d * 2 ^ r := or_eq_add c d r h
theorem up_num {c d r : Nat} (hr : r < 32) (hc : c < 2 ^ r) (hd : d < 4294967296) : bits .or .u64 (c : Int) (IntKind.u64.wrap ((d : Int) * 2 ^ r)) = ((c + d * 2 ^ r : Nat) : Int) := by
  have h1 : 2 ^ r ≤ 2 ^ 31 := Nat.pow_le_pow_right (by decide) (by omega)
  have h2 : d * 2 ^ r ≤ 4294967296 * 2 ^ 31 := Nat.mul_le_mul (by omega) h1
  rw [wrap_shl, Nat.mod_eq_of_lt (by omega), bits_or_u64_nat _ _ (by omega) (by omega), up_or hc]
set_option maxHeartbeats 4000000 in
theorem up_c (g n cap A s : Nat) (w : World) (h : Hid (IsRaw w g n cap A)) (hs : s ≤ 20000) (hn : n ≤ 200) :
    Calls Try.prog 88 #[.slice (some ⟨g, 0, none⟩) n cap, .int .i64 s] w (RetG (A * 2 ^ s) w) := by
  by_cases h0 : n = 0
  · subst h0
    have hA : Hid (A * 2 ^ s = 0) := by show _ = _; rw [big_zero' h.out]; simp
    go_enter Try.func88, Try.ntmps88
    go_wp2_with fail
    go_ret
    exact retG_mk (by rw [hA.out]; have := big_zero' h.out; subst this; exact ⟨h.out, .inl rfl⟩) (by repeat (first | (with_reducible first | exact Below.refl _ _ | assumption | exact Nat.le_refl _ | refine Below.drew ?_ | refine Below.alloc ?_ ?_ _ | refine Below.setCell ?_ ?_ _ | refine le_alloc ?_ | refine le_set ?_ | refine le_drew ?_ | refine below_step (by assumption) ?_ ?_ | refine le_below (by assumption) ?_) | (dsimp only; omega)))
  · obtain ⟨q, r, hqr, hr⟩ : ∃ q r, s = 32 * q + r ∧ r < 32 := ⟨s / 32, s % 32, by omega, by omega⟩
    obtain ⟨e1, e2, e3, e4⟩ := quo32 s q r hqr hr
    have hn0 : ((n : Int) == 0) = false := by rw [beq_eq_false_iff_ne]; omega
    have hr1 : (r : Int) < 32 := by omega
    have HR : Hid (r < 32) := hr
    have hq : q ≤ 625 := by omega
    have HS : Hid (A * 2 ^ s = A * 2 ^ (32 * q + r)) := by show _ = _; rw [hqr]
    have HZ : Hid (List.replicate q 0 = digs (q + 0) (A * 2 ^ (32 * q + r))) := zeros_digs (by rw [Nat.pow_add, Nat.mul_comm (2 ^ (32 * q)), ← Nat.mul_assoc]; exact Nat.mul_mod_left _ _)
    clear h0 hqr hr
    go_enter Try.func88, Try.ntmps88
    go_wp2_with (refine make_u rfl (.tmp 13) (.tmp 13) rfl w.heap.size q _ _ rfl rfl (by first | rfl | omega) (by first | rfl | omega) (by omega) (Nat.le_refl _) ?_; intro w1 q1 q2 q3)
    have Q0 : Hid (OwnU w1 w.heap.size (.slice (some ⟨w.heap.size, 0, none⟩) q q) (digs (q + 0) (A * 2 ^ (32 * q + r)))) := by show OwnU _ _ _ _; rw [← HZ.out]; exact q1
    clear q1
    go_wp2_with fail
    go_loopw [5, 6, 7] (fun o y i wr => ∃ k c : Nat, k ≤ n ∧ i = .int .i64 k ∧ y = .int .u64 c ∧ Hid (UpC A r k c) ∧ Hid (OwnU wr w.heap.size o (digs (q + k) (A * 2 ^ (32 * q + r)))) ∧ Below w.heap.size w wr) (fun _ _ i _ => n - (intOf i).toNat)
    case atStart => exact ⟨0, 0, Nat.zero_le _, rfl, rfl, ⟨by simp [shd_zero], Nat.two_pow_pos r⟩, Q0, q2⟩
    case round =>
      clear q2 q3 Q0
      obtain ⟨k, c, hk, rfl, rfl, hc, hL, hbw⟩ := hrel
      have hz := hbw.size
      by_cases hkn : k < n
      · have hkn' : (k : Int) < (n : Int) := by omega
        have ca := (raw_below h.out hbw (Nat.le_refl _)).2.2.1 k hkn
        have la := dg_lt A k
        have HN := up_step HR.out hc.out
        have HU := up_num HR.out hc.out.2 la
        have HP := up_place A q r k
        rw [HN.1] at HP
        have HS1 := Lib.hid HP.1; have HC := Lib.hid HN.2; have HU' := Lib.hid HU
        generalize dg A k = da at *
        obtain ⟨t, ht⟩ : ∃ t, t = c + da * 2 ^ r := ⟨_, rfl⟩
        rw [← ht] at HS1 HC HU'
        clear ht
        have m1 : wrap64 ((k : Int) + 1) = (k : Int) + 1 := IntWalk.wrap64_in _ (by omega)
        clear HN HP HU hkn
        go_upto_region 9 with fail
        rw [HU'.out]
        clear HU' e1 e2 e3 e4 hr1 ca la
        go_wp2_with (at_builtin; refine append_u rfl (.tmp 31) (.tmp 34) rfl w.heap.size u5 (digs (q + k) (A * 2 ^ (32 * q + r))) (by simp [Act.eval, Act.put]) (own_alloc hL.out _) (by rw [digs_len]; omega) (dg (A * 2 ^ (32 * q + r)) (q + k)) wr.heap.size (by simp [Act.eval, Act.put]) (by rw [World.cell?_alloc_at _ _ _ _ rfl]; rw [HS1.out]; first | (simp; done) | (simp; omega)) (by rw [sz_alloc]; omega) ?_; intro v' w' q1 q2)
        have r1 := grow_u hbw ((Below.refl wr.heap.size wr).alloc (Nat.le_refl _) _) hL.out q2
        have Q1 : Hid (OwnU w' w.heap.size v' (digs (q + (k + 1)) (A * 2 ^ (32 * q + r)))) := by show OwnU _ _ _ _; rw [← Nat.add_assoc, digs_succ]; exact q1
        clear q1 q2
        go_wp2_with fail
        go_roundw
        case rel => exact ⟨k + 1, t / 4294967296, by omega, by first | rfl | (congr 1; omega), by first | rfl | (congr 1; omega) | simp, HC, Q1, r1⟩
        case measure => first | (simp [intOf]; done) | (simp [intOf]; omega)
      · obtain rfl : k = n := by omega
        have hkn' : ¬ (k : Int) < (k : Int) := by omega
        have HP := up_place A q r k
        have hz1 := h.out.2.2.2
        have HE : shd (A * 2 ^ r) k = c := by have := hc.out.1; rw [hz1, Nat.zero_mul, Nat.zero_add] at this; exact this
        have hcl : c < 4294967296 := Nat.lt_of_lt_of_le hc.out.2 (Nat.le_trans (Nat.pow_le_pow_right (by decide) (Nat.le_of_lt HR.out)) (by decide : 2 ^ 32 ≤ 4294967296))
        have HD : Hid (dg (A * 2 ^ (32 * q + r)) (q + k) = c) := by show _ = _; rw [HP.1]; unfold dg; rw [HE, Nat.mod_eq_of_lt hcl]
        have HZ1 : Hid (shd (A * 2 ^ (32 * q + r)) (q + k + 1) = 0) := by show _ = _; rw [shd_succ, HP.2, HE, Nat.div_eq_of_lt hcl]
        clear HE HP hz1 hkn
        go_wp2_with (at_builtin; refine append_u rfl (.tmp 38) (.tmp 41) rfl w.heap.size u5 (digs (q + k) (A * 2 ^ (32 * q + r))) (by simp [Act.eval, Act.put]) (own_alloc hL.out _) (by rw [digs_len]; omega) (dg (A * 2 ^ (32 * q + r)) (q + k)) wr.heap.size (by simp [Act.eval, Act.put]) (by rw [World.cell?_alloc_at _ _ _ _ rfl]; rw [HD.out]; first | (simp; done) | (simp; omega)) (by rw [sz_alloc]; omega) ?_; intro v' w' q1 q2)
        have r1 := grow_u hbw ((Below.refl wr.heap.size wr).alloc (Nat.le_refl _) _) hL.out q2
        rw [← digs_succ] at q1
        obtain ⟨g2, cap2, hv, hR⟩ := own_raw q1 HZ1.out
        subst hv
        have HRw := Lib.hid hR; clear hR q1 q2
        go_wp2_with fail
        refine (trim_c g2 (q + k + 1) cap2 (A * 2 ^ (32 * q + r)) _ HRw (by omega)).mono ?_
        rintro e w2 ⟨⟨g1, n1, p1, rfl, hB1, hb1⟩, rfl⟩
        go_wp2_with fail
        go_ret
        exact ⟨g1, n1, p1, rfl, by rw [HS.out]; exact hB1, r1⟩
end Go.Proofs.Yteinjalnkhfecaa.Q
