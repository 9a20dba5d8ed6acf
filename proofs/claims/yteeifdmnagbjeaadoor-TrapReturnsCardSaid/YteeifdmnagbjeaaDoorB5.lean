/- The order of the interrupts in memory; lay, first. -/
import Derived.Test.YteeifdmnagbjeaaDoorB4
import Derived.LoopTactic
import Derived.Deep.LoopGhost
namespace Go.Proofs.YteeifdmnagbjeaaDoor
open Go.ChangeShapes Go.WideShapes Go.ChangeAt Go.RowKit Go.Sort Y
set_option linter.unusedVariables false
set_option linter.unusedSimpArgs false

/-- The package's variable. -/
def ordC : Array Value := #[.int .u64 11, .int .u64 3, .int .u64 7, .int .u64 9, .int .u64 1, .int .u64 5]
def G (w : World) : Prop := ∃ t fr, w.heap[0]? = some (.cells ordC t fr)
theorem g_lt {w : World} (h : G w) : 0 < w.heap.size := by
  obtain ⟨t, fr, h⟩ := h
  apply Nat.lt_of_not_le
  intro hn
  rw [Array.getElem?_eq_none hn] at h; cases h
theorem g_below {B : Nat} {w w' : World} (h : G w) (hb : Below B w w') (hB : 1 ≤ B) : G w' := by
  obtain ⟨t, fr, h⟩ := h
  exact ⟨t, fr, by rw [hb.block 0 hB]; exact h⟩
theorem g_alloc {w : World} (h : G w) (o : Obj) : G (w.alloc o) := g_below h ((Below.refl w.heap.size w).alloc (Nat.le_refl _) o) (g_lt h)
theorem g_setRow {w : World} (h : G w) (b : Nat) (hb : b ≠ 0) (cs : Array Value) : G (w.setRow b cs) := g_below (B := 1) h (below_setRow (Below.refl _ _) (by omega) cs) (Nat.le_refl _)
theorem g_grown {w w' : World} {k : Nat} (h : G w) (hg : w.grownBy w' (some k)) (hk : k ≠ 0) : G w' := by
  have hl := g_lt h
  obtain ⟨t, fr, h⟩ := h
  exact ⟨t, fr, by rw [hg.block 0 hl (fun e => hk (Option.some.inj e).symm)]; exact h⟩
/-- Twelve ranks. -/
def r12 (f : Nat → Nat) : Array Value := #[.int .u64 (f 0 : Nat), .int .u64 (f 1 : Nat), .int .u64 (f 2 : Nat), .int .u64 (f 3 : Nat), .int .u64 (f 4 : Nat), .int .u64 (f 5 : Nat), .int .u64 (f 6 : Nat), .int .u64 (f 7 : Nat), .int .u64 (f 8 : Nat), .int .u64 (f 9 : Nat), .int .u64 (f 10 : Nat), .int .u64 (f 11 : Nat)]
theorem r12_size (f : Nat → Nat) : (r12 f).size = 12 := rfl
theorem k12 {k : Nat} (h : k < 12) : k = 0 ∨ k = 1 ∨ k = 2 ∨ k = 3 ∨ k = 4 ∨ k = 5 ∨ k = 6 ∨ k = 7 ∨ k = 8 ∨ k = 9 ∨ k = 10 ∨ k = 11 := by omega
theorem r12_at (f : Nat → Nat) (n : Nat) (hn : n < 12) : (r12 f)[n]? = some (.int .u64 (f n : Nat)) := by
  rcases k12 hn with rfl | rfl | rfl | rfl | rfl | rfl | rfl | rfl | rfl | rfl | rfl | rfl <;> rfl
theorem r12_set (f : Nat → Nat) (n v : Nat) (hn : n < 12) : (r12 f).setIfInBounds n (.int .u64 (v : Nat)) = r12 (setN f n v) := by
  rcases k12 hn with rfl | rfl | rfl | rfl | rfl | rfl | rfl | rfl | rfl | rfl | rfl | rfl <;> rfl
def ordN (k : Nat) : Nat := bif k == 0 then 11 else bif k == 1 then 3 else bif k == 2 then 7 else bif k == 3 then 9 else bif k == 4 then 1 else 5
/-- The ranks behind n rounds of lay. -/
def layN (f : Nat → Nat) (bg b : Nat) : Nat → Nat → Nat
  | 0 => f
  | n + 1 => bif b.testBit (ordN n) then setN (layN f bg b n) (bg + n) (9223372036854775808 + ordN n) else layN f bg b n
def RetL (k : Nat) (f : Nat → Nat) (W : World) (e : Ending) (w' : World) : Prop := e = .returned (.tuple #[]) ∧ Row w' k 54 (r12 f) ∧ W.grownBy w' (some k)
theorem grown_refl (w : World) (r : Option Nat) : w.grownBy w r := ⟨rfl, rfl, rfl, Nat.le_refl _, fun _ _ _ => rfl⟩
theorem grown_trans {a b c : World} {r : Option Nat} (h : a.grownBy b r) (k : b.grownBy c r) : a.grownBy c r :=
  ⟨k.os.trans h.os, k.tape.trans h.tape, k.output.trans h.output, Nat.le_trans h.size k.size, fun i hi hr => (k.block i (Nat.lt_of_lt_of_le hi h.size) hr).trans (h.block i hi hr)⟩
theorem grown_set {a b : World} {k : Nat} (h : a.grownBy b (some k)) (o : Nat) (u : Value) : a.grownBy (b.setCell ⟨k, o, none⟩ u) (some k) :=
  grown_trans h ⟨rfl, rfl, rfl, by simp [World.setCell], fun i _ hi => Below.heap_setCell b ⟨k, o, none⟩ u i (fun e => hi (by rw [e]))⟩
theorem below_grown {B k : Nat} {w w1 w2 : World} (h : Below B w w1) (hg : w1.grownBy w2 (some k)) (hB : B ≤ w1.heap.size) (hk : B ≤ k) : Below B w w2 :=
  ⟨hg.os.trans h.os, hg.tape.trans h.tape, hg.output.trans h.output, Nat.le_trans h.size hg.size, fun i hi => (hg.block i (Nat.lt_of_lt_of_le hi hB) (fun e => by have := Option.some.inj e; omega)).trans (h.block i hi)⟩
set_option maxRecDepth 100000 in
set_option maxHeartbeats 2000000 in
theorem lay_0 (k b : Nat) (f : Nat → Nat) (hb : Hid (b < 18446744073709551616)) (w : World) (hk : Hid (k ≠ 0)) (hG : Hid (G w)) (hR : Hid (Row w k 54 (r12 f))) : Calls Tryd.prog 27 #[.pointer (some ⟨k, 0, none⟩), .int .i64 0, .int .u64 b] w (RetL k (layN f 0 b 6) w) := by
  obtain ⟨gt, gf, hg⟩ := hG.out
  clear hG
  go_enter Tryd.func27, Tryd.ntmps27
  go_wp2_with (refine wpList_load_row rfl 61 _ rfl 0 rfl gt ordC gf _ hg Tryd.underlying61 rfl (by kernel_rfl) ?_)
  go_loopg [9] 6 (fun g i wr => ∃ n : Nat, n + g = 6 ∧ i = .int .i64 n ∧ Hid (Row wr k 54 (r12 (layN f 0 b n))) ∧ Hid (w.grownBy wr (some k)))
  case atStart => exact ⟨0, rfl, rfl, hR, grown_refl _ _⟩
  case round =>
    obtain ⟨n, hn, rfl, r1, hB⟩ := hrel
    cases gk with
    | zero =>
      obtain rfl : n = 6 := by omega
      go_wp2_with fail
      go_end0
      exact ⟨rfl, r1.out, hB.out⟩
    | succ g =>
      have hb' := hb.out
      have : n = 0 ∨ n = 1 ∨ n = 2 ∨ n = 3 ∨ n = 4 ∨ n = 5 := by omega
      rcases this with rfl | rfl | rfl | rfl | rfl | rfl
      · have bv : (bits .and .u64 ((b : Int) / 2048) 1 != 0) = b.testBit 11 := bit_val0 b 11 hb'
        have ho : bits .or .u64 9223372036854775808 11 = 9223372036854775808 + 11 := by decide +kernel
        have HX : ∀ v, Sem.run Tryd.prog (Instr.index 61 (.agg ordC) (.int .i64 0)) v = .ok (.int .u64 11) v := fun v => rfl
        have L : Hid (layN f 0 b (0 + 1) = bif b.testBit 11 then setN (layN f 0 b 0) 0 9223372036854775819 else layN f 0 b 0) := rfl
        obtain ⟨f2, hf2⟩ : ∃ f2, layN f 0 b (0 + 1) = f2 := ⟨_, rfl⟩
        have HE2 := Lib.hid hf2
        rw [hf2] at L
        clear hf2
        generalize layN f 0 b 0 = f1 at L r1
        generalize b.testBit 11 = T at bv L
        clear hb' hb hR
        cases T
        · obtain rfl : f2 = f1 := L.out
          clear L
          go_wp2_with fail
          go_roundg g
          case measure => omega
          case rel => exact ⟨0 + 1, by omega, by rfl, by show Row _ _ _ _; rw [HE2.out]; exact r1.out, hB⟩
        · have hc := (r1.out.cell 0).trans (r12_at f1 0 (by decide))
          have hz := r1.out.fz 0
          have RN : Hid (Row (wr.setCell ⟨k, 0, none⟩ (.int .u64 9223372036854775819)) k 54 (r12 f2)) := by
            show Row _ _ _ _
            have := r1.out.set 0 (.int .u64 (9223372036854775819 : Nat))
            rw [r12_set f1 0 9223372036854775819 (by decide)] at this
            rw [show f2 = setN f1 0 9223372036854775819 from L.out]; exact this
          have hB2 := Lib.hid (grown_set hB.out 0 (.int .u64 9223372036854775819))
          clear r1 L hB
          go_wp2_with fail
          go_roundg g
          case measure => omega
          case rel => exact ⟨0 + 1, by omega, by rfl, by show Row _ _ _ _; rw [HE2.out]; exact RN.out, hB2⟩
      · have bv : (bits .and .u64 ((b : Int) / 8) 1 != 0) = b.testBit 3 := bit_val0 b 3 hb'
        have ho : bits .or .u64 9223372036854775808 3 = 9223372036854775808 + 3 := by decide +kernel
        have HX : ∀ v, Sem.run Tryd.prog (Instr.index 61 (.agg ordC) (.int .i64 1)) v = .ok (.int .u64 3) v := fun v => rfl
        have L : Hid (layN f 0 b (1 + 1) = bif b.testBit 3 then setN (layN f 0 b 1) 1 9223372036854775811 else layN f 0 b 1) := rfl
        obtain ⟨f2, hf2⟩ : ∃ f2, layN f 0 b (1 + 1) = f2 := ⟨_, rfl⟩
        have HE2 := Lib.hid hf2
        rw [hf2] at L
        clear hf2
        generalize layN f 0 b 1 = f1 at L r1
        generalize b.testBit 3 = T at bv L
        clear hb' hb hR
        cases T
        · obtain rfl : f2 = f1 := L.out
          clear L
          go_wp2_with fail
          go_roundg g
          case measure => omega
          case rel => exact ⟨1 + 1, by omega, by rfl, by show Row _ _ _ _; rw [HE2.out]; exact r1.out, hB⟩
        · have hc := (r1.out.cell 1).trans (r12_at f1 1 (by decide))
          have hz := r1.out.fz 1
          have RN : Hid (Row (wr.setCell ⟨k, 1, none⟩ (.int .u64 9223372036854775811)) k 54 (r12 f2)) := by
            show Row _ _ _ _
            have := r1.out.set 1 (.int .u64 (9223372036854775811 : Nat))
            rw [r12_set f1 1 9223372036854775811 (by decide)] at this
            rw [show f2 = setN f1 1 9223372036854775811 from L.out]; exact this
          have hB2 := Lib.hid (grown_set hB.out 1 (.int .u64 9223372036854775811))
          clear r1 L hB
          go_wp2_with fail
          go_roundg g
          case measure => omega
          case rel => exact ⟨1 + 1, by omega, by rfl, by show Row _ _ _ _; rw [HE2.out]; exact RN.out, hB2⟩
      · have bv : (bits .and .u64 ((b : Int) / 128) 1 != 0) = b.testBit 7 := bit_val0 b 7 hb'
        have ho : bits .or .u64 9223372036854775808 7 = 9223372036854775808 + 7 := by decide +kernel
        have HX : ∀ v, Sem.run Tryd.prog (Instr.index 61 (.agg ordC) (.int .i64 2)) v = .ok (.int .u64 7) v := fun v => rfl
        have L : Hid (layN f 0 b (2 + 1) = bif b.testBit 7 then setN (layN f 0 b 2) 2 9223372036854775815 else layN f 0 b 2) := rfl
        obtain ⟨f2, hf2⟩ : ∃ f2, layN f 0 b (2 + 1) = f2 := ⟨_, rfl⟩
        have HE2 := Lib.hid hf2
        rw [hf2] at L
        clear hf2
        generalize layN f 0 b 2 = f1 at L r1
        generalize b.testBit 7 = T at bv L
        clear hb' hb hR
        cases T
        · obtain rfl : f2 = f1 := L.out
          clear L
          go_wp2_with fail
          go_roundg g
          case measure => omega
          case rel => exact ⟨2 + 1, by omega, by rfl, by show Row _ _ _ _; rw [HE2.out]; exact r1.out, hB⟩
        · have hc := (r1.out.cell 2).trans (r12_at f1 2 (by decide))
          have hz := r1.out.fz 2
          have RN : Hid (Row (wr.setCell ⟨k, 2, none⟩ (.int .u64 9223372036854775815)) k 54 (r12 f2)) := by
            show Row _ _ _ _
            have := r1.out.set 2 (.int .u64 (9223372036854775815 : Nat))
            rw [r12_set f1 2 9223372036854775815 (by decide)] at this
            rw [show f2 = setN f1 2 9223372036854775815 from L.out]; exact this
          have hB2 := Lib.hid (grown_set hB.out 2 (.int .u64 9223372036854775815))
          clear r1 L hB
          go_wp2_with fail
          go_roundg g
          case measure => omega
          case rel => exact ⟨2 + 1, by omega, by rfl, by show Row _ _ _ _; rw [HE2.out]; exact RN.out, hB2⟩
      · have bv : (bits .and .u64 ((b : Int) / 512) 1 != 0) = b.testBit 9 := bit_val0 b 9 hb'
        have ho : bits .or .u64 9223372036854775808 9 = 9223372036854775808 + 9 := by decide +kernel
        have HX : ∀ v, Sem.run Tryd.prog (Instr.index 61 (.agg ordC) (.int .i64 3)) v = .ok (.int .u64 9) v := fun v => rfl
        have L : Hid (layN f 0 b (3 + 1) = bif b.testBit 9 then setN (layN f 0 b 3) 3 9223372036854775817 else layN f 0 b 3) := rfl
        obtain ⟨f2, hf2⟩ : ∃ f2, layN f 0 b (3 + 1) = f2 := ⟨_, rfl⟩
        have HE2 := Lib.hid hf2
        rw [hf2] at L
        clear hf2
        generalize layN f 0 b 3 = f1 at L r1
        generalize b.testBit 9 = T at bv L
        clear hb' hb hR
        cases T
        · obtain rfl : f2 = f1 := L.out
          clear L
          go_wp2_with fail
          go_roundg g
          case measure => omega
          case rel => exact ⟨3 + 1, by omega, by rfl, by show Row _ _ _ _; rw [HE2.out]; exact r1.out, hB⟩
        · have hc := (r1.out.cell 3).trans (r12_at f1 3 (by decide))
          have hz := r1.out.fz 3
          have RN : Hid (Row (wr.setCell ⟨k, 3, none⟩ (.int .u64 9223372036854775817)) k 54 (r12 f2)) := by
            show Row _ _ _ _
            have := r1.out.set 3 (.int .u64 (9223372036854775817 : Nat))
            rw [r12_set f1 3 9223372036854775817 (by decide)] at this
            rw [show f2 = setN f1 3 9223372036854775817 from L.out]; exact this
          have hB2 := Lib.hid (grown_set hB.out 3 (.int .u64 9223372036854775817))
          clear r1 L hB
          go_wp2_with fail
          go_roundg g
          case measure => omega
          case rel => exact ⟨3 + 1, by omega, by rfl, by show Row _ _ _ _; rw [HE2.out]; exact RN.out, hB2⟩
      · have bv : (bits .and .u64 ((b : Int) / 2) 1 != 0) = b.testBit 1 := bit_val0 b 1 hb'
        have ho : bits .or .u64 9223372036854775808 1 = 9223372036854775808 + 1 := by decide +kernel
        have HX : ∀ v, Sem.run Tryd.prog (Instr.index 61 (.agg ordC) (.int .i64 4)) v = .ok (.int .u64 1) v := fun v => rfl
        have L : Hid (layN f 0 b (4 + 1) = bif b.testBit 1 then setN (layN f 0 b 4) 4 9223372036854775809 else layN f 0 b 4) := rfl
        obtain ⟨f2, hf2⟩ : ∃ f2, layN f 0 b (4 + 1) = f2 := ⟨_, rfl⟩
        have HE2 := Lib.hid hf2
        rw [hf2] at L
        clear hf2
        generalize layN f 0 b 4 = f1 at L r1
        generalize b.testBit 1 = T at bv L
        clear hb' hb hR
        cases T
        · obtain rfl : f2 = f1 := L.out
          clear L
          go_wp2_with fail
          go_roundg g
          case measure => omega
          case rel => exact ⟨4 + 1, by omega, by rfl, by show Row _ _ _ _; rw [HE2.out]; exact r1.out, hB⟩
        · have hc := (r1.out.cell 4).trans (r12_at f1 4 (by decide))
          have hz := r1.out.fz 4
          have RN : Hid (Row (wr.setCell ⟨k, 4, none⟩ (.int .u64 9223372036854775809)) k 54 (r12 f2)) := by
            show Row _ _ _ _
            have := r1.out.set 4 (.int .u64 (9223372036854775809 : Nat))
            rw [r12_set f1 4 9223372036854775809 (by decide)] at this
            rw [show f2 = setN f1 4 9223372036854775809 from L.out]; exact this
          have hB2 := Lib.hid (grown_set hB.out 4 (.int .u64 9223372036854775809))
          clear r1 L hB
          go_wp2_with fail
          go_roundg g
          case measure => omega
          case rel => exact ⟨4 + 1, by omega, by rfl, by show Row _ _ _ _; rw [HE2.out]; exact RN.out, hB2⟩
      · have bv : (bits .and .u64 ((b : Int) / 32) 1 != 0) = b.testBit 5 := bit_val0 b 5 hb'
        have ho : bits .or .u64 9223372036854775808 5 = 9223372036854775808 + 5 := by decide +kernel
        have HX : ∀ v, Sem.run Tryd.prog (Instr.index 61 (.agg ordC) (.int .i64 5)) v = .ok (.int .u64 5) v := fun v => rfl
        have L : Hid (layN f 0 b (5 + 1) = bif b.testBit 5 then setN (layN f 0 b 5) 5 9223372036854775813 else layN f 0 b 5) := rfl
        obtain ⟨f2, hf2⟩ : ∃ f2, layN f 0 b (5 + 1) = f2 := ⟨_, rfl⟩
        have HE2 := Lib.hid hf2
        rw [hf2] at L
        clear hf2
        generalize layN f 0 b 5 = f1 at L r1
        generalize b.testBit 5 = T at bv L
        clear hb' hb hR
        cases T
        · obtain rfl : f2 = f1 := L.out
          clear L
          go_wp2_with fail
          go_roundg g
          case measure => omega
          case rel => exact ⟨5 + 1, by omega, by rfl, by show Row _ _ _ _; rw [HE2.out]; exact r1.out, hB⟩
        · have hc := (r1.out.cell 5).trans (r12_at f1 5 (by decide))
          have hz := r1.out.fz 5
          have RN : Hid (Row (wr.setCell ⟨k, 5, none⟩ (.int .u64 9223372036854775813)) k 54 (r12 f2)) := by
            show Row _ _ _ _
            have := r1.out.set 5 (.int .u64 (9223372036854775813 : Nat))
            rw [r12_set f1 5 9223372036854775813 (by decide)] at this
            rw [show f2 = setN f1 5 9223372036854775813 from L.out]; exact this
          have hB2 := Lib.hid (grown_set hB.out 5 (.int .u64 9223372036854775813))
          clear r1 L hB
          go_wp2_with fail
          go_roundg g
          case measure => omega
          case rel => exact ⟨5 + 1, by omega, by rfl, by show Row _ _ _ _; rw [HE2.out]; exact RN.out, hB2⟩

set_option maxRecDepth 100000 in
set_option maxHeartbeats 2000000 in
theorem lay_6 (k b : Nat) (f : Nat → Nat) (hb : Hid (b < 18446744073709551616)) (w : World) (hk : Hid (k ≠ 0)) (hG : Hid (G w)) (hR : Hid (Row w k 54 (r12 f))) : Calls Tryd.prog 27 #[.pointer (some ⟨k, 0, none⟩), .int .i64 6, .int .u64 b] w (RetL k (layN f 6 b 6) w) := by
  obtain ⟨gt, gf, hg⟩ := hG.out
  clear hG
  go_enter Tryd.func27, Tryd.ntmps27
  go_wp2_with (refine wpList_load_row rfl 61 _ rfl 0 rfl gt ordC gf _ hg Tryd.underlying61 rfl (by kernel_rfl) ?_)
  go_loopg [9] 6 (fun g i wr => ∃ n : Nat, n + g = 6 ∧ i = .int .i64 n ∧ Hid (Row wr k 54 (r12 (layN f 6 b n))) ∧ Hid (w.grownBy wr (some k)))
  case atStart => exact ⟨0, rfl, rfl, hR, grown_refl _ _⟩
  case round =>
    obtain ⟨n, hn, rfl, r1, hB⟩ := hrel
    cases gk with
    | zero =>
      obtain rfl : n = 6 := by omega
      go_wp2_with fail
      go_end0
      exact ⟨rfl, r1.out, hB.out⟩
    | succ g =>
      have hb' := hb.out
      have : n = 0 ∨ n = 1 ∨ n = 2 ∨ n = 3 ∨ n = 4 ∨ n = 5 := by omega
      rcases this with rfl | rfl | rfl | rfl | rfl | rfl
      · have bv : (bits .and .u64 ((b : Int) / 2048) 1 != 0) = b.testBit 11 := bit_val0 b 11 hb'
        have ho : bits .or .u64 9223372036854775808 11 = 9223372036854775808 + 11 := by decide +kernel
        have HX : ∀ v, Sem.run Tryd.prog (Instr.index 61 (.agg ordC) (.int .i64 0)) v = .ok (.int .u64 11) v := fun v => rfl
        have L : Hid (layN f 6 b (0 + 1) = bif b.testBit 11 then setN (layN f 6 b 0) 6 9223372036854775819 else layN f 6 b 0) := rfl
        obtain ⟨f2, hf2⟩ : ∃ f2, layN f 6 b (0 + 1) = f2 := ⟨_, rfl⟩
        have HE2 := Lib.hid hf2
        rw [hf2] at L
        clear hf2
        generalize layN f 6 b 0 = f1 at L r1
        generalize b.testBit 11 = T at bv L
        clear hb' hb hR
        cases T
        · obtain rfl : f2 = f1 := L.out
          clear L
          go_wp2_with fail
          go_roundg g
          case measure => omega
          case rel => exact ⟨0 + 1, by omega, by rfl, by show Row _ _ _ _; rw [HE2.out]; exact r1.out, hB⟩
        · have hc := (r1.out.cell 6).trans (r12_at f1 6 (by decide))
          have hz := r1.out.fz 6
          have RN : Hid (Row (wr.setCell ⟨k, 6, none⟩ (.int .u64 9223372036854775819)) k 54 (r12 f2)) := by
            show Row _ _ _ _
            have := r1.out.set 6 (.int .u64 (9223372036854775819 : Nat))
            rw [r12_set f1 6 9223372036854775819 (by decide)] at this
            rw [show f2 = setN f1 6 9223372036854775819 from L.out]; exact this
          have hB2 := Lib.hid (grown_set hB.out 6 (.int .u64 9223372036854775819))
          clear r1 L hB
          go_wp2_with fail
          go_roundg g
          case measure => omega
          case rel => exact ⟨0 + 1, by omega, by rfl, by show Row _ _ _ _; rw [HE2.out]; exact RN.out, hB2⟩
      · have bv : (bits .and .u64 ((b : Int) / 8) 1 != 0) = b.testBit 3 := bit_val0 b 3 hb'
        have ho : bits .or .u64 9223372036854775808 3 = 9223372036854775808 + 3 := by decide +kernel
        have HX : ∀ v, Sem.run Tryd.prog (Instr.index 61 (.agg ordC) (.int .i64 1)) v = .ok (.int .u64 3) v := fun v => rfl
        have L : Hid (layN f 6 b (1 + 1) = bif b.testBit 3 then setN (layN f 6 b 1) 7 9223372036854775811 else layN f 6 b 1) := rfl
        obtain ⟨f2, hf2⟩ : ∃ f2, layN f 6 b (1 + 1) = f2 := ⟨_, rfl⟩
        have HE2 := Lib.hid hf2
        rw [hf2] at L
        clear hf2
        generalize layN f 6 b 1 = f1 at L r1
        generalize b.testBit 3 = T at bv L
        clear hb' hb hR
        cases T
        · obtain rfl : f2 = f1 := L.out
          clear L
          go_wp2_with fail
          go_roundg g
          case measure => omega
          case rel => exact ⟨1 + 1, by omega, by rfl, by show Row _ _ _ _; rw [HE2.out]; exact r1.out, hB⟩
        · have hc := (r1.out.cell 7).trans (r12_at f1 7 (by decide))
          have hz := r1.out.fz 7
          have RN : Hid (Row (wr.setCell ⟨k, 7, none⟩ (.int .u64 9223372036854775811)) k 54 (r12 f2)) := by
            show Row _ _ _ _
            have := r1.out.set 7 (.int .u64 (9223372036854775811 : Nat))
            rw [r12_set f1 7 9223372036854775811 (by decide)] at this
            rw [show f2 = setN f1 7 9223372036854775811 from L.out]; exact this
          have hB2 := Lib.hid (grown_set hB.out 7 (.int .u64 9223372036854775811))
          clear r1 L hB
          go_wp2_with fail
          go_roundg g
          case measure => omega
          case rel => exact ⟨1 + 1, by omega, by rfl, by show Row _ _ _ _; rw [HE2.out]; exact RN.out, hB2⟩
      · have bv : (bits .and .u64 ((b : Int) / 128) 1 != 0) = b.testBit 7 := bit_val0 b 7 hb'
        have ho : bits .or .u64 9223372036854775808 7 = 9223372036854775808 + 7 := by decide +kernel
        have HX : ∀ v, Sem.run Tryd.prog (Instr.index 61 (.agg ordC) (.int .i64 2)) v = .ok (.int .u64 7) v := fun v => rfl
        have L : Hid (layN f 6 b (2 + 1) = bif b.testBit 7 then setN (layN f 6 b 2) 8 9223372036854775815 else layN f 6 b 2) := rfl
        obtain ⟨f2, hf2⟩ : ∃ f2, layN f 6 b (2 + 1) = f2 := ⟨_, rfl⟩
        have HE2 := Lib.hid hf2
        rw [hf2] at L
        clear hf2
        generalize layN f 6 b 2 = f1 at L r1
        generalize b.testBit 7 = T at bv L
        clear hb' hb hR
        cases T
        · obtain rfl : f2 = f1 := L.out
          clear L
          go_wp2_with fail
          go_roundg g
          case measure => omega
          case rel => exact ⟨2 + 1, by omega, by rfl, by show Row _ _ _ _; rw [HE2.out]; exact r1.out, hB⟩
        · have hc := (r1.out.cell 8).trans (r12_at f1 8 (by decide))
          have hz := r1.out.fz 8
          have RN : Hid (Row (wr.setCell ⟨k, 8, none⟩ (.int .u64 9223372036854775815)) k 54 (r12 f2)) := by
            show Row _ _ _ _
            have := r1.out.set 8 (.int .u64 (9223372036854775815 : Nat))
            rw [r12_set f1 8 9223372036854775815 (by decide)] at this
            rw [show f2 = setN f1 8 9223372036854775815 from L.out]; exact this
          have hB2 := Lib.hid (grown_set hB.out 8 (.int .u64 9223372036854775815))
          clear r1 L hB
          go_wp2_with fail
          go_roundg g
          case measure => omega
          case rel => exact ⟨2 + 1, by omega, by rfl, by show Row _ _ _ _; rw [HE2.out]; exact RN.out, hB2⟩
      · have bv : (bits .and .u64 ((b : Int) / 512) 1 != 0) = b.testBit 9 := bit_val0 b 9 hb'
        have ho : bits .or .u64 9223372036854775808 9 = 9223372036854775808 + 9 := by decide +kernel
        have HX : ∀ v, Sem.run Tryd.prog (Instr.index 61 (.agg ordC) (.int .i64 3)) v = .ok (.int .u64 9) v := fun v => rfl
        have L : Hid (layN f 6 b (3 + 1) = bif b.testBit 9 then setN (layN f 6 b 3) 9 9223372036854775817 else layN f 6 b 3) := rfl
        obtain ⟨f2, hf2⟩ : ∃ f2, layN f 6 b (3 + 1) = f2 := ⟨_, rfl⟩
        have HE2 := Lib.hid hf2
        rw [hf2] at L
        clear hf2
        generalize layN f 6 b 3 = f1 at L r1
        generalize b.testBit 9 = T at bv L
        clear hb' hb hR
        cases T
        · obtain rfl : f2 = f1 := L.out
          clear L
          go_wp2_with fail
          go_roundg g
          case measure => omega
          case rel => exact ⟨3 + 1, by omega, by rfl, by show Row _ _ _ _; rw [HE2.out]; exact r1.out, hB⟩
        · have hc := (r1.out.cell 9).trans (r12_at f1 9 (by decide))
          have hz := r1.out.fz 9
          have RN : Hid (Row (wr.setCell ⟨k, 9, none⟩ (.int .u64 9223372036854775817)) k 54 (r12 f2)) := by
            show Row _ _ _ _
            have := r1.out.set 9 (.int .u64 (9223372036854775817 : Nat))
            rw [r12_set f1 9 9223372036854775817 (by decide)] at this
            rw [show f2 = setN f1 9 9223372036854775817 from L.out]; exact this
          have hB2 := Lib.hid (grown_set hB.out 9 (.int .u64 9223372036854775817))
          clear r1 L hB
          go_wp2_with fail
          go_roundg g
          case measure => omega
          case rel => exact ⟨3 + 1, by omega, by rfl, by show Row _ _ _ _; rw [HE2.out]; exact RN.out, hB2⟩
      · have bv : (bits .and .u64 ((b : Int) / 2) 1 != 0) = b.testBit 1 := bit_val0 b 1 hb'
        have ho : bits .or .u64 9223372036854775808 1 = 9223372036854775808 + 1 := by decide +kernel
        have HX : ∀ v, Sem.run Tryd.prog (Instr.index 61 (.agg ordC) (.int .i64 4)) v = .ok (.int .u64 1) v := fun v => rfl
        have L : Hid (layN f 6 b (4 + 1) = bif b.testBit 1 then setN (layN f 6 b 4) 10 9223372036854775809 else layN f 6 b 4) := rfl
        obtain ⟨f2, hf2⟩ : ∃ f2, layN f 6 b (4 + 1) = f2 := ⟨_, rfl⟩
        have HE2 := Lib.hid hf2
        rw [hf2] at L
        clear hf2
        generalize layN f 6 b 4 = f1 at L r1
        generalize b.testBit 1 = T at bv L
        clear hb' hb hR
        cases T
        · obtain rfl : f2 = f1 := L.out
          clear L
          go_wp2_with fail
          go_roundg g
          case measure => omega
          case rel => exact ⟨4 + 1, by omega, by rfl, by show Row _ _ _ _; rw [HE2.out]; exact r1.out, hB⟩
        · have hc := (r1.out.cell 10).trans (r12_at f1 10 (by decide))
          have hz := r1.out.fz 10
          have RN : Hid (Row (wr.setCell ⟨k, 10, none⟩ (.int .u64 9223372036854775809)) k 54 (r12 f2)) := by
            show Row _ _ _ _
            have := r1.out.set 10 (.int .u64 (9223372036854775809 : Nat))
            rw [r12_set f1 10 9223372036854775809 (by decide)] at this
            rw [show f2 = setN f1 10 9223372036854775809 from L.out]; exact this
          have hB2 := Lib.hid (grown_set hB.out 10 (.int .u64 9223372036854775809))
          clear r1 L hB
          go_wp2_with fail
          go_roundg g
          case measure => omega
          case rel => exact ⟨4 + 1, by omega, by rfl, by show Row _ _ _ _; rw [HE2.out]; exact RN.out, hB2⟩
      · have bv : (bits .and .u64 ((b : Int) / 32) 1 != 0) = b.testBit 5 := bit_val0 b 5 hb'
        have ho : bits .or .u64 9223372036854775808 5 = 9223372036854775808 + 5 := by decide +kernel
        have HX : ∀ v, Sem.run Tryd.prog (Instr.index 61 (.agg ordC) (.int .i64 5)) v = .ok (.int .u64 5) v := fun v => rfl
        have L : Hid (layN f 6 b (5 + 1) = bif b.testBit 5 then setN (layN f 6 b 5) 11 9223372036854775813 else layN f 6 b 5) := rfl
        obtain ⟨f2, hf2⟩ : ∃ f2, layN f 6 b (5 + 1) = f2 := ⟨_, rfl⟩
        have HE2 := Lib.hid hf2
        rw [hf2] at L
        clear hf2
        generalize layN f 6 b 5 = f1 at L r1
        generalize b.testBit 5 = T at bv L
        clear hb' hb hR
        cases T
        · obtain rfl : f2 = f1 := L.out
          clear L
          go_wp2_with fail
          go_roundg g
          case measure => omega
          case rel => exact ⟨5 + 1, by omega, by rfl, by show Row _ _ _ _; rw [HE2.out]; exact r1.out, hB⟩
        · have hc := (r1.out.cell 11).trans (r12_at f1 11 (by decide))
          have hz := r1.out.fz 11
          have RN : Hid (Row (wr.setCell ⟨k, 11, none⟩ (.int .u64 9223372036854775813)) k 54 (r12 f2)) := by
            show Row _ _ _ _
            have := r1.out.set 11 (.int .u64 (9223372036854775813 : Nat))
            rw [r12_set f1 11 9223372036854775813 (by decide)] at this
            rw [show f2 = setN f1 11 9223372036854775813 from L.out]; exact this
          have hB2 := Lib.hid (grown_set hB.out 11 (.int .u64 9223372036854775813))
          clear r1 L hB
          go_wp2_with fail
          go_roundg g
          case measure => omega
          case rel => exact ⟨5 + 1, by omega, by rfl, by show Row _ _ _ _; rw [HE2.out]; exact RN.out, hB2⟩

theorem info12 (f : Nat → Nat) : (Tryd.prog.info? 54).map (·.size) = some (r12 f).size := by rw [r12_size]; kernel_rfl
theorem items_12 (w : World) (f h : Nat → Nat) (d : Nat) : ∀ l : List Nat, (∀ i, i ∈ l → i < 12) → (Op.eqItems (d + 1) 22 1 (r12 f) (r12 h) l).run Tryd.prog w = .ok (l.all fun i => f i == h i) w
  | [], _ => by simp [Op.eqItems]
  | i :: l, hl => by
    have hi := hl i (List.mem_cons_self)
    have p1 := run_part_plain (P := Tryd.prog) w (e := 22) (by kernel_rfl) (xs := r12 f) (off := i * 1) (by rw [Nat.mul_one]; exact r12_at f i hi)
    have p2 := run_part_plain (P := Tryd.prog) w (e := 22) (by kernel_rfl) (xs := r12 h) (off := i * 1) (by rw [Nat.mul_one]; exact r12_at h i hi)
    have p3 := run_equalIn_int (P := Tryd.prog) w d 22 .u64 .u64 (f i : Nat) (h i : Nat) Tryd.underlying22
    have ih := items_12 w f h d l (fun j hj => hl j (List.mem_cons_of_mem _ hj))
    have e : (((f i : Nat) : Int) == ((h i : Nat) : Int)) = (f i == h i) := cast_beq _ _
    simp only [Op.eqItems, Sem.run_bind, p1, p2, p3, Result.andThen_ok, e]
    cases hc : (f i == h i)
    · simp [hc]
    · simpa [hc] using ih
theorem one_u64 : Tryd.prog.cellsOf 22 = 1 := by kernel_rfl
theorem info_54 : ∃ i, Tryd.prog.info? 22 = some i := by
  cases h : Tryd.prog.info? 22 with
  | none =>
    have : (Tryd.prog.info? 22).isSome = true := by kernel_rfl
    rw [h] at this; cases this
  | some i => exact ⟨i, rfl⟩
theorem run_eq_12 (w : World) (f h : Nat → Nat) : (Op.equal 54 (.agg (r12 f)) (.agg (r12 h))).run Tryd.prog w = .ok ((List.range 12).all fun i => f i == h i) w := by
  unfold Op.equal
  obtain ⟨i, hi⟩ := info_54
  rw [show Op.maxDepth = (9998 + 1) + 1 from rfl, run_equalIn_array w (9998 + 1) (r12 f) (r12 h) Tryd.underlying54 hi, one_u64]
  exact items_12 w f h 9998 _ (fun j hj => List.mem_range.1 hj)
theorem wpList_eq_12 {ops : Array Oper} {rest : List Oper} {o : Oper} {a : Act} {w : World} {Q : Exit → Act → World → Prop} (hgd : o.guard = none) (x y : Operand) (t : TypeId) (ho : o.op = .binOp .eql 54 x y t) (f h : Nat → Nat)
    (hx : a.eval x = .agg (r12 f)) (hy : a.eval y = .agg (r12 h)) (B : Bool) (hB : (List.range 12).all (fun i => f i == h i) = B) (hk : wpList Tryd.prog ops Q rest (a.put o.dst (.bool B)) w) : wpList Tryd.prog ops Q (o :: rest) a w :=
  wpList_plain hgd fun K hK => by
    have h2 : (execOp a.eval o).run Tryd.prog w = .ok (.value (.bool B)) w := by
      unfold execOp
      simp only [ho, hx, hy]
      rw [Sem.run_bind]
      rw [show (do eqGuard .eql 54 x y (.agg (r12 f)) (.agg (r12 h)); binOp .eql 54 (.agg (r12 f)) (.agg (r12 h)) : Sem Value).run Tryd.prog w = .ok (.bool B) w from by
        rw [Sem.run_bind, run_eqGuard_agg w .eql 54 x y _ _ Tryd.eqGuardType54, Result.andThen_ok]
        simp only [binOp, Sem.run_bind, run_eq_12 w f h, Result.andThen_ok, hB]
        rfl]
      rfl
    unfold Oper.wp
    rw [h2]
    exact hK _ _ hk
def zF : Nat → Nat := fun _ => 0
/-- The lowest rank's cause; none. -/
def firstP (f : Nat → Nat) (v : Nat) (b : Bool) : Prop := (b = false ∧ v = 0 ∧ ∀ k, k < 12 → f k = 0) ∨ (b = true ∧ ∃ r, r < 12 ∧ v = f r ∧ f r ≠ 0 ∧ ∀ j, j < r → f j = 0)
def RetF (f : Nat → Nat) (W : World) (e : Ending) (w' : World) : Prop := ∃ v b, e = .returned (.tuple #[.int .u64 (v : Nat), .bool b]) ∧ firstP f v b ∧ W = w'
set_option maxRecDepth 100000 in
theorem first_n (k : Nat) (f : Nat → Nat) (w : World) (hR : Hid (Row w k 54 (r12 f))) (h0 : ∀ j, j < 12 → f j = 0) : Calls Tryd.prog 28 #[.pointer (some ⟨k, 0, none⟩)] w (RetF f w) := by
  have hB : (List.range 12).all (fun i => f i == zF i) = true := by
    rw [List.all_eq_true]; intro i hi; rw [h0 i (List.mem_range.1 hi)]; rfl
  have H0 := Lib.hid h0
  clear h0
  go_enter Tryd.func28, Tryd.ntmps28
  go_wp2_with (first
    | (refine wpList_load_row rfl 54 _ rfl k rfl 54 (r12 f) (0, 0) _ hR.out Tryd.underlying54 rfl (info12 f) ?_)
    | (refine wpList_eq_12 rfl _ _ _ rfl f zF rfl rfl true hB ?_))
  refine bodyPost_ret (by simp [results, Tryd.results28, go_sem] <;> (first | rfl | (repeat' (first | rfl | apply And.intro)))) rfl ?_
  exact ⟨0, false, rfl, Or.inl ⟨rfl, rfl, H0.out⟩, rfl⟩
set_option maxRecDepth 100000 in
theorem first_y (k : Nat) (f : Nat → Nat) (w : World) (hR : Hid (Row w k 54 (r12 f))) (r : Nat) (hr : r < 12) (h0 : f r ≠ 0) : Calls Tryd.prog 28 #[.pointer (some ⟨k, 0, none⟩)] w (RetF f w) := by
  have hB : (List.range 12).all (fun i => f i == zF i) = false := by
    rw [Bool.eq_false_iff]; intro hc
    have := List.all_eq_true.1 hc r (List.mem_range.2 hr)
    exact h0 (by simpa [zF] using this)
  have H0 : Hid (r < 12 ∧ f r ≠ 0) := ⟨hr, h0⟩
  clear h0 hr
  go_enter Tryd.func28, Tryd.ntmps28
  go_wp2_with (first
    | (refine wpList_load_row rfl 54 _ rfl k rfl 54 (r12 f) (0, 0) _ hR.out Tryd.underlying54 rfl (info12 f) ?_)
    | (refine wpList_eq_12 rfl _ _ _ rfl f zF rfl rfl false hB ?_))
  go_loopg [4] 12 (fun g i wr => ∃ n : Nat, n + g = 12 ∧ i = .int .i64 n ∧ Hid (∀ j, j < n → f j = 0) ∧ w = wr)
  case atStart => exact ⟨0, rfl, rfl, fun j hj => absurd hj (Nat.not_lt_zero _), rfl⟩
  case round =>
    obtain ⟨n, hn, rfl, hI, rfl⟩ := hrel
    cases gk with
    | zero => exact absurd (hI.out r (by have := H0.out.1; omega)) H0.out.2
    | succ g =>
      have n12 : (n : Int) < 12 := by omega
      have n0 : ((n : Nat) : Int).toNat = n := by omega
      have hc := (hR.out.cell n).trans (r12_at f n (by omega))
      have hz := hR.out.fz n
      have HN : Hid (n < 12) := by show _ < _; omega
      by_cases hf : f n = 0
      · have HI2 : Hid (∀ j, j < n + 1 → f j = 0) := fun j hj => by
          rcases Nat.lt_or_ge j n with h | h
          · exact hI.out j h
          · obtain rfl : j = n := by omega
            exact hf
        rw [hf] at hc
        clear hB hI hf
        go_wp2_with fail
        go_roundg g
        case measure => omega
        case rel => exact ⟨n + 1, by omega, by go_num, HI2, rfl⟩
      · have hb : (((f n : Nat) : Int) == 0) = false := (cast_beq (f n) 0).trans (by simpa using hf)
        have HF := Lib.hid hf
        clear hB hf hn
        go_wp2_with fail
        refine bodyPost_ret (by simp [results, Tryd.results28, go_sem] <;> (first | rfl | (repeat' (first | rfl | apply And.intro)))) rfl ?_
        exact ⟨f n, true, rfl, Or.inr ⟨rfl, n, HN.out, rfl, HF.out, hI.out⟩, rfl⟩
theorem first_c (k : Nat) (f : Nat → Nat) (w : World) (hR : Hid (Row w k 54 (r12 f))) : Calls Tryd.prog 28 #[.pointer (some ⟨k, 0, none⟩)] w (RetF f w) := by
  by_cases h : ∀ j, j < 12 → f j = 0
  · exact first_n k f w hR h
  · obtain ⟨r, hr⟩ := Classical.not_forall.1 h
    exact first_y k f w hR r (Classical.not_imp.1 hr).1 (Classical.not_imp.1 hr).2
end Go.Proofs.YteeifdmnagbjeaaDoor
