/- The walk as a plain function; bytes in memory; put, open. -/
import Derived.Test.YthhlcchofilimaaGreatDoorA1
import Derived.Test.YthhlcchofilimaaGreatDoorUQ
import Derived.Test.YthhlcchofilimaaGreatDoorUR
import Derived.Laws.MakeOwn
import Derived.LoopTactic
import Derived.Deep.LoopGhost
namespace Go.Proofs.YthhlcchofilimaaGreatDoor
open Go.ChangeShapes Go.WideShapes Go.ChangeAt Go.RowKit Go.Sort Y
set_option linter.unusedVariables false
set_option linter.unusedSimpArgs false

/-- Where a walk ends: address, level, entry, its place; the cause. -/
structure WRes where
  adr : Nat
  lev : Int
  ent : Nat
  frm : Nat
  cau : Nat
def noW (c : Nat) : WRes := ⟨0, 0, 0, 0, c⟩
def WRes.leaf (r : WRes) : Array Value := #[.int .u64 (r.adr : Nat), .int .i64 r.lev, .int .u64 (r.ent : Nat), .int .u64 (r.frm : Nat)]
def brokenB (e : Nat) : Bool := !e.testBit 0 || e.testBit 2 && !e.testBit 1 || !(e / 2 ^ 54 == 0)
def leafB (e : Nat) : Bool := e.testBit 1 || e.testBit 3
def nextN (e : Nat) : Nat := e / 1024 % 2 ^ 44
def fromN (L table at0 : Nat) : Nat := 4096 * table + 8 * (at0 / 2 ^ (12 + 9 * L) % 512)
def stepW (F S : Nat → Nat) (m k : Int) (at0 L table : Nat) (next : Nat → WRes) : WRes :=
  if chkB (cfO S) (adO S) 1 1 (fromN L table at0) 8 = true ∧ U.M.hasV (fromN L table at0) 8 = true then
    (if brokenB (U.M.readV F (fromN L table at0) 8) = true then noW (pageN k)
    else if leafB (U.M.readV F (fromN L table at0) 8) = true then
      (if permB S m k (U.M.readV F (fromN L table at0) 8) = true ∧ 4096 * nextN (U.M.readV F (fromN L table at0) 8) % 2 ^ (12 + 9 * L) = 0 then
        ⟨4096 * nextN (U.M.readV F (fromN L table at0) 8) + at0 % 2 ^ (12 + 9 * L), L, U.M.readV F (fromN L table at0) 8, fromN L table at0, 0⟩
      else noW (pageN k))
    else if ((U.M.readV F (fromN L table at0) 8).testBit 4 || (U.M.readV F (fromN L table at0) 8).testBit 6 || (U.M.readV F (fromN L table at0) 8).testBit 7) = true then noW (pageN k)
    else next (nextN (U.M.readV F (fromN L table at0) 8)))
  else noW (faultN k)
def walkF (F S : Nat → Nat) (m k : Int) (at0 : Nat) : WRes :=
  if m = 3 ∨ S 20 / 2 ^ 60 ≠ 8 then ⟨at0, -1, 0, 0, 0⟩
  else if at0 / 2 ^ 38 ≠ 0 ∧ at0 / 2 ^ 38 ≠ 67108863 then noW (pageN k)
  else stepW F S m k at0 2 (S 20 % 2 ^ 44) (fun t => stepW F S m k at0 1 t (fun t => stepW F S m k at0 0 t (fun _ => noW (pageN k))))
def reachF (F S : Nat → Nat) (m k : Int) (at0 : Nat) (z : Int) : Nat × Nat :=
  if (walkF F S (modeF S m k) k at0).cau ≠ 0 then (0, (walkF F S (modeF S m k) k at0).cau)
  else if chkB (cfO S) (adO S) (modeF S m k) k (walkF F S (modeF S m k) k at0).adr z = true ∧ U.mayB k (walkF F S (modeF S m k) k at0).adr z = true then ((walkF F S (modeF S m k) k at0).adr, 0)
  else (0, faultN k)
def RetWk (r : WRes) (W : World) (e : Ending) (w' : World) : Prop := e = .returned (.tuple #[.agg r.leaf, .int .u64 (r.cau : Nat)]) ∧ Below W.heap.size W w'
def RetUU (a b : Nat) (W : World) (e : Ending) (w' : World) : Prop := e = .returned (.tuple #[.int .u64 a, .int .u64 b]) ∧ Below W.heap.size W w'
def RetI (n : Int) (W : World) (e : Ending) (w' : World) : Prop := e = .returned (.int .i64 n) ∧ Below W.heap.size W w'
/-- What the code's four functions must do. -/
def ModeOk : Prop := ∀ (S : Nat → Nat) (c : Nat) (m k : Int) (w : World), Hid (OkS S) → c < w.heap.size → Row w c 27 (cs S) → Calls Tryz.prog 12 #[.pointer (some ⟨c, 0, none⟩), .int .i64 m, .int .i64 k] w (RetI (modeF S m k) w)
def AllowsOk : Prop := ∀ (S : Nat → Nat) (c : Nat) (m k : Int) (e : Nat) (w : World), Hid (OkS S) → Hid (e < 18446744073709551616) → c < w.heap.size → Row w c 27 (cs S) → Calls Tryz.prog 13 #[.pointer (some ⟨c, 0, none⟩), .int .i64 m, .int .i64 k, .int .u64 e] w (RetB (permB S m k e) w)
/-- A bus stands at a block. -/
def BusAt (b : Nat) (B : U.Bs) (w : World) : Prop := ∃ R W : U.M.Fp, (U.eBus b B).P R W w
theorem BusAt.below {b : Nat} {B : U.Bs} {w w1 : World} (h : BusAt b B w) (hb : Below w.heap.size w w1) : BusAt b B w1 := by
  obtain ⟨R, W, q⟩ := h; exact ⟨_, _, U.bus_below q hb⟩
def WalkOk : Prop := ∀ (B : U.Bs) (b : Nat) (S : Nat → Nat) (c : Nat) (m k : Int) (at0 : Nat) (w : World), BusAt b B w → Hid (OkS S) → Hid (at0 < 18446744073709551616) → Hid (G w) → c < w.heap.size → Row w c 27 (cs S) →
  Calls Tryz.prog 7 #[.pointer (some ⟨b, 0, none⟩), .pointer (some ⟨c, 0, none⟩), .int .i64 m, .int .i64 k, .int .u64 at0] w (RetWk (walkF B.F S m k at0) w)
def ReachOk : Prop := ∀ (B : U.Bs) (b : Nat) (S : Nat → Nat) (c : Nat) (m k : Int) (at0 : Nat) (z : Int) (w : World), BusAt b B w → Hid (OkS S) → Hid (at0 < 18446744073709551616) → (Lit.int .i64 z).wf = true → Hid (G w) → c < w.heap.size → Row w c 27 (cs S) →
  Calls Tryz.prog 11 #[.pointer (some ⟨b, 0, none⟩), .pointer (some ⟨c, 0, none⟩), .int .i64 m, .int .i64 k, .int .u64 at0, .int .i64 z] w (RetUU (reachF B.F S m k at0 z).1 (reachF B.F S m k at0 z).2 w)
/-- n bytes in a block. -/
def ByG (w : World) (g n : Nat) (X : Nat → Nat) : Prop := ∃ ce, Row w g 5 ce ∧ ∀ i, i < n → ce[i]? = some (.int .u8 (X i : Nat))
theorem ByG.cell {w : World} {g n : Nat} {X : Nat → Nat} (h : ByG w g n X) (i : Nat) (hi : i < n) : w.cell? ⟨g, i, none⟩ = some (.int .u8 (X i : Nat)) := by
  obtain ⟨ce, h1, h2⟩ := h; exact (h1.cell i).trans (h2 i hi)
theorem ByG.fz {w : World} {g n : Nat} {X : Nat → Nat} (h : ByG w g n X) (i : Nat) : w.frozen? ⟨g, i, none⟩ = false := by
  obtain ⟨ce, h1, h2⟩ := h; exact h1.fz i
theorem ByG.set {w : World} {g n : Nat} {X : Nat → Nat} (h : ByG w g n X) (k v : Nat) (hk : k < n) : ByG (w.setCell ⟨g, k, none⟩ (.int .u8 (v : Nat))) g n (setN X k v) := by
  obtain ⟨ce, h1, h2⟩ := h
  refine ⟨_, h1.set k _, fun i hi => ?_⟩
  rw [Array.getElem?_setIfInBounds]
  unfold setN
  by_cases e : k = i
  · subst e
    have hs : k < ce.size := (Array.getElem?_eq_some_iff.1 (h2 k hk)).1
    simp [hs]
  · rw [if_neg e, h2 i hi, show (i == k) = false by simp; omega]; rfl
theorem ByG.byt {w : World} {g n : Nat} {X : Nat → Nat} (h : ByG w g n X) (hg : g < w.heap.size) (hX : ∀ i, X i < 256) : U.M.Byt w (some ⟨g, 0, none⟩) g 0 n n X :=
  ⟨fun _ => ⟨rfl, hg⟩, Nat.le_refl _, fun i hi => by rw [Nat.zero_add]; exact h.cell i hi, hX⟩
theorem made_8 (n i : Nat) (hi : i < n) : (madeCells #[.int .u8 0] n)[i]? = some (.int .u8 ((0 : Nat) : Int)) := by
  rw [← Array.getElem?_toList, toList_madeCells_one, List.getElem?_replicate, if_pos hi]; rfl
theorem info_u8z : ∃ i, Tryz.prog.info? 5 = some i ∧ i.zero = some (.int .u8 0) ∧ i.bytes = 1 ∧ i.size = 1 := by
  have h1 : (Tryz.prog.info? 5).map (·.zero) = some (some (.int .u8 0)) := by kernel_rfl
  have h2 : (Tryz.prog.info? 5).map (·.bytes) = some 1 := by kernel_rfl
  have h3 : (Tryz.prog.info? 5).map (·.size) = some 1 := by kernel_rfl
  cases hi : Tryz.prog.info? 5 with
  | none => rw [hi] at h1; cases h1
  | some i =>
    rw [hi] at h1 h2 h3
    exact ⟨i, rfl, Option.some.inj h1, Option.some.inj h2, Option.some.inj h3⟩
theorem step_make {ops : Array Oper} {rest : List Oper} {o : Oper} {a : Act} {w : World} {Q : Exit → Act → World → Prop} (hgd : o.guard = none) (l c : Operand) (ho : o.op = .makeSlice 22 l c)
    (n : Nat) (hn : n ≤ 281474976710656) (hl : a.eval l = .int .i64 (n : Int)) (hc : a.eval c = .int .i64 (n : Int))
    (hk : ∀ w', ByG w' w.heap.size n (fun _ => 0) → Below w.heap.size w w' → w'.heap.size = w.heap.size + 1 → wpList Tryz.prog ops Q rest (a.put o.dst (.slice (some ⟨w.heap.size, 0, none⟩) n n)) w') : wpList Tryz.prog ops Q (o :: rest) a w :=
  wpList_plain hgd fun K hK => by
    obtain ⟨i, h1, h2, h3, h4⟩ := info_u8z
    have hr := run_make (P := Tryz.prog) w 22 5 i (.int .u8 0) Tryz.underlying22 h1 h2 .i64 .i64 (n : Int) (n : Int) (by omega) (by omega) (by rw [h3]; omega) (by omega)
    have h5 : (execOp a.eval o).run Tryz.prog w = .ok (.value (.slice (some ⟨w.heap.size, 0, none⟩) n n)) (w.alloc (.cells (madeCells #[.int .u8 0] n) 5)) := by
      unfold execOp
      simp only [ho, hl, hc]
      rw [Sem.run_bind, hr]
      simp only [h4, Int.toNat_natCast, Nat.mul_one]
      rfl
    unfold Oper.wp
    rw [h5]
    exact hK _ _ (hk _ ⟨_, row_new _ _ _, fun i hi => made_8 n i hi⟩ ((Below.refl w.heap.size w).alloc (Nat.le_refl _) _) (sz_alloc _ _))
/-- Eight bytes laid. -/
def putN (X : Nat → Nat) (A v : Nat) : Nat → Nat → Nat
  | 0 => X
  | n + 1 => setN (putN X A v n) (A + n) (v / 2 ^ (8 * n) % 256)
def RetP (g n : Nat) (X : Nat → Nat) (W : World) (e : Ending) (w' : World) : Prop := e = .returned (.tuple #[]) ∧ ByG w' g n X ∧ W.grownBy w' (some g)
theorem grown_refl (w : World) (r : Option Nat) : w.grownBy w r := ⟨rfl, rfl, rfl, Nat.le_refl _, fun _ _ _ => rfl⟩
theorem grown_trans {a b c : World} {r : Option Nat} (h : a.grownBy b r) (k : b.grownBy c r) : a.grownBy c r :=
  ⟨k.os.trans h.os, k.tape.trans h.tape, k.output.trans h.output, Nat.le_trans h.size k.size, fun i hi hr => (k.block i (Nat.lt_of_lt_of_le hi h.size) hr).trans (h.block i hi hr)⟩
theorem grown_set {a b : World} {k : Nat} (h : a.grownBy b (some k)) (o : Nat) (u : Value) : a.grownBy (b.setCell ⟨k, o, none⟩ u) (some k) :=
  grown_trans h ⟨rfl, rfl, rfl, by simp [World.setCell], fun i _ hi => Below.heap_setCell b ⟨k, o, none⟩ u i (fun e => hi (by rw [e]))⟩
theorem below_grown {B k : Nat} {w w1 w2 : World} (h : Below B w w1) (hg : w1.grownBy w2 (some k)) (hB : B ≤ w1.heap.size) (hk : B ≤ k) : Below B w w2 :=
  ⟨hg.os.trans h.os, hg.tape.trans h.tape, hg.output.trans h.output, Nat.le_trans h.size hg.size, fun i hi => (hg.block i (Nat.lt_of_lt_of_le hi hB) (fun e => by have := Option.some.inj e; omega)).trans (h.block i hi)⟩
set_option maxRecDepth 100000 in
set_option maxHeartbeats 2000000 in
theorem put_1 (g : Nat) (X : Nat → Nat) (w : World) (hX : Hid (ByG w g 12288 X)) : Calls Tryz.prog 9 #[.slice (some ⟨g, 0, none⟩) 12288 12288, .int .i64 4112, .int .u64 536872961] w (RetP g 12288 (putN X 4112 536872961 8) w) := by
  go_enter Tryz.func9, Tryz.ntmps9
  go_wp2_with fail
  go_loopg [6] 8 (fun gg i wr => ∃ n : Nat, n + gg = 8 ∧ i = .int .i64 n ∧ Hid (ByG wr g 12288 (putN X 4112 536872961 n)) ∧ Hid (w.grownBy wr (some g)))
  case atStart => exact ⟨0, rfl, rfl, hX, grown_refl _ _⟩
  case round =>
    obtain ⟨n, hn, rfl, r1, hB⟩ := hrel
    cases gk with
    | zero =>
      obtain rfl : n = 8 := by omega
      go_wp2_with fail
      go_end0
      exact ⟨rfl, r1.out, hB.out⟩
    | succ gg =>
      have : n = 0 ∨ n = 1 ∨ n = 2 ∨ n = 3 ∨ n = 4 ∨ n = 5 ∨ n = 6 ∨ n = 7 := by omega
      rcases this with rfl | rfl | rfl | rfl | rfl | rfl | rfl | rfl
      · have hc := r1.out.cell 4112 (by decide)
        have hz := r1.out.fz 4112
        obtain ⟨f1, hf1⟩ : ∃ f1, putN X 4112 536872961 0 = f1 := ⟨_, rfl⟩
        rw [hf1] at hc
        have RN : Hid (ByG (wr.setCell ⟨g, 4112, none⟩ (.int .u8 1)) g 12288 (putN X 4112 536872961 (0 + 1))) := r1.out.set 4112 1 (by decide)
        have hB2 := Lib.hid (grown_set hB.out 4112 (.int .u8 1))
        clear r1 hB hf1
        go_wp2_with fail
        go_roundg gg
        case measure => omega
        case rel => exact ⟨0 + 1, by omega, by rfl, RN, hB2⟩
      · have hc := r1.out.cell 4113 (by decide)
        have hz := r1.out.fz 4113
        obtain ⟨f1, hf1⟩ : ∃ f1, putN X 4112 536872961 1 = f1 := ⟨_, rfl⟩
        rw [hf1] at hc
        have RN : Hid (ByG (wr.setCell ⟨g, 4113, none⟩ (.int .u8 8)) g 12288 (putN X 4112 536872961 (1 + 1))) := r1.out.set 4113 8 (by decide)
        have hB2 := Lib.hid (grown_set hB.out 4113 (.int .u8 8))
        clear r1 hB hf1
        go_wp2_with fail
        go_roundg gg
        case measure => omega
        case rel => exact ⟨1 + 1, by omega, by rfl, RN, hB2⟩
      · have hc := r1.out.cell 4114 (by decide)
        have hz := r1.out.fz 4114
        obtain ⟨f1, hf1⟩ : ∃ f1, putN X 4112 536872961 2 = f1 := ⟨_, rfl⟩
        rw [hf1] at hc
        have RN : Hid (ByG (wr.setCell ⟨g, 4114, none⟩ (.int .u8 0)) g 12288 (putN X 4112 536872961 (2 + 1))) := r1.out.set 4114 0 (by decide)
        have hB2 := Lib.hid (grown_set hB.out 4114 (.int .u8 0))
        clear r1 hB hf1
        go_wp2_with fail
        go_roundg gg
        case measure => omega
        case rel => exact ⟨2 + 1, by omega, by rfl, RN, hB2⟩
      · have hc := r1.out.cell 4115 (by decide)
        have hz := r1.out.fz 4115
        obtain ⟨f1, hf1⟩ : ∃ f1, putN X 4112 536872961 3 = f1 := ⟨_, rfl⟩
        rw [hf1] at hc
        have RN : Hid (ByG (wr.setCell ⟨g, 4115, none⟩ (.int .u8 32)) g 12288 (putN X 4112 536872961 (3 + 1))) := r1.out.set 4115 32 (by decide)
        have hB2 := Lib.hid (grown_set hB.out 4115 (.int .u8 32))
        clear r1 hB hf1
        go_wp2_with fail
        go_roundg gg
        case measure => omega
        case rel => exact ⟨3 + 1, by omega, by rfl, RN, hB2⟩
      · have hc := r1.out.cell 4116 (by decide)
        have hz := r1.out.fz 4116
        obtain ⟨f1, hf1⟩ : ∃ f1, putN X 4112 536872961 4 = f1 := ⟨_, rfl⟩
        rw [hf1] at hc
        have RN : Hid (ByG (wr.setCell ⟨g, 4116, none⟩ (.int .u8 0)) g 12288 (putN X 4112 536872961 (4 + 1))) := r1.out.set 4116 0 (by decide)
        have hB2 := Lib.hid (grown_set hB.out 4116 (.int .u8 0))
        clear r1 hB hf1
        go_wp2_with fail
        go_roundg gg
        case measure => omega
        case rel => exact ⟨4 + 1, by omega, by rfl, RN, hB2⟩
      · have hc := r1.out.cell 4117 (by decide)
        have hz := r1.out.fz 4117
        obtain ⟨f1, hf1⟩ : ∃ f1, putN X 4112 536872961 5 = f1 := ⟨_, rfl⟩
        rw [hf1] at hc
        have RN : Hid (ByG (wr.setCell ⟨g, 4117, none⟩ (.int .u8 0)) g 12288 (putN X 4112 536872961 (5 + 1))) := r1.out.set 4117 0 (by decide)
        have hB2 := Lib.hid (grown_set hB.out 4117 (.int .u8 0))
        clear r1 hB hf1
        go_wp2_with fail
        go_roundg gg
        case measure => omega
        case rel => exact ⟨5 + 1, by omega, by rfl, RN, hB2⟩
      · have hc := r1.out.cell 4118 (by decide)
        have hz := r1.out.fz 4118
        obtain ⟨f1, hf1⟩ : ∃ f1, putN X 4112 536872961 6 = f1 := ⟨_, rfl⟩
        rw [hf1] at hc
        have RN : Hid (ByG (wr.setCell ⟨g, 4118, none⟩ (.int .u8 0)) g 12288 (putN X 4112 536872961 (6 + 1))) := r1.out.set 4118 0 (by decide)
        have hB2 := Lib.hid (grown_set hB.out 4118 (.int .u8 0))
        clear r1 hB hf1
        go_wp2_with fail
        go_roundg gg
        case measure => omega
        case rel => exact ⟨6 + 1, by omega, by rfl, RN, hB2⟩
      · have hc := r1.out.cell 4119 (by decide)
        have hz := r1.out.fz 4119
        obtain ⟨f1, hf1⟩ : ∃ f1, putN X 4112 536872961 7 = f1 := ⟨_, rfl⟩
        rw [hf1] at hc
        have RN : Hid (ByG (wr.setCell ⟨g, 4119, none⟩ (.int .u8 0)) g 12288 (putN X 4112 536872961 (7 + 1))) := r1.out.set 4119 0 (by decide)
        have hB2 := Lib.hid (grown_set hB.out 4119 (.int .u8 0))
        clear r1 hB hf1
        go_wp2_with fail
        go_roundg gg
        case measure => omega
        case rel => exact ⟨7 + 1, by omega, by rfl, RN, hB2⟩
set_option maxRecDepth 100000 in
set_option maxHeartbeats 2000000 in
theorem put_2 (g : Nat) (X : Nat → Nat) (w : World) (hX : Hid (ByG w g 12288 X)) : Calls Tryz.prog 9 #[.slice (some ⟨g, 0, none⟩) 12288 12288, .int .i64 8200, .int .u64 537395407] w (RetP g 12288 (putN X 8200 537395407 8) w) := by
  go_enter Tryz.func9, Tryz.ntmps9
  go_wp2_with fail
  go_loopg [6] 8 (fun gg i wr => ∃ n : Nat, n + gg = 8 ∧ i = .int .i64 n ∧ Hid (ByG wr g 12288 (putN X 8200 537395407 n)) ∧ Hid (w.grownBy wr (some g)))
  case atStart => exact ⟨0, rfl, rfl, hX, grown_refl _ _⟩
  case round =>
    obtain ⟨n, hn, rfl, r1, hB⟩ := hrel
    cases gk with
    | zero =>
      obtain rfl : n = 8 := by omega
      go_wp2_with fail
      go_end0
      exact ⟨rfl, r1.out, hB.out⟩
    | succ gg =>
      have : n = 0 ∨ n = 1 ∨ n = 2 ∨ n = 3 ∨ n = 4 ∨ n = 5 ∨ n = 6 ∨ n = 7 := by omega
      rcases this with rfl | rfl | rfl | rfl | rfl | rfl | rfl | rfl
      · have hc := r1.out.cell 8200 (by decide)
        have hz := r1.out.fz 8200
        obtain ⟨f1, hf1⟩ : ∃ f1, putN X 8200 537395407 0 = f1 := ⟨_, rfl⟩
        rw [hf1] at hc
        have RN : Hid (ByG (wr.setCell ⟨g, 8200, none⟩ (.int .u8 207)) g 12288 (putN X 8200 537395407 (0 + 1))) := r1.out.set 8200 207 (by decide)
        have hB2 := Lib.hid (grown_set hB.out 8200 (.int .u8 207))
        clear r1 hB hf1
        go_wp2_with fail
        go_roundg gg
        case measure => omega
        case rel => exact ⟨0 + 1, by omega, by rfl, RN, hB2⟩
      · have hc := r1.out.cell 8201 (by decide)
        have hz := r1.out.fz 8201
        obtain ⟨f1, hf1⟩ : ∃ f1, putN X 8200 537395407 1 = f1 := ⟨_, rfl⟩
        rw [hf1] at hc
        have RN : Hid (ByG (wr.setCell ⟨g, 8201, none⟩ (.int .u8 0)) g 12288 (putN X 8200 537395407 (1 + 1))) := r1.out.set 8201 0 (by decide)
        have hB2 := Lib.hid (grown_set hB.out 8201 (.int .u8 0))
        clear r1 hB hf1
        go_wp2_with fail
        go_roundg gg
        case measure => omega
        case rel => exact ⟨1 + 1, by omega, by rfl, RN, hB2⟩
      · have hc := r1.out.cell 8202 (by decide)
        have hz := r1.out.fz 8202
        obtain ⟨f1, hf1⟩ : ∃ f1, putN X 8200 537395407 2 = f1 := ⟨_, rfl⟩
        rw [hf1] at hc
        have RN : Hid (ByG (wr.setCell ⟨g, 8202, none⟩ (.int .u8 8)) g 12288 (putN X 8200 537395407 (2 + 1))) := r1.out.set 8202 8 (by decide)
        have hB2 := Lib.hid (grown_set hB.out 8202 (.int .u8 8))
        clear r1 hB hf1
        go_wp2_with fail
        go_roundg gg
        case measure => omega
        case rel => exact ⟨2 + 1, by omega, by rfl, RN, hB2⟩
      · have hc := r1.out.cell 8203 (by decide)
        have hz := r1.out.fz 8203
        obtain ⟨f1, hf1⟩ : ∃ f1, putN X 8200 537395407 3 = f1 := ⟨_, rfl⟩
        rw [hf1] at hc
        have RN : Hid (ByG (wr.setCell ⟨g, 8203, none⟩ (.int .u8 32)) g 12288 (putN X 8200 537395407 (3 + 1))) := r1.out.set 8203 32 (by decide)
        have hB2 := Lib.hid (grown_set hB.out 8203 (.int .u8 32))
        clear r1 hB hf1
        go_wp2_with fail
        go_roundg gg
        case measure => omega
        case rel => exact ⟨3 + 1, by omega, by rfl, RN, hB2⟩
      · have hc := r1.out.cell 8204 (by decide)
        have hz := r1.out.fz 8204
        obtain ⟨f1, hf1⟩ : ∃ f1, putN X 8200 537395407 4 = f1 := ⟨_, rfl⟩
        rw [hf1] at hc
        have RN : Hid (ByG (wr.setCell ⟨g, 8204, none⟩ (.int .u8 0)) g 12288 (putN X 8200 537395407 (4 + 1))) := r1.out.set 8204 0 (by decide)
        have hB2 := Lib.hid (grown_set hB.out 8204 (.int .u8 0))
        clear r1 hB hf1
        go_wp2_with fail
        go_roundg gg
        case measure => omega
        case rel => exact ⟨4 + 1, by omega, by rfl, RN, hB2⟩
      · have hc := r1.out.cell 8205 (by decide)
        have hz := r1.out.fz 8205
        obtain ⟨f1, hf1⟩ : ∃ f1, putN X 8200 537395407 5 = f1 := ⟨_, rfl⟩
        rw [hf1] at hc
        have RN : Hid (ByG (wr.setCell ⟨g, 8205, none⟩ (.int .u8 0)) g 12288 (putN X 8200 537395407 (5 + 1))) := r1.out.set 8205 0 (by decide)
        have hB2 := Lib.hid (grown_set hB.out 8205 (.int .u8 0))
        clear r1 hB hf1
        go_wp2_with fail
        go_roundg gg
        case measure => omega
        case rel => exact ⟨5 + 1, by omega, by rfl, RN, hB2⟩
      · have hc := r1.out.cell 8206 (by decide)
        have hz := r1.out.fz 8206
        obtain ⟨f1, hf1⟩ : ∃ f1, putN X 8200 537395407 6 = f1 := ⟨_, rfl⟩
        rw [hf1] at hc
        have RN : Hid (ByG (wr.setCell ⟨g, 8206, none⟩ (.int .u8 0)) g 12288 (putN X 8200 537395407 (6 + 1))) := r1.out.set 8206 0 (by decide)
        have hB2 := Lib.hid (grown_set hB.out 8206 (.int .u8 0))
        clear r1 hB hf1
        go_wp2_with fail
        go_roundg gg
        case measure => omega
        case rel => exact ⟨6 + 1, by omega, by rfl, RN, hB2⟩
      · have hc := r1.out.cell 8207 (by decide)
        have hz := r1.out.fz 8207
        obtain ⟨f1, hf1⟩ : ∃ f1, putN X 8200 537395407 7 = f1 := ⟨_, rfl⟩
        rw [hf1] at hc
        have RN : Hid (ByG (wr.setCell ⟨g, 8207, none⟩ (.int .u8 0)) g 12288 (putN X 8200 537395407 (7 + 1))) := r1.out.set 8207 0 (by decide)
        have hB2 := Lib.hid (grown_set hB.out 8207 (.int .u8 0))
        clear r1 hB hf1
        go_wp2_with fail
        go_roundg gg
        case measure => omega
        case rel => exact ⟨7 + 1, by omega, by rfl, RN, hB2⟩
end Go.Proofs.YthhlcchofilimaaGreatDoor
