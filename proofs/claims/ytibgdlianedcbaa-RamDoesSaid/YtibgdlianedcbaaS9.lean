/- The breaking of patterns. -/
import Derived.Test.YtibgdlianedcbaaS8
import Derived.Test.YtibgdlianedcbaaShelf
import Derived.Laws.Closers25b
import Derived.Laws.BitsAllLaws
import Derived.Lib.ItoaNum
namespace Go.Proofs.Ytibgdlianedcbaa
open Go.Maps Go.WideMaps Go.ChangeShapes Go.WideShapes Go.ChangeAt Go.RowKit
set_option linter.unusedVariables false
set_option linter.unusedSimpArgs false
theorem two_len (L m : Nat) (h0 : 0 < L) (h1 : L < 1152921504606846976) (hm : m = Lib.bitLen L) : m ≤ 60 ∧ 2 ^ m ≤ 2 * L := by
  have h2 : m ≤ 60 := by rw [hm]; exact Lib.bitLen_le L 60 (by decide) (by omega)
  have h3 := Lib.bitLenAux_bounds 64 L (by omega) (by omega)
  have h4 : Lib.bitLenAux 64 L = m := hm.symm
  rw [h4] at h3
  obtain ⟨k, rfl⟩ : ∃ k, m = k + 1 := ⟨m - 1, by omega⟩
  rw [Nat.add_sub_cancel] at h3
  refine ⟨h2, ?_⟩
  rw [Nat.pow_succ]
  omega
def RetTwo (L : Nat) (w : World) (e : Ending) (w' : World) : Prop := ∃ M : Nat, e = .returned (.int .u64 M) ∧ Hid (0 < M ∧ M ≤ 2 * L) ∧ w' = w
set_option maxHeartbeats 4000000 in
theorem np_c (L : Nat) (w : World) (hL : Hid (0 < L ∧ L < 1152921504606846976)) :
    Calls Try.prog 47 #[.int .i64 L] w (RetTwo L w) := by
  have Ln : (L : Int) < 1152921504606846976 := by have := hL.out; omega
  go_enter Try.func47, Try.ntmps47
  go_wp2_with fail
  refine (Try.bits_Len L _ (by omega) (by omega)).mono ?_; rintro e w1 ⟨rfl, h1⟩
  subst h1
  obtain ⟨m, hm⟩ : ∃ m, m = Lib.bitLen (L : Int).toNat := ⟨_, rfl⟩
  rw [← hm]
  have hT := two_len L m hL.out.1 hL.out.2 (by rw [hm]; congr 1)
  have m61 : (m : Int) < 61 := by omega
  have HT := Lib.hid hT
  clear hm hT
  go_wp2_with fail
  have ew : IntKind.u64.wrap ((2 : Int) ^ m) = ((2 ^ m : Nat) : Int) := by
    have e : ((2 ^ m : Nat) : Int) = (2 : Int) ^ m := by simp
    rw [← e]
    obtain ⟨K, hK⟩ : ∃ K, K = 2 ^ m := ⟨_, rfl⟩
    have HT' := HT.out
    rw [← hK] at HT' ⊢
    exact IntWalk.u64_in _ (by have := hL.out; omega)
  rw [ew]
  exact bodyPost_ret (v := .int .u64 ((2 ^ m : Nat) : Int)) (by simp [results, Try.results47, go_sem] <;> (first | rfl | (repeat' (first | rfl | apply And.intro)))) rfl ⟨2 ^ m, rfl, ⟨Nat.pow_pos (by decide), HT.out.2⟩, rfl⟩
/-- A word in a block of its own. -/
def Wrd (w0 w : World) (g q x : Nat) : Prop := w0.grownBy w (some g) ∧ w0.heap.size ≤ q ∧ q < w.heap.size ∧ w.cell? ⟨q, 0, none⟩ = some (.int .u64 x) ∧ w.frozen? ⟨q, 0, none⟩ = false ∧ x < 18446744073709551616
theorem bits_nat (op : BinOp) (a b : Int) : ∃ y : Nat, bits op .u64 a b = (y : Int) ∧ (y : Int) < 18446744073709551616 := by
  have h1 := bits_lo_u64 op a b
  have h2 := bits_hi_u64 op a b
  exact ⟨(bits op .u64 a b).toNat, by omega, by omega⟩
def RetNxt (q : Nat) (w : World) (e : Ending) (w' : World) : Prop := ∃ y : Nat, e = .returned (.int .u64 y) ∧ Hid ((y : Int) < 18446744073709551616) ∧ Hid (w'.cell? ⟨q, 0, none⟩ = some (.int .u64 y) ∧ w'.frozen? ⟨q, 0, none⟩ = false) ∧ Hid (w.grownBy w' (some q))
set_option maxRecDepth 100000 in
set_option maxHeartbeats 4000000 in
theorem next_c (q x : Nat) (w : World) (hc : w.cell? ⟨q, 0, none⟩ = some (.int .u64 x)) (hz : w.frozen? ⟨q, 0, none⟩ = false) (hx : (x : Int) < 18446744073709551616) :
    Calls Try.prog 48 #[.pointer (some ⟨q, 0, none⟩)] w (RetNxt q w) := by
  go_enter Try.func48, Try.ntmps48
  go_wp2_with fail
  go_region
  obtain ⟨y1, e1, b1⟩ := bits_nat .xor (x : Int) (IntKind.u64.wrap ((x : Int) * 8192))
  rw [e1]
  have H1 : Hid (w.grownBy (w.setCell ⟨q, 0, none⟩ (.int .u64 y1)).drew (some q)) := grown_drewN' (grown_set (grown_refl _ _) _ none _ none) 1
  have c1 : (w.setCell ⟨q, 0, none⟩ (.int .u64 y1)).drew.cell? ⟨q, 0, none⟩ = some (.int .u64 y1) := World.cell?_setCell_same _ _ _ hc
  have z1 : (w.setCell ⟨q, 0, none⟩ (.int .u64 y1)).drew.frozen? ⟨q, 0, none⟩ = false := by show World.frozen? (w.setCell _ _) _ = _; rw [World.frozen?_setCell]; exact hz
  generalize (w.setCell ⟨q, 0, none⟩ (.int .u64 y1)).drew = w1 at H1 c1 z1 ⊢
  clear hc hz hx e1
  go_wp2_with fail
  go_region
  obtain ⟨y2, e2, b2⟩ := bits_nat .xor (y1 : Int) ((y1 : Int) / 128)
  rw [e2]
  have H2 : Hid (w.grownBy (w1.setCell ⟨q, 0, none⟩ (.int .u64 y2)).drew (some q)) := grown_drewN' (grown_set H1.out _ none _ none) 1
  have c2 : (w1.setCell ⟨q, 0, none⟩ (.int .u64 y2)).drew.cell? ⟨q, 0, none⟩ = some (.int .u64 y2) := World.cell?_setCell_same _ _ _ c1
  have z2 : (w1.setCell ⟨q, 0, none⟩ (.int .u64 y2)).drew.frozen? ⟨q, 0, none⟩ = false := by show World.frozen? (w1.setCell _ _) _ = _; rw [World.frozen?_setCell]; exact z1
  generalize (w1.setCell ⟨q, 0, none⟩ (.int .u64 y2)).drew = w2 at H2 c2 z2 ⊢
  clear c1 z1 H1 b1 e2
  go_wp2_with fail
  go_region
  obtain ⟨y3, e3, b3⟩ := bits_nat .xor (y2 : Int) (IntKind.u64.wrap ((y2 : Int) * 131072))
  rw [e3]
  have H3 : Hid (w.grownBy (w2.setCell ⟨q, 0, none⟩ (.int .u64 y3)).drew (some q)) := grown_drewN' (grown_set H2.out _ none _ none) 1
  have c3 : (w2.setCell ⟨q, 0, none⟩ (.int .u64 y3)).drew.cell? ⟨q, 0, none⟩ = some (.int .u64 y3) := World.cell?_setCell_same _ _ _ c2
  have z3 : (w2.setCell ⟨q, 0, none⟩ (.int .u64 y3)).drew.frozen? ⟨q, 0, none⟩ = false := by show World.frozen? (w2.setCell _ _) _ = _; rw [World.frozen?_setCell]; exact z2
  generalize (w2.setCell ⟨q, 0, none⟩ (.int .u64 y3)).drew = w3 at H3 c3 z3 ⊢
  clear c2 z2 H2 b2 e3
  go_wp2_with fail
  exact bodyPost_ret (v := .int .u64 (y3 : Nat)) (by simp [results, Try.results48, go_sem] <;> (first | rfl | (repeat' (first | rfl | apply And.intro)))) rfl ⟨y3, rfl, b3, ⟨c3, z3⟩, H3⟩
theorem grown_far {a b c : World} {g q : Nat} (h : a.grownBy b (some g)) (k : b.grownBy c (some q)) (hq : a.heap.size ≤ q) : a.grownBy c (some g) :=
  ⟨k.os.trans h.os, k.tape.trans h.tape, k.output.trans h.output, Nat.le_trans h.size k.size, fun i hi hne => (k.block i (Nat.lt_of_lt_of_le hi h.size) (by intro e; injection e with e; omega)).trans (h.block i hi hne)⟩
theorem RowU.grown {w w' : World} {g n q : Nat} {X : Nat → Nat} (h : RowU w g n X) (k : w.grownBy w' (some q)) (hq : g ≠ q) : RowU w' g n X := by
  have hb := k.block g h.1 (by intro e; injection e with e; exact hq e)
  exact ⟨Nat.lt_of_lt_of_le h.1 k.size, fun i hi => ⟨(World.cell?_of_block (w := w) hb).trans (h.2 i hi).1, (World.frozen?_of_block (w := w) hb).trans (h.2 i hi).2⟩⟩
/-- Swapped about, a word beside. -/
def MixW (X : Nat → Nat) (g n a b q : Nat) (w w' : World) (Y : Nat → Nat) (x : Nat) : Prop := Mixed X g n a b w w' Y ∧ g < w.heap.size ∧ w.heap.size ≤ q ∧ w'.cell? ⟨q, 0, none⟩ = some (.int .u64 x) ∧ w'.frozen? ⟨q, 0, none⟩ = false ∧ (x : Int) < 18446744073709551616
theorem MixW.next {X Y : Nat → Nat} {g n a b q x y : Nat} {w wr w' : World} (h : MixW X g n a b q w wr Y x) (hy : (y : Int) < 18446744073709551616) (hc : w'.cell? ⟨q, 0, none⟩ = some (.int .u64 y) ∧ w'.frozen? ⟨q, 0, none⟩ = false) (hg : wr.grownBy w' (some q)) : MixW X g n a b q w w' Y y :=
  ⟨⟨h.1.1.grown hg (by have := h.2.1; have := h.2.2.1; omega), h.1.2.1, grown_far h.1.2.2 hg h.2.2.1⟩, h.2.1, h.2.2.1, hc.1, hc.2, hy⟩
theorem MixW.swap {X Y : Nat → Nat} {g n a b q x : Nat} {w wr : World} (h : MixW X g n a b q w wr Y x) (i j : Nat) (h1 : a ≤ i) (h2 : i < b) (h3 : a ≤ j) (h4 : j < b) (hb : b ≤ n) : MixW X g n a b q w ((wr.setCell ⟨g, i, none⟩ (.int .u64 (Y j : Nat))).setCell ⟨g, j, none⟩ (.int .u64 (Y i : Nat))).drew (swp Y i j) x := by
  have hq : g ≠ q := by have := h.2.1; have := h.2.2.1; omega
  refine ⟨h.1.swap i j h1 h2 h3 h4 hb, h.2.1, h.2.2.1, ?_, ?_, h.2.2.2.2.2⟩
  · show World.cell? (World.setCell _ _ _) _ = _
    rw [World.cell?_setCell_other _ _ _ _ (by intro e; injection e with e1 e2; exact hq e1), World.cell?_setCell_other _ _ _ _ (by intro e; injection e with e1 e2; exact hq e1)]
    exact h.2.2.2.1
  · show World.frozen? (World.setCell _ _ _) _ = _
    rw [World.frozen?_setCell, World.frozen?_setCell]
    exact h.2.2.2.2.1
end Go.Proofs.Ytibgdlianedcbaa
