/- Write: a number's bytes are laid, the lowest first. -/
import Derived.Test.YtibgdlianedcbaaB7
namespace Go.Proofs.Ytibgdlianedcbaa
open Go.Maps Go.WideMaps Go.ChangeShapes Go.WideShapes Go.ChangeAt Go.RowKit
set_option linter.unusedVariables false
set_option linter.unusedSimpArgs false
/-- A number's byte. -/
def byteV (v i : Nat) : Nat := v / 256 ^ i % 256
/-- The row: the first k bytes of the number stand, the others are 0. -/
def RowW (B g v k : Nat) (W w : World) : Prop := Below B W w ∧ g < w.heap.size ∧ ∀ i, i < 8 → w.cell? ⟨g, i, none⟩ = some (.int .u8 (if i < k then byteV v i else 0 : Nat)) ∧ w.frozen? ⟨g, i, none⟩ = false
theorem RowW.next {B g v k : Nat} {W w : World} (h : RowW B g v k W w) (hB : B ≤ g) (hk : k < 8) (u : Value) (hu : u = .int .u8 (byteV v k : Nat)) : RowW B g v (k + 1) W (w.setCell ⟨g, k, none⟩ u) := by
  obtain ⟨h1, h2, h3⟩ := h
  refine ⟨Below.setCell h1 hB _, by rw [sz_set]; exact h2, fun i hi => ⟨?_, by rw [World.frozen?_setCell]; exact (h3 i hi).2⟩⟩
  by_cases e : i = k
  · subst e
    rw [World.cell?_setCell_same _ _ _ (by rw [(h3 i hi).1]), if_pos (Nat.lt_succ_self _)]; exact congrArg some hu
  · rw [World.cell?_setCell_other _ _ _ _ (by intro q; injection q with q1 q2; exact e q2.symm), (h3 i hi).1]
    by_cases c : i < k
    · rw [if_pos c, if_pos (by omega)]
    · rw [if_neg c, if_neg (by omega)]
theorem row_start (B v : Nat) (w1 : World) (hB : B ≤ w1.heap.size) (t : TypeId) : RowW B w1.heap.size v 0 w1 (w1.alloc (Obj.cells #[.int .u8 0, .int .u8 0, .int .u8 0, .int .u8 0, .int .u8 0, .int .u8 0, .int .u8 0, .int .u8 0] t)) := by
  refine ⟨Below.alloc (Below.refl _ _) hB _, by rw [sz_alloc]; omega, fun i hi => ⟨?_, by rw [World.frozen?_alloc_at _ _ _ _ rfl]⟩⟩
  rw [if_neg (Nat.not_lt_zero _)]
  exact cells8 w1 t i hi
/-- A number of n bytes was laid (or there was no room). -/
def RetW (S : Nat → Prop) (m a n v : Nat) (F : Nat → Nat) (W : World) (e : Ending) (w' : World) : Prop := e = .returned (.bool true) ∧ Laying S W m a n F (byteV v) w'
set_option maxRecDepth 100000 in
set_option maxHeartbeats 4000000 in
theorem write_y (S : Nat → Prop) (m a n v : Nat) (F : Nat → Nat) (w : World) (hM : Hid (MemS S w m F)) (hSb : Hid (∀ i, S i → i < w.heap.size)) (hn : Hid (n = 1 ∨ n = 2 ∨ n = 4 ∨ n = 8)) (ha : Hid (a < 18446744073709551616)) (hvv : Hid (v < 18446744073709551616)) (hv : Hid (hasV a n = true)) :
    Calls Try.prog 12 #[.pointer (some ⟨m, 0, none⟩), .int .u64 a, .int .i64 n, .int .u64 v] w (RetW S m a n v F w) := by
  have n8 : (n : Int) ≤ 8 := by have := hn.out; omega
  have n0 : (0 : Int) ≤ n := by omega
  go_enter Try.func12, Try.ntmps12
  go_wp2_with fail
  refine (has_c _ a ha n _).mono ?_; rintro e w1 ⟨rfl, hb1⟩
  rw [hv.out]
  go_wp2_with fail
  go_loopw [16] (fun i wr => ∃ k : Nat, k ≤ 8 ∧ i = .int .i64 k ∧ Hid (RowW w1.heap.size w1.heap.size v k w1 wr)) (fun i _ => 8 - (intOf i).toNat)
  case atStart => exact ⟨0, by omega, rfl, row_start _ v w1 (Nat.le_refl _) _⟩
  case round =>
    obtain ⟨k, hk, rfl, hR⟩ := hrel
    have hk8 : k = 0 ∨ k = 1 ∨ k = 2 ∨ k = 3 ∨ k = 4 ∨ k = 5 ∨ k = 6 ∨ k = 7 ∨ k = 8 := by omega
    rcases hk8 with rfl | rfl | rfl | rfl | rfl | rfl | rfl | rfl | rfl
    · have hc : wr.cell? ⟨w1.heap.size, 0, none⟩ = some (.int .u8 0) := (hR.out.2.2 0 (by decide)).1
      have hf : wr.frozen? ⟨w1.heap.size, 0, none⟩ = false := (hR.out.2.2 0 (by decide)).2
      go_wp2_with fail
      go_roundw
      case rel => exact ⟨1, by omega, rfl, hR.out.next (Nat.le_refl _) (by decide) _ (by congr 1; show (v : Int) % 256 = ((v / 1 % 256 : Nat) : Int); omega)⟩
      case measure => show 8 - ((1 : Int)).toNat < 8 - (((0 : Nat) : Int)).toNat; decide
    · have hc : wr.cell? ⟨w1.heap.size, 1, none⟩ = some (.int .u8 0) := (hR.out.2.2 1 (by decide)).1
      have hf : wr.frozen? ⟨w1.heap.size, 1, none⟩ = false := (hR.out.2.2 1 (by decide)).2
      go_wp2_with fail
      go_roundw
      case rel => exact ⟨2, by omega, rfl, hR.out.next (Nat.le_refl _) (by decide) _ (by congr 1)⟩
      case measure => show 8 - ((2 : Int)).toNat < 8 - (((1 : Nat) : Int)).toNat; decide
    · have hc : wr.cell? ⟨w1.heap.size, 2, none⟩ = some (.int .u8 0) := (hR.out.2.2 2 (by decide)).1
      have hf : wr.frozen? ⟨w1.heap.size, 2, none⟩ = false := (hR.out.2.2 2 (by decide)).2
      go_wp2_with fail
      go_roundw
      case rel => exact ⟨3, by omega, rfl, hR.out.next (Nat.le_refl _) (by decide) _ (by congr 1)⟩
      case measure => show 8 - ((3 : Int)).toNat < 8 - (((2 : Nat) : Int)).toNat; decide
    · have hc : wr.cell? ⟨w1.heap.size, 3, none⟩ = some (.int .u8 0) := (hR.out.2.2 3 (by decide)).1
      have hf : wr.frozen? ⟨w1.heap.size, 3, none⟩ = false := (hR.out.2.2 3 (by decide)).2
      go_wp2_with fail
      go_roundw
      case rel => exact ⟨4, by omega, rfl, hR.out.next (Nat.le_refl _) (by decide) _ (by congr 1)⟩
      case measure => show 8 - ((4 : Int)).toNat < 8 - (((3 : Nat) : Int)).toNat; decide
    · have hc : wr.cell? ⟨w1.heap.size, 4, none⟩ = some (.int .u8 0) := (hR.out.2.2 4 (by decide)).1
      have hf : wr.frozen? ⟨w1.heap.size, 4, none⟩ = false := (hR.out.2.2 4 (by decide)).2
      go_wp2_with fail
      go_roundw
      case rel => exact ⟨5, by omega, rfl, hR.out.next (Nat.le_refl _) (by decide) _ (by congr 1)⟩
      case measure => show 8 - ((5 : Int)).toNat < 8 - (((4 : Nat) : Int)).toNat; decide
    · have hc : wr.cell? ⟨w1.heap.size, 5, none⟩ = some (.int .u8 0) := (hR.out.2.2 5 (by decide)).1
      have hf : wr.frozen? ⟨w1.heap.size, 5, none⟩ = false := (hR.out.2.2 5 (by decide)).2
      go_wp2_with fail
      go_roundw
      case rel => exact ⟨6, by omega, rfl, hR.out.next (Nat.le_refl _) (by decide) _ (by congr 1)⟩
      case measure => show 8 - ((6 : Int)).toNat < 8 - (((5 : Nat) : Int)).toNat; decide
    · have hc : wr.cell? ⟨w1.heap.size, 6, none⟩ = some (.int .u8 0) := (hR.out.2.2 6 (by decide)).1
      have hf : wr.frozen? ⟨w1.heap.size, 6, none⟩ = false := (hR.out.2.2 6 (by decide)).2
      go_wp2_with fail
      go_roundw
      case rel => exact ⟨7, by omega, rfl, hR.out.next (Nat.le_refl _) (by decide) _ (by congr 1)⟩
      case measure => show 8 - ((7 : Int)).toNat < 8 - (((6 : Nat) : Int)).toNat; decide
    · have hc : wr.cell? ⟨w1.heap.size, 7, none⟩ = some (.int .u8 0) := (hR.out.2.2 7 (by decide)).1
      have hf : wr.frozen? ⟨w1.heap.size, 7, none⟩ = false := (hR.out.2.2 7 (by decide)).2
      go_wp2_with fail
      go_roundw
      case rel => exact ⟨8, by omega, rfl, hR.out.next (Nat.le_refl _) (by decide) _ (by congr 1)⟩
      case measure => show 8 - ((8 : Int)).toNat < 8 - (((7 : Nat) : Int)).toNat; decide
    · have HB := Lib.hid (hb1.trans (hR.out.1.mono hb1.size))
      have hM2 : Hid (MemS S wr m F) := hM.out.kept (T := fun _ => False) (Own.below HB.out) (fun _ _ h => h)
      have hle : Hid (n ≤ 8) := by have := hn.out; show n ≤ 8; omega
      have hin : Hid (2147483648 ≤ a ∧ a + n ≤ 2148532224) := by
        have h := hv.out
        unfold hasV at h
        have := of_decide_eq_true h
        show _ ∧ _
        omega
      have hgS : Hid (w1.heap.size < wr.heap.size ∧ ¬ S w1.heap.size) := ⟨hR.out.2.1, fun h => by have := hSb.out _ h; have := hb1.size; omega⟩
      go_wp2_with fail
      refine (put_c S m w1.heap.size 0 n 8 a F (byteV v) _ hM2 (Lib.hid (fun i h => Nat.lt_of_lt_of_le (hSb.out i h) HB.out.size)) hgS hin (Lib.hid ⟨hle.out, by have := hle.out; omega⟩) (Lib.hid (fun i hi => by
        have q := (hR.out.2.2 i (by have := hle.out; omega)).1
        rw [if_pos (by have := hle.out; omega)] at q
        rw [Nat.zero_add]; exact q))).mono ?_
      rintro e w2 ⟨rfl, S', hS1, hS2, hS3⟩
      go_wp2_with fail
      go_ret
      exact ⟨rfl, S', hS1, (Own.below HB.out).trans hS2, fun i hi => ⟨(hS3 i hi).1, (hS3 i hi).2.elim Or.inl (fun q => Or.inr (Nat.le_trans HB.out.size q))⟩⟩
theorem write_n (m a : Nat) (sz : Int) (v : Nat) (w : World) (ha : Hid (a < 18446744073709551616)) (hv : Hid (hasV a sz = false)) :
    Calls Try.prog 12 #[.pointer (some ⟨m, 0, none⟩), .int .u64 a, .int .i64 sz, .int .u64 v] w (RetB false w) := by
  go_enter Try.func12, Try.ntmps12
  go_wp2_with fail
  refine (has_c _ a ha sz _).mono ?_; rintro e w1 ⟨rfl, hb1⟩
  rw [hv.out]
  go_wp2_with fail
  go_ret
  exact ⟨rfl, hb1⟩
end Go.Proofs.Ytibgdlianedcbaa
