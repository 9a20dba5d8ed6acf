/- The contracts of the reference's small words for rows. -/
import Derived.Test.YtlohpakcikkdmaaR0
namespace Go.Proofs.Ytlohpakcikkdmaa
open Go.ChangeShapes Go.WideShapes Go.ChangeAt Go.RowKit
set_option linter.unusedVariables false
set_option linter.unusedSimpArgs false
def b3 (o f : Nat) : Nat := o ||| f * 4096
def b7 (o f g : Nat) : Nat := o ||| f * 4096 ||| g * 33554432
theorem b3_eq (o f : Nat) (ho : o < 4294967296) (hf : f < 1048576) : bits .or .u32 (o : Int) ((f : Int) * 4096) = ((b3 o f : Nat) : Int) := by
  have e : ((f : Int) * 4096) = ((f * 4096 : Nat) : Int) := by omega
  rw [e, u32_or_nat _ _ ho (by omega)]; rfl
theorem b7_eq (o f g : Nat) (ho : o < 4294967296) (hf : f < 1048576) (hg : g < 128) : bits .or .u32 ((b3 o f : Nat) : Int) ((g : Int) * 33554432) = ((b7 o f g : Nat) : Int) := by
  have e : ((g : Int) * 33554432) = ((g * 33554432 : Nat) : Int) := by omega
  have hl : b3 o f < 4294967296 := Nat.or_lt_two_pow (n := 32) (by omega) (by omega)
  rw [e, u32_or_nat _ _ hl (by omega)]; rfl
theorem grow_q {w wr W0 w' : World} {l : Value} {L : List QRow} (hbw : Below w.heap.size w wr) (h0 : Below wr.heap.size wr W0) (hL : OwnT wr w.heap.size l L) (q2 : W0.grownBy w' l.ownBlock) : Below w.heap.size w w' :=
  below_step (grown_below (own_below hL h0) q2 (by have := hbw.size; have := h0.size; omega)) (hbw.trans (h0.mono hbw.size)) (Nat.le_refl _)
def RetQ (m bt : Int) (k : Int) (s : ByteArray) (sz : Int) (wd un : Bool) (W : World) (e : Ending) (w' : World) : Prop :=
  e = .returned (.agg #[.int .u32 m, .int .u32 bt, .int .i64 k, .string s, .int .i64 sz, .bool wd, .bool un]) ∧ Below W.heap.size W w'
theorem op_c (o k : Int) (s : ByteArray) (w : World) : Calls Try.prog 36 #[.int .u32 o, .int .i64 k, .string s] w (RetQ 127 o k s 0 false false w) := by
  go_enter Try.func36, Try.ntmps36
  go_wp2
  exact bodyPost_ret (v := .agg #[_, _, _, _, _, _, _]) (by simp [results, Try.results36, go_sem, sz_set] <;> (first | rfl | (repeat' (first | rfl | apply And.intro)))) rfl ⟨rfl, (by repeat (first | (with_reducible first | exact Below.refl _ _ | assumption | exact Nat.le_refl _ | refine Below.drew ?_ | refine Below.alloc ?_ ?_ _ | refine Below.setCell ?_ ?_ _ | refine le_alloc ?_ | refine le_set ?_ | refine le_drew ?_ | refine below_step (by assumption) ?_ ?_ | refine le_below (by assumption) ?_) | (dsimp only; omega)))⟩
theorem op3_c (o f : Nat) (ho : o < 4294967296) (hf : f < 1048576) (k : Int) (s : ByteArray) (w : World) : Calls Try.prog 37 #[.int .u32 o, .int .u32 f, .int .i64 k, .string s] w (RetQ 28799 (b3 o f : Nat) k s 0 false false w) := by
  have H := b3_eq o f ho hf
  go_enter Try.func37, Try.ntmps37
  go_wp2
  exact bodyPost_ret (v := .agg #[_, _, _, _, _, _, _]) (by simp [results, Try.results37, go_sem, sz_set] <;> (first | rfl | (repeat' (first | rfl | apply And.intro)))) rfl ⟨rfl, (by repeat (first | (with_reducible first | exact Below.refl _ _ | assumption | exact Nat.le_refl _ | refine Below.drew ?_ | refine Below.alloc ?_ ?_ _ | refine Below.setCell ?_ ?_ _ | refine le_alloc ?_ | refine le_set ?_ | refine le_drew ?_ | refine below_step (by assumption) ?_ ?_ | refine le_below (by assumption) ?_) | (dsimp only; omega)))⟩
theorem op7_c (o f g : Nat) (ho : o < 4294967296) (hf : f < 1048576) (hg : g < 128) (k : Int) (s : ByteArray) (w : World) : Calls Try.prog 40 #[.int .u32 o, .int .u32 f, .int .u32 g, .int .i64 k, .string s] w (RetQ 4261441663 (b7 o f g : Nat) k s 0 false false w) := by
  have H := b3_eq o f ho hf
  have H2 := b7_eq o f g ho hf hg
  go_enter Try.func40, Try.ntmps40
  go_wp2
  exact bodyPost_ret (v := .agg #[_, _, _, _, _, _, _]) (by simp [results, Try.results40, go_sem, sz_set] <;> (first | rfl | (repeat' (first | rfl | apply And.intro)))) rfl ⟨rfl, (by repeat (first | (with_reducible first | exact Below.refl _ _ | assumption | exact Nat.le_refl _ | refine Below.drew ?_ | refine Below.alloc ?_ ?_ _ | refine Below.setCell ?_ ?_ _ | refine le_alloc ?_ | refine le_set ?_ | refine le_drew ?_ | refine below_step (by assumption) ?_ ?_ | refine le_below (by assumption) ?_) | (dsimp only; omega)))⟩
theorem sized_c (m bt k : Int) (s : ByteArray) (sz : Int) (wd un : Bool) (z : Int) (w : World) : Calls Try.prog 38 #[.agg #[.int .u32 m, .int .u32 bt, .int .i64 k, .string s, .int .i64 sz, .bool wd, .bool un], .int .i64 z] w (RetQ m bt k s z wd un w) := by
  go_enter Try.func38, Try.ntmps38
  go_wp2
  exact bodyPost_ret (v := .agg #[_, _, _, _, _, _, _]) (by simp [results, Try.results38, go_sem, sz_set] <;> (first | rfl | (repeat' (first | rfl | apply And.intro)))) rfl ⟨rfl, (by repeat (first | (with_reducible first | exact Below.refl _ _ | assumption | exact Nat.le_refl _ | refine Below.drew ?_ | refine Below.alloc ?_ ?_ _ | refine Below.setCell ?_ ?_ _ | refine le_alloc ?_ | refine le_set ?_ | refine le_drew ?_ | refine below_step (by assumption) ?_ ?_ | refine le_below (by assumption) ?_) | (dsimp only; omega)))⟩
theorem worded_c (m bt k : Int) (s : ByteArray) (sz : Int) (wd un : Bool) (a b : Bool) (w : World) : Calls Try.prog 39 #[.agg #[.int .u32 m, .int .u32 bt, .int .i64 k, .string s, .int .i64 sz, .bool wd, .bool un], .bool a, .bool b] w (RetQ m bt k s sz a b w) := by
  go_enter Try.func39, Try.ntmps39
  go_wp2
  exact bodyPost_ret (v := .agg #[_, _, _, _, _, _, _]) (by simp [results, Try.results39, go_sem, sz_set] <;> (first | rfl | (repeat' (first | rfl | apply And.intro)))) rfl ⟨rfl, (by repeat (first | (with_reducible first | exact Below.refl _ _ | assumption | exact Nat.le_refl _ | refine Below.drew ?_ | refine Below.alloc ?_ ?_ _ | refine Below.setCell ?_ ?_ _ | refine le_alloc ?_ | refine le_set ?_ | refine le_drew ?_ | refine below_step (by assumption) ?_ ?_ | refine le_below (by assumption) ?_) | (dsimp only; omega)))⟩
theorem func0_c (f : Nat) (hf : f < 4294967296) (w : World) : Calls Try.prog 41 #[.int .u32 f] w (RetU (83 ||| f) w) := by
  have H : bits .or .u32 83 (f : Int) = ((83 ||| f : Nat) : Int) := u32_or_nat 83 f (by decide) hf
  go_enter Try.func41, Try.ntmps41
  go_wp2
  go_ret
  exact retU_mk (by rfl) (by repeat (first | (with_reducible first | exact Below.refl _ _ | assumption | exact Nat.le_refl _ | refine Below.drew ?_ | refine Below.alloc ?_ ?_ _ | refine Below.setCell ?_ ?_ _ | refine le_alloc ?_ | refine le_set ?_ | refine le_drew ?_ | refine below_step (by assumption) ?_ ?_ | refine le_below (by assumption) ?_) | (dsimp only; omega)))
end Go.Proofs.Ytlohpakcikkdmaa
