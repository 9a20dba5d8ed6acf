/- Taken from other texts: what is needed of them. -/
import Derived.Test.YtmlbobjbkbcabaaProg
import Derived.WalkKit
import Derived.Deep.QuietTactic
import Derived.BigQuiet
import Derived.ProofKit
import Derived.OpenShut
import Derived.WalkLawsBesides
import Derived.WalkSpells
import Derived.RegionTactic
import Derived.ChangeAlike
import Derived.Outline
import Derived.Laws.Externs
import Derived.Lib.Hide
import Derived.Laws.Bits64
import Derived.Laws.Bits64b
import Derived.LoopTactic
import Derived.Deep.LoopGhost
import Derived.Laws.Rows
namespace Go.Proofs.Ytmlbobjbkbcabaa.P
set_option linter.unusedVariables false
set_option linter.unusedSimpArgs false
set_option maxRecDepth 20000
def adr (a : Nat) : Nat := a % 18014398509481984
def wayN (c : Nat) : Nat := c / 8 % 4
def lockB (c : Nat) : Bool := decide (128 ≤ c)
theorem adr_lt (a : Nat) : adr a < 18014398509481984 := Nat.mod_lt _ (by decide)
theorem way_lt (c : Nat) : wayN c < 4 := Nat.mod_lt _ (by decide)
/-- Settings and addresses behind a write. -/
def byteF (v n : Nat) : Nat := v / 2 ^ (8 * n) % 256
def oddB (b : Nat) : Bool := b % 4 == 2
def cleanF (b : Nat) : Nat := b / 128 * 128 + b % 32
def cfgF (c : Nat → Nat) (v n : Nat) : Nat := bif lockB (c n) || oddB (byteF v n) then c n else cleanF (byteF v n)
def heldB (c : Nat → Nat) (n : Nat) : Bool := lockB (c n) || (decide (n < 7) && lockB (c (n + 1)) && wayN (c (n + 1)) == 1)
def adrF (c a : Nat → Nat) (n v k : Nat) : Nat := bif k == n && !heldB c n then adr v else a k
end Go.Proofs.Ytmlbobjbkbcabaa.P
namespace Go.Proofs.Ytmlbobjbkbcabaa.P
set_option linter.unusedVariables false
set_option linter.unusedSimpArgs false
set_option maxRecDepth 20000
open Go.ChangeShapes Go.WideShapes Go.ChangeAt Go.RowKit
theorem le_below {n B : Nat} {w w' : World} (hb : Below B w w') (h : n ≤ w.heap.size) : n ≤ w'.heap.size := Nat.le_trans h hb.size
theorem below_step {B B' : Nat} {w w1 w2 : World} (hb : Below B' w1 w2) (h : Below B w w1) (hB : B ≤ B') : Below B w w2 := h.trans (hb.mono hB)
theorem below_drewN {B : Nat} {w w' : World} (h : Below B w w') (n : Nat) : Below B w (w'.drewN n) := ⟨h.os, h.tape, h.output, h.size, h.block⟩
theorem le_drew {n : Nat} {w : World} (h : n ≤ w.heap.size) : n ≤ w.drew.heap.size := h
theorem le_drewN {n k : Nat} {w : World} (h : n ≤ w.heap.size) : n ≤ (w.drewN k).heap.size := h
theorem sz_drewN (w : World) (k : Nat) : (w.drewN k).heap.size = w.heap.size := rfl
theorem sz_drew (w : World) : w.drew.heap.size = w.heap.size := rfl
def RetB (b : Bool) (W : World) (e : Ending) (w' : World) : Prop := e = .returned (.bool b) ∧ Below W.heap.size W w'
theorem retB_mk {a b : Bool} {W w' : World} (h : a = b) (hb : Below W.heap.size W w') : RetB b W (.returned (.bool a)) w' := ⟨by rw [h], hb⟩
/-- Nothing that was there is written. -/
theorem grown_below {w w' : World} (h : Below w.heap.size w w') : w.grownBy w' none := ⟨h.os, h.tape, h.output, h.size, fun k hk _ => h.block k hk⟩
theorem sz_alloc (w : World) (o : Obj) : (w.alloc o).heap.size = w.heap.size + 1 := by simp
theorem sz_set (w : World) (p : Addr) (u : Value) : (w.setCell p u).heap.size = w.heap.size := by simp [World.setCell]
theorem bcell {W w1 : World} (hb : Below W.heap.size W w1) : (∀ b o, b < W.heap.size → w1.cell? ⟨b, o, none⟩ = W.cell? ⟨b, o, none⟩) ∧ (∀ b o, b < W.heap.size → w1.frozen? ⟨b, o, none⟩ = W.frozen? ⟨b, o, none⟩) :=
  ⟨fun b o h => hb.cell (p := ⟨b, o, none⟩) h, fun b o h => hb.frozen (p := ⟨b, o, none⟩) h⟩
theorem le_alloc {n : Nat} {w : World} {o : Obj} (h : n ≤ w.heap.size) : n ≤ (w.alloc o).heap.size := by rw [sz_alloc]; omega
theorem le_set {n : Nat} {w : World} {a : Addr} {v : Value} (h : n ≤ w.heap.size) : n ≤ (w.setCell a v).heap.size := by rw [sz_set]; exact h
/-- A call that leaves the world as it was. -/
def RetBX (b : Bool) (W : World) (e : Ending) (w' : World) : Prop := e = .returned (.bool b) ∧ W = w'
def RetUX (n : Nat) (W : World) (e : Ending) (w' : World) : Prop := e = .returned (.int .u64 n) ∧ W = w'
def RetIX (n : Int) (W : World) (e : Ending) (w' : World) : Prop := e = .returned (.int .i64 n) ∧ W = w'
theorem retBX_mk {a b : Bool} {W : World} (h : a = b) : RetBX b W (.returned (.bool a)) W := ⟨by rw [h], rfl⟩
theorem retUX_mk {a : Int} {b : Nat} {W : World} (h : a = b) : RetUX b W (.returned (.int .u64 a)) W := ⟨by rw [h], rfl⟩
theorem retIX_mk {a b : Int} {W : World} (h : a = b) : RetIX b W (.returned (.int .i64 a)) W := ⟨by rw [h], rfl⟩
/-- Eight settings, eight addresses as values. -/
def u8s (c : Nat → Nat) : Array Value := #[.int .u8 (c 0 : Nat), .int .u8 (c 1 : Nat), .int .u8 (c 2 : Nat), .int .u8 (c 3 : Nat), .int .u8 (c 4 : Nat), .int .u8 (c 5 : Nat), .int .u8 (c 6 : Nat), .int .u8 (c 7 : Nat)]
def u64s (c : Nat → Nat) : Array Value := #[.int .u64 (c 0 : Nat), .int .u64 (c 1 : Nat), .int .u64 (c 2 : Nat), .int .u64 (c 3 : Nat), .int .u64 (c 4 : Nat), .int .u64 (c 5 : Nat), .int .u64 (c 6 : Nat), .int .u64 (c 7 : Nat)]
theorem u8s_size (c : Nat → Nat) : (u8s c).size = 8 := rfl
theorem u64s_size (c : Nat → Nat) : (u64s c).size = 8 := rfl
theorem u8s_at (c : Nat → Nat) (n : Nat) (hn : n < 8) : (u8s c)[n]? = some (.int .u8 (c n : Nat)) := by
  have : n = 0 ∨ n = 1 ∨ n = 2 ∨ n = 3 ∨ n = 4 ∨ n = 5 ∨ n = 6 ∨ n = 7 := by omega
  rcases this with rfl | rfl | rfl | rfl | rfl | rfl | rfl | rfl <;> rfl
theorem u64s_at (c : Nat → Nat) (n : Nat) (hn : n < 8) : (u64s c)[n]? = some (.int .u64 (c n : Nat)) := by
  have : n = 0 ∨ n = 1 ∨ n = 2 ∨ n = 3 ∨ n = 4 ∨ n = 5 ∨ n = 6 ∨ n = 7 := by omega
  rcases this with rfl | rfl | rfl | rfl | rfl | rfl | rfl | rfl <;> rfl
end Go.Proofs.Ytmlbobjbkbcabaa.P
namespace Go.Proofs.Ytmlbobjbkbcabaa.P
set_option linter.unusedVariables false
set_option linter.unusedSimpArgs false
set_option maxRecDepth 20000
open Go.ChangeShapes Go.WideShapes Go.ChangeAt Go.RowKit
theorem u8_all {p : Nat → Prop} [DecidablePred p] (h : ∀ x : Fin 256, p x.val) (c : Nat) (hc : c < 256) : p c := h ⟨c, hc⟩
theorem and24 (c : Nat) (hc : c < 256) : bits .and .u8 (c : Int) 24 = ((c / 8 % 4 * 8 : Nat) : Int) := u8_all (p := fun c => bits .and .u8 (c : Int) 24 = ((c / 8 % 4 * 8 : Nat) : Int)) (by decide +kernel) c hc
theorem and128 (c : Nat) (hc : c < 256) : bits .and .u8 (c : Int) 128 = ((c / 128 * 128 : Nat) : Int) := u8_all (p := fun c => bits .and .u8 (c : Int) 128 = ((c / 128 * 128 : Nat) : Int)) (by decide +kernel) c hc
theorem and3 (c : Nat) (hc : c < 256) : bits .and .u8 (c : Int) 3 = ((c % 4 : Nat) : Int) := u8_all (p := fun c => bits .and .u8 (c : Int) 3 = ((c % 4 : Nat) : Int)) (by decide +kernel) c hc
theorem and159 (c : Nat) (hc : c < 256) : bits .and .u8 (c : Int) 159 = ((cleanF c : Nat) : Int) := u8_all (p := fun c => bits .and .u8 (c : Int) 159 = ((cleanF c : Nat) : Int)) (by decide +kernel) c hc
theorem mask54 (a : Nat) (ha : a < 18446744073709551616) : bits .and .u64 (a : Int) 18014398509481983 = ((adr a : Nat) : Int) := by
  have h := bits_and_u64_nat a 18014398509481983 ha (by decide)
  rw [show (18014398509481983 : Nat) = 2 ^ 54 - 1 from rfl, Nat.and_two_pow_sub_one_eq_mod] at h
  exact h
theorem isEntry_y (n : Int) (h1 : (0 ≤ n) = True) (h2 : (n < 8) = True) (w : World) : Calls Try.prog 50 #[.int .i64 n] w (RetBX true w) := by
  have h1 := of_eq_true h1
  have h2 := of_eq_true h2
  go_enter Try.func50, Try.ntmps50
  go_wp2_with fail
  go_ret
  exact retBX_mk rfl
theorem isEntry_n (n : Int) (h : Hid (¬ (0 ≤ n ∧ n < 8))) (w : World) : Calls Try.prog 50 #[.int .i64 n] w (RetBX false w) := by
  by_cases h1 : 0 ≤ n
  · have h2 : ¬ n < 8 := fun h2 => h.out ⟨h1, h2⟩
    clear h
    go_enter Try.func50, Try.ntmps50
    go_wp2_with fail
    go_ret
    exact retBX_mk rfl
  · clear h
    go_enter Try.func50, Try.ntmps50
    go_wp2_with fail
    go_ret
    exact retBX_mk rfl
theorem wayOf_c (c : Nat) (hc : Hid (c < 256)) (w : World) : Calls Try.prog 54 #[.int .u8 c] w (RetIX (wayN c) w) := by
  have h1 := and24 c hc.out
  obtain ⟨x, hx⟩ : ∃ x, x = wayN c := ⟨_, rfl⟩
  have h2 : x < 4 := by rw [hx]; exact way_lt c
  rw [show c / 8 % 4 = x from hx.symm] at h1
  rw [← hx]
  clear hx
  go_enter Try.func54, Try.ntmps54
  go_wp2_with fail
  go_ret
  exact retIX_mk (by omega)
theorem isLocked_c (c : Nat) (hc : Hid (c < 256)) (w : World) : Calls Try.prog 48 #[.int .u8 c] w (RetBX (lockB c) w) := by
  have h1 := and128 c hc.out
  have h0 := hc.out
  have h2 : (!(((c / 128 * 128 : Nat) : Int) == 0)) = lockB c := by
    unfold lockB
    rw [Bool.eq_iff_iff]; simp; omega
  obtain ⟨x, hx⟩ : ∃ x, x = c / 128 * 128 := ⟨_, rfl⟩
  rw [← hx] at h1 h2
  have H2 := Lib.hid h2
  clear hx h2 h0
  go_enter Try.func48, Try.ntmps48
  go_wp2_with fail
  go_ret
  exact retBX_mk (by first | exact H2.out | (rw [← H2.out]; simp))
theorem isRefused_c (c : Nat) (hc : Hid (c < 256)) (w : World) : Calls Try.prog 49 #[.int .u8 c] w (RetBX (oddB c) w) := by
  have h1 := and3 c hc.out
  have h2 : (((c % 4 : Nat) : Int) == 2) = oddB c := by
    unfold oddB
    rw [Bool.eq_iff_iff]; simp; omega
  obtain ⟨x, hx⟩ : ∃ x, x = c % 4 := ⟨_, rfl⟩
  rw [← hx] at h1 h2
  have H2 := Lib.hid h2
  clear hx h2
  go_enter Try.func49, Try.ntmps49
  go_wp2_with fail
  go_ret
  exact retBX_mk (by first | exact H2.out | (rw [← H2.out]; simp))
end Go.Proofs.Ytmlbobjbkbcabaa.P
namespace Go.Proofs.Ytmlbobjbkbcabaa.P
set_option linter.unusedVariables false
set_option linter.unusedSimpArgs false
set_option maxRecDepth 20000
open Go.ChangeShapes Go.WideShapes Go.ChangeAt Go.RowKit
theorem bitf_0 (c : Nat) (hc : c < 256) : (bits .and .u8 (((c / 1 : Nat) : Int)) 1 == 1) = (c / 1 % 2 == 1) := u8_all (p := fun c => (bits .and .u8 (((c / 1 : Nat) : Int)) 1 == 1) = (c / 1 % 2 == 1)) (by decide +kernel) c hc
theorem bit_0 (c : Nat) (hc : Hid (c < 256)) (w : World) : Calls Try.prog 55 #[.int .u8 c, .int .i64 0] w (RetBX (c / 1 % 2 == 1) w) := by
  have h1 := Lib.hid (bitf_0 c hc.out)
  go_enter Try.func55, Try.ntmps55
  go_wp2_with fail
  go_ret
  refine retBX_mk ?_
  rw [← h1.out]
  try simp
theorem bitf_1 (c : Nat) (hc : c < 256) : (bits .and .u8 (((c / 2 : Nat) : Int)) 1 == 1) = (c / 2 % 2 == 1) := u8_all (p := fun c => (bits .and .u8 (((c / 2 : Nat) : Int)) 1 == 1) = (c / 2 % 2 == 1)) (by decide +kernel) c hc
theorem bit_1 (c : Nat) (hc : Hid (c < 256)) (w : World) : Calls Try.prog 55 #[.int .u8 c, .int .i64 1] w (RetBX (c / 2 % 2 == 1) w) := by
  have h1 := Lib.hid (bitf_1 c hc.out)
  go_enter Try.func55, Try.ntmps55
  go_wp2_with fail
  go_ret
  refine retBX_mk ?_
  rw [← h1.out]
  try simp
theorem bitf_3 (c : Nat) (hc : c < 256) : (bits .and .u8 (((c / 8 : Nat) : Int)) 1 == 1) = (c / 8 % 2 == 1) := u8_all (p := fun c => (bits .and .u8 (((c / 8 : Nat) : Int)) 1 == 1) = (c / 8 % 2 == 1)) (by decide +kernel) c hc
theorem bit_3 (c : Nat) (hc : Hid (c < 256)) (w : World) : Calls Try.prog 55 #[.int .u8 c, .int .i64 3] w (RetBX (c / 8 % 2 == 1) w) := by
  have h1 := Lib.hid (bitf_3 c hc.out)
  go_enter Try.func55, Try.ntmps55
  go_wp2_with fail
  go_ret
  refine retBX_mk ?_
  rw [← h1.out]
  try simp
theorem bitf_4 (c : Nat) (hc : c < 256) : (bits .and .u8 (((c / 16 : Nat) : Int)) 1 == 1) = (c / 16 % 2 == 1) := u8_all (p := fun c => (bits .and .u8 (((c / 16 : Nat) : Int)) 1 == 1) = (c / 16 % 2 == 1)) (by decide +kernel) c hc
theorem bit_4 (c : Nat) (hc : Hid (c < 256)) (w : World) : Calls Try.prog 55 #[.int .u8 c, .int .i64 4] w (RetBX (c / 16 % 2 == 1) w) := by
  have h1 := Lib.hid (bitf_4 c hc.out)
  go_enter Try.func55, Try.ntmps55
  go_wp2_with fail
  go_ret
  refine retBX_mk ?_
  rw [← h1.out]
  try simp
theorem bitf_7 (c : Nat) (hc : c < 256) : (bits .and .u8 (((c / 128 : Nat) : Int)) 1 == 1) = (c / 128 % 2 == 1) := u8_all (p := fun c => (bits .and .u8 (((c / 128 : Nat) : Int)) 1 == 1) = (c / 128 % 2 == 1)) (by decide +kernel) c hc
theorem bit_7 (c : Nat) (hc : Hid (c < 256)) (w : World) : Calls Try.prog 55 #[.int .u8 c, .int .i64 7] w (RetBX (c / 128 % 2 == 1) w) := by
  have h1 := Lib.hid (bitf_7 c hc.out)
  go_enter Try.func55, Try.ntmps55
  go_wp2_with fail
  go_ret
  refine retBX_mk ?_
  rw [← h1.out]
  try simp
theorem address_c (a : Nat) (ha : Hid (a < 18446744073709551616)) (w : World) : Calls Try.prog 57 #[.int .u64 a] w (RetUX (adr a) w) := by
  go_enter Try.func57, Try.ntmps57
  go_wp2_with fail
  go_ret
  exact retUX_mk (by first | rfl | (unfold adr; simp) | (unfold adr; omega))
theorem way_bits (c : Nat) : wayN c = (bif c / 8 % 2 == 1 then 1 else 0) + (bif c / 16 % 2 == 1 then 2 else 0) := by
  unfold wayN
  have h1 : c / 8 % 2 = 0 ∨ c / 8 % 2 = 1 := by omega
  have h2 : c / 16 % 2 = 0 ∨ c / 16 % 2 = 1 := by omega
  rcases h1 with h1 | h1 <;> rcases h2 with h2 | h2 <;> rw [h1, h2] <;> simp <;> omega
theorem way_c (c : Nat) (hc : Hid (c < 256)) (w : World) : Calls Try.prog 56 #[.int .u8 c] w (RetIX (wayN c) w) := by
  have H3 := Lib.hid (fun v => bit_3 c hc v)
  have H4 := Lib.hid (fun v => bit_4 c hc v)
  have hw := way_bits c
  obtain ⟨x, hx⟩ : ∃ x, (c / 8 % 2 == 1) = x := ⟨_, rfl⟩
  obtain ⟨y, hy⟩ : ∃ y, (c / 16 % 2 == 1) = y := ⟨_, rfl⟩
  rw [show (8 : Nat) = 2 ^ 3 from rfl] at hx
  rw [show (16 : Nat) = 2 ^ 4 from rfl] at hy
  simp only [show (2 ^ 3 : Nat) = 8 from rfl, show (2 ^ 4 : Nat) = 16 from rfl] at hx hy
  rw [hx, hy] at hw
  rw [hx] at H3
  rw [hy] at H4
  have HW := Lib.hid hw
  clear hw hx hy hc
  go_enter Try.func56, Try.ntmps56
  go_wp2_with fail
  refine (H3.out _).mono ?_; rintro e w1 ⟨rfl, h⟩; replace h := h.symm; subst h
  cases x
  all_goals
    go_wp2_with fail
    refine (H4.out _).mono ?_; rintro e w1 ⟨rfl, h⟩; replace h := h.symm; subst h
    cases y
    all_goals
      go_wp2_with fail
      go_ret
      exact retIX_mk (by rw [HW.out]; rfl)
end Go.Proofs.Ytmlbobjbkbcabaa.P
namespace Go.Proofs.Ytmlbobjbkbcabaa.P
set_option linter.unusedVariables false
set_option linter.unusedSimpArgs false
set_option maxRecDepth 20000
open Go.ChangeShapes Go.WideShapes Go.ChangeAt Go.RowKit
/-- Settings and addresses that may be. -/
def OkC (c : Nat → Nat) : Prop := ∀ k, c k < 256
def OkA (a : Nat → Nat) : Prop := ∀ k, a k < 18446744073709551616
end Go.Proofs.Ytmlbobjbkbcabaa.P
namespace Go.Proofs.Ytmlbobjbkbcabaa.P
set_option linter.unusedVariables false
set_option linter.unusedSimpArgs false
set_option maxRecDepth 20000
open Go.ChangeShapes Go.WideShapes Go.ChangeAt Go.RowKit
/-- A row of cells in a block. -/
def Row (w : World) (b : Nat) (t : TypeId) (cs : Array Value) : Prop := w.heap[b]? = some (.cells cs t (0, 0))
theorem Row.below {w w' : World} {b : Nat} {t : TypeId} {cs : Array Value} {B : Nat} (h : Row w b t cs) (hb : Below B w w') (hB : b < B) : Row w' b t cs := by
  unfold Row; rw [hb.block b hB]; exact h
theorem row_new (w : World) (cs : Array Value) (t : TypeId) : Row (w.alloc (Obj.cells cs t)) w.heap.size t cs := heap_alloc_new w _
theorem row_old {w : World} {b : Nat} {t : TypeId} {cs : Array Value} (h : Row w b t cs) (o : Obj) : Row (w.alloc o) b t cs := by
  unfold Row
  have hb : b < w.heap.size := by
    apply Nat.lt_of_not_le
    intro hn
    unfold Row at h
    rw [Array.getElem?_eq_none hn] at h; cases h
  exact (heap_alloc_old w o hb).trans h
theorem info8c (c : Nat → Nat) : (Try.prog.info? 23).map (·.size) = some (u8s c).size := by rw [u8s_size]; kernel_rfl
theorem info8a (a : Nat → Nat) : (Try.prog.info? 24).map (·.size) = some (u64s a).size := by rw [u64s_size]; kernel_rfl
theorem Row.cell {w : World} {b : Nat} {t : TypeId} {cs : Array Value} (h : Row w b t cs) (o : Nat) : w.cell? ⟨b, o, none⟩ = cs[o]? := cell_of_row w b o cs t (0, 0) h
theorem idx8 (c : Nat → Nat) (n : Nat) (hn : n < 8) (v : World) : Sem.run Try.prog (Instr.index 23 (.agg (u8s c)) (.int .i64 n)) v = .ok (.int .u8 (c n : Nat)) v := by
  have : n = 0 ∨ n = 1 ∨ n = 2 ∨ n = 3 ∨ n = 4 ∨ n = 5 ∨ n = 6 ∨ n = 7 := by omega
  rcases this with rfl | rfl | rfl | rfl | rfl | rfl | rfl | rfl <;> rfl
end Go.Proofs.Ytmlbobjbkbcabaa.P
