/- Taken from other texts: what is needed of them. -/
import Derived.Test.YthhlcchofilimaaGreatDoorUA
import Derived.Test.YthhlcchofilimaaGreatDoorUB
import Derived.Test.YthhlcchofilimaaGreatDoorUC
import Derived.Test.YthhlcchofilimaaGreatDoorUD
import Derived.Test.YthhlcchofilimaaGreatDoorUE
namespace Go.Proofs.YthhlcchofilimaaGreatDoor.U.P
set_option linter.unusedVariables false
set_option linter.unusedSimpArgs false
set_option maxRecDepth 20000
set_option maxRecDepth 20000
open Go.ChangeShapes Go.WideShapes Go.ChangeAt Go.RowKit
def RetR (x : Nat) (W : World) (e : Ending) (w' : World) : Prop := e = .returned (.tuple #[.int .u64 x, .bool true]) ∧ Below W.heap.size W w'
def RetRC (x b : Nat) (S : St) (W : World) (e : Ending) (w' : World) : Prop := e = .returned (.tuple #[.int .u64 x, .bool true]) ∧ IsP w' b S ∧ W.grownBy w' (some b)
theorem grown_below2 {w w1 : World} {b : Nat} (h : Below w.heap.size w w1) : w.grownBy w1 (some b) := grown_any (grown_below h)
set_option maxRecDepth 100000 in
theorem read_pr (b n : Nat) (a : Int) (S : St) (w : World) (hP : Hid (IsP w b S)) (hn : Hid (n < 9)) (ha : Hid (a = 4 * n)) : Calls Tryz.prog 131 #[.pointer (some ⟨b, 0, none⟩), .int .u64 a, .int .i64 4] w (RetR (S.pr n) w) := by
  go_enter Tryz.func131, Tryz.ntmps131
  go_wp2_with fail
  refine (findP n hn.out a ha.out w).mono ?_; rintro e w1 ⟨rfl, hb1⟩
  have HB := Lib.hid hb1
  have HP1 : Hid (IsP w1 b S) := hP.out.below hb1
  have hbl := HP1.out.1
  have hbn : ¬ b = w1.heap.size := by omega
  clear hb1
  have n9 : (n : Int) < 9 := by have := hn.out; omega
  have q := HP1.out.pr n hn.out
  go_wp2_with fail
  go_quiet (fail)
  go_wp2_with fail
  go_ret2
  exact ⟨rfl, by exact below_drewN (HB.out.alloc HB.out.size _) _⟩
set_option maxRecDepth 100000 in
theorem read_en (b c : Nat) (a : Int) (S : St) (w : World) (hP : Hid (IsP w b S)) (hc : Hid (c < 2)) (ha : Hid (a = 8192 + 128 * c)) : Calls Tryz.prog 131 #[.pointer (some ⟨b, 0, none⟩), .int .u64 a, .int .i64 4] w (RetR (S.en c) w) := by
  go_enter Tryz.func131, Tryz.ntmps131
  go_wp2_with fail
  refine (findE c hc.out a ha.out w).mono ?_; rintro e w1 ⟨rfl, hb1⟩
  have HB := Lib.hid hb1
  have HP1 : Hid (IsP w1 b S) := hP.out.below hb1
  have hbl := HP1.out.1
  have hbn : ¬ b = w1.heap.size := by omega
  clear hb1
  have n9 : (c : Int) < 2 := by have := hc.out; omega
  have q := HP1.out.en c hc.out
  go_wp2_with fail
  go_quiet (fail)
  go_wp2_with fail
  go_ret2
  exact ⟨rfl, by exact below_drewN (HB.out.alloc HB.out.size _) _⟩
set_option maxRecDepth 100000 in
theorem read_th (b c : Nat) (a : Int) (S : St) (w : World) (hP : Hid (IsP w b S)) (hc : Hid (c < 2)) (ha : Hid (a = 2097152 + 4096 * c)) : Calls Tryz.prog 131 #[.pointer (some ⟨b, 0, none⟩), .int .u64 a, .int .i64 4] w (RetR (S.th c) w) := by
  go_enter Tryz.func131, Tryz.ntmps131
  go_wp2_with fail
  refine (findT c hc.out a ha.out w).mono ?_; rintro e w1 ⟨rfl, hb1⟩
  have HB := Lib.hid hb1
  have HP1 : Hid (IsP w1 b S) := hP.out.below hb1
  have hbl := HP1.out.1
  have hbn : ¬ b = w1.heap.size := by omega
  clear hb1
  have n9 : (c : Int) < 2 := by have := hc.out; omega
  have q := HP1.out.th c hc.out
  go_wp2_with fail
  go_quiet (fail)
  go_wp2_with fail
  go_ret2
  exact ⟨rfl, by exact below_drewN (HB.out.alloc HB.out.size _) _⟩
set_option maxRecDepth 100000 in
theorem read_wait (b : Nat) (S : St) (w : World) (hP : Hid (IsP w b S)) : Calls Tryz.prog 131 #[.pointer (some ⟨b, 0, none⟩), .int .u64 4096, .int .i64 4] w (RetR (waitF S 9) w) := by
  go_enter Tryz.func131, Tryz.ntmps131
  go_wp2_with fail
  refine (find_4096 w).mono ?_; rintro e w1 ⟨rfl, hb1⟩
  have HB := Lib.hid hb1
  have HP1 : Hid (IsP w1 b S) := hP.out.below hb1
  clear hb1
  go_wp2_with fail
  refine (wait_c b S _ (Lib.hid (HP1.out.below ((Below.refl _ _).alloc (Nat.le_refl _) _)))).mono ?_; rintro e w2 ⟨rfl, hb2⟩
  go_wp2_with fail
  go_ret2
  exact ⟨rfl, by exact (HB.out.alloc HB.out.size _).trans (hb2.mono (by rw [sz_alloc]; have := HB.out.size; omega))⟩
set_option maxRecDepth 100000 in
theorem read_claim (b c : Nat) (a : Int) (S : St) (w : World) (hP : Hid (IsP w b S)) (hO : Hid (OkS S)) (hc : Hid (c < 2)) (ha : Hid (a = 2097156 + 4096 * c)) : Calls Tryz.prog 131 #[.pointer (some ⟨b, 0, none⟩), .int .u64 a, .int .i64 4] w (RetRC (best S c) b (claimF S c) w) := by
  go_enter Tryz.func131, Tryz.ntmps131
  go_wp2_with fail
  refine (findC c hc.out a ha.out w).mono ?_; rintro e w1 ⟨rfl, hb1⟩
  have HB := Lib.hid hb1
  have HP1 : Hid (IsP w1 b S) := hP.out.below hb1
  clear hb1
  go_wp2_with fail
  refine (claim_c b c S _ (Lib.hid (HP1.out.below ((Below.refl _ _).alloc (Nat.le_refl _) _))) hO hc).mono ?_; rintro e w2 ⟨rfl, h1, h2⟩
  go_wp2_with fail
  go_ret2
  exact ⟨rfl, h1, grown_trans (grown_alloc (grown_below2 HB.out) _) h2⟩
end Go.Proofs.YthhlcchofilimaaGreatDoor.U.P
