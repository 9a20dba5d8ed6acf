/- Taken from other texts: what is needed of them. -/
import Derived.Test.YthhlcchofilimaaDoorUA
import Derived.Test.YthhlcchofilimaaDoorUB
import Derived.Test.YthhlcchofilimaaDoorUC
import Derived.Test.YthhlcchofilimaaDoorUD
import Derived.Test.YthhlcchofilimaaDoorUE
namespace Go.Proofs.YthhlcchofilimaaDoor.U.P
set_option linter.unusedVariables false
set_option linter.unusedSimpArgs false
set_option maxRecDepth 20000
set_option maxRecDepth 20000
open Go.ChangeShapes Go.WideShapes Go.ChangeAt Go.RowKit
def RetR (x : Nat) (W : World) (e : Ending) (w' : World) : Prop := e = .returned (.tuple #[.int .u64 x, .bool true]) ∧ Below W.heap.size W w'
def RetRC (x b : Nat) (S : St) (W : World) (e : Ending) (w' : World) : Prop := e = .returned (.tuple #[.int .u64 x, .bool true]) ∧ IsP w' b S ∧ W.grownBy w' (some b)
theorem and7 (v : Nat) (hv : v < 18446744073709551616) : bits .and .u64 (v : Int) 7 = ((v % 8 : Nat) : Int) := by
  have h := bits_and_u64_nat v 7 hv (by decide)
  rw [show v &&& 7 = v % 8 from Nat.and_two_pow_sub_one_eq_mod v 3] at h
  exact h
theorem and510 (v : Nat) (hv : v < 18446744073709551616) : bits .and .u64 (v : Int) 510 = ((v &&& 510 : Nat) : Int) := bits_and_u64_nat v 510 hv (by decide)
theorem and32 (v : Nat) (hv : v < 18446744073709551616) : bits .and .u64 (v : Int) 4294967295 = ((v % 4294967296 : Nat) : Int) := by
  have h := bits_and_u64_nat v 4294967295 hv (by decide)
  rw [show v &&& 4294967295 = v % 4294967296 from Nat.and_two_pow_sub_one_eq_mod v 32] at h
  exact h
theorem grown_below2 {w w1 : World} {b : Nat} (h : Below w.heap.size w w1) : w.grownBy w1 (some b) := grown_any (grown_below h)
set_option maxRecDepth 100000 in
theorem read_pr (b n : Nat) (a : Int) (S : St) (w : World) (hP : Hid (IsP w b S)) (hn : Hid (n < 9)) (ha : Hid (a = 4 * n)) : Calls Tryd.prog 103 #[.pointer (some ⟨b, 0, none⟩), .int .u64 a, .int .i64 4] w (RetR (S.pr n) w) := by
  go_enter Tryd.func103, Tryd.ntmps103
  go_wp2_with fail
  refine (findP n hn.out a ha.out w).mono ?_; rintro e w1 ⟨rfl, hb1⟩
  have HB := Lib.hid hb1
  have HP1 : Hid (IsP w1 b S) := hP.out.below hb1
  have hbl := HP1.out.1
  have hbn : ¬ b = w1.heap.size := by omega
  clear hb1
  have n9 : (n : Int) < 9 := by have := hn.out; omega
  have q := HP1.out.pr n hn.out
  go_wp2_with fail
  go_quiet (fail)
  go_wp2_with fail
  go_ret2
  exact ⟨rfl, by exact below_drewN (HB.out.alloc HB.out.size _) _⟩
set_option maxRecDepth 100000 in
theorem read_en (b c : Nat) (a : Int) (S : St) (w : World) (hP : Hid (IsP w b S)) (hc : Hid (c < 2)) (ha : Hid (a = 8192 + 128 * c)) : Calls Tryd.prog 103 #[.pointer (some ⟨b, 0, none⟩), .int .u64 a, .int .i64 4] w (RetR (S.en c) w) := by
  go_enter Tryd.func103, Tryd.ntmps103
  go_wp2_with fail
  refine (findE c hc.out a ha.out w).mono ?_; rintro e w1 ⟨rfl, hb1⟩
  have HB := Lib.hid hb1
  have HP1 : Hid (IsP w1 b S) := hP.out.below hb1
  have hbl := HP1.out.1
  have hbn : ¬ b = w1.heap.size := by omega
  clear hb1
  have n9 : (c : Int) < 2 := by have := hc.out; omega
  have q := HP1.out.en c hc.out
  go_wp2_with fail
  go_quiet (fail)
  go_wp2_with fail
  go_ret2
  exact ⟨rfl, by exact below_drewN (HB.out.alloc HB.out.size _) _⟩
set_option maxRecDepth 100000 in
theorem read_th (b c : Nat) (a : Int) (S : St) (w : World) (hP : Hid (IsP w b S)) (hc : Hid (c < 2)) (ha : Hid (a = 2097152 + 4096 * c)) : Calls Tryd.prog 103 #[.pointer (some ⟨b, 0, none⟩), .int .u64 a, .int .i64 4] w (RetR (S.th c) w) := by
  go_enter Tryd.func103, Tryd.ntmps103
  go_wp2_with fail
  refine (findT c hc.out a ha.out w).mono ?_; rintro e w1 ⟨rfl, hb1⟩
  have HB := Lib.hid hb1
  have HP1 : Hid (IsP w1 b S) := hP.out.below hb1
  have hbl := HP1.out.1
  have hbn : ¬ b = w1.heap.size := by omega
  clear hb1
  have n9 : (c : Int) < 2 := by have := hc.out; omega
  have q := HP1.out.th c hc.out
  go_wp2_with fail
  go_quiet (fail)
  go_wp2_with fail
  go_ret2
  exact ⟨rfl, by exact below_drewN (HB.out.alloc HB.out.size _) _⟩
set_option maxRecDepth 100000 in
theorem read_wait (b : Nat) (S : St) (w : World) (hP : Hid (IsP w b S)) : Calls Tryd.prog 103 #[.pointer (some ⟨b, 0, none⟩), .int .u64 4096, .int .i64 4] w (RetR (waitF S 9) w) := by
  go_enter Tryd.func103, Tryd.ntmps103
  go_wp2_with fail
  refine (find_4096 w).mono ?_; rintro e w1 ⟨rfl, hb1⟩
  have HB := Lib.hid hb1
  have HP1 : Hid (IsP w1 b S) := hP.out.below hb1
  clear hb1
  go_wp2_with fail
  refine (wait_c b S _ (Lib.hid (HP1.out.below ((Below.refl _ _).alloc (Nat.le_refl _) _)))).mono ?_; rintro e w2 ⟨rfl, hb2⟩
  go_wp2_with fail
  go_ret2
  exact ⟨rfl, by exact (HB.out.alloc HB.out.size _).trans (hb2.mono (by rw [sz_alloc]; have := HB.out.size; omega))⟩
set_option maxRecDepth 100000 in
theorem read_claim (b c : Nat) (a : Int) (S : St) (w : World) (hP : Hid (IsP w b S)) (hO : Hid (OkS S)) (hc : Hid (c < 2)) (ha : Hid (a = 2097156 + 4096 * c)) : Calls Tryd.prog 103 #[.pointer (some ⟨b, 0, none⟩), .int .u64 a, .int .i64 4] w (RetRC (best S c) b (claimF S c) w) := by
  go_enter Tryd.func103, Tryd.ntmps103
  go_wp2_with fail
  refine (findC c hc.out a ha.out w).mono ?_; rintro e w1 ⟨rfl, hb1⟩
  have HB := Lib.hid hb1
  have HP1 : Hid (IsP w1 b S) := hP.out.below hb1
  clear hb1
  go_wp2_with fail
  refine (claim_c b c S _ (Lib.hid (HP1.out.below ((Below.refl _ _).alloc (Nat.le_refl _) _))) hO hc).mono ?_; rintro e w2 ⟨rfl, h1, h2⟩
  go_wp2_with fail
  go_ret2
  exact ⟨rfl, h1, grown_trans (grown_alloc (grown_below2 HB.out) _) h2⟩
set_option maxRecDepth 100000 in
theorem write_pr (b n v : Nat) (a : Int) (S : St) (w : World) (hP : Hid (IsP w b S)) (hv : Hid (v < 18446744073709551616)) (hn : Hid (1 ≤ n ∧ n < 9)) (ha : Hid (a = 4 * n)) : Calls Tryd.prog 104 #[.pointer (some ⟨b, 0, none⟩), .int .u64 a, .int .i64 4, .int .u64 v] w (RetL true b (S.setPr n (v % 8)) w) := by
  have e1 := and7 v hv.out
  go_enter Tryd.func104, Tryd.ntmps104
  go_wp2_with fail
  refine (findP n hn.out.2 a ha.out w).mono ?_; rintro e w1 ⟨rfl, hb1⟩
  have HB := Lib.hid hb1
  have HP1 : Hid (IsP w1 b S) := hP.out.below hb1
  have hbl := HP1.out.1
  have hbn : ¬ b = w1.heap.size := by omega
  have hbn' : ¬ w1.heap.size = b := by omega
  clear hb1
  have n9 : (n : Int) < 9 := by have := hn.out; omega
  have n0 : ((n : Int) != 0) = true := by have := hn.out; simp; omega
  have n0' : ((n : Int) == 0) = false := by have := hn.out; simp; omega
  have q := HP1.out.pr n hn.out.2
  have q3 := HP1.out.fr (n * 3 + 2) (by have := hn.out; omega)
  go_wp2_with fail
  go_region
  go_wp2_with fail
  go_ret
  exact ⟨rfl, by exact (HP1.out.setPr n (v % 8) hn.out.2).below (below_drewN (Below.alloc (Below.refl _ _) (Nat.le_refl _) _) 1), grown_drew (grown_alloc (grown_set (grown_below2 HB.out) _ none _ none) _)⟩
set_option maxRecDepth 100000 in
theorem write_en (b c v : Nat) (a : Int) (S : St) (w : World) (hP : Hid (IsP w b S)) (hv : Hid (v < 18446744073709551616)) (hc : Hid (c < 2)) (ha : Hid (a = 8192 + 128 * c)) : Calls Tryd.prog 104 #[.pointer (some ⟨b, 0, none⟩), .int .u64 a, .int .i64 4, .int .u64 v] w (RetL true b (S.setEn c (v &&& 510)) w) := by
  have e1 := and510 v hv.out
  go_enter Tryd.func104, Tryd.ntmps104
  go_wp2_with fail
  refine (findE c hc.out a ha.out w).mono ?_; rintro e w1 ⟨rfl, hb1⟩
  have HB := Lib.hid hb1
  have HP1 : Hid (IsP w1 b S) := hP.out.below hb1
  have hbl := HP1.out.1
  have hbn : ¬ b = w1.heap.size := by omega
  have hbn' : ¬ w1.heap.size = b := by omega
  clear hb1
  have n9 : (c : Int) < 2 := by have := hc.out; omega
  have q := HP1.out.en c hc.out
  have q3 := HP1.out.fr (27 + c * 2) (by have := hc.out; omega)
  go_wp2_with fail
  go_region
  go_wp2_with fail
  go_ret
  exact ⟨rfl, by exact (HP1.out.setEn c (v &&& 510) hc.out).below (below_drewN (Below.alloc (Below.refl _ _) (Nat.le_refl _) _) 1), grown_drew (grown_alloc (grown_set (grown_below2 HB.out) _ none _ none) _)⟩
set_option maxRecDepth 100000 in
theorem write_th (b c v : Nat) (a : Int) (S : St) (w : World) (hP : Hid (IsP w b S)) (hv : Hid (v < 18446744073709551616)) (hc : Hid (c < 2)) (ha : Hid (a = 2097152 + 4096 * c)) : Calls Tryd.prog 104 #[.pointer (some ⟨b, 0, none⟩), .int .u64 a, .int .i64 4, .int .u64 v] w (RetL true b (S.setTh c (v % 8)) w) := by
  have e1 := and7 v hv.out
  go_enter Tryd.func104, Tryd.ntmps104
  go_wp2_with fail
  refine (findT c hc.out a ha.out w).mono ?_; rintro e w1 ⟨rfl, hb1⟩
  have HB := Lib.hid hb1
  have HP1 : Hid (IsP w1 b S) := hP.out.below hb1
  have hbl := HP1.out.1
  have hbn : ¬ b = w1.heap.size := by omega
  have hbn' : ¬ w1.heap.size = b := by omega
  clear hb1
  have n9 : (c : Int) < 2 := by have := hc.out; omega
  have q := HP1.out.th c hc.out
  have q3 := HP1.out.fr (27 + c * 2 + 1) (by have := hc.out; omega)
  go_wp2_with fail
  go_region
  go_wp2_with fail
  go_ret
  exact ⟨rfl, by exact (HP1.out.setTh c (v % 8) hc.out).below (below_drewN (Below.alloc (Below.refl _ _) (Nat.le_refl _) _) 1), grown_drew (grown_alloc (grown_set (grown_below2 HB.out) _ none _ none) _)⟩
set_option maxRecDepth 100000 in
theorem write_0 (b v : Nat) (S : St) (w : World) (hP : Hid (IsP w b S)) : Calls Tryd.prog 104 #[.pointer (some ⟨b, 0, none⟩), .int .u64 0, .int .i64 4, .int .u64 v] w (RetL true b S w) := by
  go_enter Tryd.func104, Tryd.ntmps104
  go_wp2_with fail
  refine (find_0 w).mono ?_; rintro e w1 ⟨rfl, hb1⟩
  go_wp2_with fail
  go_ret
  exact ⟨rfl, by exact hP.out.below (hb1.alloc hb1.size _), by exact grown_below2 (hb1.alloc hb1.size _)⟩
set_option maxRecDepth 100000 in
theorem write_wait (b v : Nat) (S : St) (w : World) (hP : Hid (IsP w b S)) : Calls Tryd.prog 104 #[.pointer (some ⟨b, 0, none⟩), .int .u64 4096, .int .i64 4, .int .u64 v] w (RetL true b S w) := by
  go_enter Tryd.func104, Tryd.ntmps104
  go_wp2_with fail
  refine (find_4096 w).mono ?_; rintro e w1 ⟨rfl, hb1⟩
  go_wp2_with fail
  go_ret
  exact ⟨rfl, by exact hP.out.below (hb1.alloc hb1.size _), by exact grown_below2 (hb1.alloc hb1.size _)⟩
end Go.Proofs.YthhlcchofilimaaDoor.U.P
