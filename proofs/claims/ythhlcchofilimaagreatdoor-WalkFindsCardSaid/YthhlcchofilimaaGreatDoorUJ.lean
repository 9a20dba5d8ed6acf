/- Taken from other texts: what is needed of them. -/
import Derived.Test.YthhlcchofilimaaGreatDoorUA
import Derived.Test.YthhlcchofilimaaGreatDoorUB
import Derived.Test.YthhlcchofilimaaGreatDoorUC
import Derived.Test.YthhlcchofilimaaGreatDoorUD
import Derived.Test.YthhlcchofilimaaGreatDoorUE
import Derived.Test.YthhlcchofilimaaGreatDoorUF
import Derived.Test.YthhlcchofilimaaGreatDoorUG
import Derived.Test.YthhlcchofilimaaGreatDoorUH
import Derived.Test.YthhlcchofilimaaGreatDoorUI
import Derived.StillTailTactics
namespace Go.Proofs.YthhlcchofilimaaGreatDoor.U.P
set_option linter.unusedVariables false
set_option linter.unusedSimpArgs false
set_option maxRecDepth 20000
open Go.ChangeShapes Go.WideShapes Go.ChangeAt Go.RowKit
set_option maxRecDepth 20000
/-- Which register lies there: 0 none; 1 to 9 a priority, 10 the waiting ones, 11 and 12 enabled, 13 and 14 a threshold, 15 and 16 a claim. -/
def pk (a : Nat) (z : Int) : Nat := if z = 4 then (if a ≤ 32 ∧ a % 4 = 0 then 1 + a / 4 else if a = 4096 then 10 else if a = 8192 then 11 else if a = 8320 then 12 else if a = 2097152 then 13 else if a = 2101248 then 14 else if a = 2097156 then 15 else if a = 2101252 then 16 else 0) else 0
def valP (k : Nat) (S : St) : Nat := if k = 0 then 0 else if k ≤ 9 then S.pr (k - 1) else if k = 10 then waitF S 9 else if k ≤ 12 then S.en (k - 11) else if k ≤ 14 then S.th (k - 13) else if k ≤ 16 then best S (k - 15) else 0
def nextP (k : Nat) (S : St) : St := if k = 15 then claimF S 0 else if k = 16 then claimF S 1 else S
def wrP (k : Nat) (S : St) (v : Nat) : St := if k ≤ 1 then S else if k ≤ 9 then S.setPr (k - 1) (v % 8) else if k = 10 then S else if k ≤ 12 then S.setEn (k - 11) (v &&& 510) else if k ≤ 14 then S.setTh (k - 13) (v % 8) else if k ≤ 16 then finF S (k - 15) (v % 4294967296) else S
def NoP (a : Nat) (z : Int) : Prop := z = 4 → ¬ (a ≤ 32 ∧ a % 4 = 0) ∧ a ≠ 4096 ∧ a ≠ 8192 ∧ a ≠ 8320 ∧ a ≠ 2097152 ∧ a ≠ 2101248 ∧ a ≠ 2097156 ∧ a ≠ 2101252
theorem pk_cases (a : Nat) (z : Int) : (∃ n, n < 9 ∧ z = 4 ∧ a = 4 * n ∧ pk a z = 1 + n) ∨ (z = 4 ∧ a = 4096 ∧ pk a z = 10) ∨ (∃ c, c < 2 ∧ z = 4 ∧ a = 8192 + 128 * c ∧ pk a z = 11 + c) ∨ (∃ c, c < 2 ∧ z = 4 ∧ a = 2097152 + 4096 * c ∧ pk a z = 13 + c) ∨ (∃ c, c < 2 ∧ z = 4 ∧ a = 2097156 + 4096 * c ∧ pk a z = 15 + c) ∨ (NoP a z ∧ pk a z = 0) := by
  by_cases hz : z = 4
  · by_cases h1 : a ≤ 32 ∧ a % 4 = 0
    · exact .inl ⟨a / 4, by omega, hz, by omega, by unfold pk; rw [if_pos hz, if_pos h1]⟩
    by_cases h2 : a = 4096
    · exact .inr (.inl ⟨hz, h2, by unfold pk; rw [if_pos hz, if_neg h1, if_pos h2]⟩)
    by_cases h3 : a = 8192
    · exact .inr (.inr (.inl ⟨0, by omega, hz, h3, by unfold pk; rw [if_pos hz, if_neg h1, if_neg h2, if_pos h3]⟩))
    by_cases h4 : a = 8320
    · exact .inr (.inr (.inl ⟨1, by omega, hz, h4, by unfold pk; rw [if_pos hz, if_neg h1, if_neg h2, if_neg h3, if_pos h4]⟩))
    by_cases h5 : a = 2097152
    · exact .inr (.inr (.inr (.inl ⟨0, by omega, hz, h5, by unfold pk; rw [if_pos hz, if_neg h1, if_neg h2, if_neg h3, if_neg h4, if_pos h5]⟩)))
    by_cases h6 : a = 2101248
    · exact .inr (.inr (.inr (.inl ⟨1, by omega, hz, h6, by unfold pk; rw [if_pos hz, if_neg h1, if_neg h2, if_neg h3, if_neg h4, if_neg h5, if_pos h6]⟩)))
    by_cases h7 : a = 2097156
    · exact .inr (.inr (.inr (.inr (.inl ⟨0, by omega, hz, h7, by unfold pk; rw [if_pos hz, if_neg h1, if_neg h2, if_neg h3, if_neg h4, if_neg h5, if_neg h6, if_pos h7]⟩))))
    by_cases h8 : a = 2101252
    · exact .inr (.inr (.inr (.inr (.inl ⟨1, by omega, hz, h8, by unfold pk; rw [if_pos hz, if_neg h1, if_neg h2, if_neg h3, if_neg h4, if_neg h5, if_neg h6, if_neg h7, if_pos h8]⟩))))
    exact .inr (.inr (.inr (.inr (.inr ⟨fun _ => ⟨h1, h2, h3, h4, h5, h6, h7, h8⟩, by unfold pk; rw [if_pos hz, if_neg h1, if_neg h2, if_neg h3, if_neg h4, if_neg h5, if_neg h6, if_neg h7, if_neg h8]⟩))))
  · exact .inr (.inr (.inr (.inr (.inr ⟨fun e => absurd e hz, by unfold pk; rw [if_neg hz]⟩))))
set_option maxRecDepth 100000 in
theorem find_none (a : Nat) (z : Int) (h : NoP a z) (w : World) : Calls Tryz.prog 132 #[.int .u64 a, .int .i64 z] w (RetF 0 0 w) := by
  by_cases hz : z = 4
  · subst hz
    obtain ⟨h1, h2, h3, h4, h5, h6, h7, h8⟩ := h rfl
    have d2 : ((a : Int) == 4096) = false := by rw [beq_eq_false_iff_ne]; omega
    have d3 : ((a : Int) == 8192) = false := by rw [beq_eq_false_iff_ne]; omega
    have d4 : ((a : Int) == 8320) = false := by rw [beq_eq_false_iff_ne]; omega
    have d5 : ((a : Int) == 2097152) = false := by rw [beq_eq_false_iff_ne]; omega
    have d6 : ((a : Int) == 2101248) = false := by rw [beq_eq_false_iff_ne]; omega
    have d7 : ((a : Int) == 2097156) = false := by rw [beq_eq_false_iff_ne]; omega
    have d8 : ((a : Int) == 2101252) = false := by rw [beq_eq_false_iff_ne]; omega
    have f2 : decide ((a : Int) = 4096) = false := decide_eq_false (by omega)
    have f3 : decide ((a : Int) = 8192) = false := decide_eq_false (by omega)
    have f4 : decide ((a : Int) = 8320) = false := decide_eq_false (by omega)
    have f5 : decide ((a : Int) = 2097152) = false := decide_eq_false (by omega)
    have f6 : decide ((a : Int) = 2101248) = false := decide_eq_false (by omega)
    have f7 : decide ((a : Int) = 2097156) = false := decide_eq_false (by omega)
    have f8 : decide ((a : Int) = 2101252) = false := decide_eq_false (by omega)
    by_cases hl : a ≤ 32
    · have hm : ¬ a % 4 = 0 := fun e => h1 ⟨hl, e⟩
      have l1 : (a : Int) ≤ 32 := by omega
      have m1 : (((a : Int) % 4) == 0) = false := by rw [beq_eq_false_iff_ne]; omega
      have m2 : decide ((a : Int) % 4 = 0) = false := decide_eq_false (by omega)
      have m3 : ((a : Int).tmod 4 == 0) = false := by rw [beq_eq_false_iff_ne, Int.tmod_eq_emod_of_nonneg (by omega)]; omega
      have m4 : ¬ (a : Int) % 4 = 0 := by omega
      clear h h1 h2 h3 h4 h5 h6 h7 h8 hl hm
      go_enter Tryz.func132, Tryz.ntmps132
      go_wp2_with fail
      refine wp_loop_rounds 3 ?_
      rw [rounds_succ]
      go_wp2_with fail
      rw [rounds_succ]
      go_wp2_with fail
      rw [rounds_succ]
      go_wp2_with fail
      refine bodyPost_ret (v := .agg #[.int .i64 0, .int .i64 0]) (by simp [results, Tryz.results132, go_sem] <;> (first | rfl | (repeat' (first | rfl | apply And.intro)))) rfl ⟨rfl, (by repeat (first | (with_reducible first | exact Below.refl _ _ | assumption | exact Nat.le_refl _ | refine Below.drew ?_ | refine Below.alloc ?_ ?_ _ | refine below_drewN ?_ _ | refine Below.setCell ?_ ?_ _ | refine le_alloc ?_ | refine le_set ?_ | refine le_drew ?_ | refine le_drewN ?_ | refine below_step (by assumption) ?_ ?_ | refine le_below (by assumption) ?_) | (dsimp only; omega)))⟩
    · have l1 : decide ((a : Int) ≤ 32) = false := decide_eq_false (by omega)
      have l2 : ¬ (a : Int) ≤ 32 := by omega
      clear h h1 h2 h3 h4 h5 h6 h7 h8 hl
      go_enter Tryz.func132, Tryz.ntmps132
      go_wp2_with fail
      refine wp_loop_rounds 3 ?_
      rw [rounds_succ]
      go_wp2_with fail
      rw [rounds_succ]
      go_wp2_with fail
      rw [rounds_succ]
      go_wp2_with fail
      refine bodyPost_ret (v := .agg #[.int .i64 0, .int .i64 0]) (by simp [results, Tryz.results132, go_sem] <;> (first | rfl | (repeat' (first | rfl | apply And.intro)))) rfl ⟨rfl, (by repeat (first | (with_reducible first | exact Below.refl _ _ | assumption | exact Nat.le_refl _ | refine Below.drew ?_ | refine Below.alloc ?_ ?_ _ | refine below_drewN ?_ _ | refine Below.setCell ?_ ?_ _ | refine le_alloc ?_ | refine le_set ?_ | refine le_drew ?_ | refine le_drewN ?_ | refine below_step (by assumption) ?_ ?_ | refine le_below (by assumption) ?_) | (dsimp only; omega)))⟩
  · have d1 : (z == 4) = false := by rw [beq_eq_false_iff_ne]; exact hz
    have f1 : decide (z = 4) = false := decide_eq_false hz
    clear h
    go_enter Tryz.func132, Tryz.ntmps132
    go_wp2_with fail
    refine bodyPost_ret (v := .agg #[.int .i64 0, .int .i64 0]) (by simp [results, Tryz.results132, go_sem] <;> (first | rfl | (repeat' (first | rfl | apply And.intro)))) rfl ⟨rfl, (by repeat (first | (with_reducible first | exact Below.refl _ _ | assumption | exact Nat.le_refl _ | refine Below.drew ?_ | refine Below.alloc ?_ ?_ _ | refine below_drewN ?_ _ | refine Below.setCell ?_ ?_ _ | refine le_alloc ?_ | refine le_set ?_ | refine le_drew ?_ | refine le_drewN ?_ | refine below_step (by assumption) ?_ ?_ | refine le_below (by assumption) ?_) | (dsimp only; omega)))⟩
def RetRP (x : Nat) (ok : Bool) (b : Nat) (S : St) (W : World) (e : Ending) (w' : World) : Prop := e = .returned (.tuple #[.int .u64 x, .bool ok]) ∧ IsP w' b S ∧ W.grownBy w' (some b)
theorem retRP_to {x x' : Nat} {ok : Bool} {b : Nat} {S S' : St} {W w' : World} {e : Ending} (h : x = x') (h2 : S = S') (r : RetRP x ok b S W e w') : RetRP x' ok b S' W e w' := by subst h h2; exact r
theorem retRP_of {x b : Nat} {S : St} {W w' : World} {e : Ending} (hP : IsP W b S) (r : RetR x W e w') : RetRP x true b S W e w' := ⟨r.1, hP.below r.2, grown_any (grown_below r.2)⟩
theorem read_none (b a : Nat) (z : Int) (S : St) (w : World) (hP : Hid (IsP w b S)) (h : NoP a z) : Calls Tryz.prog 131 #[.pointer (some ⟨b, 0, none⟩), .int .u64 a, .int .i64 z] w (RetRP 0 false b S w) := by
  go_enter Tryz.func131, Tryz.ntmps131
  go_wp2_with fail
  refine (find_none a z h w).mono ?_; rintro e w1 ⟨rfl, hb1⟩
  have HB := Lib.hid hb1
  have HP1 := Lib.hid (hP.out.below hb1)
  clear hb1 h
  go_wp2_with fail
  go_ret2
  exact ⟨rfl, HP1.out.below ((Below.refl _ _).alloc (Nat.le_refl _) _), grown_alloc (grown_any (grown_below HB.out)) _⟩
theorem claim2 (c : Nat) (hc : c < 2) (S : St) : nextP (15 + c) S = claimF S c := by
  have : c = 0 ∨ c = 1 := by omega
  rcases this with rfl | rfl <;> rfl
theorem read_p (b a : Nat) (z : Int) (S : St) (w : World) (hP : Hid (IsP w b S)) (hO : Hid (OkS S)) : Calls Tryz.prog 131 #[.pointer (some ⟨b, 0, none⟩), .int .u64 a, .int .i64 z] w (RetRP (valP (pk a z) S) (decide (pk a z ≠ 0)) b (nextP (pk a z) S) w) := by
  rcases pk_cases a z with ⟨n, hn, rfl, ha, e⟩ | ⟨rfl, rfl, e⟩ | ⟨c, hc, rfl, ha, e⟩ | ⟨c, hc, rfl, ha, e⟩ | ⟨c, hc, rfl, ha, e⟩ | ⟨h, e⟩ <;> rw [e]
  · rw [decide_eq_true (by omega : 1 + n ≠ 0)]
    refine (read_pr b n a S w hP (Lib.hid hn) (Lib.hid (by omega))).mono fun e w' r => retRP_to ?_ ?_ (retRP_of hP.out r)
    · unfold valP; rw [if_neg (by omega), if_pos (by omega), show 1 + n - 1 = n by omega]
    · unfold nextP; rw [if_neg (by omega), if_neg (by omega)]
  · exact (read_wait b S w hP).mono fun e w' r => retRP_of hP.out r
  · rw [decide_eq_true (by omega : 11 + c ≠ 0)]
    refine (read_en b c a S w hP (Lib.hid hc) (Lib.hid (by omega))).mono fun e w' r => retRP_to ?_ ?_ (retRP_of hP.out r)
    · unfold valP; rw [if_neg (by omega), if_neg (by omega), if_neg (by omega), if_pos (by omega), show 11 + c - 11 = c by omega]
    · unfold nextP; rw [if_neg (by omega), if_neg (by omega)]
  · rw [decide_eq_true (by omega : 13 + c ≠ 0)]
    refine (read_th b c a S w hP (Lib.hid hc) (Lib.hid (by omega))).mono fun e w' r => retRP_to ?_ ?_ (retRP_of hP.out r)
    · unfold valP; rw [if_neg (by omega), if_neg (by omega), if_neg (by omega), if_neg (by omega), if_pos (by omega), show 13 + c - 13 = c by omega]
    · unfold nextP; rw [if_neg (by omega), if_neg (by omega)]
  · rw [decide_eq_true (by omega : 15 + c ≠ 0)]
    refine (read_claim b c a S w hP hO (Lib.hid hc) (Lib.hid (by omega))).mono fun e w' r => retRP_to ?_ (claim2 c hc S).symm r
    unfold valP; rw [if_neg (by omega), if_neg (by omega), if_neg (by omega), if_neg (by omega), if_neg (by omega), if_pos (by omega), show 15 + c - 15 = c by omega]
  · exact read_none b a z S w hP h
/-- What a plic may be stays so. -/
theorem OkS.val {S : St} (h : OkS S) (k : Nat) : valP k S < 18446744073709551616 := by
  unfold valP
  have h1 := h.1 (k - 1); have h2 := h.2.1 (k - 11); have h3 := h.2.2.1 (k - 13); have h4 := waitF_lt S 9; have h5 := best_lt S (k - 15) 7
  have h6 : best S (k - 15) < 9 := h5
  split; · omega
  split; · omega
  split; · have : (2 : Nat) ^ 9 = 512 := rfl
           omega
  split; · omega
  split; · omega
  split <;> omega
theorem OkS.setSt {S : St} (h : OkS S) (n v : Nat) (hv : v < 3) : OkS (S.setSt n v) :=
  ⟨h.1, h.2.1, h.2.2.1, fun k => by show set S.st n v k < 3; unfold set; split; exact hv; exact h.2.2.2 k⟩
theorem OkS.setPr {S : St} (h : OkS S) (n v : Nat) (hv : v < 8) : OkS (S.setPr n v) :=
  ⟨fun k => by show set S.pr n v k < 8; unfold set; split; exact hv; exact h.1 k, h.2.1, h.2.2.1, h.2.2.2⟩
theorem OkS.setEn {S : St} (h : OkS S) (n v : Nat) (hv : v < 512) : OkS (S.setEn n v) :=
  ⟨h.1, fun k => by show set S.en n v k < 512; unfold set; split; exact hv; exact h.2.1 k, h.2.2.1, h.2.2.2⟩
theorem OkS.setTh {S : St} (h : OkS S) (n v : Nat) (hv : v < 8) : OkS (S.setTh n v) :=
  ⟨h.1, h.2.1, fun k => by show set S.th n v k < 8; unfold set; split; exact hv; exact h.2.2.1 k, h.2.2.2⟩
theorem OkS.setUp {S : St} (h : OkS S) (n : Nat) (v : Bool) : OkS (S.setUp n v) := h
theorem OkS.come {S : St} (h : OkS S) (n : Nat) : OkS (comeF S n) := by
  unfold comeF
  cases (S.up n && S.st n == 0)
  · exact h
  · exact h.setSt n 1 (by decide)
theorem OkS.claim {S : St} (h : OkS S) (c : Nat) : OkS (claimF S c) := by
  unfold claimF
  cases (best S c == 0)
  · exact h.setSt _ 2 (by decide)
  · exact h
theorem OkS.fin {S : St} (h : OkS S) (c n : Nat) : OkS (finF S c n) := by
  unfold finF
  cases (decide (n < 9) && (S.st n == 2 && takeB S c n))
  · exact h
  · exact (h.setSt n 0 (by decide)).come n
theorem OkS.next {S : St} (h : OkS S) (k : Nat) : OkS (nextP k S) := by
  unfold nextP; split; exact h.claim 0; split; exact h.claim 1; exact h
theorem and510_lt (v : Nat) : v &&& 510 < 512 := Nat.lt_of_le_of_lt Nat.and_le_right (by decide)
theorem OkS.wr {S : St} (h : OkS S) (k v : Nat) : OkS (wrP k S v) := by
  unfold wrP
  split; exact h
  split; exact h.setPr _ _ (Nat.mod_lt _ (by decide))
  split; exact h
  split; exact h.setEn _ _ (and510_lt v)
  split; exact h.setTh _ _ (Nat.mod_lt _ (by decide))
  split; exact h.fin _ _
  exact h
theorem okS0 : OkS S0 := ⟨fun _ => (by decide : (0:Nat) < 8), fun _ => (by decide : (0:Nat) < 512), fun _ => (by decide : (0:Nat) < 8), fun _ => (by decide : (0:Nat) < 3)⟩
end Go.Proofs.YthhlcchofilimaaGreatDoor.U.P
namespace Go.Proofs.YthhlcchofilimaaGreatDoor.U
set_option linter.unusedVariables false
set_option linter.unusedSimpArgs false
set_option maxRecDepth 20000
open Go.ChangeShapes Go.WideShapes Go.ChangeAt Go.RowKit
open M (Fp Dj Cw Up Th Grp GrpAt jn exT)
set_option maxRecDepth 20000
theorem le_below {n B : Nat} {w w' : World} (hb : Below B w w') (h : n ≤ w.heap.size) : n ≤ w'.heap.size := Nat.le_trans h hb.size
theorem below_step {B B' : Nat} {w w1 w2 : World} (hb : Below B' w1 w2) (h : Below B w w1) (hB : B ≤ B') : Below B w w2 := h.trans (hb.mono hB)
theorem below_drewN {B : Nat} {w w' : World} (h : Below B w w') (n : Nat) : Below B w (w'.drewN n) := ⟨h.os, h.tape, h.output, h.size, h.block⟩
theorem le_drew {n : Nat} {w : World} (h : n ≤ w.heap.size) : n ≤ w.drew.heap.size := h
theorem le_drewN {n k : Nat} {w : World} (h : n ≤ w.heap.size) : n ≤ (w.drewN k).heap.size := h
theorem sz_drewN (w : World) (k : Nat) : (w.drewN k).heap.size = w.heap.size := rfl
theorem sz_drew (w : World) : w.drew.heap.size = w.heap.size := rfl
theorem sz_alloc (w : World) (o : Obj) : (w.alloc o).heap.size = w.heap.size + 1 := by simp
theorem sz_set (w : World) (p : Addr) (u : Value) : (w.setCell p u).heap.size = w.heap.size := by simp [World.setCell]
theorem le_alloc {n : Nat} {w : World} {o : Obj} (h : n ≤ w.heap.size) : n ≤ (w.alloc o).heap.size := by rw [sz_alloc]; omega
theorem le_set {n : Nat} {w : World} {p : Addr} {u : Value} (h : n ≤ w.heap.size) : n ≤ (w.setCell p u).heap.size := by rw [sz_set]; exact h
def RetB (b : Bool) (W : World) (e : Ending) (w' : World) : Prop := e = .returned (.bool b) ∧ Below W.heap.size W w'
theorem retB_mk {a b : Bool} {W w' : World} (h : a = b) (hb : Below W.heap.size W w') : RetB b W (.returned (.bool a)) w' := ⟨by rw [h], hb⟩
abbrev W64 : Nat := 18446744073709551616
/-- What of a thing's own block stays so. -/
def Ownb (b : Nat) (R W : Fp) (w : World) : Prop := (∀ j, W b j) ∧ (∀ k j, W k j → R k j) ∧ ∀ k j, R k j → k < w.heap.size
theorem Ownb.kept {b : Nat} {R W : Fp} {w w' : World} (h : Ownb b R W w) (hs : w.heap.size ≤ w'.heap.size) : Ownb b R W w' := ⟨h.1, h.2.1, fun k j q => Nat.lt_of_lt_of_le (h.2.2 k j q) hs⟩
theorem Ownb.up {b : Nat} {R W : Fp} {w w' : World} (h : Ownb b R W w) (hs : w.heap.size ≤ w'.heap.size) : Ownb b (Up R w w') (Up W w w') w' :=
  ⟨fun j => .inl (h.1 j), fun k j q => q.imp (h.2.1 k j) id, fun k j q => q.elim (fun q => Nat.lt_of_lt_of_le (h.2.2 k j q) hs) (·.2)⟩
theorem Ownb.no {b : Nat} {R W T : Fp} {w : World} (h : Ownb b R W w) (hd : Dj T R) : ∀ j, ¬ T b j := fun j q => hd b j q (h.2.1 b j (h.1 j))
theorem ownb_new {b : Nat} {w : World} (h : b < w.heap.size) : Ownb b (fun k _ => k = b) (fun k _ => k = b) w := ⟨fun _ => rfl, fun _ _ q => q, fun k _ q => by subst q; exact h⟩
/-- A block's fields are as they were. -/
theorem cw_block {T : Fp} {w w' : World} {b : Nat} (hc : Cw T w w') (hb : b < w.heap.size) (hn : ∀ j, ¬ T b j) (o : Nat) : w'.cell? ⟨b, o, none⟩ = w.cell? ⟨b, o, none⟩ ∧ w'.frozen? ⟨b, o, none⟩ = w.frozen? ⟨b, o, none⟩ := ⟨hc.cell b o hb (hn o), hc.frozen b o hb (hn o)⟩
def eC (b s a t : Nat) : Th where
  P R W w := Ownb b R W w ∧ K.IsC w b s a t ∧ s < 2 ∧ a < W64 ∧ t < W64
  kept := fun ⟨h1, h2, h3⟩ hc hd => ⟨h1.kept hc.size, by
    obtain ⟨h0, c0, c1, c2, f0, f1, f2⟩ := h2
    have q := cw_block hc h0 (h1.no hd)
    exact ⟨Nat.lt_of_lt_of_le h0 hc.size, (q 0).1.trans c0, (q 1).1.trans c1, (q 2).1.trans c2, (q 0).2.trans f0, (q 1).2.trans f1, (q 2).2.trans f2⟩, h3⟩
  wr h := h.1.2.1
  rlt h := h.1.2.2
def eP (b : Nat) (S : P.St) : Th where
  P R W w := Ownb b R W w ∧ P.IsP w b S ∧ P.OkS S
  kept := fun ⟨h1, h2, h3⟩ hc hd => ⟨h1.kept hc.size, by
    obtain ⟨h0, hh⟩ := h2
    have q := cw_block hc h0 (h1.no hd)
    exact ⟨Nat.lt_of_lt_of_le h0 hc.size, fun o ho => ⟨(q o).1.trans (hh o ho).1, (q o).2.trans (hh o ho).2⟩⟩, h3⟩
  wr h := h.1.2.1
  rlt h := h.1.2.2
theorem at_kept {R W V : Fp} {w w' : World} {b : Nat} {U : T.Ur} {sa : Option Addr} {n c g o : Nat} {ta : Option Addr} {m d h p : Nat} (x : T.At R W w b U sa n c g o ta m d h p) (hc : Cw V w w') (hd : Dj V R) : T.At R W w' b U sa n c g o ta m d h p :=
  have nb : ∀ j, ¬ V b j := fun j q => hd b j q (x.rb j)
  have q := cw_block hc x.lt nb
  have sl : ∀ {a : Option Addr} {n c g o : Nat} {L : List Nat}, T.SlA w a n c g o L → (∀ i, i < c → ¬ V g (o + i)) → T.SlA w' a n c g o L := fun h hn =>
    ⟨h.len, h.le, fun h0 => ⟨(h.addr h0).1, Nat.lt_of_lt_of_le (h.addr h0).2 hc.size⟩,
      fun i hi => by rw [hc.cell _ _ (h.addr (by have := h.le; omega)).2 (hn i (by have := h.le; omega))]; exact h.cell i hi,
      fun i hi => ⟨by rw [hc.cell _ _ (h.addr (by omega)).2 (hn i hi)]; exact (h.there i hi).1, by rw [hc.frozen _ _ (h.addr (by omega)).2 (hn i hi)]; exact (h.there i hi).2⟩⟩
  { x with
    lt := Nat.lt_of_lt_of_le x.lt hc.size
    c0 := (q 0).1.trans x.c0, c1 := (q 1).1.trans x.c1, c2 := (q 2).1.trans x.c2, c3 := (q 3).1.trans x.c3, c4 := (q 4).1.trans x.c4
    fz := fun j hj => (q j).2.trans (x.fz j hj)
    q := sl x.q (fun i hi ht => hd _ _ ht (x.rq i hi))
    s := sl x.s (fun i hi ht => hd _ _ ht (x.rs i hi))
    rlt := fun k j h => Nat.lt_of_lt_of_le (x.rlt k j h) hc.size }
def eU (b : Nat) (U : T.Ur) : Th where
  P R W w := T.IsU R W w b U
  kept := fun ⟨sa, n, c, g, o, ta, m, d, h, p, x⟩ hc hd => ⟨sa, n, c, g, o, ta, m, d, h, p, at_kept x hc hd⟩
  wr := fun ⟨sa, n, c, g, o, ta, m, d, h, p, x⟩ => x.wr
  rlt := fun ⟨sa, n, c, g, o, ta, m, d, h, p, x⟩ => x.rlt
theorem ch_cw {V : Fp} {w w' : World} (h : T.Ch V w w') : Cw V w w' := ⟨h.os, h.tape, h.output, h.size, h.block, h.cell, fun k o hk _ => h.frozen k o hk⟩
/-- A call upon a thing: what it hands back, and what of the thing it leaves. -/
def Upon (v : Value) (E : Th) (R W : Fp) (w : World) (e : Ending) (w' : World) : Prop := e = .returned v ∧ E.P (Up R w w') (Up W w w') w' ∧ Cw W w w'
section
variable {R W : Fp} {w : World} {b s a t v : Nat} {S : P.St} {U : T.Ur}
theorem eC_up {w' : World} {s' a' t' : Nat} (q : (eC b s a t).P R W w) (h1 : K.IsC w' b s' a' t') (h2 : w.grownBy w' (some b)) (h3 : s' < 2 ∧ a' < W64 ∧ t' < W64) : (eC b s' a' t').P (Up R w w') (Up W w w') w' ∧ Cw W w w' :=
  ⟨⟨q.1.up h2.size, h1, h3⟩, Cw.of_grown h2 q.1.1⟩
theorem eP_up {w' : World} {S' : P.St} (q : (eP b S).P R W w) (h1 : P.IsP w' b S') (h2 : w.grownBy w' (some b)) (h3 : P.OkS S') : (eP b S').P (Up R w w') (Up W w w') w' ∧ Cw W w w' :=
  ⟨⟨q.1.up h2.size, h1, h3⟩, Cw.of_grown h2 q.1.1⟩
theorem readC (q : (eC b s a t).P R W w) (x : Nat) (z : Int) (hx : x < W64) (hz : (Lit.int .i64 z).wf = true) : Calls Tryz.prog 127 #[.pointer (some ⟨b, 0, none⟩), .int .u64 x, .int .i64 z] w (Upon (.tuple #[.int .u64 (K.rdK (K.kd x z) s a t : Nat), .bool (decide (K.kd x z ≠ 0))]) (eC b s a t) R W w) := by
  refine (K.read_c w b s a t q.2.1 q.2.2.1 q.2.2.2.1 q.2.2.2.2 x z hx hz).mono ?_
  rintro e w' ⟨rfl, hb⟩
  exact ⟨rfl, eC_up q (q.2.1.below hb) (K.grown_any (K.grown_below hb)) q.2.2⟩
theorem readP (q : (eP b S).P R W w) (x : Nat) (z : Int) : Calls Tryz.prog 131 #[.pointer (some ⟨b, 0, none⟩), .int .u64 x, .int .i64 z] w (Upon (.tuple #[.int .u64 (P.valP (P.pk x z) S : Nat), .bool (decide (P.pk x z ≠ 0))]) (eP b (P.nextP (P.pk x z) S)) R W w) := by
  refine (P.read_p b x z S w (Lib.hid q.2.1) (Lib.hid q.2.2)).mono ?_
  rintro e w' ⟨rfl, h1, h2⟩
  exact ⟨rfl, eP_up q h1 h2 (q.2.2.next _)⟩
theorem lineP (q : (eP b S).P R W w) (n : Nat) (hn : 1 ≤ n ∧ n < 9) (up : Bool) : Calls Tryz.prog 91 #[.pointer (some ⟨b, 0, none⟩), .int .i64 n, .bool up] w (Upon (.bool true) (eP b (P.comeF (S.setUp n up) n)) R W w) := by
  refine (P.line_c b n up S w (Lib.hid q.2.1) (Lib.hid hn)).mono ?_
  rintro e w' ⟨rfl, h1, h2⟩
  exact ⟨rfl, eP_up q h1 h2 ((q.2.2.setUp n up).come n)⟩
theorem readU (q : (eU b U).P R W w) (x : Nat) (z : Int) : Calls Tryz.prog 138 #[.pointer (some ⟨b, 0, none⟩), .int .u64 x, .int .i64 z] w (Upon (.tuple #[.int .u64 (T.valK (T.kd x z) U : Nat), .bool (T.okK (T.kd x z))]) (eU b (T.nextK (T.kd x z) U)) R W w) :=
  (T.read_c R W b x z U w (Lib.hid q)).mono fun e w' h => ⟨h.1, h.2.1, ch_cw h.2.2⟩
theorem upU (q : (eU b U).P R W w) : Calls Tryz.prog 92 #[.pointer (some ⟨b, 0, none⟩)] w (fun e w' => e = .returned (.bool (T.upF U)) ∧ w' = w) := T.up_c R W b U w (Lib.hid q)
end
/-- The devices' pointers, and whether the inputs have the first line up: four cells of a block. -/
def eDv (b o c p u : Nat) (one : Bool) : Th where
  P R W w := (∀ j, j < 4 → W b (o + j)) ∧ (∀ k j, W k j → R k j) ∧ (∀ k j, R k j → k < w.heap.size) ∧ b < w.heap.size ∧
    w.cell? ⟨b, o, none⟩ = some (.pointer (some ⟨c, 0, none⟩)) ∧ w.cell? ⟨b, o + 1, none⟩ = some (.pointer (some ⟨p, 0, none⟩)) ∧ w.cell? ⟨b, o + 2, none⟩ = some (.pointer (some ⟨u, 0, none⟩)) ∧ w.cell? ⟨b, o + 3, none⟩ = some (.bool one) ∧
    w.frozen? ⟨b, o, none⟩ = false ∧ w.frozen? ⟨b, o + 1, none⟩ = false ∧ w.frozen? ⟨b, o + 2, none⟩ = false ∧ w.frozen? ⟨b, o + 3, none⟩ = false
  kept := fun ⟨h1, h2, h3, h4, c0, c1, c2, c3, f0, f1, f2, f3⟩ hc hd => by
    have n : ∀ j, j < 4 → ¬ _ := fun j hj q => hd b (o + j) q (h2 _ _ (h1 j hj))
    exact ⟨h1, h2, fun k j q => Nat.lt_of_lt_of_le (h3 k j q) hc.size, Nat.lt_of_lt_of_le h4 hc.size,
      (hc.cell b o h4 (n 0 (by decide))).trans c0, (hc.cell b (o + 1) h4 (n 1 (by decide))).trans c1, (hc.cell b (o + 2) h4 (n 2 (by decide))).trans c2, (hc.cell b (o + 3) h4 (n 3 (by decide))).trans c3,
      (hc.frozen b o h4 (n 0 (by decide))).trans f0, (hc.frozen b (o + 1) h4 (n 1 (by decide))).trans f1, (hc.frozen b (o + 2) h4 (n 2 (by decide))).trans f2, (hc.frozen b (o + 3) h4 (n 3 (by decide))).trans f3⟩
  wr h := h.2.1
  rlt h := h.2.2.1
/-- What the devices are. -/
structure Dv where
  s : Nat
  a : Nat
  t : Nat
  S : P.St
  U : T.Ur
  one : Bool
def Dv0 : Dv := ⟨0, 18446744073709551615, 0, P.S0, T.U0, false⟩
/-- The devices, side by side. -/
abbrev dl (b o c p u : Nat) (D : Dv) : List Th := [eDv b o c p u D.one, eC c D.s D.a D.t, eP p D.S, eU u D.U]
def eDs (b o c p u : Nat) (D : Dv) : Th := jn (dl b o c p u D)
/-- The first line is where the inputs and the uart have it. -/
def Dv.fol (D : Dv) : Dv := { D with S := P.comeF (D.S.setUp 1 (D.one || T.upF D.U)) 1 }
end Go.Proofs.YthhlcchofilimaaGreatDoor.U
namespace Go.Proofs.YthhlcchofilimaaGreatDoor.U
set_option linter.unusedVariables false
set_option linter.unusedSimpArgs false
set_option maxRecDepth 20000
open Go.ChangeShapes Go.WideShapes Go.ChangeAt Go.RowKit
open M (Fp Dj Cw Up Th Grp GrpAt jn exT)
set_option maxRecDepth 20000
/-- Which device is there: 1 the clint, 2 the plic, 3 the uart, 0 none. -/
def dvK (x : Nat) : Nat := if 33554432 ≤ x ∧ x < 33619968 then 1 else if 201326592 ≤ x ∧ x < 205520896 then 2 else if 268435456 ≤ x ∧ x < 268435464 then 3 else 0
/-- How far an address lies behind a first one, around. -/
def farN (x k : Nat) : Nat := (x + (18446744073709551616 - k)) % 18446744073709551616
theorem find_1 (b o c p u : Nat) (one : Bool) (R W : Fp) (x : Nat) (hx : Hid (x < 18446744073709551616)) (hk : 33554432 ≤ x ∧ x < 33619968) (w : World) (h : Hid ((eDv b o c p u one).P R W w)) : Calls Tryz.prog 84 #[.pointer (some ⟨b, o, none⟩), .int .u64 x] w (fun e w' => e = .returned (.tuple #[.iface 59 (.pointer (some ⟨c, 0, none⟩)), .int .u64 (farN x 33554432 : Nat)]) ∧ w' = w) := by
  obtain ⟨-, -, -, h4, c0, c1, c2, c3, f0, f1, f2, f3⟩ := h.out
  have q1 : IntKind.u64.wrap ((x : Int) - 33554432) = ((farN x 33554432 : Nat) : Int) := by have := hx.out; rw [IntKind.wrap_u64]; unfold farN; omega
  have n1 : ((farN x 33554432 : Nat) : Int) < 65536 := by have := hk; have := hx.out; unfold farN; omega
  clear hk
  generalize farN x 33554432 = y0 at *
  go_enter Tryz.func84, Tryz.ntmps84
  go_wp2_with fail
  go_ret2
  exact ⟨rfl, rfl⟩
theorem find_2 (b o c p u : Nat) (one : Bool) (R W : Fp) (x : Nat) (hx : Hid (x < 18446744073709551616)) (hk : 201326592 ≤ x ∧ x < 205520896) (w : World) (h : Hid ((eDv b o c p u one).P R W w)) : Calls Tryz.prog 84 #[.pointer (some ⟨b, o, none⟩), .int .u64 x] w (fun e w' => e = .returned (.tuple #[.iface 60 (.pointer (some ⟨p, 0, none⟩)), .int .u64 (farN x 201326592 : Nat)]) ∧ w' = w) := by
  obtain ⟨-, -, -, h4, c0, c1, c2, c3, f0, f1, f2, f3⟩ := h.out
  have q1 : IntKind.u64.wrap ((x : Int) - 33554432) = ((farN x 33554432 : Nat) : Int) := by have := hx.out; rw [IntKind.wrap_u64]; unfold farN; omega
  have n1 : decide (((farN x 33554432 : Nat) : Int) < 65536) = false := decide_eq_false (by have := hk; have := hx.out; unfold farN; omega)
  have q2 : IntKind.u64.wrap ((x : Int) - 201326592) = ((farN x 201326592 : Nat) : Int) := by have := hx.out; rw [IntKind.wrap_u64]; unfold farN; omega
  have n2 : ((farN x 201326592 : Nat) : Int) < 4194304 := by have := hk; have := hx.out; unfold farN; omega
  clear hk
  generalize farN x 33554432 = y0 at *
  generalize farN x 201326592 = y1 at *
  go_enter Tryz.func84, Tryz.ntmps84
  go_wp2_with fail
  go_ret2
  exact ⟨rfl, rfl⟩
theorem find_3 (b o c p u : Nat) (one : Bool) (R W : Fp) (x : Nat) (hx : Hid (x < 18446744073709551616)) (hk : 268435456 ≤ x ∧ x < 268435464) (w : World) (h : Hid ((eDv b o c p u one).P R W w)) : Calls Tryz.prog 84 #[.pointer (some ⟨b, o, none⟩), .int .u64 x] w (fun e w' => e = .returned (.tuple #[.iface 61 (.pointer (some ⟨u, 0, none⟩)), .int .u64 (farN x 268435456 : Nat)]) ∧ w' = w) := by
  obtain ⟨-, -, -, h4, c0, c1, c2, c3, f0, f1, f2, f3⟩ := h.out
  have q1 : IntKind.u64.wrap ((x : Int) - 33554432) = ((farN x 33554432 : Nat) : Int) := by have := hx.out; rw [IntKind.wrap_u64]; unfold farN; omega
  have n1 : decide (((farN x 33554432 : Nat) : Int) < 65536) = false := decide_eq_false (by have := hk; have := hx.out; unfold farN; omega)
  have q2 : IntKind.u64.wrap ((x : Int) - 201326592) = ((farN x 201326592 : Nat) : Int) := by have := hx.out; rw [IntKind.wrap_u64]; unfold farN; omega
  have n2 : decide (((farN x 201326592 : Nat) : Int) < 4194304) = false := decide_eq_false (by have := hk; have := hx.out; unfold farN; omega)
  have q3 : IntKind.u64.wrap ((x : Int) - 268435456) = ((farN x 268435456 : Nat) : Int) := by have := hx.out; rw [IntKind.wrap_u64]; unfold farN; omega
  have n3 : ((farN x 268435456 : Nat) : Int) < 8 := by have := hk; have := hx.out; unfold farN; omega
  clear hk
  generalize farN x 33554432 = y0 at *
  generalize farN x 201326592 = y1 at *
  generalize farN x 268435456 = y2 at *
  go_enter Tryz.func84, Tryz.ntmps84
  go_wp2_with fail
  go_ret2
  exact ⟨rfl, rfl⟩
theorem find_0 (b o c p u : Nat) (one : Bool) (R W : Fp) (x : Nat) (hx : Hid (x < 18446744073709551616)) (hk : ¬ (33554432 ≤ x ∧ x < 33619968) ∧ ¬ (201326592 ≤ x ∧ x < 205520896) ∧ ¬ (268435456 ≤ x ∧ x < 268435464)) (w : World) (h : Hid ((eDv b o c p u one).P R W w)) : Calls Tryz.prog 84 #[.pointer (some ⟨b, o, none⟩), .int .u64 x] w (fun e w' => e = .returned (.tuple #[.iface 152 (.agg #[]), .int .u64 (x : Nat)]) ∧ w' = w) := by
  obtain ⟨-, -, -, h4, c0, c1, c2, c3, f0, f1, f2, f3⟩ := h.out
  have q1 : IntKind.u64.wrap ((x : Int) - 33554432) = ((farN x 33554432 : Nat) : Int) := by have := hx.out; rw [IntKind.wrap_u64]; unfold farN; omega
  have n1 : decide (((farN x 33554432 : Nat) : Int) < 65536) = false := decide_eq_false (by have := hk; have := hx.out; unfold farN; omega)
  have q2 : IntKind.u64.wrap ((x : Int) - 201326592) = ((farN x 201326592 : Nat) : Int) := by have := hx.out; rw [IntKind.wrap_u64]; unfold farN; omega
  have n2 : decide (((farN x 201326592 : Nat) : Int) < 4194304) = false := decide_eq_false (by have := hk; have := hx.out; unfold farN; omega)
  have q3 : IntKind.u64.wrap ((x : Int) - 268435456) = ((farN x 268435456 : Nat) : Int) := by have := hx.out; rw [IntKind.wrap_u64]; unfold farN; omega
  have n3 : decide (((farN x 268435456 : Nat) : Int) < 8) = false := decide_eq_false (by have := hk; have := hx.out; unfold farN; omega)
  clear hk
  generalize farN x 33554432 = y0 at *
  generalize farN x 201326592 = y1 at *
  generalize farN x 268435456 = y2 at *
  go_enter Tryz.func84, Tryz.ntmps84
  go_wp2_with fail
  go_ret2
  exact ⟨rfl, rfl⟩
theorem below_one (w : World) (o : Obj) : Below w.heap.size w (w.alloc o) := (Below.refl _ _).alloc (Nat.le_refl _) o
theorem grp_drew {R0 W0 : Fp} {w0 w : World} {l : List Th} (h : Grp R0 W0 w0 l w) : Grp R0 W0 w0 l w.drew := h.below ((Below.refl _ _).drew)
set_option maxHeartbeats 4000000 in
theorem follow_g (b o c p u : Nat) (D : Dv) (R W : Fp) (w0 w : World) (h : Hid (Grp R W w0 (dl b o c p u D) w)) : Calls Tryz.prog 86 #[.pointer (some ⟨b, o, none⟩)] w (fun e w' => e = .returned (.tuple #[]) ∧ Grp R W w0 (dl b o c p u D.fol) w') := by
  have hG : Hid (Grp R W w0 [eDv b o c p u D.one, eC c D.s D.a D.t, eP p D.S, eU u D.U] w.drew) := grp_drew h.out
  have hL : Hid (∀ up, Calls Tryz.prog 91 #[.pointer (some ⟨p, 0, none⟩), .int .i64 1, .bool up] w.drew (fun e w' => e = .returned (.bool true) ∧ Grp R W w0 [eDv b o c p u D.one, eC c D.s D.a D.t, eP p (P.comeF (D.S.setUp 1 up) 1), eU u D.U] w')) :=
    fun up => hG.out.step 2 rfl _ (fun R W q => lineP q 1 ⟨by decide, by decide⟩ up)
  have hU : Calls Tryz.prog 92 #[.pointer (some ⟨u, 0, none⟩)] w.drew (fun e w' => e = .returned (.bool (T.upF D.U)) ∧ w' = w.drew) := by
    obtain ⟨_, _, q⟩ := hG.out.get 3 rfl
    exact upU q
  have HU := Lib.hid hU
  clear hU
  obtain ⟨_, _, -, -, -, h4, c0, c1, c2, c3, f0, f1, f2, f3⟩ := hG.out.get 0 rfl
  have e1 : Hid (D.fol = { D with S := P.comeF (D.S.setUp 1 (D.one || T.upF D.U)) 1 }) := rfl
  have hfin : Hid (∀ w', Grp R W w0 [eDv b o c p u D.one, eC c D.s D.a D.t, eP p (P.comeF (D.S.setUp 1 (D.one || T.upF D.U)) 1), eU u D.U] w' → Grp R W w0 (dl b o c p u D.fol) w') :=
    fun w' q => q
  clear hG h e1
  generalize T.upF D.U = up at *
  generalize D.fol = D' at *
  generalize D.one = one at *
  cases one
  · go_enter Tryz.func86, Tryz.ntmps86
    go_wp2_with fail
    refine wp_region_still_tail 15 (by kernel_rfl) (by kernel_rfl) ?_
    simp only [List.take_succ_cons, List.take_zero, List.drop_succ_cons, List.drop_zero]
    repeat (first | still_step | still_call HU.out)
    refine wpStill_nil ?_
    change wpList _ _ _ _ _ w.drew
    go_wp2_with fail
    refine (hL.out _).mono ?_; rintro e w1 ⟨rfl, q⟩
    have Q := Lib.hid q
    clear q
    go_wp2_with fail
    go_end0
    exact ⟨rfl, hfin.out w1 Q.out⟩
  · go_enter Tryz.func86, Tryz.ntmps86
    go_wp2_with fail
    refine wp_region_still_tail 15 (by kernel_rfl) (by kernel_rfl) ?_
    simp only [List.take_succ_cons, List.take_zero, List.drop_succ_cons, List.drop_zero]
    repeat still_step
    refine wpStill_nil ?_
    change wpList _ _ _ _ _ w.drew
    go_wp2_with fail
    refine (hL.out _).mono ?_; rintro e w1 ⟨rfl, q⟩
    have Q := Lib.hid q
    clear q
    go_wp2_with fail
    go_end0
    exact ⟨rfl, hfin.out w1 Q.out⟩
end Go.Proofs.YthhlcchofilimaaGreatDoor.U
