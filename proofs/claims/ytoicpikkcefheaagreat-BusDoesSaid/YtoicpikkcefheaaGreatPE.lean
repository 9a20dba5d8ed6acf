/- The plic's Read and Write at any place. -/
import Derived.Test.YtoicpikkcefheaaGreatPC
import Derived.Test.YtoicpikkcefheaaGreatPD
namespace Go.Proofs.YtoicpikkcefheaaGreat.P
open Go.ChangeShapes Go.WideShapes Go.ChangeAt Go.RowKit
set_option linter.unusedVariables false
set_option linter.unusedSimpArgs false
set_option maxRecDepth 20000
/-- Which register lies there: 0 none; 1 to 9 a priority, 10 the waiting ones, 11 and 12 enabled, 13 and 14 a threshold, 15 and 16 a claim. -/
def pk (a : Nat) (z : Int) : Nat := if z = 4 then (if a ≤ 32 ∧ a % 4 = 0 then 1 + a / 4 else if a = 4096 then 10 else if a = 8192 then 11 else if a = 8320 then 12 else if a = 2097152 then 13 else if a = 2101248 then 14 else if a = 2097156 then 15 else if a = 2101252 then 16 else 0) else 0
def valP (k : Nat) (S : St) : Nat := if k = 0 then 0 else if k ≤ 9 then S.pr (k - 1) else if k = 10 then waitF S 9 else if k ≤ 12 then S.en (k - 11) else if k ≤ 14 then S.th (k - 13) else if k ≤ 16 then best S (k - 15) else 0
def nextP (k : Nat) (S : St) : St := if k = 15 then claimF S 0 else if k = 16 then claimF S 1 else S
def wrP (k : Nat) (S : St) (v : Nat) : St := if k ≤ 1 then S else if k ≤ 9 then S.setPr (k - 1) (v % 8) else if k = 10 then S else if k ≤ 12 then S.setEn (k - 11) (v &&& 510) else if k ≤ 14 then S.setTh (k - 13) (v % 8) else if k ≤ 16 then finF S (k - 15) (v % 4294967296) else S
def NoP (a : Nat) (z : Int) : Prop := z = 4 → ¬ (a ≤ 32 ∧ a % 4 = 0) ∧ a ≠ 4096 ∧ a ≠ 8192 ∧ a ≠ 8320 ∧ a ≠ 2097152 ∧ a ≠ 2101248 ∧ a ≠ 2097156 ∧ a ≠ 2101252
theorem pk_cases (a : Nat) (z : Int) : (∃ n, n < 9 ∧ z = 4 ∧ a = 4 * n ∧ pk a z = 1 + n) ∨ (z = 4 ∧ a = 4096 ∧ pk a z = 10) ∨ (∃ c, c < 2 ∧ z = 4 ∧ a = 8192 + 128 * c ∧ pk a z = 11 + c) ∨ (∃ c, c < 2 ∧ z = 4 ∧ a = 2097152 + 4096 * c ∧ pk a z = 13 + c) ∨ (∃ c, c < 2 ∧ z = 4 ∧ a = 2097156 + 4096 * c ∧ pk a z = 15 + c) ∨ (NoP a z ∧ pk a z = 0) := by
  by_cases hz : z = 4
  · by_cases h1 : a ≤ 32 ∧ a % 4 = 0
    · exact .inl ⟨a / 4, by omega, hz, by omega, by unfold pk; rw [if_pos hz, if_pos h1]⟩
    by_cases h2 : a = 4096
    · exact .inr (.inl ⟨hz, h2, by unfold pk; rw [if_pos hz, if_neg h1, if_pos h2]⟩)
    by_cases h3 : a = 8192
    · exact .inr (.inr (.inl ⟨0, by omega, hz, h3, by unfold pk; rw [if_pos hz, if_neg h1, if_neg h2, if_pos h3]⟩))
    by_cases h4 : a = 8320
    · exact .inr (.inr (.inl ⟨1, by omega, hz, h4, by unfold pk; rw [if_pos hz, if_neg h1, if_neg h2, if_neg h3, if_pos h4]⟩))
    by_cases h5 : a = 2097152
    · exact .inr (.inr (.inr (.inl ⟨0, by omega, hz, h5, by unfold pk; rw [if_pos hz, if_neg h1, if_neg h2, if_neg h3, if_neg h4, if_pos h5]⟩)))
    by_cases h6 : a = 2101248
    · exact .inr (.inr (.inr (.inl ⟨1, by omega, hz, h6, by unfold pk; rw [if_pos hz, if_neg h1, if_neg h2, if_neg h3, if_neg h4, if_neg h5, if_pos h6]⟩)))
    by_cases h7 : a = 2097156
    · exact .inr (.inr (.inr (.inr (.inl ⟨0, by omega, hz, h7, by unfold pk; rw [if_pos hz, if_neg h1, if_neg h2, if_neg h3, if_neg h4, if_neg h5, if_neg h6, if_pos h7]⟩))))
    by_cases h8 : a = 2101252
    · exact .inr (.inr (.inr (.inr (.inl ⟨1, by omega, hz, h8, by unfold pk; rw [if_pos hz, if_neg h1, if_neg h2, if_neg h3, if_neg h4, if_neg h5, if_neg h6, if_neg h7, if_pos h8]⟩))))
    exact .inr (.inr (.inr (.inr (.inr ⟨fun _ => ⟨h1, h2, h3, h4, h5, h6, h7, h8⟩, by unfold pk; rw [if_pos hz, if_neg h1, if_neg h2, if_neg h3, if_neg h4, if_neg h5, if_neg h6, if_neg h7, if_neg h8]⟩))))
  · exact .inr (.inr (.inr (.inr (.inr ⟨fun e => absurd e hz, by unfold pk; rw [if_neg hz]⟩))))
set_option maxRecDepth 100000 in
theorem find_none (a : Nat) (z : Int) (h : NoP a z) (w : World) : Calls Tryz.prog 124 #[.int .u64 a, .int .i64 z] w (RetF 0 0 w) := by
  by_cases hz : z = 4
  · subst hz
    obtain ⟨h1, h2, h3, h4, h5, h6, h7, h8⟩ := h rfl
    have d2 : ((a : Int) == 4096) = false := by rw [beq_eq_false_iff_ne]; omega
    have d3 : ((a : Int) == 8192) = false := by rw [beq_eq_false_iff_ne]; omega
    have d4 : ((a : Int) == 8320) = false := by rw [beq_eq_false_iff_ne]; omega
    have d5 : ((a : Int) == 2097152) = false := by rw [beq_eq_false_iff_ne]; omega
    have d6 : ((a : Int) == 2101248) = false := by rw [beq_eq_false_iff_ne]; omega
    have d7 : ((a : Int) == 2097156) = false := by rw [beq_eq_false_iff_ne]; omega
    have d8 : ((a : Int) == 2101252) = false := by rw [beq_eq_false_iff_ne]; omega
    have f2 : decide ((a : Int) = 4096) = false := decide_eq_false (by omega)
    have f3 : decide ((a : Int) = 8192) = false := decide_eq_false (by omega)
    have f4 : decide ((a : Int) = 8320) = false := decide_eq_false (by omega)
    have f5 : decide ((a : Int) = 2097152) = false := decide_eq_false (by omega)
    have f6 : decide ((a : Int) = 2101248) = false := decide_eq_false (by omega)
    have f7 : decide ((a : Int) = 2097156) = false := decide_eq_false (by omega)
    have f8 : decide ((a : Int) = 2101252) = false := decide_eq_false (by omega)
    by_cases hl : a ≤ 32
    · have hm : ¬ a % 4 = 0 := fun e => h1 ⟨hl, e⟩
      have l1 : (a : Int) ≤ 32 := by omega
      have m1 : (((a : Int) % 4) == 0) = false := by rw [beq_eq_false_iff_ne]; omega
      have m2 : decide ((a : Int) % 4 = 0) = false := decide_eq_false (by omega)
      have m3 : ((a : Int).tmod 4 == 0) = false := by rw [beq_eq_false_iff_ne, Int.tmod_eq_emod_of_nonneg (by omega)]; omega
      have m4 : ¬ (a : Int) % 4 = 0 := by omega
      clear h h1 h2 h3 h4 h5 h6 h7 h8 hl hm
      go_enter Tryz.func124, Tryz.ntmps124
      go_wp2_with fail
      refine wp_loop_rounds 3 ?_
      rw [rounds_succ]
      go_wp2_with fail
      rw [rounds_succ]
      go_wp2_with fail
      rw [rounds_succ]
      go_wp2_with fail
      refine bodyPost_ret (v := .agg #[.int .i64 0, .int .i64 0]) (by simp [results, Tryz.results124, go_sem] <;> (first | rfl | (repeat' (first | rfl | apply And.intro)))) rfl ⟨rfl, (by repeat (first | (with_reducible first | exact Below.refl _ _ | assumption | exact Nat.le_refl _ | refine Below.drew ?_ | refine Below.alloc ?_ ?_ _ | refine below_drewN ?_ _ | refine Below.setCell ?_ ?_ _ | refine le_alloc ?_ | refine le_set ?_ | refine le_drew ?_ | refine le_drewN ?_ | refine below_step (by assumption) ?_ ?_ | refine le_below (by assumption) ?_) | (dsimp only; omega)))⟩
    · have l1 : decide ((a : Int) ≤ 32) = false := decide_eq_false (by omega)
      have l2 : ¬ (a : Int) ≤ 32 := by omega
      clear h h1 h2 h3 h4 h5 h6 h7 h8 hl
      go_enter Tryz.func124, Tryz.ntmps124
      go_wp2_with fail
      refine wp_loop_rounds 3 ?_
      rw [rounds_succ]
      go_wp2_with fail
      rw [rounds_succ]
      go_wp2_with fail
      rw [rounds_succ]
      go_wp2_with fail
      refine bodyPost_ret (v := .agg #[.int .i64 0, .int .i64 0]) (by simp [results, Tryz.results124, go_sem] <;> (first | rfl | (repeat' (first | rfl | apply And.intro)))) rfl ⟨rfl, (by repeat (first | (with_reducible first | exact Below.refl _ _ | assumption | exact Nat.le_refl _ | refine Below.drew ?_ | refine Below.alloc ?_ ?_ _ | refine below_drewN ?_ _ | refine Below.setCell ?_ ?_ _ | refine le_alloc ?_ | refine le_set ?_ | refine le_drew ?_ | refine le_drewN ?_ | refine below_step (by assumption) ?_ ?_ | refine le_below (by assumption) ?_) | (dsimp only; omega)))⟩
  · have d1 : (z == 4) = false := by rw [beq_eq_false_iff_ne]; exact hz
    have f1 : decide (z = 4) = false := decide_eq_false hz
    clear h
    go_enter Tryz.func124, Tryz.ntmps124
    go_wp2_with fail
    refine bodyPost_ret (v := .agg #[.int .i64 0, .int .i64 0]) (by simp [results, Tryz.results124, go_sem] <;> (first | rfl | (repeat' (first | rfl | apply And.intro)))) rfl ⟨rfl, (by repeat (first | (with_reducible first | exact Below.refl _ _ | assumption | exact Nat.le_refl _ | refine Below.drew ?_ | refine Below.alloc ?_ ?_ _ | refine below_drewN ?_ _ | refine Below.setCell ?_ ?_ _ | refine le_alloc ?_ | refine le_set ?_ | refine le_drew ?_ | refine le_drewN ?_ | refine below_step (by assumption) ?_ ?_ | refine le_below (by assumption) ?_) | (dsimp only; omega)))⟩


def RetRP (x : Nat) (ok : Bool) (b : Nat) (S : St) (W : World) (e : Ending) (w' : World) : Prop := e = .returned (.tuple #[.int .u64 x, .bool ok]) ∧ IsP w' b S ∧ W.grownBy w' (some b)
theorem retRP_to {x x' : Nat} {ok : Bool} {b : Nat} {S S' : St} {W w' : World} {e : Ending} (h : x = x') (h2 : S = S') (r : RetRP x ok b S W e w') : RetRP x' ok b S' W e w' := by subst h h2; exact r
theorem retRP_of {x b : Nat} {S : St} {W w' : World} {e : Ending} (hP : IsP W b S) (r : RetR x W e w') : RetRP x true b S W e w' := ⟨r.1, hP.below r.2, grown_any (grown_below r.2)⟩
theorem retL_to {ok : Bool} {b : Nat} {S S' : St} {W w' : World} {e : Ending} (h2 : S = S') (r : RetL ok b S W e w') : RetL ok b S' W e w' := by subst h2; exact r
theorem read_none (b a : Nat) (z : Int) (S : St) (w : World) (hP : Hid (IsP w b S)) (h : NoP a z) : Calls Tryz.prog 122 #[.pointer (some ⟨b, 0, none⟩), .int .u64 a, .int .i64 z] w (RetRP 0 false b S w) := by
  go_enter Tryz.func122, Tryz.ntmps122
  go_wp2_with fail
  refine (find_none a z h w).mono ?_; rintro e w1 ⟨rfl, hb1⟩
  have HB := Lib.hid hb1
  have HP1 := Lib.hid (hP.out.below hb1)
  clear hb1 h
  go_wp2_with fail
  go_ret2
  exact ⟨rfl, HP1.out.below ((Below.refl _ _).alloc (Nat.le_refl _) _), grown_alloc (grown_any (grown_below HB.out)) _⟩
theorem write_none (b a v : Nat) (z : Int) (S : St) (w : World) (hP : Hid (IsP w b S)) (h : NoP a z) : Calls Tryz.prog 123 #[.pointer (some ⟨b, 0, none⟩), .int .u64 a, .int .i64 z, .int .u64 v] w (RetL false b S w) := by
  go_enter Tryz.func123, Tryz.ntmps123
  go_wp2_with fail
  refine (find_none a z h w).mono ?_; rintro e w1 ⟨rfl, hb1⟩
  have HB := Lib.hid hb1
  have HP1 := Lib.hid (hP.out.below hb1)
  clear hb1 h
  go_wp2_with fail
  go_ret
  exact ⟨rfl, HP1.out.below ((Below.refl _ _).alloc (Nat.le_refl _) _), grown_alloc (grown_any (grown_below HB.out)) _⟩
theorem claim2 (c : Nat) (hc : c < 2) (S : St) : nextP (15 + c) S = claimF S c := by
  have : c = 0 ∨ c = 1 := by omega
  rcases this with rfl | rfl <;> rfl
theorem read_p (b a : Nat) (z : Int) (S : St) (w : World) (hP : Hid (IsP w b S)) (hO : Hid (OkS S)) : Calls Tryz.prog 122 #[.pointer (some ⟨b, 0, none⟩), .int .u64 a, .int .i64 z] w (RetRP (valP (pk a z) S) (decide (pk a z ≠ 0)) b (nextP (pk a z) S) w) := by
  rcases pk_cases a z with ⟨n, hn, rfl, ha, e⟩ | ⟨rfl, rfl, e⟩ | ⟨c, hc, rfl, ha, e⟩ | ⟨c, hc, rfl, ha, e⟩ | ⟨c, hc, rfl, ha, e⟩ | ⟨h, e⟩ <;> rw [e]
  · rw [decide_eq_true (by omega : 1 + n ≠ 0)]
    refine (read_pr b n a S w hP (Lib.hid hn) (Lib.hid (by omega))).mono fun e w' r => retRP_to ?_ ?_ (retRP_of hP.out r)
    · unfold valP; rw [if_neg (by omega), if_pos (by omega), show 1 + n - 1 = n by omega]
    · unfold nextP; rw [if_neg (by omega), if_neg (by omega)]
  · exact (read_wait b S w hP).mono fun e w' r => retRP_of hP.out r
  · rw [decide_eq_true (by omega : 11 + c ≠ 0)]
    refine (read_en b c a S w hP (Lib.hid hc) (Lib.hid (by omega))).mono fun e w' r => retRP_to ?_ ?_ (retRP_of hP.out r)
    · unfold valP; rw [if_neg (by omega), if_neg (by omega), if_neg (by omega), if_pos (by omega), show 11 + c - 11 = c by omega]
    · unfold nextP; rw [if_neg (by omega), if_neg (by omega)]
  · rw [decide_eq_true (by omega : 13 + c ≠ 0)]
    refine (read_th b c a S w hP (Lib.hid hc) (Lib.hid (by omega))).mono fun e w' r => retRP_to ?_ ?_ (retRP_of hP.out r)
    · unfold valP; rw [if_neg (by omega), if_neg (by omega), if_neg (by omega), if_neg (by omega), if_pos (by omega), show 13 + c - 13 = c by omega]
    · unfold nextP; rw [if_neg (by omega), if_neg (by omega)]
  · rw [decide_eq_true (by omega : 15 + c ≠ 0)]
    refine (read_claim b c a S w hP hO (Lib.hid hc) (Lib.hid (by omega))).mono fun e w' r => retRP_to ?_ (claim2 c hc S).symm r
    unfold valP; rw [if_neg (by omega), if_neg (by omega), if_neg (by omega), if_neg (by omega), if_neg (by omega), if_pos (by omega), show 15 + c - 15 = c by omega]
  · exact read_none b a z S w hP h
theorem fin_9 (b c n : Nat) (w : World) (hn : Hid (9 ≤ n)) : Calls Tryz.prog 127 #[.pointer (some ⟨b, 0, none⟩), .int .i64 c, .int .u64 n] w (fun e w' => e = .returned (.tuple #[]) ∧ w' = w) := by
  have n8 : (8 : Int) < n := by have := hn.out; omega
  go_enter Tryz.func127, Tryz.ntmps127
  go_wp2_with fail
  refine bodyPost_ret (results_none rfl _ _ _) rfl ?_
  exact ⟨rfl, rfl⟩
theorem write_big (b c v : Nat) (a : Int) (S : St) (w : World) (hP : Hid (IsP w b S)) (hc : Hid (c < 2)) (ha : Hid (a = 2097156 + 4096 * c)) (hv : Hid (v < 18446744073709551616)) (h9 : Hid (9 ≤ v % 4294967296)) : Calls Tryz.prog 123 #[.pointer (some ⟨b, 0, none⟩), .int .u64 a, .int .i64 4, .int .u64 v] w (RetL true b S w) := by
  have e1 := and32 v hv.out
  have e2 : (8 : Int) < ((v % 4294967296 : Nat) : Int) := by have := h9.out; omega
  go_enter Tryz.func123, Tryz.ntmps123
  go_wp2_with fail
  refine (findC c hc.out a ha.out w).mono ?_; rintro e w1 ⟨rfl, hb1⟩
  have HB := Lib.hid hb1
  have HP1 : Hid (IsP w1 b S) := hP.out.below hb1
  clear hb1
  go_wp2_with fail
  refine (fin_9 b c (v % 4294967296) _ h9).mono ?_; rintro e w2 ⟨rfl, e3⟩
  subst e3
  have k0 : (w1.alloc (Obj.cells #[.int .i64 5, .int .i64 c] 166)).cell? ⟨w1.heap.size, 0, none⟩ = some (.int .i64 5) := by
    rw [World.cell?_alloc_at _ _ _ _ rfl]; rfl
  go_wp2_with fail
  go_ret
  exact ⟨rfl, HP1.out.below ((Below.refl _ _).alloc (Nat.le_refl _) _), grown_alloc (grown_any (grown_below HB.out)) _⟩
theorem write_small (b c v : Nat) (a : Int) (S : St) (w : World) (hP : Hid (IsP w b S)) (hO : Hid (OkS S)) (hc : Hid (c < 2)) (ha : Hid (a = 2097156 + 4096 * c)) (hw : Hid (v < 18446744073709551616)) (hv : Hid (v % 4294967296 < 9)) : Calls Tryz.prog 123 #[.pointer (some ⟨b, 0, none⟩), .int .u64 a, .int .i64 4, .int .u64 v] w (RetL true b (finF S c (v % 4294967296)) w) := by
  have e1 := and32 v hw.out
  go_enter Tryz.func123, Tryz.ntmps123
  go_wp2_with fail
  refine (findC c hc.out a ha.out w).mono ?_; rintro e w1 ⟨rfl, hb1⟩
  have HB := Lib.hid hb1
  have HP1 : Hid (IsP w1 b S) := hP.out.below hb1
  have hbl := HP1.out.1
  clear hb1
  go_wp2_with fail
  refine (fin_c b c (v % 4294967296) S _ (Lib.hid (HP1.out.below ((Below.refl _ _).alloc (Nat.le_refl _) _))) hO hc hv).mono ?_; rintro e w2 ⟨rfl, h1, h2⟩
  have hne : ¬ w1.heap.size = b := by omega
  have H1 := Lib.hid h1; have H2 := Lib.hid h2
  have k0 : w2.cell? ⟨w1.heap.size, 0, none⟩ = some (.int .i64 5) := by
    rw [World.cell?_of_block (w := w1.alloc _) (a := ⟨w1.heap.size, 0, none⟩) (h2.block w1.heap.size (by rw [sz_alloc]; omega) (by intro q; injection q with q; exact hne q)), World.cell?_alloc_at _ _ _ _ rfl]; rfl
  clear h1 h2
  go_wp2_with fail
  go_ret
  exact ⟨rfl, H1.out, grown_trans (grown_alloc (grown_any (grown_below HB.out)) _) H2.out⟩
theorem fin_big (S : St) (c n : Nat) (h : 9 ≤ n) : finF S c n = S := by
  unfold finF
  rw [decide_eq_false (by omega)]; rfl
theorem write_p (b a v : Nat) (z : Int) (S : St) (w : World) (hP : Hid (IsP w b S)) (hO : Hid (OkS S)) (hv : Hid (v < 18446744073709551616)) : Calls Tryz.prog 123 #[.pointer (some ⟨b, 0, none⟩), .int .u64 a, .int .i64 z, .int .u64 v] w (RetL (decide (pk a z ≠ 0)) b (wrP (pk a z) S v) w) := by
  rcases pk_cases a z with ⟨n, hn, rfl, ha, e⟩ | ⟨rfl, rfl, e⟩ | ⟨c, hc, rfl, ha, e⟩ | ⟨c, hc, rfl, ha, e⟩ | ⟨c, hc, rfl, ha, e⟩ | ⟨h, e⟩ <;> rw [e]
  · rw [decide_eq_true (by omega : 1 + n ≠ 0)]
    by_cases h0 : n = 0
    · subst h0; subst ha
      exact write_0 b v S w hP
    · refine (write_pr b n v a S w hP hv (Lib.hid ⟨by omega, hn⟩) (Lib.hid (by omega))).mono fun e w' r => retL_to ?_ r
      unfold wrP; rw [if_neg (by omega), if_pos (by omega), show 1 + n - 1 = n by omega]
  · exact write_wait b v S w hP
  · rw [decide_eq_true (by omega : 11 + c ≠ 0)]
    refine (write_en b c v a S w hP hv (Lib.hid hc) (Lib.hid (by omega))).mono fun e w' r => retL_to ?_ r
    unfold wrP; rw [if_neg (by omega), if_neg (by omega), if_neg (by omega), if_pos (by omega), show 11 + c - 11 = c by omega]
  · rw [decide_eq_true (by omega : 13 + c ≠ 0)]
    refine (write_th b c v a S w hP hv (Lib.hid hc) (Lib.hid (by omega))).mono fun e w' r => retL_to ?_ r
    unfold wrP; rw [if_neg (by omega), if_neg (by omega), if_neg (by omega), if_neg (by omega), if_pos (by omega), show 13 + c - 13 = c by omega]
  · rw [decide_eq_true (by omega : 15 + c ≠ 0)]
    have e2 : wrP (15 + c) S v = finF S c (v % 4294967296) := by
      unfold wrP; rw [if_neg (by omega), if_neg (by omega), if_neg (by omega), if_neg (by omega), if_neg (by omega), if_pos (by omega), show 15 + c - 15 = c by omega]
    rw [e2]
    by_cases h9 : v % 4294967296 < 9
    · exact write_small b c v a S w hP hO (Lib.hid hc) (Lib.hid (by omega)) hv (Lib.hid h9)
    · rw [fin_big S c _ (by omega)]
      exact write_big b c v a S w hP (Lib.hid hc) (Lib.hid (by omega)) hv (Lib.hid (by omega))
  · exact write_none b a v z S w hP h
/-- What a plic may be stays so. -/
theorem OkS.val {S : St} (h : OkS S) (k : Nat) : valP k S < 18446744073709551616 := by
  unfold valP
  have h1 := h.1 (k - 1); have h2 := h.2.1 (k - 11); have h3 := h.2.2.1 (k - 13); have h4 := waitF_lt S 9; have h5 := best_lt S (k - 15) 7
  have h6 : best S (k - 15) < 9 := h5
  split; · omega
  split; · omega
  split; · have : (2 : Nat) ^ 9 = 512 := rfl
           omega
  split; · omega
  split; · omega
  split <;> omega
theorem OkS.setSt {S : St} (h : OkS S) (n v : Nat) (hv : v < 3) : OkS (S.setSt n v) :=
  ⟨h.1, h.2.1, h.2.2.1, fun k => by show set S.st n v k < 3; unfold set; split; exact hv; exact h.2.2.2 k⟩
theorem OkS.setPr {S : St} (h : OkS S) (n v : Nat) (hv : v < 8) : OkS (S.setPr n v) :=
  ⟨fun k => by show set S.pr n v k < 8; unfold set; split; exact hv; exact h.1 k, h.2.1, h.2.2.1, h.2.2.2⟩
theorem OkS.setEn {S : St} (h : OkS S) (n v : Nat) (hv : v < 512) : OkS (S.setEn n v) :=
  ⟨h.1, fun k => by show set S.en n v k < 512; unfold set; split; exact hv; exact h.2.1 k, h.2.2.1, h.2.2.2⟩
theorem OkS.setTh {S : St} (h : OkS S) (n v : Nat) (hv : v < 8) : OkS (S.setTh n v) :=
  ⟨h.1, h.2.1, fun k => by show set S.th n v k < 8; unfold set; split; exact hv; exact h.2.2.1 k, h.2.2.2⟩
theorem OkS.setUp {S : St} (h : OkS S) (n : Nat) (v : Bool) : OkS (S.setUp n v) := h
theorem OkS.come {S : St} (h : OkS S) (n : Nat) : OkS (comeF S n) := by
  unfold comeF
  cases (S.up n && S.st n == 0)
  · exact h
  · exact h.setSt n 1 (by decide)
theorem OkS.claim {S : St} (h : OkS S) (c : Nat) : OkS (claimF S c) := by
  unfold claimF
  cases (best S c == 0)
  · exact h.setSt _ 2 (by decide)
  · exact h
theorem OkS.fin {S : St} (h : OkS S) (c n : Nat) : OkS (finF S c n) := by
  unfold finF
  cases (decide (n < 9) && (S.st n == 2 && takeB S c n))
  · exact h
  · exact (h.setSt n 0 (by decide)).come n
theorem OkS.next {S : St} (h : OkS S) (k : Nat) : OkS (nextP k S) := by
  unfold nextP; split; exact h.claim 0; split; exact h.claim 1; exact h
theorem and510_lt (v : Nat) : v &&& 510 < 512 := Nat.lt_of_le_of_lt Nat.and_le_right (by decide)
theorem OkS.wr {S : St} (h : OkS S) (k v : Nat) : OkS (wrP k S v) := by
  unfold wrP
  split; exact h
  split; exact h.setPr _ _ (Nat.mod_lt _ (by decide))
  split; exact h
  split; exact h.setEn _ _ (and510_lt v)
  split; exact h.setTh _ _ (Nat.mod_lt _ (by decide))
  split; exact h.fin _ _
  exact h
theorem okS0 : OkS S0 := ⟨fun _ => (by decide : (0:Nat) < 8), fun _ => (by decide : (0:Nat) < 512), fun _ => (by decide : (0:Nat) < 8), fun _ => (by decide : (0:Nat) < 3)⟩
theorem pend_lt (S : St) : pendF S < 4096 := by
  unfold pendF
  cases aboveB S 0 <;> cases aboveB S 1 <;> decide

end Go.Proofs.YtoicpikkcefheaaGreat.P
