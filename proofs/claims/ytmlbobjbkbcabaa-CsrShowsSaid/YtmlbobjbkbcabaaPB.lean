/- Taken from other texts: what is needed of them. -/
import Derived.Test.YtmlbobjbkbcabaaPA
namespace Go.Proofs.Ytmlbobjbkbcabaa.P
set_option linter.unusedVariables false
set_option linter.unusedSimpArgs false
set_option maxRecDepth 20000
open Go.ChangeShapes Go.WideShapes Go.ChangeAt Go.RowKit
def RetA (cs : Array Value) (W : World) (e : Ending) (w' : World) : Prop := e = .returned (.agg cs) ∧ Below W.heap.size W w'
/-- The first n settings are those behind the write. -/
def upto (n : Nat) (f c : Nat → Nat) (k : Nat) : Nat := bif Nat.blt k n then f k else c k
theorem upto_0 (f c : Nat → Nat) : upto 0 f c = c := by funext k; unfold upto; rw [show Nat.blt k 0 = false from rfl]; rfl
theorem u8s_congr {c d : Nat → Nat} (h : ∀ k, k < 8 → c k = d k) : u8s c = u8s d := by
  unfold u8s
  rw [h 0 (by decide), h 1 (by decide), h 2 (by decide), h 3 (by decide), h 4 (by decide), h 5 (by decide), h 6 (by decide), h 7 (by decide)]
theorem u64s_congr {c d : Nat → Nat} (h : ∀ k, k < 8 → c k = d k) : u64s c = u64s d := by
  unfold u64s
  rw [h 0 (by decide), h 1 (by decide), h 2 (by decide), h 3 (by decide), h 4 (by decide), h 5 (by decide), h 6 (by decide), h 7 (by decide)]
def setN (c : Nat → Nat) (n v k : Nat) : Nat := bif k == n then v else c k
theorem u8s_set (c : Nat → Nat) (n v : Nat) (hn : n < 8) : (u8s c).setIfInBounds n (.int .u8 (v : Nat)) = u8s (setN c n v) := by
  have : n = 0 ∨ n = 1 ∨ n = 2 ∨ n = 3 ∨ n = 4 ∨ n = 5 ∨ n = 6 ∨ n = 7 := by omega
  rcases this with rfl | rfl | rfl | rfl | rfl | rfl | rfl | rfl <;> rfl
theorem u64s_set (c : Nat → Nat) (n v : Nat) (hn : n < 8) : (u64s c).setIfInBounds n (.int .u64 (v : Nat)) = u64s (setN c n v) := by
  have : n = 0 ∨ n = 1 ∨ n = 2 ∨ n = 3 ∨ n = 4 ∨ n = 5 ∨ n = 6 ∨ n = 7 := by omega
  rcases this with rfl | rfl | rfl | rfl | rfl | rfl | rfl | rfl <;> rfl
theorem Row.set {w : World} {b : Nat} {t : TypeId} {cs : Array Value} (h : Row w b t cs) (n : Nat) (v : Value) : Row (w.setCell ⟨b, n, none⟩ v) b t (cs.setIfInBounds n v) := by
  unfold Row at h ⊢
  show (w.heap.modify b _)[b]? = _
  rw [Array.getElem?_modify, if_pos rfl, h]; rfl
theorem Row.fz {w : World} {b : Nat} {t : TypeId} {cs : Array Value} (h : Row w b t cs) (n : Nat) : w.frozen? ⟨b, n, none⟩ = false := by
  unfold Row at h; unfold World.frozen?; simp only [h]; simp
theorem Row.set_ne {w : World} {b b' : Nat} {t : TypeId} {cs : Array Value} (h : Row w b t cs) (hb : b' ≠ b) (n : Nat) (v : Value) : Row (w.setCell ⟨b', n, none⟩ v) b t cs := by
  unfold Row at h ⊢
  show (w.heap.modify b' _)[b]? = _
  rw [Array.getElem?_modify, if_neg hb, h]
theorem Row.setRow {w : World} {b : Nat} {t : TypeId} {cs : Array Value} (h : Row w b t cs) (cs' : Array Value) : Row (w.setRow b cs') b t cs' := by
  unfold Row at h ⊢
  show (w.heap.modify b _)[b]? = _
  rw [Array.getElem?_modify, if_pos rfl, h]; rfl
theorem Row.setRow_ne {w : World} {b b' : Nat} {t : TypeId} {cs : Array Value} (h : Row w b t cs) (hb : b' ≠ b) (cs' : Array Value) : Row (w.setRow b' cs') b t cs := by
  unfold Row at h ⊢
  show (w.heap.modify b' _)[b]? = _
  rw [Array.getElem?_modify, if_neg hb, h]
theorem sz_setRow (w : World) (g : Nat) (cs : Array Value) : (w.setRow g cs).heap.size = w.heap.size := by
  show (w.heap.modify g _).size = _
  simp
theorem below_setRow {B : Nat} {w w' : World} (h : Below B w w') {g : Nat} (hg : B ≤ g) (cs : Array Value) : Below B w (w'.setRow g cs) :=
  ⟨h.os, h.tape, h.output, by rw [sz_setRow]; exact h.size, fun k hk => by
    show (w'.heap.modify g _)[k]? = _
    rw [Array.getElem?_modify, if_neg (by omega)]; exact h.block k hk⟩
theorem one8c (c : Nat → Nat) : (u8s c).all (·.oneCell') = true := by rw [← Array.all_toList]; rfl
theorem one8a (c : Nat → Nat) : (u64s c).all (·.oneCell') = true := by rw [← Array.all_toList]; rfl
theorem upto_all (f c : Nat → Nat) : u8s (upto 8 f c) = u8s f := u8s_congr (fun k hk => by unfold upto; rw [show Nat.blt k 8 = true by simpa [Nat.blt_eq] using hk]; rfl)
theorem upto_s (f c : Nat → Nat) (n : Nat) (hn : n < 8) : u8s (setN (upto n f c) n (f n)) = u8s (upto (n + 1) f c) := u8s_congr (fun k hk => by
  unfold setN upto
  by_cases e : k = n
  · subst e
    rw [show (k == k) = true by simp, show Nat.blt k (k + 1) = true by rw [Nat.blt_eq]; omega]; rfl
  · rw [show (k == n) = false by simp [e]]
    by_cases h : k < n
    · rw [show Nat.blt k n = true by rw [Nat.blt_eq]; exact h, show Nat.blt k (n + 1) = true by rw [Nat.blt_eq]; omega]; rfl
    · rw [show Nat.blt k n = false by rw [Bool.eq_false_iff, ne_eq, Nat.blt_eq]; exact h, show Nat.blt k (n + 1) = false by rw [Bool.eq_false_iff, ne_eq, Nat.blt_eq]; omega]; rfl)
theorem upto_keep (f c : Nat → Nat) (n : Nat) (h : f n = c n) : u8s (upto n f c) = u8s (upto (n + 1) f c) := u8s_congr (fun k hk => by
  unfold upto
  by_cases e : k = n
  · subst e
    rw [show Nat.blt k k = false by rw [Bool.eq_false_iff, ne_eq, Nat.blt_eq]; omega, show Nat.blt k (k + 1) = true by rw [Nat.blt_eq]; omega]; exact h.symm
  · by_cases h : k < n
    · rw [show Nat.blt k n = true by rw [Nat.blt_eq]; exact h, show Nat.blt k (n + 1) = true by rw [Nat.blt_eq]; omega]
    · rw [show Nat.blt k n = false by rw [Bool.eq_false_iff, ne_eq, Nat.blt_eq]; exact h, show Nat.blt k (n + 1) = false by rw [Bool.eq_false_iff, ne_eq, Nat.blt_eq]; omega])
set_option maxRecDepth 100000 in
theorem Config_c (c : Nat → Nat) (v : Nat) (hc : Hid (OkC c)) (hv : Hid (v < 18446744073709551616)) (w : World) : Calls Try.prog 35 #[.agg (u8s c), .int .u64 v] w (RetA (u8s (cfgF c v)) w) := by
  go_enter Try.func35, Try.ntmps35
  go_wp2_with (refine wpList_load_row rfl 23 _ rfl w.heap.size rfl 23 (u8s c) (0, 0) _ (row_old (row_new _ _ _) _) Try.underlying23 rfl (info8c c) ?_)
  go_loopg [9] 8 (fun g i wr => ∃ n : Nat, n + g = 8 ∧ i = .int .i64 n ∧ Hid (Row wr w.heap.size 23 (u8s (upto n (cfgF c v) c))) ∧ Hid (Row wr (w.heap.size + 1) 23 (u8s (fun _ => 0))) ∧ Hid (Below w.heap.size w wr) ∧ Hid (w.heap.size + 2 ≤ wr.heap.size))
  case atStart => exact ⟨0, rfl, rfl, by rw [upto_0]; exact row_old (row_new _ _ _) _, by have := row_new (w.alloc (Obj.cells (u8s c) 23)) (u8s (fun _ => 0)) 23; rwa [sz_alloc] at this, by show Below _ _ _; exact (by repeat (first | (with_reducible first | exact Below.refl _ _ | assumption | exact Nat.le_refl _ | refine Below.drew ?_ | refine Below.alloc ?_ ?_ _ | refine Below.setCell ?_ ?_ _ | refine le_alloc ?_ | refine le_set ?_ | refine le_drew ?_ | refine below_step (by assumption) ?_ ?_ | refine le_below (by assumption) ?_) | (dsimp only; omega))), by show _ ≤ _; simp only [sz_alloc]; omega⟩
  case round =>
    obtain ⟨n, hn, rfl, r1, r2, hB, hS⟩ := hrel
    cases gk with
    | zero =>
      obtain rfl : n = 8 := by omega
      have r1' : Hid (Row wr w.heap.size 23 (u8s (cfgF c v))) := by have := r1.out; rw [upto_all] at this; exact this
      clear r1
      go_wp2_with (first
        | (refine wpList_load_row rfl 23 _ rfl w.heap.size rfl 23 (u8s (cfgF c v)) (0, 0) _ r1'.out Try.underlying23 rfl (info8c _) ?_)
        | (refine wpList_store_row rfl 23 _ _ rfl (w.heap.size + 1) (u8s (cfgF c v)) rfl rfl 23 (u8s (fun _ => 0)) r2.out (info8c _) rfl (one8c _) ?_))
      refine bodyPost_ret (results_cell_row rfl _ _ (w.heap.size + 1) 23 (u8s (cfgF c v)) (0, 0) _ rfl (r2.out.setRow _) Try.underlying23 rfl (info8c _)) rfl ?_
      exact ⟨rfl, below_setRow hB.out (by omega) _⟩
    | succ g =>
      have n8 : (n : Int) < 8 := by omega
      have n0 : ((n : Nat) : Int).toNat = n := by omega
      have HX := idx8 c n (by omega)
      have HL := Lib.hid (fun v => isLocked_c (c n) (hc.out n) v)
      obtain ⟨L, eL⟩ : ∃ L, L = lockB (c n) := ⟨_, rfl⟩
      have b256 : byteF v n < 256 := Nat.mod_lt _ (by decide)
      have HO := Lib.hid (fun u => isRefused_c (byteF v n) b256 u)
      obtain ⟨O, eO⟩ : ∃ O, O = oddB (byteF v n) := ⟨_, rfl⟩
      have hf : cfgF c v n = (bif L || O then c n else cleanF (byteF v n)) := by rw [eL, eO]; rfl
      rw [← eL] at HL
      rw [← eO] at HO
      have a1 := and159 (byteF v n) b256
      obtain ⟨y, hy⟩ : ∃ y, y = byteF v n := ⟨_, rfl⟩
      rw [← hy] at HO a1 hf
      have e8 : (v : Int) / 2 ^ (8 * n) % 256 = (y : Int) := by rw [hy]; unfold byteF; simp
      have HF := Lib.hid hf
      have HN1 : n + 1 + g = 8 := by omega
      have i0 : w.heap.size ≠ w.heap.size + 1 := by omega
      clear eL eO b256 hf hy hn
      go_wp2_with fail
      refine (HL.out _).mono ?_; rintro e w1 ⟨rfl, h⟩; replace h := h.symm; subst h
      cases L with
      | true =>
        have RN : Hid (Row w1 w.heap.size 23 (u8s (upto (n + 1) (cfgF c v) c))) := by
          have := r1.out; rw [upto_keep _ _ _ (by rw [HF.out]; rfl)] at this; exact this
        clear r1
        go_wp2_with fail
        go_roundg g
        case measure => omega
        case rel => exact ⟨n + 1, by omega, by go_num, RN, r2, hB, hS⟩
      | false =>
        go_wp2_with fail
        refine (HO.out _).mono ?_; rintro e w2 ⟨rfl, h⟩; replace h := h.symm; subst h
        cases O with
        | true =>
          have RN : Hid (Row w2 w.heap.size 23 (u8s (upto (n + 1) (cfgF c v) c))) := by
            have := r1.out; rw [upto_keep _ _ _ (by rw [HF.out]; rfl)] at this; exact this
          clear r1
          go_wp2_with fail
          go_roundg g
          case measure => omega
          case rel => exact ⟨n + 1, by omega, by go_num, RN, r2, hB, hS⟩
        | false =>
          have rc := r1.out.cell n
          rw [u8s_at _ n (by omega)] at rc
          have rf := r1.out.fz n
          have RN : Hid (Row (w2.setCell ⟨w.heap.size, n, none⟩ (.int .u8 (cleanF y : Nat))) w.heap.size 23 (u8s (upto (n + 1) (cfgF c v) c))) := by
            have := r1.out.set n (.int .u8 (cleanF y : Nat))
            rw [u8s_set _ _ _ (by omega), show cleanF y = cfgF c v n by rw [HF.out]; rfl, upto_s _ _ _ (by omega)] at this
            rw [show cleanF y = cfgF c v n by rw [HF.out]; rfl]
            exact this
          have R2 := Lib.hid (r2.out.set_ne (b' := w.heap.size) i0 n (.int .u8 (cleanF y : Nat)))
          have HB := Lib.hid (show Below w.heap.size w (w2.setCell ⟨w.heap.size, n, none⟩ (.int .u8 (cleanF y : Nat))) from Below.setCell hB.out (Nat.le_refl _) _)
          have HS : Hid (w.heap.size + 2 ≤ (w2.setCell ⟨w.heap.size, n, none⟩ (.int .u8 (cleanF y : Nat))).heap.size) := by show _ ≤ _; rw [sz_set]; exact hS.out
          clear r1 r2 hB hS
          go_wp2_with fail
          go_roundg g
          case measure => omega
          case rel => exact ⟨n + 1, by omega, by go_num, RN, R2, HB, HS⟩
theorem beginsLocked_c (c : Nat → Nat) (n : Nat) (hn : n < 8) (hc : Hid (OkC c)) (w : World) : Calls Try.prog 51 #[.agg (u8s c), .int .i64 n] w (RetB (lockB (c n) && wayN (c n) == 1) w) := by
  have n8 : (n : Int) < 8 := by omega
  have n0 : ((n : Nat) : Int).toNat = n := by omega
  have HE := Lib.hid (fun v => isEntry_y (n : Int) (eq_true (by omega)) (eq_true n8) v)
  have HL := Lib.hid (fun v => isLocked_c (c n) (hc.out n) v)
  have HW := Lib.hid (fun v => wayOf_c (c n) (hc.out n) v)
  have c0 : (u8s c)[n]? = some (.int .u8 (c n : Nat)) := u8s_at c n hn
  obtain ⟨L, eL⟩ : ∃ L, L = lockB (c n) := ⟨_, rfl⟩
  obtain ⟨W, eW⟩ : ∃ W, W = wayN (c n) := ⟨_, rfl⟩
  rw [← eL] at HL
  rw [← eW] at HW
  rw [← eL, ← eW]
  clear eL eW hc
  go_enter Try.func51, Try.ntmps51
  go_wp2_with fail
  refine (HE.out _).mono ?_; rintro e w1 ⟨rfl, h⟩; replace h := h.symm; subst h
  go_wp2_with fail
  refine (HL.out _).mono ?_; rintro e w1 ⟨rfl, h⟩; replace h := h.symm; subst h
  cases L with
  | false =>
    go_wp2_with fail
    go_ret
    exact retB_mk rfl (by repeat (first | (with_reducible first | exact Below.refl _ _ | assumption | exact Nat.le_refl _ | refine Below.drew ?_ | refine Below.alloc ?_ ?_ _ | refine Below.setCell ?_ ?_ _ | refine le_alloc ?_ | refine le_set ?_ | refine le_drew ?_ | refine below_step (by assumption) ?_ ?_ | refine le_below (by assumption) ?_) | (dsimp only; omega)))
  | true =>
    go_wp2_with fail
    refine (HW.out _).mono ?_; rintro e w1 ⟨rfl, h⟩; replace h := h.symm; subst h
    by_cases h1 : W = 1
    · subst h1
      go_wp2_with fail
      go_ret
      exact retB_mk rfl (by repeat (first | (with_reducible first | exact Below.refl _ _ | assumption | exact Nat.le_refl _ | refine Below.drew ?_ | refine Below.alloc ?_ ?_ _ | refine Below.setCell ?_ ?_ _ | refine le_alloc ?_ | refine le_set ?_ | refine le_drew ?_ | refine below_step (by assumption) ?_ ?_ | refine le_below (by assumption) ?_) | (dsimp only; omega)))
    · have h2 : ((W : Int) == 1) = false := by rw [beq_eq_false_iff_ne]; omega
      have h3 : Hid ((true && W == 1) = false) := by show _ = _; simp [h1]
      clear h1
      go_wp2_with fail
      go_ret
      exact retB_mk (by rw [h3.out]) (by repeat (first | (with_reducible first | exact Below.refl _ _ | assumption | exact Nat.le_refl _ | refine Below.drew ?_ | refine Below.alloc ?_ ?_ _ | refine Below.setCell ?_ ?_ _ | refine le_alloc ?_ | refine le_set ?_ | refine le_drew ?_ | refine below_step (by assumption) ?_ ?_ | refine le_below (by assumption) ?_) | (dsimp only; omega)))
theorem beginsLocked_8 (c : Nat → Nat) (w : World) : Calls Try.prog 51 #[.agg (u8s c), .int .i64 8] w (RetB false w) := by
  have HE := Lib.hid (fun v => isEntry_n 8 (by show ¬ _; omega) v)
  go_enter Try.func51, Try.ntmps51
  go_wp2_with fail
  refine (HE.out _).mono ?_; rintro e w1 ⟨rfl, h⟩; replace h := h.symm; subst h
  go_wp2_with fail
  go_ret
  exact retB_mk rfl (by repeat (first | (with_reducible first | exact Below.refl _ _ | assumption | exact Nat.le_refl _ | refine Below.drew ?_ | refine Below.alloc ?_ ?_ _ | refine Below.setCell ?_ ?_ _ | refine le_alloc ?_ | refine le_set ?_ | refine le_drew ?_ | refine below_step (by assumption) ?_ ?_ | refine le_below (by assumption) ?_) | (dsimp only; omega)))
theorem begins_c (c : Nat → Nat) (n : Nat) (hn : n < 8) (hc : Hid (OkC c)) (w : World) : Calls Try.prog 51 #[.agg (u8s c), .int .i64 ((n : Int) + 1)] w (RetB (decide (n < 7) && lockB (c (n + 1)) && wayN (c (n + 1)) == 1) w) := by
  by_cases h : n < 7
  · have := beginsLocked_c c (n + 1) (by omega) hc w
    rw [show ((n + 1 : Nat) : Int) = (n : Int) + 1 by omega] at this
    rw [show decide (n < 7) = true by simp [h], Bool.true_and]; exact this
  · obtain rfl : n = 7 := by omega
    have := beginsLocked_8 c w
    exact this
end Go.Proofs.Ytmlbobjbkbcabaa.P
namespace Go.Proofs.Ytmlbobjbkbcabaa.P
set_option linter.unusedVariables false
set_option linter.unusedSimpArgs false
set_option maxRecDepth 20000
open Go.ChangeShapes Go.WideShapes Go.ChangeAt Go.RowKit
theorem adr_set {c a : Nat → Nat} {n v : Nat} (h : heldB c n = false) : setN a n (adr v) = adrF c a n v := by
  funext k; unfold setN adrF; rw [h, Bool.not_false, Bool.and_true]
theorem adr_keep {c a : Nat → Nat} {n v : Nat} (h : heldB c n = true) : a = adrF c a n v := by
  funext k; unfold adrF; rw [h, Bool.not_true, Bool.and_false]; rfl
/-- Three rows, one behind the other. -/
theorem rows3 (w : World) (x y z : Array Value) (t u v : TypeId) : Row (((w.alloc (Obj.cells x t)).alloc (Obj.cells y u)).alloc (Obj.cells z v)) w.heap.size t x ∧
    Row (((w.alloc (Obj.cells x t)).alloc (Obj.cells y u)).alloc (Obj.cells z v)) (w.heap.size + 1) u y ∧ Row (((w.alloc (Obj.cells x t)).alloc (Obj.cells y u)).alloc (Obj.cells z v)) (w.heap.size + 2) v z := by
  have h2 := row_new (w.alloc (Obj.cells x t)) y u
  have h3 := row_new ((w.alloc (Obj.cells x t)).alloc (Obj.cells y u)) z v
  rw [sz_alloc] at h2
  rw [sz_alloc, sz_alloc] at h3
  exact ⟨row_old (row_old (row_new _ _ _) _) _, row_old h2 _, h3⟩
set_option maxRecDepth 100000 in
theorem Address_no (c a : Nat → Nat) (n : Int) (v : Nat) (hn : Hid (¬ (0 ≤ n ∧ n < 8))) (w : World) :
    Calls Try.prog 36 #[.agg (u8s c), .agg (u64s a), .int .i64 n, .int .u64 v] w (RetA (u64s a) w) := by
  have HE := Lib.hid (fun v => isEntry_n n hn v)
  obtain ⟨r1, r2, r3⟩ := rows3 w (u8s c) (u64s a) (u64s (fun _ => 0)) 23 24 24
  replace r2 := Lib.hid r2
  replace r3 := Lib.hid r3
  clear hn r1
  go_enter Try.func36, Try.ntmps36
  go_wp2_with fail
  refine (HE.out _).mono ?_; rintro e w1 ⟨rfl, h⟩; replace h := h.symm; subst h
  have hB : Hid (Below w.heap.size w (((w.alloc (Obj.cells (u8s c) 23)).alloc (Obj.cells (u64s a) 24)).alloc (Obj.cells (u64s (fun _ => 0)) 24))) := by show Below _ _ _; exact (by repeat (first | (with_reducible first | exact Below.refl _ _ | assumption | exact Nat.le_refl _ | refine Below.drew ?_ | refine Below.alloc ?_ ?_ _ | refine Below.setCell ?_ ?_ _ | refine le_alloc ?_ | refine le_set ?_ | refine le_drew ?_ | refine below_step (by assumption) ?_ ?_ | refine le_below (by assumption) ?_) | (dsimp only; omega)))
  go_wp2_with (first
    | (refine wpList_load_row rfl 24 _ rfl (w.heap.size + 1) rfl 24 (u64s a) (0, 0) _ r2.out Try.underlying24 rfl (info8a _) ?_)
    | (refine wpList_store_row rfl 24 _ _ rfl (w.heap.size + 2) (u64s a) rfl rfl 24 (u64s (fun _ => 0)) r3.out (info8a _) rfl (one8a _) ?_))
  refine bodyPost_ret (results_cell_row rfl _ _ (w.heap.size + 2) 24 (u64s a) (0, 0) _ rfl (r3.out.setRow _) Try.underlying24 rfl (info8a _)) rfl ?_
  exact ⟨rfl, below_setRow hB.out (by omega) _⟩
set_option maxRecDepth 100000 in
theorem Address_c (c a : Nat → Nat) (n v : Nat) (hn : n < 8) (hc : Hid (OkC c)) (ha : Hid (OkA a)) (hv : Hid (v < 18446744073709551616)) (w : World) :
    Calls Try.prog 36 #[.agg (u8s c), .agg (u64s a), .int .i64 n, .int .u64 v] w (RetA (u64s (adrF c a n v)) w) := by
  have n8 : (n : Int) < 8 := by omega
  have n0 : ((n : Nat) : Int).toNat = n := by omega
  have n1 : wrap64 ((n : Int) + 1) = (n : Int) + 1 := by rw [IntWalk.wrap64_in _ ⟨by omega, by omega⟩]
  have HE := Lib.hid (fun v => isEntry_y (n : Int) (eq_true (by omega)) (eq_true n8) v)
  have HL := Lib.hid (fun v => isLocked_c (c n) (hc.out n) v)
  have HS := Lib.hid (fun v => begins_c c n hn hc v)
  have HM := mask54 v hv.out
  have c0 : (u8s c)[n]? = some (.int .u8 (c n : Nat)) := u8s_at c n hn
  obtain ⟨L, eL⟩ : ∃ L, L = lockB (c n) := ⟨_, rfl⟩
  obtain ⟨S, eS⟩ : ∃ S, S = (decide (n < 7) && lockB (c (n + 1)) && wayN (c (n + 1)) == 1) := ⟨_, rfl⟩
  have hh : Hid (heldB c n = (L || S)) := by show _ = _; rw [eL, eS]; rfl
  rw [← eL] at HL
  rw [← eS] at HS
  clear eL eS
  obtain ⟨r1, r2, r3⟩ := rows3 w (u8s c) (u64s a) (u64s (fun _ => 0)) 23 24 24
  replace r1 := Lib.hid r1
  replace r2 := Lib.hid r2
  replace r3 := Lib.hid r3
  have hB : Hid (Below w.heap.size w (((w.alloc (Obj.cells (u8s c) 23)).alloc (Obj.cells (u64s a) 24)).alloc (Obj.cells (u64s (fun _ => 0)) 24))) := by show Below _ _ _; exact (by repeat (first | (with_reducible first | exact Below.refl _ _ | assumption | exact Nat.le_refl _ | refine Below.drew ?_ | refine Below.alloc ?_ ?_ _ | refine Below.setCell ?_ ?_ _ | refine le_alloc ?_ | refine le_set ?_ | refine le_drew ?_ | refine below_step (by assumption) ?_ ?_ | refine le_below (by assumption) ?_) | (dsimp only; omega)))
  have sz : Hid ((((w.alloc (Obj.cells (u8s c) 23)).alloc (Obj.cells (u64s a) 24)).alloc (Obj.cells (u64s (fun _ => 0)) 24)).heap.size = w.heap.size + 3) := by show _ = _; simp only [sz_alloc]
  go_enter Try.func36, Try.ntmps36
  go_wp2_with fail
  refine (HE.out _).mono ?_; rintro e w1 ⟨rfl, h⟩; replace h := h.symm; subst h
  go_wp2_with fail
  refine (HL.out _).mono ?_; rintro e w1 ⟨rfl, h⟩; replace h := h.symm; subst h
  cases L with
  | true =>
    go_wp2_with (first
      | (refine wpList_load_row rfl 24 _ rfl (w.heap.size + 1) rfl 24 (u64s a) (0, 0) _ r2.out Try.underlying24 rfl (info8a _) ?_)
      | (refine wpList_store_row rfl 24 _ _ rfl (w.heap.size + 2) (u64s a) rfl rfl 24 (u64s (fun _ => 0)) r3.out (info8a _) rfl (one8a _) ?_))
    refine bodyPost_ret (results_cell_row rfl _ _ (w.heap.size + 2) 24 (u64s a) (0, 0) _ rfl (r3.out.setRow _) Try.underlying24 rfl (info8a _)) rfl ?_
    exact ⟨(by rw [← adr_keep (by rw [hh.out]; rfl)]), below_setRow hB.out (by omega) _⟩
  | false =>
    have g0 := u8s_at c 0 (by decide); have g1 := u8s_at c 1 (by decide); have g2 := u8s_at c 2 (by decide); have g3 := u8s_at c 3 (by decide)
    have g4 := u8s_at c 4 (by decide); have g5 := u8s_at c 5 (by decide); have g6 := u8s_at c 6 (by decide); have g7 := u8s_at c 7 (by decide)
    go_wp2_with fail
    clear g0 g1 g2 g3 g4 g5 g6 g7
    refine (HS.out _).mono ?_; rintro e w1 ⟨rfl, hb⟩
    replace r2 := Lib.hid (r2.out.below hb (by simp only [sz_alloc]; omega))
    replace r3 := Lib.hid (r3.out.below hb (by simp only [sz_alloc]; omega))
    replace hB := Lib.hid (below_step hb hB.out hB.out.size)
    clear hb sz r1
    cases S with
    | true =>
      go_wp2_with (first
        | (refine wpList_load_row rfl 24 _ rfl (w.heap.size + 1) rfl 24 (u64s a) (0, 0) _ r2.out Try.underlying24 rfl (info8a _) ?_)
        | (refine wpList_store_row rfl 24 _ _ rfl (w.heap.size + 2) (u64s a) rfl rfl 24 (u64s (fun _ => 0)) r3.out (info8a _) rfl (one8a _) ?_))
      refine bodyPost_ret (results_cell_row rfl _ _ (w.heap.size + 2) 24 (u64s a) (0, 0) _ rfl (r3.out.setRow _) Try.underlying24 rfl (info8a _)) rfl ?_
      exact ⟨(by rw [← adr_keep (by rw [hh.out]; rfl)]), below_setRow hB.out (by omega) _⟩
    | false =>
      have rc := r2.out.cell n
      rw [u64s_at _ n hn] at rc
      have rf := r2.out.fz n
      have i0 : w.heap.size + 1 ≠ w.heap.size + 2 := by omega
      have RN : Hid (Row (w1.setCell ⟨w.heap.size + 1, n, none⟩ (.int .u64 (adr v : Nat))) (w.heap.size + 1) 24 (u64s (adrF c a n v))) := by
        have := r2.out.set n (.int .u64 (adr v : Nat))
        rw [u64s_set _ _ _ hn, adr_set (by rw [hh.out]; rfl)] at this
        exact this
      replace r3 := Lib.hid (r3.out.set_ne (b' := w.heap.size + 1) i0 n (.int .u64 (adr v : Nat)))
      replace hB := Lib.hid (show Below w.heap.size w (w1.setCell ⟨w.heap.size + 1, n, none⟩ (.int .u64 (adr v : Nat))) from Below.setCell hB.out (Nat.le_succ _) _)
      replace r2 := RN
      clear RN
      go_wp2_with (first
        | (refine wpList_load_row rfl 24 _ rfl (w.heap.size + 1) rfl 24 (u64s (adrF c a n v)) (0, 0) _ r2.out Try.underlying24 rfl (info8a _) ?_)
        | (refine wpList_store_row rfl 24 _ _ rfl (w.heap.size + 2) (u64s (adrF c a n v)) rfl rfl 24 (u64s (fun _ => 0)) r3.out (info8a _) rfl (one8a _) ?_))
      refine bodyPost_ret (results_cell_row rfl _ _ (w.heap.size + 2) 24 (u64s (adrF c a n v)) (0, 0) _ rfl (r3.out.setRow _) Try.underlying24 rfl (info8a _)) rfl ?_
      exact ⟨rfl, below_setRow hB.out (by omega) _⟩
theorem bit_lock (c : Nat) (h : c < 256) : (c / 128 % 2 == 1) = lockB c := by
  unfold lockB; rw [Bool.eq_iff_iff]; simp; omega
theorem bit_odd (b : Nat) : oddB b = ((b / 2 % 2 == 1) && !(b / 1 % 2 == 1)) := by
  unfold oddB
  have h1 : b % 4 = 0 ∨ b % 4 = 1 ∨ b % 4 = 2 ∨ b % 4 = 3 := by omega
  rcases h1 with h | h | h | h
  · rw [h, show b / 2 % 2 = 0 by omega]; rfl
  · rw [h, show b / 2 % 2 = 0 by omega]; rfl
  · rw [h, show b / 2 % 2 = 1 by omega, show b / 1 % 2 = 0 by omega]; rfl
  · rw [h, show b / 2 % 2 = 1 by omega, show b / 1 % 2 = 1 by omega]; rfl
theorem shift_s (v n : Nat) : v / 2 ^ (8 * (n + 1)) = v / 2 ^ (8 * n) / 256 := by
  rw [Nat.div_div_eq_div_mul, show (256 : Nat) = 2 ^ 8 from rfl, ← Nat.pow_add]; rfl
set_option maxRecDepth 100000 in
theorem ConfigR_c (c : Nat → Nat) (v : Nat) (hc : Hid (OkC c)) (hv : Hid (v < 18446744073709551616)) (w : World) : Calls Try.prog 52 #[.agg (u8s c), .int .u64 v] w (RetA (u8s (cfgF c v)) w) := by
  have rr := rows3 w (u8s c) (u8s (fun _ => 0)) (u8s (fun _ => 0)) 23 23 23
  obtain ⟨W0, hW0⟩ : ∃ W0, W0 = (((w.alloc (Obj.cells (u8s c) 23)).alloc (Obj.cells (u8s (fun _ => 0)) 23)).alloc (Obj.cells (u8s (fun _ => 0)) 23)).setRow (w.heap.size + 2) (u8s c) := ⟨_, rfl⟩
  have R0 := Lib.hid rr.2.2
  have R1 : Hid (Row W0 w.heap.size 23 (u8s c)) := by show Row _ _ _ _; rw [hW0]; exact rr.1.setRow_ne (by omega) _
  have R2 : Hid (Row W0 (w.heap.size + 1) 23 (u8s (fun _ => 0))) := by show Row _ _ _ _; rw [hW0]; exact rr.2.1.setRow_ne (by omega) _
  have R3 : Hid (Row W0 (w.heap.size + 2) 23 (u8s (upto 0 (cfgF c v) c))) := by show Row _ _ _ _; rw [hW0, upto_0]; exact rr.2.2.setRow _
  have HB : Hid (Below w.heap.size w W0) := by show Below _ _ _; rw [hW0]; exact below_setRow (by exact (by repeat (first | (with_reducible first | exact Below.refl _ _ | assumption | exact Nat.le_refl _ | refine Below.drew ?_ | refine Below.alloc ?_ ?_ _ | refine Below.setCell ?_ ?_ _ | refine le_alloc ?_ | refine le_set ?_ | refine le_drew ?_ | refine below_step (by assumption) ?_ ?_ | refine le_below (by assumption) ?_) | (dsimp only; omega)))) (by omega) _
  have HV : Hid (v = v / 2 ^ (8 * 0)) := by show _ = _; rw [Nat.mul_zero, Nat.pow_zero, Nat.div_one]
  have HW := Lib.hid hW0
  clear rr hW0
  go_enter Try.func52, Try.ntmps52
  go_wp2_with (first
    | (refine wpList_load_row rfl 23 _ rfl w.heap.size rfl 23 (u8s c) (0, 0) _ (row_old (row_new _ _ _) _) Try.underlying23 rfl (info8c c) ?_)
    | (refine wpList_store_row rfl 23 _ _ rfl (w.heap.size + 2) (u8s c) rfl rfl 23 (u8s (fun _ => 0)) R0.out (info8c _) rfl (one8c _) ?_))
  clear R0
  go_loopg [1, 6] 8 (fun g s1 i wr => ∃ n V : Nat, n + g = 8 ∧ i = .int .i64 n ∧ s1 = .int .u64 V ∧ Hid (V = v / 2 ^ (8 * n)) ∧ Hid (Row wr w.heap.size 23 (u8s c)) ∧ Hid (Row wr (w.heap.size + 1) 23 (u8s (fun _ => 0))) ∧ Hid (Row wr (w.heap.size + 2) 23 (u8s (upto n (cfgF c v) c))) ∧ Hid (Below w.heap.size w wr))
  case atStart => exact ⟨0, v, rfl, rfl, rfl, HV, HW.out ▸ R1, HW.out ▸ R2, HW.out ▸ R3, HW.out ▸ HB⟩
  case round =>
    obtain ⟨n, V, hn, rfl, rfl, HV2, r1, r2, r3, hB⟩ := hrel
    clear R1 R2 R3 HB HW HV
    cases gk with
    | zero =>
      obtain rfl : n = 8 := by omega
      have r3' : Hid (Row wr (w.heap.size + 2) 23 (u8s (cfgF c v))) := by have := r3.out; rw [upto_all] at this; exact this
      clear r1 r3
      go_wp2_with (first
        | (refine wpList_load_row rfl 23 _ rfl (w.heap.size + 2) rfl 23 (u8s (cfgF c v)) (0, 0) _ r3'.out Try.underlying23 rfl (info8c _) ?_)
        | (refine wpList_store_row rfl 23 _ _ rfl (w.heap.size + 1) (u8s (cfgF c v)) rfl rfl 23 (u8s (fun _ => 0)) r2.out (info8c _) rfl (one8c _) ?_))
      refine bodyPost_ret (results_cell_row rfl _ _ (w.heap.size + 1) 23 (u8s (cfgF c v)) (0, 0) _ rfl (r2.out.setRow _) Try.underlying23 rfl (info8c _)) rfl ?_
      exact ⟨rfl, below_setRow hB.out (by omega) _⟩
    | succ g =>
      have n8 : (n : Int) < 8 := by omega
      have n0 : ((n : Nat) : Int).toNat = n := by omega
      have HL := Lib.hid (fun v => bit_7 (c n) (hc.out n) v)
      rw [bit_lock (c n) (hc.out n)] at HL
      obtain ⟨L, eL⟩ : ∃ L, L = lockB (c n) := ⟨_, rfl⟩
      obtain ⟨y, hy⟩ : ∃ y, y = byteF v n := ⟨_, rfl⟩
      have hyV : y = V % 256 := by rw [hy, HV2.out]; rfl
      have b256 : y < 256 := by omega
      have HO1 := Lib.hid (fun u => bit_1 y b256 u)
      have HO0 := Lib.hid (fun u => bit_0 y b256 u)
      have ho := bit_odd y
      obtain ⟨O1, e1⟩ : ∃ O, (y / 2 % 2 == 1) = O := ⟨_, rfl⟩
      obtain ⟨O0, e0⟩ : ∃ O, (y / 1 % 2 == 1) = O := ⟨_, rfl⟩
      rw [e1] at HO1 ho
      rw [e0] at HO0 ho
      have hf : cfgF c v n = (bif L || (O1 && !O0) then c n else cleanF y) := by rw [← ho, eL, hy]; rfl
      rw [← eL] at HL
      have a1 := and159 y b256
      have hVl : V < 18446744073709551616 := by have := hv.out; rw [HV2.out]; exact Nat.lt_of_le_of_lt (Nat.div_le_self _ _) this
      have e8 : (V : Int) % 256 = (y : Int) := by omega
      have e9 : IntKind.u64.wrap ((V : Int) / 256) = ((V / 256 : Nat) : Int) := by rw [IntKind.wrap_u64]; omega
      have HVN : Hid (V / 256 = v / 2 ^ (8 * (n + 1))) := by show _ = _; rw [shift_s, ← HV2.out]
      have c0 := r1.out.cell n
      rw [u8s_at c n (by omega)] at c0
      have rc := r3.out.cell n
      rw [u8s_at _ n (by omega)] at rc
      have rf := r3.out.fz n
      have HF := Lib.hid hf
      have HN1 : n + 1 + g = 8 := by omega
      have i0 : w.heap.size + 2 ≠ w.heap.size + 1 := by omega
      have i1 : w.heap.size + 2 ≠ w.heap.size := by omega
      have N8 : n < 8 := by omega
      -- the round's end, where nothing is written and where it is
      have kept : Hid (cfgF c v n = c n → Row wr (w.heap.size + 2) 23 (u8s (upto (n + 1) (cfgF c v) c))) := fun h => by
        have := r3.out; rw [upto_keep _ _ _ h] at this; exact this
      clear eL b256 hf hy hyV hn ho e1 e0 hVl HV2
      go_wp2_with fail
      refine (HL.out _).mono ?_; rintro e w1 ⟨rfl, h⟩; replace h := h.symm; subst h
      go_wp2_with fail
      refine (HO1.out _).mono ?_; rintro e w1 ⟨rfl, h⟩; replace h := h.symm; subst h
      cases O1
      case true =>
        go_wp2_with fail
        refine (HO0.out _).mono ?_; rintro e w1 ⟨rfl, h⟩; replace h := h.symm; subst h
        cases L
        case true =>
          have RN := Lib.hid (kept.out (by rw [HF.out]; rfl))
          clear r3 kept
          cases O0 <;> go_wp2_with fail
          all_goals
            go_roundg g
            case measure => omega
            case rel => exact ⟨n + 1, V / 256, by omega, by go_num, by first | rfl | rw [e9], HVN, r1, r2, RN, hB⟩
        case false =>
          cases O0
          case false =>
            have RN := Lib.hid (kept.out (by rw [HF.out]; rfl))
            clear r3 kept
            go_wp2_with fail
            go_roundg g
            case measure => omega
            case rel => exact ⟨n + 1, V / 256, by omega, by go_num, by first | rfl | rw [e9], HVN, r1, r2, RN, hB⟩
          case true =>
            have RN : Hid (Row (w1.setCell ⟨w.heap.size + 2, n, none⟩ (.int .u8 (cleanF y : Nat))) (w.heap.size + 2) 23 (u8s (upto (n + 1) (cfgF c v) c))) := by
              have := r3.out.set n (.int .u8 (cleanF y : Nat))
              rw [u8s_set _ _ _ N8, show cleanF y = cfgF c v n by rw [HF.out]; rfl, upto_s _ _ _ N8] at this
              rw [show cleanF y = cfgF c v n by rw [HF.out]; rfl]
              exact this
            have R1 := Lib.hid (r1.out.set_ne (b' := w.heap.size + 2) i1 n (.int .u8 (cleanF y : Nat)))
            have R2 := Lib.hid (r2.out.set_ne (b' := w.heap.size + 2) i0 n (.int .u8 (cleanF y : Nat)))
            have HB := Lib.hid (show Below w.heap.size w (w1.setCell ⟨w.heap.size + 2, n, none⟩ (.int .u8 (cleanF y : Nat))) from Below.setCell hB.out (Nat.le_add_right _ 2) _)
            clear r1 r2 hB r3 kept
            go_wp2_with fail
            go_roundg g
            case measure => omega
            case rel => exact ⟨n + 1, V / 256, by omega, by go_num, by first | rfl | rw [e9], HVN, R1, R2, RN, HB⟩
      case false =>
        cases L
        case true =>
          have RN := Lib.hid (kept.out (by rw [HF.out]; rfl))
          clear r3 kept
          go_wp2_with fail
          go_roundg g
          case measure => omega
          case rel => exact ⟨n + 1, V / 256, by omega, by go_num, by first | rfl | rw [e9], HVN, r1, r2, RN, hB⟩
        case false =>
          have RN : Hid (Row (w1.setCell ⟨w.heap.size + 2, n, none⟩ (.int .u8 (cleanF y : Nat))) (w.heap.size + 2) 23 (u8s (upto (n + 1) (cfgF c v) c))) := by
            have := r3.out.set n (.int .u8 (cleanF y : Nat))
            rw [u8s_set _ _ _ N8, show cleanF y = cfgF c v n by rw [HF.out]; rfl, upto_s _ _ _ N8] at this
            rw [show cleanF y = cfgF c v n by rw [HF.out]; rfl]
            exact this
          have R1 := Lib.hid (r1.out.set_ne (b' := w.heap.size + 2) i1 n (.int .u8 (cleanF y : Nat)))
          have R2 := Lib.hid (r2.out.set_ne (b' := w.heap.size + 2) i0 n (.int .u8 (cleanF y : Nat)))
          have HB := Lib.hid (show Below w.heap.size w (w1.setCell ⟨w.heap.size + 2, n, none⟩ (.int .u8 (cleanF y : Nat))) from Below.setCell hB.out (Nat.le_add_right _ 2) _)
          clear r1 r2 hB r3 kept
          go_wp2_with fail
          go_roundg g
          case measure => omega
          case rel => exact ⟨n + 1, V / 256, by omega, by go_num, by first | rfl | rw [e9], HVN, R1, R2, RN, HB⟩
end Go.Proofs.Ytmlbobjbkbcabaa.P
