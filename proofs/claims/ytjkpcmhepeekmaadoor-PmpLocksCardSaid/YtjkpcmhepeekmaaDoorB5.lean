/- Config and Address. -/
import Derived.Test.YtjkpcmhepeekmaaDoorB3
namespace Go.Proofs.YtjkpcmhepeekmaaDoor
open Go.ChangeShapes Go.WideShapes Go.ChangeAt Go.RowKit
set_option linter.unusedVariables false
set_option linter.unusedSimpArgs false
def RetA (cs : Array Value) (W : World) (e : Ending) (w' : World) : Prop := e = .returned (.agg cs) ∧ Below W.heap.size W w'
/-- The first n settings are those behind the write. -/
def upto (n : Nat) (f c : Nat → Nat) (k : Nat) : Nat := bif Nat.blt k n then f k else c k
theorem upto_0 (f c : Nat → Nat) : upto 0 f c = c := by funext k; unfold upto; rw [show Nat.blt k 0 = false from rfl]; rfl
theorem u8s_congr {c d : Nat → Nat} (h : ∀ k, k < 8 → c k = d k) : u8s c = u8s d := by
  unfold u8s
  rw [h 0 (by decide), h 1 (by decide), h 2 (by decide), h 3 (by decide), h 4 (by decide), h 5 (by decide), h 6 (by decide), h 7 (by decide)]
theorem u64s_congr {c d : Nat → Nat} (h : ∀ k, k < 8 → c k = d k) : u64s c = u64s d := by
  unfold u64s
  rw [h 0 (by decide), h 1 (by decide), h 2 (by decide), h 3 (by decide), h 4 (by decide), h 5 (by decide), h 6 (by decide), h 7 (by decide)]
def setN (c : Nat → Nat) (n v k : Nat) : Nat := bif k == n then v else c k
theorem u8s_set (c : Nat → Nat) (n v : Nat) (hn : n < 8) : (u8s c).setIfInBounds n (.int .u8 (v : Nat)) = u8s (setN c n v) := by
  have : n = 0 ∨ n = 1 ∨ n = 2 ∨ n = 3 ∨ n = 4 ∨ n = 5 ∨ n = 6 ∨ n = 7 := by omega
  rcases this with rfl | rfl | rfl | rfl | rfl | rfl | rfl | rfl <;> rfl
theorem u64s_set (c : Nat → Nat) (n v : Nat) (hn : n < 8) : (u64s c).setIfInBounds n (.int .u64 (v : Nat)) = u64s (setN c n v) := by
  have : n = 0 ∨ n = 1 ∨ n = 2 ∨ n = 3 ∨ n = 4 ∨ n = 5 ∨ n = 6 ∨ n = 7 := by omega
  rcases this with rfl | rfl | rfl | rfl | rfl | rfl | rfl | rfl <;> rfl
theorem Row.set {w : World} {b : Nat} {t : TypeId} {cs : Array Value} (h : Row w b t cs) (n : Nat) (v : Value) : Row (w.setCell ⟨b, n, none⟩ v) b t (cs.setIfInBounds n v) := by
  unfold Row at h ⊢
  show (w.heap.modify b _)[b]? = _
  rw [Array.getElem?_modify, if_pos rfl, h]; rfl
theorem Row.fz {w : World} {b : Nat} {t : TypeId} {cs : Array Value} (h : Row w b t cs) (n : Nat) : w.frozen? ⟨b, n, none⟩ = false := by
  unfold Row at h; unfold World.frozen?; simp only [h]; simp
theorem Row.set_ne {w : World} {b b' : Nat} {t : TypeId} {cs : Array Value} (h : Row w b t cs) (hb : b' ≠ b) (n : Nat) (v : Value) : Row (w.setCell ⟨b', n, none⟩ v) b t cs := by
  unfold Row at h ⊢
  show (w.heap.modify b' _)[b]? = _
  rw [Array.getElem?_modify, if_neg hb, h]
theorem Row.setRow {w : World} {b : Nat} {t : TypeId} {cs : Array Value} (h : Row w b t cs) (cs' : Array Value) : Row (w.setRow b cs') b t cs' := by
  unfold Row at h ⊢
  show (w.heap.modify b _)[b]? = _
  rw [Array.getElem?_modify, if_pos rfl, h]; rfl
theorem Row.setRow_ne {w : World} {b b' : Nat} {t : TypeId} {cs : Array Value} (h : Row w b t cs) (hb : b' ≠ b) (cs' : Array Value) : Row (w.setRow b' cs') b t cs := by
  unfold Row at h ⊢
  show (w.heap.modify b' _)[b]? = _
  rw [Array.getElem?_modify, if_neg hb, h]
theorem sz_setRow (w : World) (g : Nat) (cs : Array Value) : (w.setRow g cs).heap.size = w.heap.size := by
  show (w.heap.modify g _).size = _
  simp
theorem le_setRow {n : Nat} {w : World} {g : Nat} {cs : Array Value} (h : n ≤ w.heap.size) : n ≤ (w.setRow g cs).heap.size := by rw [sz_setRow]; exact h
theorem below_setRow {B : Nat} {w w' : World} (h : Below B w w') {g : Nat} (hg : B ≤ g) (cs : Array Value) : Below B w (w'.setRow g cs) :=
  ⟨h.os, h.tape, h.output, by rw [sz_setRow]; exact h.size, fun k hk => by
    show (w'.heap.modify g _)[k]? = _
    rw [Array.getElem?_modify, if_neg (by omega)]; exact h.block k hk⟩
theorem one8c (c : Nat → Nat) : (u8s c).all (·.oneCell') = true := by rw [← Array.all_toList]; rfl
theorem one8a (c : Nat → Nat) : (u64s c).all (·.oneCell') = true := by rw [← Array.all_toList]; rfl
theorem upto_all (f c : Nat → Nat) : u8s (upto 8 f c) = u8s f := u8s_congr (fun k hk => by unfold upto; rw [show Nat.blt k 8 = true by simpa [Nat.blt_eq] using hk]; rfl)
theorem upto_s (f c : Nat → Nat) (n : Nat) (hn : n < 8) : u8s (setN (upto n f c) n (f n)) = u8s (upto (n + 1) f c) := u8s_congr (fun k hk => by
  unfold setN upto
  by_cases e : k = n
  · subst e
    rw [show (k == k) = true by simp, show Nat.blt k (k + 1) = true by rw [Nat.blt_eq]; omega]; rfl
  · rw [show (k == n) = false by simp [e]]
    by_cases h : k < n
    · rw [show Nat.blt k n = true by rw [Nat.blt_eq]; exact h, show Nat.blt k (n + 1) = true by rw [Nat.blt_eq]; omega]; rfl
    · rw [show Nat.blt k n = false by rw [Bool.eq_false_iff, ne_eq, Nat.blt_eq]; exact h, show Nat.blt k (n + 1) = false by rw [Bool.eq_false_iff, ne_eq, Nat.blt_eq]; omega]; rfl)
theorem upto_keep (f c : Nat → Nat) (n : Nat) (h : f n = c n) : u8s (upto n f c) = u8s (upto (n + 1) f c) := u8s_congr (fun k hk => by
  unfold upto
  by_cases e : k = n
  · subst e
    rw [show Nat.blt k k = false by rw [Bool.eq_false_iff, ne_eq, Nat.blt_eq]; omega, show Nat.blt k (k + 1) = true by rw [Nat.blt_eq]; omega]; exact h.symm
  · by_cases h : k < n
    · rw [show Nat.blt k n = true by rw [Nat.blt_eq]; exact h, show Nat.blt k (n + 1) = true by rw [Nat.blt_eq]; omega]
    · rw [show Nat.blt k n = false by rw [Bool.eq_false_iff, ne_eq, Nat.blt_eq]; exact h, show Nat.blt k (n + 1) = false by rw [Bool.eq_false_iff, ne_eq, Nat.blt_eq]; omega])
set_option maxRecDepth 100000 in
theorem Config_c (c : Nat → Nat) (v : Nat) (hc : Hid (OkC c)) (hv : Hid (v < 18446744073709551616)) (w : World) : Calls Tryd.prog 13 #[.agg (u8s c), .int .u64 v] w (RetA (u8s (cfgF c v)) w) := by
  go_enter Tryd.func13, Tryd.ntmps13
  go_wp2_with (refine wpList_load_row rfl 22 _ rfl w.heap.size rfl 22 (u8s c) (0, 0) _ (row_old (row_new _ _ _) _) Tryd.underlying22 rfl (info8c c) ?_)
  go_loopg [9] 8 (fun g i wr => ∃ n : Nat, n + g = 8 ∧ i = .int .i64 n ∧ Hid (Row wr w.heap.size 22 (u8s (upto n (cfgF c v) c))) ∧ Hid (Row wr (w.heap.size + 1) 22 (u8s (fun _ => 0))) ∧ Hid (Below w.heap.size w wr) ∧ Hid (w.heap.size + 2 ≤ wr.heap.size))
  case atStart => exact ⟨0, rfl, rfl, by rw [upto_0]; exact row_old (row_new _ _ _) _, by have := row_new (w.alloc (Obj.cells (u8s c) 22)) (u8s (fun _ => 0)) 22; rwa [sz_alloc] at this, by show Below _ _ _; exact (by repeat (first | (with_reducible first | exact Below.refl _ _ | assumption | exact Nat.le_refl _ | refine Below.drew ?_ | refine Below.alloc ?_ ?_ _ | refine Below.setCell ?_ ?_ _ | refine le_alloc ?_ | refine le_set ?_ | refine le_drew ?_ | refine below_step (by assumption) ?_ ?_ | refine le_below (by assumption) ?_) | (dsimp only; omega))), by show _ ≤ _; simp only [sz_alloc]; omega⟩
  case round =>
    obtain ⟨n, hn, rfl, r1, r2, hB, hS⟩ := hrel
    cases gk with
    | zero =>
      obtain rfl : n = 8 := by omega
      have r1' : Hid (Row wr w.heap.size 22 (u8s (cfgF c v))) := by have := r1.out; rw [upto_all] at this; exact this
      clear r1
      go_wp2_with (first
        | (refine wpList_load_row rfl 22 _ rfl w.heap.size rfl 22 (u8s (cfgF c v)) (0, 0) _ r1'.out Tryd.underlying22 rfl (info8c _) ?_)
        | (refine wpList_store_row rfl 22 _ _ rfl (w.heap.size + 1) (u8s (cfgF c v)) rfl rfl 22 (u8s (fun _ => 0)) r2.out (info8c _) rfl (one8c _) ?_))
      refine bodyPost_ret (results_cell_row rfl _ _ (w.heap.size + 1) 22 (u8s (cfgF c v)) (0, 0) _ rfl (r2.out.setRow _) Tryd.underlying22 rfl (info8c _)) rfl ?_
      exact ⟨rfl, below_setRow hB.out (by omega) _⟩
    | succ g =>
      have n8 : (n : Int) < 8 := by omega
      have n0 : ((n : Nat) : Int).toNat = n := by omega
      have HX := idx8 c n (by omega)
      have HL := Lib.hid (fun v => isLocked_c (c n) (hc.out n) v)
      obtain ⟨L, eL⟩ : ∃ L, L = lockB (c n) := ⟨_, rfl⟩
      have b256 : byteF v n < 256 := Nat.mod_lt _ (by decide)
      have HO := Lib.hid (fun u => isRefused_c (byteF v n) b256 u)
      obtain ⟨O, eO⟩ : ∃ O, O = oddB (byteF v n) := ⟨_, rfl⟩
      have hf : cfgF c v n = (bif L || O then c n else cleanF (byteF v n)) := by rw [eL, eO]; rfl
      rw [← eL] at HL
      rw [← eO] at HO
      have a1 := and159 (byteF v n) b256
      obtain ⟨y, hy⟩ : ∃ y, y = byteF v n := ⟨_, rfl⟩
      rw [← hy] at HO a1 hf
      have e8 : (v : Int) / 2 ^ (8 * n) % 256 = (y : Int) := by rw [hy]; unfold byteF; simp
      have HF := Lib.hid hf
      have HN1 : n + 1 + g = 8 := by omega
      have i0 : w.heap.size ≠ w.heap.size + 1 := by omega
      clear eL eO b256 hf hy hn
      go_wp2_with fail
      refine (HL.out _).mono ?_; rintro e w1 ⟨rfl, h⟩; replace h := h.symm; subst h
      cases L with
      | true =>
        have RN : Hid (Row w1 w.heap.size 22 (u8s (upto (n + 1) (cfgF c v) c))) := by
          have := r1.out; rw [upto_keep _ _ _ (by rw [HF.out]; rfl)] at this; exact this
        clear r1
        go_wp2_with fail
        go_roundg g
        case measure => omega
        case rel => exact ⟨n + 1, by omega, by go_num, RN, r2, hB, hS⟩
      | false =>
        go_wp2_with fail
        refine (HO.out _).mono ?_; rintro e w2 ⟨rfl, h⟩; replace h := h.symm; subst h
        cases O with
        | true =>
          have RN : Hid (Row w2 w.heap.size 22 (u8s (upto (n + 1) (cfgF c v) c))) := by
            have := r1.out; rw [upto_keep _ _ _ (by rw [HF.out]; rfl)] at this; exact this
          clear r1
          go_wp2_with fail
          go_roundg g
          case measure => omega
          case rel => exact ⟨n + 1, by omega, by go_num, RN, r2, hB, hS⟩
        | false =>
          have rc := r1.out.cell n
          rw [u8s_at _ n (by omega)] at rc
          have rf := r1.out.fz n
          have RN : Hid (Row (w2.setCell ⟨w.heap.size, n, none⟩ (.int .u8 (cleanF y : Nat))) w.heap.size 22 (u8s (upto (n + 1) (cfgF c v) c))) := by
            have := r1.out.set n (.int .u8 (cleanF y : Nat))
            rw [u8s_set _ _ _ (by omega), show cleanF y = cfgF c v n by rw [HF.out]; rfl, upto_s _ _ _ (by omega)] at this
            rw [show cleanF y = cfgF c v n by rw [HF.out]; rfl]
            exact this
          have R2 := Lib.hid (r2.out.set_ne (b' := w.heap.size) i0 n (.int .u8 (cleanF y : Nat)))
          have HB := Lib.hid (show Below w.heap.size w (w2.setCell ⟨w.heap.size, n, none⟩ (.int .u8 (cleanF y : Nat))) from Below.setCell hB.out (Nat.le_refl _) _)
          have HS : Hid (w.heap.size + 2 ≤ (w2.setCell ⟨w.heap.size, n, none⟩ (.int .u8 (cleanF y : Nat))).heap.size) := by show _ ≤ _; rw [sz_set]; exact hS.out
          clear r1 r2 hB hS
          go_wp2_with fail
          go_roundg g
          case measure => omega
          case rel => exact ⟨n + 1, by omega, by go_num, RN, R2, HB, HS⟩
theorem beginsLocked_c (c : Nat → Nat) (n : Nat) (hn : n < 8) (hc : Hid (OkC c)) (w : World) : Calls Tryd.prog 31 #[.agg (u8s c), .int .i64 n] w (RetB (lockB (c n) && wayN (c n) == 1) w) := by
  have n8 : (n : Int) < 8 := by omega
  have n0 : ((n : Nat) : Int).toNat = n := by omega
  have HE := Lib.hid (fun v => isEntry_y (n : Int) (eq_true (by omega)) (eq_true n8) v)
  have HL := Lib.hid (fun v => isLocked_c (c n) (hc.out n) v)
  have HW := Lib.hid (fun v => wayOf_c (c n) (hc.out n) v)
  have c0 : (u8s c)[n]? = some (.int .u8 (c n : Nat)) := u8s_at c n hn
  obtain ⟨L, eL⟩ : ∃ L, L = lockB (c n) := ⟨_, rfl⟩
  obtain ⟨W, eW⟩ : ∃ W, W = wayN (c n) := ⟨_, rfl⟩
  rw [← eL] at HL
  rw [← eW] at HW
  rw [← eL, ← eW]
  clear eL eW hc
  go_enter Tryd.func31, Tryd.ntmps31
  go_wp2_with fail
  refine (HE.out _).mono ?_; rintro e w1 ⟨rfl, h⟩; replace h := h.symm; subst h
  go_wp2_with fail
  refine (HL.out _).mono ?_; rintro e w1 ⟨rfl, h⟩; replace h := h.symm; subst h
  cases L with
  | false =>
    go_wp2_with fail
    go_ret
    exact retB_mk rfl (by repeat (first | (with_reducible first | exact Below.refl _ _ | assumption | exact Nat.le_refl _ | refine Below.drew ?_ | refine Below.alloc ?_ ?_ _ | refine Below.setCell ?_ ?_ _ | refine le_alloc ?_ | refine le_set ?_ | refine le_drew ?_ | refine below_step (by assumption) ?_ ?_ | refine le_below (by assumption) ?_) | (dsimp only; omega)))
  | true =>
    go_wp2_with fail
    refine (HW.out _).mono ?_; rintro e w1 ⟨rfl, h⟩; replace h := h.symm; subst h
    by_cases h1 : W = 1
    · subst h1
      go_wp2_with fail
      go_ret
      exact retB_mk rfl (by repeat (first | (with_reducible first | exact Below.refl _ _ | assumption | exact Nat.le_refl _ | refine Below.drew ?_ | refine Below.alloc ?_ ?_ _ | refine Below.setCell ?_ ?_ _ | refine le_alloc ?_ | refine le_set ?_ | refine le_drew ?_ | refine below_step (by assumption) ?_ ?_ | refine le_below (by assumption) ?_) | (dsimp only; omega)))
    · have h2 : ((W : Int) == 1) = false := by rw [beq_eq_false_iff_ne]; omega
      have h3 : Hid ((true && W == 1) = false) := by show _ = _; simp [h1]
      clear h1
      go_wp2_with fail
      go_ret
      exact retB_mk (by rw [h3.out]) (by repeat (first | (with_reducible first | exact Below.refl _ _ | assumption | exact Nat.le_refl _ | refine Below.drew ?_ | refine Below.alloc ?_ ?_ _ | refine Below.setCell ?_ ?_ _ | refine le_alloc ?_ | refine le_set ?_ | refine le_drew ?_ | refine below_step (by assumption) ?_ ?_ | refine le_below (by assumption) ?_) | (dsimp only; omega)))
theorem beginsLocked_8 (c : Nat → Nat) (w : World) : Calls Tryd.prog 31 #[.agg (u8s c), .int .i64 8] w (RetB false w) := by
  have HE := Lib.hid (fun v => isEntry_n 8 (by show ¬ _; omega) v)
  go_enter Tryd.func31, Tryd.ntmps31
  go_wp2_with fail
  refine (HE.out _).mono ?_; rintro e w1 ⟨rfl, h⟩; replace h := h.symm; subst h
  go_wp2_with fail
  go_ret
  exact retB_mk rfl (by repeat (first | (with_reducible first | exact Below.refl _ _ | assumption | exact Nat.le_refl _ | refine Below.drew ?_ | refine Below.alloc ?_ ?_ _ | refine Below.setCell ?_ ?_ _ | refine le_alloc ?_ | refine le_set ?_ | refine le_drew ?_ | refine below_step (by assumption) ?_ ?_ | refine le_below (by assumption) ?_) | (dsimp only; omega)))
theorem begins_c (c : Nat → Nat) (n : Nat) (hn : n < 8) (hc : Hid (OkC c)) (w : World) : Calls Tryd.prog 31 #[.agg (u8s c), .int .i64 ((n : Int) + 1)] w (RetB (decide (n < 7) && lockB (c (n + 1)) && wayN (c (n + 1)) == 1) w) := by
  by_cases h : n < 7
  · have := beginsLocked_c c (n + 1) (by omega) hc w
    rw [show ((n + 1 : Nat) : Int) = (n : Int) + 1 by omega] at this
    rw [show decide (n < 7) = true by simp [h], Bool.true_and]; exact this
  · obtain rfl : n = 7 := by omega
    have := beginsLocked_8 c w
    exact this
end Go.Proofs.YtjkpcmhepeekmaaDoor
