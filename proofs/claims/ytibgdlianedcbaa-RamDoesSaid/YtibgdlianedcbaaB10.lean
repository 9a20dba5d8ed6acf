/- Same; Lay. -/
import Derived.Test.YtibgdlianedcbaaB9
namespace Go.Proofs.Ytibgdlianedcbaa
open Go.Maps Go.WideMaps Go.ChangeShapes Go.WideShapes Go.ChangeAt Go.RowKit
set_option linter.unusedVariables false
set_option linter.unusedSimpArgs false
/-- Have two memories the same bytes? -/
def sameV (F G : Nat → Nat) : Bool := eqL (fun i => F (2147483648 + i)) (fun i => G (2147483648 + i)) (List.range 1048576)
theorem sameV_true (F G : Nat → Nat) : sameV F G = true ↔ ∀ y, 2147483648 ≤ y → y < 2148532224 → F y = G y := by
  unfold sameV
  rw [eqL_all]
  simp only [List.mem_range]
  constructor
  · intro h y h1 h2
    have := h (y - 2147483648) (by omega)
    rwa [show 2147483648 + (y - 2147483648) = y by omega] at this
  · intro h i hi
    exact h _ (by omega) (by omega)
theorem sameV_false {F G : Nat → Nat} (h : ∃ y, 2147483648 ≤ y ∧ y < 2148532224 ∧ F y ≠ G y) : sameV F G = false := by
  obtain ⟨y, h1, h2, h3⟩ := h
  cases e : sameV F G
  · rfl
  · exact absurd ((sameV_true F G).1 e y h1 h2) h3
theorem same_both {S T : Nat → Prop} {w : World} {m b o c : Nat} {D E : DataW Unit} {F G : Nat → Nat} (hM : MemD S w m b D F) (hN : MemD T w o c E G) (h1 : Done D F G (fun _ => false)) (h2 : Done E G F (fun _ => false)) : sameV F G = true := by
  rw [sameV_true]
  intro y hy1 hy2
  have hs : y / 4096 * 4096 < 18446744073709551616 := by omega
  have hi : y % 4096 < 4096 := Nat.mod_lt _ (by decide)
  have he : y / 4096 * 4096 + y % 4096 = y := by omega
  have ha : y / 4096 * 4096 % 4096 = 0 := by omega
  cases hd : Maps.has D (keyL (y / 4096 * 4096))
  · cases hE : Maps.has E (keyL (y / 4096 * 4096))
    · have z1 := hM.2.2.2.2.2.2.1.2.1 _ hs ha hd _ hi
      have z2 := hN.2.2.2.2.2.2.1.2.1 _ hs ha hE _ hi
      rw [he] at z1 z2
      rw [z1, z2]
    · have := h2 _ hs hE rfl _ hi
      rw [he] at this
      exact this.symm
  · have := h1 _ hs hd rfl _ hi
    rw [he] at this
    exact this
set_option maxRecDepth 100000 in
theorem same_c (S T : Nat → Prop) (m o : Nat) (F G : Nat → Nat) (w : World) (hM : Hid (MemS S w m F)) (hN : Hid (MemS T w o G)) : Calls Try.prog 24 #[.pointer (some ⟨m, 0, none⟩), .pointer (some ⟨o, 0, none⟩)] w (RetB (sameV F G) w) := by
  obtain ⟨b, D, hm⟩ := hM.out
  obtain ⟨c, E, hn⟩ := hN.out
  have HM := Lib.hid hm; have HN := Lib.hid hn
  clear hm hn
  go_enter Try.func24, Try.ntmps24
  go_wp2_with fail
  refine (within_c S T m b o c D E F G w HM HN).mono ?_; rintro e w1 ⟨x, rfl, hb1, hx1, hx2⟩
  have HB := Lib.hid hb1; have HX1 := Lib.hid hx1; have HX2 := Lib.hid hx2
  clear hb1 hx1 hx2
  cases x
  · go_wp2_with fail
    go_ret
    exact retB_mk (sameV_false (HX2.out (by first | rfl | trivial))).symm HB.out
  · have hM1 : Hid (MemD S w1 m b D F) := HM.out.kept (T := fun _ => False) (Own.below HB.out) (fun _ _ h => h)
    have hN1 : Hid (MemD T w1 o c E G) := HN.out.kept (T := fun _ => False) (Own.below HB.out) (fun _ _ h => h)
    go_wp2_with fail
    refine (within_c T S o c m b E D G F w1 hN1 hM1).mono ?_; rintro e w2 ⟨y, rfl, hb2, hy1, hy2⟩
    have HB2 := Lib.hid hb2; have HY1 := Lib.hid hy1; have HY2 := Lib.hid hy2
    clear hb2 hy1 hy2
    go_wp2_with fail
    go_ret
    refine retB_mk ?_ (HB.out.trans (HB2.out.mono HB.out.size))
    cases y
    · obtain ⟨z, h1, h2, h3⟩ := HY2.out (by first | rfl | trivial)
      exact (sameV_false ⟨z, h1, h2, fun e => h3 e.symm⟩).symm
    · exact (same_both HM.out HN.out (HX1.out (by first | rfl | trivial)) (HY1.out (by first | rfl | trivial))).symm
theorem put_nil (m a : Nat) (w : World) : Calls Try.prog 25 #[.pointer (some ⟨m, 0, none⟩), .int .u64 a, .slice none 0 0] w (fun e w' => e = .returned (.tuple #[]) ∧ Below w.heap.size w w') := by
  go_enter Try.func25, Try.ntmps25
  go_wp2_with fail
  refine wp_loop_rounds 1 ?_
  rw [rounds_succ]
  go_wp2_with fail
  go_end0
  exact ⟨rfl, (by repeat (first | (with_reducible first | exact Below.refl _ _ | assumption | exact Nat.le_refl _ | refine Below.drew ?_ | refine Below.alloc ?_ ?_ _ | refine below_drewN ?_ _ | refine Below.setCell ?_ ?_ _ | refine le_alloc ?_ | refine le_set ?_ | refine le_drew ?_ | refine le_drewN ?_ | refine below_step (by assumption) ?_ ?_ | refine le_below (by assumption) ?_) | (dsimp only; omega)))⟩
/-- An image was laid. -/
def RetLay (S : Nat → Prop) (m n : Nat) (F R : Nat → Nat) (W : World) (e : Ending) (w' : World) : Prop := e = .returned (.bool true) ∧ Laying S W m 2147483648 n F R w'
set_option maxRecDepth 100000 in
theorem lay_c (S : Nat → Prop) (m g o n c : Nat) (F R : Nat → Nat) (w : World) (hM : Hid (MemS S w m F)) (hSb : Hid (∀ i, S i → i < w.heap.size)) (hg : Hid (g < w.heap.size ∧ ¬ S g)) (hn : Hid (n ≤ 1048576)) (hnc : Hid (n ≤ c)) (hr : Hid (∀ i, i < n → w.cell? ⟨g, o + i, none⟩ = some (.int .u8 (R i)))) :
    Calls Try.prog 10 #[.pointer (some ⟨m, 0, none⟩), .slice (some ⟨g, o, none⟩) n c] w (RetLay S m n F R w) := by
  have h1 : ¬ ((1048576 : Int) < n) := by have := hn.out; omega
  go_enter Try.func10, Try.ntmps10
  go_wp2_with fail
  refine (put_c S m g o n c 2147483648 F R w hM hSb hg (Lib.hid ⟨Nat.le_refl _, by have := hn.out; omega⟩) (Lib.hid ⟨hnc.out, by have := hn.out; omega⟩) hr).mono ?_; rintro e w1 ⟨rfl, hl⟩
  have HL := Lib.hid hl
  clear hl
  go_wp2_with fail
  go_ret
  exact ⟨rfl, HL.out⟩
theorem lay_nil (m : Nat) (w : World) : Calls Try.prog 10 #[.pointer (some ⟨m, 0, none⟩), .slice none 0 0] w (RetB true w) := by
  go_enter Try.func10, Try.ntmps10
  go_wp2_with fail
  refine (put_nil m 2147483648 w).mono ?_; rintro e w1 ⟨rfl, hb⟩
  go_wp2_with fail
  go_ret
  exact retB_mk rfl hb
theorem lay_big (m n c : Nat) (a : Option Addr) (w : World) (hn : (1048576 : Int) < n) : Calls Try.prog 10 #[.pointer (some ⟨m, 0, none⟩), .slice a n c] w (RetB false w) := by
  go_enter Try.func10, Try.ntmps10
  go_wp2_with fail
  go_ret
  exact retB_mk rfl (by repeat (first | (with_reducible first | exact Below.refl _ _ | assumption | exact Nat.le_refl _ | refine Below.drew ?_ | refine Below.alloc ?_ ?_ _ | refine below_drewN ?_ _ | refine Below.setCell ?_ ?_ _ | refine le_alloc ?_ | refine le_set ?_ | refine le_drew ?_ | refine le_drewN ?_ | refine below_step (by assumption) ?_ ?_ | refine le_below (by assumption) ?_) | (dsimp only; omega)))
end Go.Proofs.Ytibgdlianedcbaa
