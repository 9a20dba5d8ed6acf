/- The contracts of Short, Expand and attempt. -/
import Derived.Test.YtcfeeookjgdkmaaDoorB9
namespace Go.Proofs.YtcfeeookjgdkmaaDoor
open Go.ChangeShapes Go.WideShapes Go.ChangeAt Go.RowKit Go.Sort
set_option linter.unusedVariables false
set_option linter.unusedSimpArgs false
/-- At block B the table stands. -/
def TabAt (w : World) (B : Nat) : Prop := ∀ o, w.cell? ⟨B, o, none⟩ = (cellsT rowsL)[o]?
theorem tab_below {B B' : Nat} {w w' : World} (h : TabAt w B) (hb : Below B' w w') (hB : B < B') : TabAt w' B :=
  fun o => by rw [hb.cell (p := ⟨B, o, none⟩) hB]; exact h o
theorem tab_alloc {w : World} {B : Nat} (h : TabAt w B) (hB : B < w.heap.size) (o : Obj) : TabAt (w.alloc o) B := tab_below h ((Below.refl w.heap.size w).alloc (Nat.le_refl _) o) hB
theorem tab_new (w : World) : TabAt (w.alloc (Obj.cells (cellsT rowsL) 35)) w.heap.size := fun o => World.cell?_alloc_at _ _ _ _ rfl
theorem Short_c (h : Nat) (hh : Hid (h < 65536)) (w : World) : Calls Tryd.prog 10 #[.int .u16 h] w (fun e w' => e = .returned (.bool (decide (h % 4 < 3))) ∧ w = w') := by
  have e1 : bits .and .u16 (h : Int) 3 = ((h % 4 : Nat) : Int) := u16_low h 2 hh.out (by decide)
  have e2 : (bits .and .u16 (h : Int) 3 != 3) = decide (h % 4 < 3) := by
    rw [e1]
    have : h % 4 = 0 ∨ h % 4 = 1 ∨ h % 4 = 2 ∨ h % 4 = 3 := by omega
    rcases this with e | e | e | e <;> rw [e] <;> rfl
  have E2 := Lib.hid e2
  clear e1 e2
  go_enter Tryd.func10, Tryd.ntmps10
  go_wp2_with fail
  go_ret
  exact ⟨by rw [E2.out]; rfl, rfl⟩
set_option maxRecDepth 100000 in
set_option maxHeartbeats 2000000 in
theorem Expand_c (h : Nat) (hh : Hid (h < 65536)) (w : World) (hG : Hid (G w)) : Calls Tryd.prog 7 #[.int .u16 h] w (RetP (expandF h).1 (expandF h).2 w) := by
  have hv35 := (zero_of_info zero35).1
  have zr := size_rows
  have hz : (noughtT 36).size = 252 := by decide +kernel
  have u35 := under35
  go_enter Tryd.func7, Tryd.ntmps7
  go_wp2_with fail
  refine (rows_c _).mono ?_; rintro e w1 ⟨rfl, hb1⟩
  have hsc := run_storeCells_new (P := Tryd.prog) w1 35 (noughtT 36) (cellsT rowsL) (by rw [size_rows]; exact (zero_of_info zero35).2) (by decide +kernel) one_rows
  have HS := Lib.hid hsc
  clear hsc
  go_wp2_with fail
  simp only [HS.out, Result.andThen]
  rw [Oper.upon_skip]
  go_wp2_with fail
  have hb2 : Below w.heap.size w (w1.alloc (Obj.cells (cellsT rowsL) 35)) := hb1.alloc hb1.size _
  refine (expand_c h hh _ (g_below hG.out hb2 hG.out.1) w1.heap.size (by rw [sz_alloc]; omega) (tab_new w1) _).mono ?_; rintro e w3 ⟨rfl, hb3⟩
  go_wp2_with fail
  refine bodyPost_ret (v := .tuple #[.int .u32 (expandF h).1, .bool (expandF h).2]) (by simp [results, Tryd.results7, go_sem] <;> (first | rfl | (repeat' (first | rfl | apply And.intro)))) rfl ⟨rfl, below_step hb3 hb2 hb2.size⟩
theorem readF_lt (r : SRow) (hr : OkS r) (x : Nat) : readF r x < 65536 := by
  obtain ⟨o1, o2, o3, o4, o5, o6, o7⟩ := hr
  exact Nat.or_lt_two_pow (n := 16) (Nat.or_lt_two_pow (n := 16) o2 (rnF_lt _ _ o5)) (scaF_lt _ _ o6)
theorem att_no {r : SRow} {x : Nat} (h : ¬ x &&& 127 = r.base &&& 127) : attF r x = (0, false) := by unfold attF; rw [if_neg h]
theorem att_yes {r : SRow} {x : Nat} (h : x &&& 127 = r.base &&& 127) : attF r x = (readF r x, (expandF (readF r x)).2 && (expandF (readF r x)).1 == x) := by unfold attF; rw [if_pos h]
set_option maxRecDepth 100000 in
set_option maxHeartbeats 2000000 in
theorem attempt_c (r : SRow) (hr : Hid (OkS r)) (x : Nat) (hx : Hid (x < 4294967296)) (w : World) (hG : Hid (G w)) (B : Nat) (hB : B < w.heap.size) (hC : Hid (TabAt w B)) (cap : Nat) :
    Calls Tryd.prog 20 #[.slice (some ⟨B, 0, none⟩) 36 cap, .agg (cellsS r), .int .u32 x] w (RetQ (attF r x).1 (attF r x).2 w) := by
  have f1 : bits .and .u32 (x : Int) 127 = ((x &&& 127 : Nat) : Int) := u32_and_nat x 127 hx.out (by decide)
  have f2 : bits .and .u32 (r.base : Int) 127 = ((r.base &&& 127 : Nat) : Int) := u32_and_nat r.base 127 hr.out.2.2.2.1 (by decide)
  by_cases hc : x &&& 127 = r.base &&& 127
  · have e1 : (bits .and .u32 (x : Int) 127 != bits .and .u32 (r.base : Int) 127) = false := by rw [f1, f2, hc]; simp
    have HV := Lib.hid (att_yes hc)
    have HL : Hid (readF r x < 65536) := readF_lt r hr.out x
    have hrd := Lib.hid (fun v g => read_c r hr x hx v g)
    have hex := Lib.hid (fun v g => expand_c (readF r x) HL v g)
    clear f1 f2 hc
    obtain ⟨m, mt, s, b, nm, i, f⟩ := r
    dsimp only at e1
    generalize attF ⟨m, mt, s, b, nm, i, f⟩ x = P at *
    generalize readF ⟨m, mt, s, b, nm, i, f⟩ x = R at *
    generalize expandF R = E at *
    obtain ⟨y, bl⟩ := E
    dsimp only at HV hex
    show Calls Tryd.prog 20 #[.slice (some ⟨B, 0, none⟩) 36 cap, .agg #[.int .u16 m, .int .u16 mt, .int .u16 s, .int .u32 b, .int .u8 nm, .int .u8 i, .int .u8 f], .int .u32 x] w _
    have hrd2 : Hid (∀ v, Hid (G v) → Calls Tryd.prog 36 #[.agg #[.int .u16 m, .int .u16 mt, .int .u16 s, .int .u32 b, .int .u8 nm, .int .u8 i, .int .u8 f], .int .u32 x] v (RetH R v)) := hrd
    go_enter Tryd.func20, Tryd.ntmps20
    go_wp2_with fail
    refine (hrd2.out _ (g_alloc hG.out _)).mono ?_; rintro e w1 ⟨rfl, hb1⟩
    have hb1w : Below w.heap.size w w1 := below_step hb1 ((Below.refl w.heap.size w).alloc (Nat.le_refl _) _) (by rw [sz_alloc]; omega)
    go_wp2_with fail
    refine (hex.out w1 (g_below hG.out hb1w hG.out.1) B (by have := hb1w.size; omega) (tab_below hC.out hb1w hB) _).mono ?_; rintro e w2 ⟨rfl, hb2⟩
    have hb2w : Below w.heap.size w w2 := below_step hb2 hb1w hb1w.size
    cases bl with
    | false =>
      go_wp2_with fail
      refine bodyPost_ret (v := .tuple #[.int .u16 R, .bool false]) (by simp [results, Tryd.results20, go_sem] <;> (first | rfl | (repeat' (first | rfl | apply And.intro)))) rfl ⟨by rw [HV.out]; rfl, hb2w⟩
    | true =>
      cases hq : (y == x) with
      | false =>
        have e2 : ((y : Int) == (x : Int)) = false := by rw [beq_eq_false_iff_ne] at hq ⊢; omega
        rw [hq] at HV
        clear hq
        go_wp2_with fail
        refine bodyPost_ret (v := .tuple #[.int .u16 R, .bool false]) (by simp [results, Tryd.results20, go_sem] <;> (first | rfl | (repeat' (first | rfl | apply And.intro)))) rfl ⟨by rw [HV.out]; rfl, hb2w⟩
      | true =>
        have e2 : ((y : Int) == (x : Int)) = true := by rw [beq_iff_eq] at hq ⊢; omega
        rw [hq] at HV
        clear hq
        go_wp2_with fail
        refine bodyPost_ret (v := .tuple #[.int .u16 R, .bool true]) (by simp [results, Tryd.results20, go_sem] <;> (first | rfl | (repeat' (first | rfl | apply And.intro)))) rfl ⟨by rw [HV.out]; rfl, hb2w⟩
  · have e1 : (bits .and .u32 (x : Int) 127 != bits .and .u32 (r.base : Int) 127) = true := by rw [f1, f2, bne_iff_ne]; intro h; exact hc (by exact_mod_cast h)
    have HV := Lib.hid (att_no hc)
    clear f1 f2 hc
    obtain ⟨m, mt, s, b, nm, i, f⟩ := r
    dsimp only at e1
    show Calls Tryd.prog 20 #[.slice (some ⟨B, 0, none⟩) 36 cap, .agg #[.int .u16 m, .int .u16 mt, .int .u16 s, .int .u32 b, .int .u8 nm, .int .u8 i, .int .u8 f], .int .u32 x] w _
    go_enter Tryd.func20, Tryd.ntmps20
    go_wp2_with fail
    refine bodyPost_ret (v := .tuple #[.int .u16 0, .bool false]) (by simp [results, Tryd.results20, go_sem] <;> (first | rfl | (repeat' (first | rfl | apply And.intro)))) rfl ⟨by rw [HV.out]; rfl, (by repeat (first | (with_reducible first | exact Below.refl _ _ | assumption | exact Nat.le_refl _ | refine Below.drew ?_ | refine Below.alloc ?_ ?_ _ | refine Below.setCell ?_ ?_ _ | refine le_alloc ?_ | refine le_set ?_ | refine le_drew ?_ | refine below_step (by assumption) ?_ ?_ | refine le_below (by assumption) ?_) | (dsimp only; omega)))⟩
end Go.Proofs.YtcfeeookjgdkmaaDoor
