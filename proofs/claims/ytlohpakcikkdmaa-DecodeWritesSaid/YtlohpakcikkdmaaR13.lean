/- The contract of the reference's read. -/
import Derived.Test.YtlohpakcikkdmaaR12
import Derived.Test.YtlohpakcikkdmaaB5
namespace Go.Proofs.Ytlohpakcikkdmaa
open Go.ChangeShapes Go.WideShapes Go.ChangeAt Go.RowKit Go.Sort
set_option linter.unusedVariables false
set_option linter.unusedSimpArgs false
def AtQ (w : World) (B : Nat) (s : ByteArray) : Prop := w.cell? ⟨B, 3, none⟩ = some (.string s)
theorem atQ_alloc {w : World} {B : Nat} {s : ByteArray} (h : AtQ w B s) (hB : B < w.heap.size) (o : Obj) : AtQ (w.alloc o) B s := by unfold AtQ; rw [World.cell?_alloc_past _ _ _ hB]; exact h
theorem atQ_set {w : World} {B B' k : Nat} {v : Value} {s : ByteArray} (h : AtQ w B s) (hB : B' ≠ B) : AtQ (w.setCell ⟨B', k, none⟩ v) B s := by unfold AtQ; rw [World.cell?_setCell_other _ _ _ _ (by intro e; cases e; exact hB rfl)]; exact h
theorem atQ_below {w w' : World} {B B' : Nat} {s : ByteArray} (h : AtQ w B s) (hb : Below B' w w') (hB : B < B') : AtQ w' B s := by unfold AtQ; rw [hb.cell (p := ⟨B, 3, none⟩) hB]; exact h
def qrd (s : ByteArray) (b : Nat) (I : Ins) : Ins := if hasQ s 100 then { I with rd := (fld b 7 5 : Nat) } else I
theorem qrd_t (s : ByteArray) (b : Nat) (I : Ins) (h : hasQ s 100 = true) : qrd s b I = { I with rd := (fld b 7 5 : Nat) } := by unfold qrd; rw [h]; rfl
theorem qrd_f (s : ByteArray) (b : Nat) (I : Ins) (h : hasQ s 100 = false) : qrd s b I = I := by unfold qrd; rw [h]; rfl
def qrs1 (s : ByteArray) (b : Nat) (I : Ins) : Ins := if hasQ s 49 then { I with rs1 := (fld b 15 5 : Nat) } else I
theorem qrs1_t (s : ByteArray) (b : Nat) (I : Ins) (h : hasQ s 49 = true) : qrs1 s b I = { I with rs1 := (fld b 15 5 : Nat) } := by unfold qrs1; rw [h]; rfl
theorem qrs1_f (s : ByteArray) (b : Nat) (I : Ins) (h : hasQ s 49 = false) : qrs1 s b I = I := by unfold qrs1; rw [h]; rfl
def qrs2 (s : ByteArray) (b : Nat) (I : Ins) : Ins := if hasQ s 50 then { I with rs2 := (fld b 20 5 : Nat) } else I
theorem qrs2_t (s : ByteArray) (b : Nat) (I : Ins) (h : hasQ s 50 = true) : qrs2 s b I = { I with rs2 := (fld b 20 5 : Nat) } := by unfold qrs2; rw [h]; rfl
theorem qrs2_f (s : ByteArray) (b : Nat) (I : Ins) (h : hasQ s 50 = false) : qrs2 s b I = I := by unfold qrs2; rw [h]; rfl
def qrs3 (s : ByteArray) (b : Nat) (I : Ins) : Ins := if hasQ s 51 then { I with rs3 := (fld b 27 5 : Nat) } else I
theorem qrs3_t (s : ByteArray) (b : Nat) (I : Ins) (h : hasQ s 51 = true) : qrs3 s b I = { I with rs3 := (fld b 27 5 : Nat) } := by unfold qrs3; rw [h]; rfl
theorem qrs3_f (s : ByteArray) (b : Nat) (I : Ins) (h : hasQ s 51 = false) : qrs3 s b I = I := by unfold qrs3; rw [h]; rfl
def qrm (s : ByteArray) (b : Nat) (I : Ins) : Ins := if hasQ s 114 then { I with rm := (fld b 12 3 : Nat) } else I
theorem qrm_t (s : ByteArray) (b : Nat) (I : Ins) (h : hasQ s 114 = true) : qrm s b I = { I with rm := (fld b 12 3 : Nat) } := by unfold qrm; rw [h]; rfl
theorem qrm_f (s : ByteArray) (b : Nat) (I : Ins) (h : hasQ s 114 = false) : qrm s b I = I := by unfold qrm; rw [h]; rfl
def qcsr (s : ByteArray) (b : Nat) (I : Ins) : Ins := if hasQ s 99 then { I with csr := (fld b 20 12 : Nat) } else I
theorem qcsr_t (s : ByteArray) (b : Nat) (I : Ins) (h : hasQ s 99 = true) : qcsr s b I = { I with csr := (fld b 20 12 : Nat) } := by unfold qcsr; rw [h]; rfl
theorem qcsr_f (s : ByteArray) (b : Nat) (I : Ins) (h : hasQ s 99 = false) : qcsr s b I = I := by unfold qcsr; rw [h]; rfl
def headQ (k : Int) (s : ByteArray) (sz : Int) (wd un : Bool) (b : Nat) : Ins := { zeroI with kind := k, size := sz, wo := wd, un := un, ui := hasQ s 61, imm := immQ s b }
def readQ (k : Int) (s : ByteArray) (sz : Int) (wd un : Bool) (b : Nat) : Ins := qcsr s b (qrm s b (qrs3 s b (qrs2 s b (qrs1 s b (qrd s b (headQ k s sz wd un b))))))
set_option maxRecDepth 100000 in
set_option maxHeartbeats 8000000 in
theorem read_q (m bt : Nat) (k : Int) (s : ByteArray) (sz : Int) (wd un : Bool) (hs : s.size ≤ 100) (b : Nat) (hb : Hid (b < 4294967296)) (w : World) : Calls Try.prog 20 #[.agg #[.int .u32 m, .int .u32 bt, .int .i64 k, .string s, .int .i64 sz, .bool wd, .bool un], .int .u32 b] w (RetX (readQ k s sz wd un b) w) := by
  go_enter Try.func20, Try.ntmps20
  go_upto_region 1 with fail
  have HA : Hid (AtI ((w.alloc (Obj.cells #[.int .u32 m, .int .u32 bt, .int .i64 k, .string s, .int .i64 sz, .bool wd, .bool un] 50)).alloc (Obj.cells #[.int .i64 0, .int .i64 0, .int .i64 0, .int .i64 0, .int .i64 0, .int .i64 0, .int .i64 0, .int .i64 0, .int .i64 0, .bool false, .bool false, .bool false] 25)) (w.heap.size + 1) zeroI) := atI_new' _ 25 _ (sz_alloc _ _)
  go_cut [5] (fun s5 wx => ∃ B, s5 = .pointer (some ⟨B, 0, none⟩) ∧ AtI wx B (headQ k s sz wd un b) ∧ AtQ wx w.heap.size s ∧ AtI wx (w.heap.size + 1) zeroI ∧ w.heap.size + 1 < B ∧ B < wx.heap.size ∧ Below w.heap.size w wx)
  case first =>
    go_region_held3 (fun w' => w'.cell? ⟨w.heap.size, 2, none⟩ = some (.int .i64 k) ∧ w'.cell? ⟨w.heap.size, 3, none⟩ = some (.string s) ∧ w'.cell? ⟨w.heap.size, 4, none⟩ = some (.int .i64 sz) ∧ w'.cell? ⟨w.heap.size, 5, none⟩ = some (.bool wd) ∧ w'.cell? ⟨w.heap.size, 6, none⟩ = some (.bool un)) (all_goals (first | (go_keep; done) | (simp (disch := omega) only [cell_set_far]; simp [*])))
      (first
        | (go_at_call 30; refine (has_c s hs 61 (by show _ < _; decide) _).mono ?_; rintro e w1 ⟨rfl, hb1⟩; obtain ⟨hc1, hf1⟩ := bcell hb1; have hz1 := hb1.size; (try simp only [sz_alloc, sz_drew, sz_set] at hz1 hc1 hf1); have l1_0 : w.heap.size < w1.heap.size := (by omega); have n1_0 : ¬ w.heap.size = w1.heap.size := (by omega); have m1_0 : ¬ w1.heap.size = w.heap.size := (by omega); have k1_0 := fun o => hc1 (w.heap.size) o (by omega); have f1_0 := fun o => hf1 (w.heap.size) o (by omega); (try simp (disch := (first | rfl | omega | (simp only [sz_alloc, sz_drew, sz_set]; omega))) only [sz_alloc, sz_drew, sz_set, World.cell?_drew, World.frozen?_drew, World.cell?_alloc_at, World.cell?_alloc_past, World.frozen?_alloc_at, World.frozen?_alloc_past] at k1_0 f1_0); (try (have l1_t0 : w.heap.size + 1 < w1.heap.size := (by omega); have n1_t0 : ¬ w.heap.size + 1 = w1.heap.size := (by omega); have m1_t0 : ¬ w1.heap.size = w.heap.size + 1 := (by omega); have k1_t0 := fun o => hc1 (w.heap.size + 1) o (by omega); have f1_t0 := fun o => hf1 (w.heap.size + 1) o (by omega); (try simp (disch := (first | rfl | omega | (simp only [sz_alloc, sz_drew, sz_set]; omega))) only [sz_alloc, sz_drew, sz_set, World.cell?_drew, World.frozen?_drew, World.cell?_alloc_at, World.cell?_alloc_past, World.frozen?_alloc_at, World.frozen?_alloc_past] at k1_t0 f1_t0))); (try (have l1_t1 : w.heap.size + 1 + 1 < w1.heap.size := (by omega); have n1_t1 : ¬ w.heap.size + 1 + 1 = w1.heap.size := (by omega); have m1_t1 : ¬ w1.heap.size = w.heap.size + 1 + 1 := (by omega); have k1_t1 := fun o => hc1 (w.heap.size + 1 + 1) o (by omega); have f1_t1 := fun o => hf1 (w.heap.size + 1 + 1) o (by omega); (try simp (disch := (first | rfl | omega | (simp only [sz_alloc, sz_drew, sz_set]; omega))) only [sz_alloc, sz_drew, sz_set, World.cell?_drew, World.frozen?_drew, World.cell?_alloc_at, World.cell?_alloc_past, World.frozen?_alloc_at, World.frozen?_alloc_past] at k1_t1 f1_t1))))
        | (go_at_call 31; refine (immr_c s hs wd b hb.out _).mono ?_; rintro e w2 ⟨rfl, hb2⟩; obtain ⟨hc2, hf2⟩ := bcell hb2; have hz2 := hb2.size; (try simp only [sz_alloc, sz_drew, sz_set] at hz2 hc2 hf2); have l2_0 : w.heap.size < w2.heap.size := (by omega); have n2_0 : ¬ w.heap.size = w2.heap.size := (by omega); have m2_0 : ¬ w2.heap.size = w.heap.size := (by omega); have k2_0 := fun o => hc2 (w.heap.size) o (by omega); have f2_0 := fun o => hf2 (w.heap.size) o (by omega); (try simp (disch := (first | rfl | omega | (simp only [sz_alloc, sz_drew, sz_set]; omega))) only [sz_alloc, sz_drew, sz_set, World.cell?_drew, World.frozen?_drew, World.cell?_alloc_at, World.cell?_alloc_past, World.frozen?_alloc_at, World.frozen?_alloc_past, hc1, hf1] at k2_0 f2_0); (try (have l2_t0 : w.heap.size + 1 < w2.heap.size := (by omega); have n2_t0 : ¬ w.heap.size + 1 = w2.heap.size := (by omega); have m2_t0 : ¬ w2.heap.size = w.heap.size + 1 := (by omega); have k2_t0 := fun o => hc2 (w.heap.size + 1) o (by omega); have f2_t0 := fun o => hf2 (w.heap.size + 1) o (by omega); (try simp (disch := (first | rfl | omega | (simp only [sz_alloc, sz_drew, sz_set]; omega))) only [sz_alloc, sz_drew, sz_set, World.cell?_drew, World.frozen?_drew, World.cell?_alloc_at, World.cell?_alloc_past, World.frozen?_alloc_at, World.frozen?_alloc_past, hc1, hf1] at k2_t0 f2_t0))); (try (have l2_t1 : w.heap.size + 1 + 1 < w2.heap.size := (by omega); have n2_t1 : ¬ w.heap.size + 1 + 1 = w2.heap.size := (by omega); have m2_t1 : ¬ w2.heap.size = w.heap.size + 1 + 1 := (by omega); have k2_t1 := fun o => hc2 (w.heap.size + 1 + 1) o (by omega); have f2_t1 := fun o => hf2 (w.heap.size + 1 + 1) o (by omega); (try simp (disch := (first | rfl | omega | (simp only [sz_alloc, sz_drew, sz_set]; omega))) only [sz_alloc, sz_drew, sz_set, World.cell?_drew, World.frozen?_drew, World.cell?_alloc_at, World.cell?_alloc_past, World.frozen?_alloc_at, World.frozen?_alloc_past, hc1, hf1] at k2_t1 f2_t1))); (try (have l2_t2 : w1.heap.size < w2.heap.size := (by omega); have n2_t2 : ¬ w1.heap.size = w2.heap.size := (by omega); have m2_t2 : ¬ w2.heap.size = w1.heap.size := (by omega); have k2_t2 := fun o => hc2 (w1.heap.size) o (by omega); have f2_t2 := fun o => hf2 (w1.heap.size) o (by omega); (try simp (disch := (first | rfl | omega | (simp only [sz_alloc, sz_drew, sz_set]; omega))) only [sz_alloc, sz_drew, sz_set, World.cell?_drew, World.frozen?_drew, World.cell?_alloc_at, World.cell?_alloc_past, World.frozen?_alloc_at, World.frozen?_alloc_past, hc1, hf1] at k2_t2 f2_t2))); (try (have l2_t0 : w1.heap.size < w2.heap.size := (by omega); have n2_t0 : ¬ w1.heap.size = w2.heap.size := (by omega); have m2_t0 : ¬ w2.heap.size = w1.heap.size := (by omega); have k2_t0 := fun o => hc2 (w1.heap.size) o (by omega); have f2_t0 := fun o => hf2 (w1.heap.size) o (by omega); (try simp (disch := (first | rfl | omega | (simp only [sz_alloc, sz_drew, sz_set]; omega))) only [sz_alloc, sz_drew, sz_set, World.cell?_drew, World.frozen?_drew, World.cell?_alloc_at, World.cell?_alloc_past, World.frozen?_alloc_at, World.frozen?_alloc_past] at k2_t0 f2_t0)))))
    all_goals
      go_wp2_with fail
      go_meet
      have hq2 : AtQ w2 w.heap.size s := by show _ = _; rw [k2_0]; rfl
      have hA2 : AtI w2 (w.heap.size + 1) zeroI := by first | exact atI_below (atI_below (atI_drew HA.out) hb1 (by simp only [sz_drew, sz_alloc]; omega)) hb2 (by omega) | exact atI_below (atI_alloc (atI_below (atI_drew HA.out) hb1 (by simp only [sz_drew, sz_alloc]; omega)) (by omega) _) hb2 (by simp only [sz_drew, sz_alloc]; omega) | exact atI_below (atI_below (atI_alloc (atI_drew HA.out) (by simp only [sz_drew, sz_alloc]; omega) _) hb1 (by simp only [sz_drew, sz_alloc]; omega)) hb2 (by omega) | exact atI_below (atI_below (atI_drew (atI_alloc HA.out (by simp only [sz_alloc]; omega) _)) hb1 (by simp only [sz_drew, sz_alloc]; omega)) hb2 (by omega)
    · refine ⟨_, rfl, ?_, atQ_alloc hq2 (by omega) _, atI_alloc hA2 (by omega) _, ?_, ?_, (by repeat (first | (with_reducible first | exact Below.refl _ _ | assumption | exact Nat.le_refl _ | refine Below.drew ?_ | refine Below.alloc ?_ ?_ _ | refine Below.setCell ?_ ?_ _ | refine le_alloc ?_ | refine le_set ?_ | refine le_drew ?_ | refine below_step (by assumption) ?_ ?_ | refine le_below (by assumption) ?_) | (dsimp only; omega)))⟩
      · exact atI_lit w2 25 _ ⟨k, 0, 0, 0, 0, 0, 0, sz, immQ s b, hasQ s 61, un, wd⟩ rfl
      · omega
      · simp only [sz_set, sz_alloc]; omega
    · refine ⟨_, rfl, ?_, (atQ_set (atQ_set (atQ_set (atQ_set (atQ_set (atQ_set (atQ_set (atQ_set (atQ_set (atQ_set (atQ_set (atQ_set hq2 (by omega)) (by omega)) (by omega)) (by omega)) (by omega)) (by omega)) (by omega)) (by omega)) (by omega)) (by omega)) (by omega)) (by omega)), (atI_far (atI_far (atI_far (atI_far (atI_far (atI_far (atI_far (atI_far (atI_far (atI_far (atI_far (atI_far hA2 (by omega)) (by omega)) (by omega)) (by omega)) (by omega)) (by omega)) (by omega)) (by omega)) (by omega)) (by omega)) (by omega)) (by omega)), ?_, ?_, (by repeat (first | (with_reducible first | exact Below.refl _ _ | assumption | exact Nat.le_refl _ | refine Below.drew ?_ | refine Below.alloc ?_ ?_ _ | refine Below.setCell ?_ ?_ _ | refine le_alloc ?_ | refine le_set ?_ | refine le_drew ?_ | refine below_step (by assumption) ?_ ?_ | refine le_below (by assumption) ?_) | (dsimp only; omega)))⟩
      · have c : AtI w2 (w1.heap.size) zeroI := by first | exact atI_below (atI_new' w1 25 w1.heap.size rfl) hb2 (by simp only [sz_drew, sz_alloc]; omega)
        have c := set_kind k c
        have c := set_rd 0 c
        have c := set_rs1 0 c
        have c := set_rs2 0 c
        have c := set_rs3 0 c
        have c := set_rm 0 c
        have c := set_csr 0 c
        have c := set_size sz c
        have c := set_imm (immQ s b) c
        have c := set_ui (hasQ s 61) c
        have c := set_un un c
        have c := set_wo wd c
        exact atI_eq c rfl
      · omega
      · simp only [sz_set, sz_alloc]; omega
    · refine ⟨_, rfl, ?_, (atQ_set (atQ_set (atQ_set (atQ_set (atQ_set (atQ_set (atQ_set (atQ_set (atQ_set (atQ_set (atQ_set (atQ_set hq2 (by omega)) (by omega)) (by omega)) (by omega)) (by omega)) (by omega)) (by omega)) (by omega)) (by omega)) (by omega)) (by omega)) (by omega)), (atI_far (atI_far (atI_far (atI_far (atI_far (atI_far (atI_far (atI_far (atI_far (atI_far (atI_far (atI_far hA2 (by omega)) (by omega)) (by omega)) (by omega)) (by omega)) (by omega)) (by omega)) (by omega)) (by omega)) (by omega)) (by omega)) (by omega)), ?_, ?_, (by repeat (first | (with_reducible first | exact Below.refl _ _ | assumption | exact Nat.le_refl _ | refine Below.drew ?_ | refine Below.alloc ?_ ?_ _ | refine Below.setCell ?_ ?_ _ | refine le_alloc ?_ | refine le_set ?_ | refine le_drew ?_ | refine below_step (by assumption) ?_ ?_ | refine le_below (by assumption) ?_) | (dsimp only; omega)))⟩
      · have c : AtI w2 (w.heap.size + 1 + 1) zeroI := by first | exact atI_below (atI_below (atI_drew (atI_new' _ 25 (w.heap.size + 1 + 1) (by simp only [sz_alloc]))) hb1 (by simp only [sz_drew, sz_alloc]; omega)) hb2 (by omega) | exact atI_below (atI_below (atI_new' _ 25 (w.heap.size + 1 + 1) (by simp only [sz_drew, sz_alloc])) hb1 (by simp only [sz_drew, sz_alloc]; omega)) hb2 (by omega)
        have c := set_kind k c
        have c := set_rd 0 c
        have c := set_rs1 0 c
        have c := set_rs2 0 c
        have c := set_rs3 0 c
        have c := set_rm 0 c
        have c := set_csr 0 c
        have c := set_size sz c
        have c := set_imm (immQ s b) c
        have c := set_ui (hasQ s 61) c
        have c := set_un un c
        have c := set_wo wd c
        exact atI_eq c rfl
      · omega
      · simp only [sz_set, sz_alloc]; omega
  case rest =>
    obtain ⟨B, rfl, hI0, hQ0, hZ0, hB1, hB2, hbc⟩ := hcut
    have HI0 := Lib.hid hI0; have HQ0 := Lib.hid hQ0; have HZ0 := Lib.hid hZ0
    obtain ⟨X0, hX0⟩ : ∃ X, X = headQ k s sz wd un b := ⟨_, rfl⟩
    rw [← hX0] at HI0
    have HX0 := Lib.hid hX0
    clear hI0 hQ0 hZ0 hX0 HA
    have d1 : ¬ B = w.heap.size := by omega
    have d2 : ¬ w.heap.size = B := by omega
    have d3 : ¬ B = w.heap.size + 1 := by omega
    have d4 : ¬ w.heap.size + 1 = B := by omega
    have s1 : wc.cell? ⟨w.heap.size, 3, none⟩ = some (.string s) := HQ0.out
    go_upto_if 26 with (go_at_call 30; refine (has_c s hs 100 (by show _ < _; decide) _).mono ?_; rintro e v1 ⟨rfl, hv1⟩)
    have hvz1 := hv1.size
    have HIv1 := Lib.hid (atI_below HI0.out hv1 (by omega)); have HQv1 := Lib.hid (atQ_below HQ0.out hv1 (by omega)); have HZv1 := Lib.hid (atI_below HZ0.out hv1 (by omega))
    have hbv1 : Below w.heap.size w v1 := below_step hv1 hbc (by omega)
    go_cut [] (fun wx => AtI wx B (qrd s b X0) ∧ AtQ wx w.heap.size s ∧ AtI wx (w.heap.size + 1) zeroI ∧ B < wx.heap.size ∧ Below w.heap.size w wx)
    case first =>
      have e1 : bits .and .u32 ((b : Int) / 128) 31 = ((fld b 7 5 : Nat) : Int) := by rw [show ((b : Int) / 128) = ((b / 128 : Nat) : Int) by simp]; exact u32_low (b / 128) 5 (by have := hb.out; omega) (by decide)
      have ew := wr_7_5 b
      have hcell : v1.cell? ⟨B, 1, none⟩ = some (.int .i64 (X0).rd) := HIv1.out.1 1
      have hfro : v1.frozen? ⟨B, 1, none⟩ = false := HIv1.out.2 1
      go_wp2_with fail
      · have hh : hasQ s 100 = true := by assumption
        go_meet
        refine ⟨?_, atQ_set HQv1.out (by omega), atI_far HZv1.out (by omega), by rw [sz_set]; omega, (by repeat (first | (with_reducible first | exact Below.refl _ _ | assumption | exact Nat.le_refl _ | refine Below.drew ?_ | refine Below.alloc ?_ ?_ _ | refine Below.setCell ?_ ?_ _ | refine le_alloc ?_ | refine le_set ?_ | refine le_drew ?_ | refine below_step (by assumption) ?_ ?_ | refine le_below (by assumption) ?_) | (dsimp only; omega)))⟩
        rw [qrd_t s b _ hh]
        exact set_rd _ HIv1.out
      · have hh : hasQ s 100 = false := by assumption
        go_meet
        refine ⟨?_, HQv1.out, HZv1.out, by omega, hbv1⟩
        rw [qrd_f s b _ hh]; exact HIv1.out
    case rest =>
      rename World => ww1
      obtain ⟨hI1, hQ1, hZ1, hBs1, hbc1⟩ := hcut
      obtain ⟨X1, hX1⟩ : ∃ X, X = (qrd s b X0) := ⟨_, rfl⟩
      rw [← hX1] at hI1
      have HI1 := Lib.hid hI1; have HQ1 := Lib.hid hQ1; have HZ1 := Lib.hid hZ1; have HX1 := Lib.hid hX1
      clear hI1 hQ1 hZ1 hX1 HIv1 HQv1 HZv1 s1 hv1 hbv1 hvz1
      have s2 : ww1.cell? ⟨w.heap.size, 3, none⟩ = some (.string s) := HQ1.out
      go_upto_if 34 with (go_at_call 30; refine (has_c s hs 49 (by show _ < _; decide) _).mono ?_; rintro e v2 ⟨rfl, hv2⟩)
      have hvz2 := hv2.size
      have HIv2 := Lib.hid (atI_below HI1.out hv2 (by omega)); have HQv2 := Lib.hid (atQ_below HQ1.out hv2 (by omega)); have HZv2 := Lib.hid (atI_below HZ1.out hv2 (by omega))
      have hbv2 : Below w.heap.size w v2 := below_step hv2 hbc1 (by omega)
      go_cut [] (fun wx => AtI wx B (qrs1 s b X1) ∧ AtQ wx w.heap.size s ∧ AtI wx (w.heap.size + 1) zeroI ∧ B < wx.heap.size ∧ Below w.heap.size w wx)
      case first =>
        have e2 : bits .and .u32 ((b : Int) / 32768) 31 = ((fld b 15 5 : Nat) : Int) := by rw [show ((b : Int) / 32768) = ((b / 32768 : Nat) : Int) by simp]; exact u32_low (b / 32768) 5 (by have := hb.out; omega) (by decide)
        have ew := wr_15_5 b
        have hcell : v2.cell? ⟨B, 2, none⟩ = some (.int .i64 (X1).rs1) := HIv2.out.1 2
        have hfro : v2.frozen? ⟨B, 2, none⟩ = false := HIv2.out.2 2
        go_wp2_with fail
        · have hh : hasQ s 49 = true := by assumption
          go_meet
          refine ⟨?_, atQ_set HQv2.out (by omega), atI_far HZv2.out (by omega), by rw [sz_set]; omega, (by repeat (first | (with_reducible first | exact Below.refl _ _ | assumption | exact Nat.le_refl _ | refine Below.drew ?_ | refine Below.alloc ?_ ?_ _ | refine Below.setCell ?_ ?_ _ | refine le_alloc ?_ | refine le_set ?_ | refine le_drew ?_ | refine below_step (by assumption) ?_ ?_ | refine le_below (by assumption) ?_) | (dsimp only; omega)))⟩
          rw [qrs1_t s b _ hh]
          exact set_rs1 _ HIv2.out
        · have hh : hasQ s 49 = false := by assumption
          go_meet
          refine ⟨?_, HQv2.out, HZv2.out, by omega, hbv2⟩
          rw [qrs1_f s b _ hh]; exact HIv2.out
      case rest =>
        rename World => ww2
        obtain ⟨hI2, hQ2, hZ2, hBs2, hbc2⟩ := hcut
        obtain ⟨X2, hX2⟩ : ∃ X, X = (qrs1 s b X1) := ⟨_, rfl⟩
        rw [← hX2] at hI2
        have HI2 := Lib.hid hI2; have HQ2 := Lib.hid hQ2; have HZ2 := Lib.hid hZ2; have HX2 := Lib.hid hX2
        clear hI2 hQ2 hZ2 hX2 HIv2 HQv2 HZv2 s2 hv2 hbv2 hvz2
        have s3 : ww2.cell? ⟨w.heap.size, 3, none⟩ = some (.string s) := HQ2.out
        go_upto_if 42 with (go_at_call 30; refine (has_c s hs 50 (by show _ < _; decide) _).mono ?_; rintro e v3 ⟨rfl, hv3⟩)
        have hvz3 := hv3.size
        have HIv3 := Lib.hid (atI_below HI2.out hv3 (by omega)); have HQv3 := Lib.hid (atQ_below HQ2.out hv3 (by omega)); have HZv3 := Lib.hid (atI_below HZ2.out hv3 (by omega))
        have hbv3 : Below w.heap.size w v3 := below_step hv3 hbc2 (by omega)
        go_cut [] (fun wx => AtI wx B (qrs2 s b X2) ∧ AtQ wx w.heap.size s ∧ AtI wx (w.heap.size + 1) zeroI ∧ B < wx.heap.size ∧ Below w.heap.size w wx)
        case first =>
          have e3 : bits .and .u32 ((b : Int) / 1048576) 31 = ((fld b 20 5 : Nat) : Int) := by rw [show ((b : Int) / 1048576) = ((b / 1048576 : Nat) : Int) by simp]; exact u32_low (b / 1048576) 5 (by have := hb.out; omega) (by decide)
          have ew := wr_20_5 b
          have hcell : v3.cell? ⟨B, 3, none⟩ = some (.int .i64 (X2).rs2) := HIv3.out.1 3
          have hfro : v3.frozen? ⟨B, 3, none⟩ = false := HIv3.out.2 3
          go_wp2_with fail
          · have hh : hasQ s 50 = true := by assumption
            go_meet
            refine ⟨?_, atQ_set HQv3.out (by omega), atI_far HZv3.out (by omega), by rw [sz_set]; omega, (by repeat (first | (with_reducible first | exact Below.refl _ _ | assumption | exact Nat.le_refl _ | refine Below.drew ?_ | refine Below.alloc ?_ ?_ _ | refine Below.setCell ?_ ?_ _ | refine le_alloc ?_ | refine le_set ?_ | refine le_drew ?_ | refine below_step (by assumption) ?_ ?_ | refine le_below (by assumption) ?_) | (dsimp only; omega)))⟩
            rw [qrs2_t s b _ hh]
            exact set_rs2 _ HIv3.out
          · have hh : hasQ s 50 = false := by assumption
            go_meet
            refine ⟨?_, HQv3.out, HZv3.out, by omega, hbv3⟩
            rw [qrs2_f s b _ hh]; exact HIv3.out
        case rest =>
          rename World => ww3
          obtain ⟨hI3, hQ3, hZ3, hBs3, hbc3⟩ := hcut
          obtain ⟨X3, hX3⟩ : ∃ X, X = (qrs2 s b X2) := ⟨_, rfl⟩
          rw [← hX3] at hI3
          have HI3 := Lib.hid hI3; have HQ3 := Lib.hid hQ3; have HZ3 := Lib.hid hZ3; have HX3 := Lib.hid hX3
          clear hI3 hQ3 hZ3 hX3 HIv3 HQv3 HZv3 s3 hv3 hbv3 hvz3
          have s4 : ww3.cell? ⟨w.heap.size, 3, none⟩ = some (.string s) := HQ3.out
          go_upto_if 50 with (go_at_call 30; refine (has_c s hs 51 (by show _ < _; decide) _).mono ?_; rintro e v4 ⟨rfl, hv4⟩)
          have hvz4 := hv4.size
          have HIv4 := Lib.hid (atI_below HI3.out hv4 (by omega)); have HQv4 := Lib.hid (atQ_below HQ3.out hv4 (by omega)); have HZv4 := Lib.hid (atI_below HZ3.out hv4 (by omega))
          have hbv4 : Below w.heap.size w v4 := below_step hv4 hbc3 (by omega)
          go_cut [] (fun wx => AtI wx B (qrs3 s b X3) ∧ AtQ wx w.heap.size s ∧ AtI wx (w.heap.size + 1) zeroI ∧ B < wx.heap.size ∧ Below w.heap.size w wx)
          case first =>
            have e4 : (b : Int) / 134217728 = ((fld b 27 5 : Nat) : Int) := by unfold fld; have := hb.out; simp only [show (2 : Nat) ^ 27 = 134217728 by decide, show (2 : Nat) ^ 5 = 32 by decide]; omega
            have ew := wr_27_5 b
            have hcell : v4.cell? ⟨B, 4, none⟩ = some (.int .i64 (X3).rs3) := HIv4.out.1 4
            have hfro : v4.frozen? ⟨B, 4, none⟩ = false := HIv4.out.2 4
            go_wp2_with fail
            · have hh : hasQ s 51 = true := by assumption
              go_meet
              refine ⟨?_, atQ_set HQv4.out (by omega), atI_far HZv4.out (by omega), by rw [sz_set]; omega, (by repeat (first | (with_reducible first | exact Below.refl _ _ | assumption | exact Nat.le_refl _ | refine Below.drew ?_ | refine Below.alloc ?_ ?_ _ | refine Below.setCell ?_ ?_ _ | refine le_alloc ?_ | refine le_set ?_ | refine le_drew ?_ | refine below_step (by assumption) ?_ ?_ | refine le_below (by assumption) ?_) | (dsimp only; omega)))⟩
              rw [qrs3_t s b _ hh]
              exact set_rs3 _ HIv4.out
            · have hh : hasQ s 51 = false := by assumption
              go_meet
              refine ⟨?_, HQv4.out, HZv4.out, by omega, hbv4⟩
              rw [qrs3_f s b _ hh]; exact HIv4.out
          case rest =>
            rename World => ww4
            obtain ⟨hI4, hQ4, hZ4, hBs4, hbc4⟩ := hcut
            obtain ⟨X4, hX4⟩ : ∃ X, X = (qrs3 s b X3) := ⟨_, rfl⟩
            rw [← hX4] at hI4
            have HI4 := Lib.hid hI4; have HQ4 := Lib.hid hQ4; have HZ4 := Lib.hid hZ4; have HX4 := Lib.hid hX4
            clear hI4 hQ4 hZ4 hX4 HIv4 HQv4 HZv4 s4 hv4 hbv4 hvz4
            have s5 : ww4.cell? ⟨w.heap.size, 3, none⟩ = some (.string s) := HQ4.out
            go_upto_if 57 with (go_at_call 30; refine (has_c s hs 114 (by show _ < _; decide) _).mono ?_; rintro e v5 ⟨rfl, hv5⟩)
            have hvz5 := hv5.size
            have HIv5 := Lib.hid (atI_below HI4.out hv5 (by omega)); have HQv5 := Lib.hid (atQ_below HQ4.out hv5 (by omega)); have HZv5 := Lib.hid (atI_below HZ4.out hv5 (by omega))
            have hbv5 : Below w.heap.size w v5 := below_step hv5 hbc4 (by omega)
            go_cut [] (fun wx => AtI wx B (qrm s b X4) ∧ AtQ wx w.heap.size s ∧ AtI wx (w.heap.size + 1) zeroI ∧ B < wx.heap.size ∧ Below w.heap.size w wx)
            case first =>
              have e5 : bits .and .u32 ((b : Int) / 4096) 7 = ((fld b 12 3 : Nat) : Int) := by rw [show ((b : Int) / 4096) = ((b / 4096 : Nat) : Int) by simp]; exact u32_low (b / 4096) 3 (by have := hb.out; omega) (by decide)
              have ew := wr_12_3 b
              have hcell : v5.cell? ⟨B, 5, none⟩ = some (.int .i64 (X4).rm) := HIv5.out.1 5
              have hfro : v5.frozen? ⟨B, 5, none⟩ = false := HIv5.out.2 5
              go_wp2_with fail
              · have hh : hasQ s 114 = true := by assumption
                go_meet
                refine ⟨?_, atQ_set HQv5.out (by omega), atI_far HZv5.out (by omega), by rw [sz_set]; omega, (by repeat (first | (with_reducible first | exact Below.refl _ _ | assumption | exact Nat.le_refl _ | refine Below.drew ?_ | refine Below.alloc ?_ ?_ _ | refine Below.setCell ?_ ?_ _ | refine le_alloc ?_ | refine le_set ?_ | refine le_drew ?_ | refine below_step (by assumption) ?_ ?_ | refine le_below (by assumption) ?_) | (dsimp only; omega)))⟩
                rw [qrm_t s b _ hh]
                exact set_rm _ HIv5.out
              · have hh : hasQ s 114 = false := by assumption
                go_meet
                refine ⟨?_, HQv5.out, HZv5.out, by omega, hbv5⟩
                rw [qrm_f s b _ hh]; exact HIv5.out
            case rest =>
              rename World => ww5
              obtain ⟨hI5, hQ5, hZ5, hBs5, hbc5⟩ := hcut
              obtain ⟨X5, hX5⟩ : ∃ X, X = (qrm s b X4) := ⟨_, rfl⟩
              rw [← hX5] at hI5
              have HI5 := Lib.hid hI5; have HQ5 := Lib.hid hQ5; have HZ5 := Lib.hid hZ5; have HX5 := Lib.hid hX5
              clear hI5 hQ5 hZ5 hX5 HIv5 HQv5 HZv5 s5 hv5 hbv5 hvz5
              have s6 : ww5.cell? ⟨w.heap.size, 3, none⟩ = some (.string s) := HQ5.out
              go_upto_if 65 with (go_at_call 30; refine (has_c s hs 99 (by show _ < _; decide) _).mono ?_; rintro e v6 ⟨rfl, hv6⟩)
              have hvz6 := hv6.size
              have HIv6 := Lib.hid (atI_below HI5.out hv6 (by omega)); have HQv6 := Lib.hid (atQ_below HQ5.out hv6 (by omega)); have HZv6 := Lib.hid (atI_below HZ5.out hv6 (by omega))
              have hbv6 : Below w.heap.size w v6 := below_step hv6 hbc5 (by omega)
              go_cut [] (fun wx => AtI wx B (qcsr s b X5) ∧ AtQ wx w.heap.size s ∧ AtI wx (w.heap.size + 1) zeroI ∧ B < wx.heap.size ∧ Below w.heap.size w wx)
              case first =>
                have e6 : (b : Int) / 1048576 = ((fld b 20 12 : Nat) : Int) := by unfold fld; have := hb.out; simp only [show (2 : Nat) ^ 20 = 1048576 by decide, show (2 : Nat) ^ 12 = 4096 by decide]; omega
                have ew := wr_20_12 b
                have hcell : v6.cell? ⟨B, 6, none⟩ = some (.int .i64 (X5).csr) := HIv6.out.1 6
                have hfro : v6.frozen? ⟨B, 6, none⟩ = false := HIv6.out.2 6
                go_wp2_with fail
                · have hh : hasQ s 99 = true := by assumption
                  go_meet
                  refine ⟨?_, atQ_set HQv6.out (by omega), atI_far HZv6.out (by omega), by rw [sz_set]; omega, (by repeat (first | (with_reducible first | exact Below.refl _ _ | assumption | exact Nat.le_refl _ | refine Below.drew ?_ | refine Below.alloc ?_ ?_ _ | refine Below.setCell ?_ ?_ _ | refine le_alloc ?_ | refine le_set ?_ | refine le_drew ?_ | refine below_step (by assumption) ?_ ?_ | refine le_below (by assumption) ?_) | (dsimp only; omega)))⟩
                  rw [qcsr_t s b _ hh]
                  exact set_csr _ HIv6.out
                · have hh : hasQ s 99 = false := by assumption
                  go_meet
                  refine ⟨?_, HQv6.out, HZv6.out, by omega, hbv6⟩
                  rw [qcsr_f s b _ hh]; exact HIv6.out
              case rest =>
                rename World => ww6
                obtain ⟨hI6, hQ6, hZ6, hBs6, hbc6⟩ := hcut
                obtain ⟨X6, hX6⟩ : ∃ X, X = (qcsr s b X5) := ⟨_, rfl⟩
                rw [← hX6] at hI6
                have HI6 := Lib.hid hI6; have HQ6 := Lib.hid hQ6; have HZ6 := Lib.hid hZ6; have HX6 := Lib.hid hX6
                clear hI6 hQ6 hZ6 hX6 HIv6 HQv6 HZv6 s6 hv6 hbv6 hvz6
                have x0 : ww6.cell? ⟨B, 0, none⟩ = some (.int .i64 X6.kind) := HI6.out.1 0
                have z0 : ww6.cell? ⟨w.heap.size + 1, 0, none⟩ = some (.int .i64 0) := HZ6.out.1 0
                have zf0 : ww6.frozen? ⟨w.heap.size + 1, 0, none⟩ = false := HZ6.out.2 0
                have x1 : ww6.cell? ⟨B, 1, none⟩ = some (.int .i64 X6.rd) := HI6.out.1 1
                have z1 : ww6.cell? ⟨w.heap.size + 1, 1, none⟩ = some (.int .i64 0) := HZ6.out.1 1
                have zf1 : ww6.frozen? ⟨w.heap.size + 1, 1, none⟩ = false := HZ6.out.2 1
                have x2 : ww6.cell? ⟨B, 2, none⟩ = some (.int .i64 X6.rs1) := HI6.out.1 2
                have z2 : ww6.cell? ⟨w.heap.size + 1, 2, none⟩ = some (.int .i64 0) := HZ6.out.1 2
                have zf2 : ww6.frozen? ⟨w.heap.size + 1, 2, none⟩ = false := HZ6.out.2 2
                have x3 : ww6.cell? ⟨B, 3, none⟩ = some (.int .i64 X6.rs2) := HI6.out.1 3
                have z3 : ww6.cell? ⟨w.heap.size + 1, 3, none⟩ = some (.int .i64 0) := HZ6.out.1 3
                have zf3 : ww6.frozen? ⟨w.heap.size + 1, 3, none⟩ = false := HZ6.out.2 3
                have x4 : ww6.cell? ⟨B, 4, none⟩ = some (.int .i64 X6.rs3) := HI6.out.1 4
                have z4 : ww6.cell? ⟨w.heap.size + 1, 4, none⟩ = some (.int .i64 0) := HZ6.out.1 4
                have zf4 : ww6.frozen? ⟨w.heap.size + 1, 4, none⟩ = false := HZ6.out.2 4
                have x5 : ww6.cell? ⟨B, 5, none⟩ = some (.int .i64 X6.rm) := HI6.out.1 5
                have z5 : ww6.cell? ⟨w.heap.size + 1, 5, none⟩ = some (.int .i64 0) := HZ6.out.1 5
                have zf5 : ww6.frozen? ⟨w.heap.size + 1, 5, none⟩ = false := HZ6.out.2 5
                have x6 : ww6.cell? ⟨B, 6, none⟩ = some (.int .i64 X6.csr) := HI6.out.1 6
                have z6 : ww6.cell? ⟨w.heap.size + 1, 6, none⟩ = some (.int .i64 0) := HZ6.out.1 6
                have zf6 : ww6.frozen? ⟨w.heap.size + 1, 6, none⟩ = false := HZ6.out.2 6
                have x7 : ww6.cell? ⟨B, 7, none⟩ = some (.int .i64 X6.size) := HI6.out.1 7
                have z7 : ww6.cell? ⟨w.heap.size + 1, 7, none⟩ = some (.int .i64 0) := HZ6.out.1 7
                have zf7 : ww6.frozen? ⟨w.heap.size + 1, 7, none⟩ = false := HZ6.out.2 7
                have x8 : ww6.cell? ⟨B, 8, none⟩ = some (.int .i64 X6.imm) := HI6.out.1 8
                have z8 : ww6.cell? ⟨w.heap.size + 1, 8, none⟩ = some (.int .i64 0) := HZ6.out.1 8
                have zf8 : ww6.frozen? ⟨w.heap.size + 1, 8, none⟩ = false := HZ6.out.2 8
                have x9 : ww6.cell? ⟨B, 9, none⟩ = some (.bool X6.ui) := HI6.out.1 9
                have z9 : ww6.cell? ⟨w.heap.size + 1, 9, none⟩ = some (.bool false) := HZ6.out.1 9
                have zf9 : ww6.frozen? ⟨w.heap.size + 1, 9, none⟩ = false := HZ6.out.2 9
                have x10 : ww6.cell? ⟨B, 10, none⟩ = some (.bool X6.un) := HI6.out.1 10
                have z10 : ww6.cell? ⟨w.heap.size + 1, 10, none⟩ = some (.bool false) := HZ6.out.1 10
                have zf10 : ww6.frozen? ⟨w.heap.size + 1, 10, none⟩ = false := HZ6.out.2 10
                have x11 : ww6.cell? ⟨B, 11, none⟩ = some (.bool X6.wo) := HI6.out.1 11
                have z11 : ww6.cell? ⟨w.heap.size + 1, 11, none⟩ = some (.bool false) := HZ6.out.1 11
                have zf11 : ww6.frozen? ⟨w.heap.size + 1, 11, none⟩ = false := HZ6.out.2 11
                go_upto_region 14 with fail
                go_cut [] (fun wx => AtI wx (w.heap.size + 1) X6 ∧ Below w.heap.size w wx)
                case first =>
                  go_wp2_with fail
                  go_meet
                  refine ⟨atI_eq (set_wo _ (set_un _ (set_ui _ (set_imm _ (set_size _ (set_csr _ (set_rm _ (set_rs3 _ (set_rs2 _ (set_rs1 _ (set_rd _ (set_kind _ (HZ6.out))))))))))))) (by cases X6; rfl), (by repeat (first | (with_reducible first | exact Below.refl _ _ | assumption | exact Nat.le_refl _ | refine Below.drew ?_ | refine Below.alloc ?_ ?_ _ | refine Below.setCell ?_ ?_ _ | refine le_alloc ?_ | refine le_set ?_ | refine le_drew ?_ | refine below_step (by assumption) ?_ ?_ | refine le_below (by assumption) ?_) | (dsimp only; omega)))⟩
                case rest =>
                  obtain ⟨hY, hbY⟩ := hcut
                  have y0 : wc.cell? ⟨w.heap.size + 1, 0, none⟩ = some (.int .i64 X6.kind) := hY.1 0
                  have y1 : wc.cell? ⟨w.heap.size + 1, 1, none⟩ = some (.int .i64 X6.rd) := hY.1 1
                  have y2 : wc.cell? ⟨w.heap.size + 1, 2, none⟩ = some (.int .i64 X6.rs1) := hY.1 2
                  have y3 : wc.cell? ⟨w.heap.size + 1, 3, none⟩ = some (.int .i64 X6.rs2) := hY.1 3
                  have y4 : wc.cell? ⟨w.heap.size + 1, 4, none⟩ = some (.int .i64 X6.rs3) := hY.1 4
                  have y5 : wc.cell? ⟨w.heap.size + 1, 5, none⟩ = some (.int .i64 X6.rm) := hY.1 5
                  have y6 : wc.cell? ⟨w.heap.size + 1, 6, none⟩ = some (.int .i64 X6.csr) := hY.1 6
                  have y7 : wc.cell? ⟨w.heap.size + 1, 7, none⟩ = some (.int .i64 X6.size) := hY.1 7
                  have y8 : wc.cell? ⟨w.heap.size + 1, 8, none⟩ = some (.int .i64 X6.imm) := hY.1 8
                  have y9 : wc.cell? ⟨w.heap.size + 1, 9, none⟩ = some (.bool X6.ui) := hY.1 9
                  have y10 : wc.cell? ⟨w.heap.size + 1, 10, none⟩ = some (.bool X6.un) := hY.1 10
                  have y11 : wc.cell? ⟨w.heap.size + 1, 11, none⟩ = some (.bool X6.wo) := hY.1 11
                  clear x0 z0 zf0 x1 z1 zf1 x2 z2 zf2 x3 z3 zf3 x4 z4 zf4 x5 z5 zf5 x6 z6 zf6 x7 z7 zf7 x8 z8 zf8 x9 z9 zf9 x10 z10 zf10 x11 z11 zf11
                  go_wp2_with fail
                  refine bodyPost_ret (v := .agg (cellsI X6)) (by simp [results, Try.results20, go_sem, y0, y1, y2, y3, y4, y5, y6, y7, y8, y9, y10, y11, cellsI] <;> (first | rfl | (repeat' (first | rfl | apply And.intro)))) rfl ⟨by rw [HX6.out, HX5.out, HX4.out, HX3.out, HX2.out, HX1.out, HX0.out]; rfl, hbY⟩
end Go.Proofs.Ytlohpakcikkdmaa
