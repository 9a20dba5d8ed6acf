/- The contract of read. -/
import Derived.Test.YtlohpakcikkdmaaB4
namespace Go.Proofs.Ytlohpakcikkdmaa
open Go.ChangeShapes Go.WideShapes Go.ChangeAt Go.RowKit
set_option linter.unusedVariables false
set_option linter.unusedSimpArgs false
/-- A row's numbers fit. -/
def OkR (r : Row) : Prop := r.mask < 4294967296 ∧ r.mat < 4294967296 ∧ r.kind < 256 ∧ r.parts < 4294967296 ∧ OkImm r.parts
theorem atI_new (w : World) (t : TypeId) : AtI (w.alloc (Obj.cells #[.int .i64 0, .int .i64 0, .int .i64 0, .int .i64 0, .int .i64 0, .int .i64 0, .int .i64 0, .int .i64 0, .int .i64 0, .bool false, .bool false, .bool false] t)) w.heap.size zeroI :=
  ⟨fun o => by rw [World.cell?_alloc_at _ _ _ _ rfl]; rfl, fun o => by go_simp⟩
theorem atI_new' (w : World) (t : TypeId) (n : Nat) (h : w.heap.size = n) : AtI (w.alloc (Obj.cells #[.int .i64 0, .int .i64 0, .int .i64 0, .int .i64 0, .int .i64 0, .int .i64 0, .int .i64 0, .int .i64 0, .int .i64 0, .bool false, .bool false, .bool false] t)) n zeroI := by
  subst h; exact atI_new w t
theorem atI_lit (w : World) (t : TypeId) (n : Nat) (I : Ins) (h : w.heap.size = n) : AtI (w.alloc (Obj.cells #[.int .i64 I.kind, .int .i64 I.rd, .int .i64 I.rs1, .int .i64 I.rs2, .int .i64 I.rs3, .int .i64 I.rm, .int .i64 I.csr, .int .i64 I.size, .int .i64 I.imm, .bool I.ui, .bool I.un, .bool I.wo] t)) n I := by
  subst h; exact ⟨fun o => by rw [World.cell?_alloc_at _ _ _ _ rfl]; rfl, fun o => by go_simp⟩
theorem atI_drew {w : World} {B : Nat} {I : Ins} (h : AtI w B I) : AtI w.drew B I := atI_below h ((Below.refl (B + 1) w).drew) (Nat.lt_succ_self _)
theorem atI_alloc {w : World} {B : Nat} {I : Ins} (h : AtI w B I) (hB : B < w.heap.size) (o : Obj) : AtI (w.alloc o) B I :=
  atI_below h ((Below.refl w.heap.size w).alloc (Nat.le_refl _) o) hB
theorem cell_set_far {w : World} {b o b' o' : Nat} {v : Value} (h : b ≠ b') : (w.setCell ⟨b, o, none⟩ v).cell? ⟨b', o', none⟩ = w.cell? ⟨b', o', none⟩ :=
  World.cell?_setCell_other _ _ _ _ (by intro e; cases e; exact h rfl)
theorem atI_far {w : World} {B B' k : Nat} {I : Ins} {v : Value} (h : AtI w B I) (hB : B' ≠ B) : AtI (w.setCell ⟨B', k, none⟩ v) B I :=
  ⟨fun o => by rw [cell_set_far hB]; exact h.1 o, fun o => by simp [h.2]⟩
def AtR (w : World) (B : Nat) (r : Row) : Prop := w.cell? ⟨B, 2, none⟩ = some (.int .u8 r.kind) ∧ w.cell? ⟨B, 3, none⟩ = some (.int .u32 r.parts)
set_option maxRecDepth 100000 in
set_option maxHeartbeats 1000000 in
theorem read_c (r : Row) (b : Nat) (hr : Hid (OkR r)) (hb : Hid (b < 4294967296)) (w : World) :
    Calls Try.prog 18 #[.agg (cellsR r), .int .u32 b] w (RetX (readF r b) w) := by
  obtain ⟨m, mt, k, p⟩ := r
  have hp : Hid (p < 4294967296) := hr.out.2.2.2.1
  have hq : Hid (OkImm p) := hr.out.2.2.2.2
  have hk : Hid (k < 256) := hr.out.2.2.1
  have ek : wrap64 (k : Int) = k := IntWalk.wrap64_in _ (by have := hk.out; omega)
  show Calls Try.prog 18 #[.agg #[.int .u32 m, .int .u32 mt, .int .u8 k, .int .u32 p], .int .u32 b] w _
  go_enter Try.func18, Try.ntmps18
  go_upto_region 1 with fail
  go_cut [5] (fun s5 wx => ∃ B, s5 = .pointer (some ⟨B, 0, none⟩) ∧ AtI wx B { zeroI with kind := k, imm := immV p b } ∧ AtR wx w.heap.size ⟨m, mt, k, p⟩ ∧ AtI wx (w.heap.size + 1) zeroI ∧ w.heap.size + 1 < B ∧ B < wx.heap.size ∧ Below w.heap.size w wx)
  case first =>
    have HA : Hid (AtI ((w.alloc (Obj.cells #[.int .u32 m, .int .u32 mt, .int .u8 k, .int .u32 p] 35)).alloc (Obj.cells #[.int .i64 0, .int .i64 0, .int .i64 0, .int .i64 0, .int .i64 0, .int .i64 0, .int .i64 0, .int .i64 0, .int .i64 0, .bool false, .bool false, .bool false] 25)) (w.heap.size + 1) zeroI) := atI_new' _ _ _ (sz_alloc _ _)
    have HX : Hid (AtI (((w.alloc (Obj.cells #[.int .u32 m, .int .u32 mt, .int .u8 k, .int .u32 p] 35)).alloc (Obj.cells #[.int .i64 0, .int .i64 0, .int .i64 0, .int .i64 0, .int .i64 0, .int .i64 0, .int .i64 0, .int .i64 0, .int .i64 0, .bool false, .bool false, .bool false] 25)).alloc (Obj.cells #[.int .i64 0, .int .i64 0, .int .i64 0, .int .i64 0, .int .i64 0, .int .i64 0, .int .i64 0, .int .i64 0, .int .i64 0, .bool false, .bool false, .bool false] 25)) (w.heap.size + 1 + 1) zeroI) := atI_new' _ _ _ (by rw [sz_alloc, sz_alloc])
    have ek2 : IntKind.i64.wrap (k : Int) = k := IntWalk.i64_in _ (by have := hk.out; omega)
    have EK2 := Lib.hid ek2
    clear ek2
    go_region_held3 (fun w' => w'.cell? ⟨w.heap.size, 2, none⟩ = some (.int .u8 k) ∧ w'.cell? ⟨w.heap.size, 3, none⟩ = some (.int .u32 p)) (all_goals (first | (go_keep; done) | (simp (disch := omega) only [cell_set_far]; simp [*])))
      (first
        | (go_at_call 24; refine (immediate_c p b hp hb hq _).mono ?_; rintro e w1 ⟨rfl, hb1⟩; obtain ⟨hc1, hf1⟩ := bcell hb1; have hz1 := hb1.size; (try simp only [sz_alloc, sz_drew, sz_set] at hz1 hc1 hf1); have l1_0 : w.heap.size < w1.heap.size := (by omega); have n1_0 : ¬ w.heap.size = w1.heap.size := (by omega); have m1_0 : ¬ w1.heap.size = w.heap.size := (by omega); have k1_0 := fun o => hc1 (w.heap.size) o (by omega); have f1_0 := fun o => hf1 (w.heap.size) o (by omega); (try simp (disch := (first | rfl | omega | (simp only [sz_alloc, sz_drew, sz_set]; omega))) only [sz_alloc, sz_drew, sz_set, World.cell?_drew, World.frozen?_drew, World.cell?_alloc_at, World.cell?_alloc_past, World.frozen?_alloc_at, World.frozen?_alloc_past] at k1_0 f1_0); have l1_1 : w.heap.size + 1 < w1.heap.size := (by omega); have n1_1 : ¬ w.heap.size + 1 = w1.heap.size := (by omega); have m1_1 : ¬ w1.heap.size = w.heap.size + 1 := (by omega); have k1_1 := fun o => hc1 (w.heap.size + 1) o (by omega); have f1_1 := fun o => hf1 (w.heap.size + 1) o (by omega); (try simp (disch := (first | rfl | omega | (simp only [sz_alloc, sz_drew, sz_set]; omega))) only [sz_alloc, sz_drew, sz_set, World.cell?_drew, World.frozen?_drew, World.cell?_alloc_at, World.cell?_alloc_past, World.frozen?_alloc_at, World.frozen?_alloc_past] at k1_1 f1_1); (try (have l1_t0 : w.heap.size + 1 + 1 < w1.heap.size := (by omega); have n1_t0 : ¬ w.heap.size + 1 + 1 = w1.heap.size := (by omega); have m1_t0 : ¬ w1.heap.size = w.heap.size + 1 + 1 := (by omega); have k1_t0 := fun o => hc1 (w.heap.size + 1 + 1) o (by omega); have f1_t0 := fun o => hf1 (w.heap.size + 1 + 1) o (by omega); (try simp (disch := (first | rfl | omega | (simp only [sz_alloc, sz_drew, sz_set]; omega))) only [sz_alloc, sz_drew, sz_set, World.cell?_drew, World.frozen?_drew, World.cell?_alloc_at, World.cell?_alloc_past, World.frozen?_alloc_at, World.frozen?_alloc_past] at k1_t0 f1_t0)))))
    all_goals
      go_wp2_with fail
      go_meet
    · refine ⟨_, rfl, ?_, (by show _ ∧ _; assumption), ?_, ?_, ?_, (by repeat (first | (with_reducible first | exact Below.refl _ _ | assumption | exact Nat.le_refl _ | refine Below.drew ?_ | refine Below.alloc ?_ ?_ _ | refine Below.setCell ?_ ?_ _ | refine le_alloc ?_ | refine le_set ?_ | refine le_drew ?_ | refine below_step (by assumption) ?_ ?_ | refine le_below (by assumption) ?_) | (dsimp only; omega)))⟩
      · rw [EK2.out]; exact atI_lit w1 25 _ ⟨k, 0, 0, 0, 0, 0, 0, 0, immV p b, false, false, false⟩ rfl
      · exact atI_alloc (atI_below (atI_drew HA.out) hb1 (by simp only [sz_drew, sz_alloc]; omega)) (by omega) _
      · omega
      · simp only [sz_set, sz_alloc]; omega
    · refine ⟨_, rfl, ?_, (by show _ ∧ _; assumption), ?_, ?_, ?_, (by repeat (first | (with_reducible first | exact Below.refl _ _ | assumption | exact Nat.le_refl _ | refine Below.drew ?_ | refine Below.alloc ?_ ?_ _ | refine Below.setCell ?_ ?_ _ | refine le_alloc ?_ | refine le_set ?_ | refine le_drew ?_ | refine below_step (by assumption) ?_ ?_ | refine le_below (by assumption) ?_) | (dsimp only; omega)))⟩
      · rw [EK2.out]
        have c := atI_below (atI_drew HX.out) hb1 (by simp only [sz_drew, sz_alloc]; omega)
        have c := set_kind (k : Int) c
        have c := set_rd 0 c
        have c := set_rs1 0 c
        have c := set_rs2 0 c
        have c := set_rs3 0 c
        have c := set_rm 0 c
        have c := set_csr 0 c
        have c := set_size 0 c
        have c := set_imm (immV p b) c
        have c := set_ui false c
        have c := set_un false c
        have c := set_wo false c
        exact atI_eq c rfl
      · have c := atI_below (atI_drew (atI_alloc HA.out (by simp only [sz_alloc]; omega) (Obj.cells #[.int .i64 0, .int .i64 0, .int .i64 0, .int .i64 0, .int .i64 0, .int .i64 0, .int .i64 0, .int .i64 0, .int .i64 0, .bool false, .bool false, .bool false] 25))) hb1 (by simp only [sz_drew, sz_alloc]; omega)
        repeat (refine atI_far ?_ (by omega))
        exact c
      · omega
      · simp only [sz_set, sz_alloc]; omega
  case rest =>
    obtain ⟨B, rfl, hI0, ⟨r2, r3⟩, hZ, hB1, hB2, hbc⟩ := hcut
    have HI0 := Lib.hid hI0; have HZ := Lib.hid hZ
    have c9 : wc.cell? ⟨B, 9, none⟩ = some (.bool false) := hI0.1 9
    have c10 : wc.cell? ⟨B, 10, none⟩ = some (.bool false) := hI0.1 10
    have f9 : wc.frozen? ⟨B, 9, none⟩ = false := hI0.2 9
    have f10 : wc.frozen? ⟨B, 10, none⟩ = false := hI0.2 10
    have d1 : ¬ B = w.heap.size := by omega
    have d2 : ¬ w.heap.size = B := by omega
    have t1 : (bits .and .u32 (p : Int) 131072 != 0) = has p 131072 := u32_has p 131072 hp (by decide)
    have t2 : (bits .and .u32 (p : Int) 262144 != 0) = has p 262144 := u32_has p 262144 hp (by decide)
    clear hI0 hZ
    go_wp2_with fail
    have A1 := set_un (has p 262144) (set_ui (has p 131072) HI0.out)
    refine (regs_c p b hp hb _ B _ (by simp only [sz_set]; omega) A1).mono ?_; rintro e w1 ⟨rfl, hI1, hb1, hB3⟩
    have HI1 := Lib.hid hI1
    have q3 : w1.cell? ⟨w.heap.size, 3, none⟩ = some (.int .u32 p) := by
      rw [hb1.cell (p := ⟨w.heap.size, 3, none⟩) (by show w.heap.size < B; omega), cell_set_far (by omega), cell_set_far (by omega)]; exact r3
    have hZ1 : AtI w1 (w.heap.size + 1) zeroI := atI_below (atI_far (atI_far HZ.out (by omega)) (by omega)) hb1 (by omega)
    have HZ1 := Lib.hid hZ1
    have hc1 : Below w.heap.size w w1 := below_step hb1 (Below.setCell (Below.setCell hbc (by show _ ≤ B; omega) _) (by show _ ≤ B; omega) _) (by omega)
    clear hI1 hZ1 hb1 A1
    go_wp2_with fail
    refine (sizes_c p b hp hb _ B _ hB3 HI1).mono ?_; rintro e w2 ⟨rfl, hI2, hb2, hB4⟩
    obtain ⟨X, hX⟩ : ∃ X, X = readF ⟨m, mt, k, p⟩ b := ⟨_, rfl⟩
    have hX2 : AtI w2 B X := by rw [sizesF_eq, regsF_eq] at hI2; rw [hX]; exact hI2
    have hZ2 : AtI w2 (w.heap.size + 1) zeroI := atI_below HZ1.out hb2 (by omega)
    have hc2 : Below w.heap.size w w2 := below_step hb2 hc1 (by omega)
    clear hI2 hb2 hc1 HI1 HZ1 HI0 HZ
    have HX := Lib.hid hX; clear hX
    have HX2 := Lib.hid hX2; have HZ2 := Lib.hid hZ2
    have x0 : w2.cell? ⟨B, 0, none⟩ = some (.int .i64 X.kind) := hX2.1 0
    have x1 : w2.cell? ⟨B, 1, none⟩ = some (.int .i64 X.rd) := hX2.1 1
    have x2 : w2.cell? ⟨B, 2, none⟩ = some (.int .i64 X.rs1) := hX2.1 2
    have x3 : w2.cell? ⟨B, 3, none⟩ = some (.int .i64 X.rs2) := hX2.1 3
    have x4 : w2.cell? ⟨B, 4, none⟩ = some (.int .i64 X.rs3) := hX2.1 4
    have x5 : w2.cell? ⟨B, 5, none⟩ = some (.int .i64 X.rm) := hX2.1 5
    have x6 : w2.cell? ⟨B, 6, none⟩ = some (.int .i64 X.csr) := hX2.1 6
    have x7 : w2.cell? ⟨B, 7, none⟩ = some (.int .i64 X.size) := hX2.1 7
    have x8 : w2.cell? ⟨B, 8, none⟩ = some (.int .i64 X.imm) := hX2.1 8
    have x9 : w2.cell? ⟨B, 9, none⟩ = some (.bool X.ui) := hX2.1 9
    have x10 : w2.cell? ⟨B, 10, none⟩ = some (.bool X.un) := hX2.1 10
    have x11 : w2.cell? ⟨B, 11, none⟩ = some (.bool X.wo) := hX2.1 11
    have z0 : w2.cell? ⟨w.heap.size + 1, 0, none⟩ = some (.int .i64 0) := hZ2.1 0
    have z1 : w2.cell? ⟨w.heap.size + 1, 1, none⟩ = some (.int .i64 0) := hZ2.1 1
    have z2 : w2.cell? ⟨w.heap.size + 1, 2, none⟩ = some (.int .i64 0) := hZ2.1 2
    have z3 : w2.cell? ⟨w.heap.size + 1, 3, none⟩ = some (.int .i64 0) := hZ2.1 3
    have z4 : w2.cell? ⟨w.heap.size + 1, 4, none⟩ = some (.int .i64 0) := hZ2.1 4
    have z5 : w2.cell? ⟨w.heap.size + 1, 5, none⟩ = some (.int .i64 0) := hZ2.1 5
    have z6 : w2.cell? ⟨w.heap.size + 1, 6, none⟩ = some (.int .i64 0) := hZ2.1 6
    have z7 : w2.cell? ⟨w.heap.size + 1, 7, none⟩ = some (.int .i64 0) := hZ2.1 7
    have z8 : w2.cell? ⟨w.heap.size + 1, 8, none⟩ = some (.int .i64 0) := hZ2.1 8
    have z9 : w2.cell? ⟨w.heap.size + 1, 9, none⟩ = some (.bool false) := hZ2.1 9
    have z10 : w2.cell? ⟨w.heap.size + 1, 10, none⟩ = some (.bool false) := hZ2.1 10
    have z11 : w2.cell? ⟨w.heap.size + 1, 11, none⟩ = some (.bool false) := hZ2.1 11
    have zf0 : w2.frozen? ⟨w.heap.size + 1, 0, none⟩ = false := hZ2.2 0
    have zf1 : w2.frozen? ⟨w.heap.size + 1, 1, none⟩ = false := hZ2.2 1
    have zf2 : w2.frozen? ⟨w.heap.size + 1, 2, none⟩ = false := hZ2.2 2
    have zf3 : w2.frozen? ⟨w.heap.size + 1, 3, none⟩ = false := hZ2.2 3
    have zf4 : w2.frozen? ⟨w.heap.size + 1, 4, none⟩ = false := hZ2.2 4
    have zf5 : w2.frozen? ⟨w.heap.size + 1, 5, none⟩ = false := hZ2.2 5
    have zf6 : w2.frozen? ⟨w.heap.size + 1, 6, none⟩ = false := hZ2.2 6
    have zf7 : w2.frozen? ⟨w.heap.size + 1, 7, none⟩ = false := hZ2.2 7
    have zf8 : w2.frozen? ⟨w.heap.size + 1, 8, none⟩ = false := hZ2.2 8
    have zf9 : w2.frozen? ⟨w.heap.size + 1, 9, none⟩ = false := hZ2.2 9
    have zf10 : w2.frozen? ⟨w.heap.size + 1, 10, none⟩ = false := hZ2.2 10
    have zf11 : w2.frozen? ⟨w.heap.size + 1, 11, none⟩ = false := hZ2.2 11
    clear hX2 hZ2 c9 c10 f9 f10 r2 r3 q3 t1 t2
    go_upto_region 6 with fail
    go_cut [] (fun wx => AtI wx (w.heap.size + 1) X ∧ Below w.heap.size w wx)
    case first =>
      go_wp2_with fail
      go_meet
      refine ⟨atI_eq (set_wo _ (set_un _ (set_ui _ (set_imm _ (set_size _ (set_csr _ (set_rm _ (set_rs3 _ (set_rs2 _ (set_rs1 _ (set_rd _ (set_kind _ (HZ2.out))))))))))))) (by cases X; rfl), (by repeat (first | (with_reducible first | exact Below.refl _ _ | assumption | exact Nat.le_refl _ | refine Below.drew ?_ | refine Below.alloc ?_ ?_ _ | refine Below.setCell ?_ ?_ _ | refine le_alloc ?_ | refine le_set ?_ | refine le_drew ?_ | refine below_step (by assumption) ?_ ?_ | refine le_below (by assumption) ?_) | (dsimp only; omega)))⟩
    case rest =>
      obtain ⟨hY, hbY⟩ := hcut
      have y0 : wc.cell? ⟨w.heap.size + 1, 0, none⟩ = some (.int .i64 X.kind) := hY.1 0
      have y1 : wc.cell? ⟨w.heap.size + 1, 1, none⟩ = some (.int .i64 X.rd) := hY.1 1
      have y2 : wc.cell? ⟨w.heap.size + 1, 2, none⟩ = some (.int .i64 X.rs1) := hY.1 2
      have y3 : wc.cell? ⟨w.heap.size + 1, 3, none⟩ = some (.int .i64 X.rs2) := hY.1 3
      have y4 : wc.cell? ⟨w.heap.size + 1, 4, none⟩ = some (.int .i64 X.rs3) := hY.1 4
      have y5 : wc.cell? ⟨w.heap.size + 1, 5, none⟩ = some (.int .i64 X.rm) := hY.1 5
      have y6 : wc.cell? ⟨w.heap.size + 1, 6, none⟩ = some (.int .i64 X.csr) := hY.1 6
      have y7 : wc.cell? ⟨w.heap.size + 1, 7, none⟩ = some (.int .i64 X.size) := hY.1 7
      have y8 : wc.cell? ⟨w.heap.size + 1, 8, none⟩ = some (.int .i64 X.imm) := hY.1 8
      have y9 : wc.cell? ⟨w.heap.size + 1, 9, none⟩ = some (.bool X.ui) := hY.1 9
      have y10 : wc.cell? ⟨w.heap.size + 1, 10, none⟩ = some (.bool X.un) := hY.1 10
      have y11 : wc.cell? ⟨w.heap.size + 1, 11, none⟩ = some (.bool X.wo) := hY.1 11
      clear x0 x1 x2 x3 x4 x5 x6 x7 x8 x9 x10 x11 z0 z1 z2 z3 z4 z5 z6 z7 z8 z9 z10 z11
      have HY := Lib.hid hY
      clear hY
      go_wp2_with fail
      refine bodyPost_ret (v := .agg (cellsI X)) (by simp [results, Try.results18, go_sem, y0, y1, y2, y3, y4, y5, y6, y7, y8, y9, y10, y11, cellsI] <;> (first | rfl | (repeat' (first | rfl | apply And.intro)))) rfl ⟨by rw [HX.out], hbY⟩
end Go.Proofs.Ytlohpakcikkdmaa
