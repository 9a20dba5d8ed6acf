/- The contract of Decode: its tables in memory. -/
import Derived.Test.YtlohpakcikkdmaaB61
import Derived.Test.YtlohpakcikkdmaaB62
import Derived.Test.YtlohpakcikkdmaaB63
import Derived.Laws.CopyOwn
import Derived.Test.YtlohpakcikkdmaaB8
namespace Go.Proofs.Ytlohpakcikkdmaa
open Go.ChangeShapes Go.WideShapes Go.ChangeAt Go.RowKit
set_option linter.unusedVariables false
set_option linter.unusedSimpArgs false

instance (p : Nat) : Decidable (OkImm p) := by unfold OkImm; infer_instance
instance (r : Row) : Decidable (OkR r) := by unfold OkR; infer_instance
theorem ok_wholes : ∀ r ∈ wholesL, OkR r := by decide +kernel
theorem ok_systems : ∀ r ∈ systemsL, OkR r := by decide +kernel
theorem ok_floats : ∀ r ∈ floatsL, OkR r := by decide +kernel
/-- At block B a table stands. -/
def TabAt (w : World) (B : Nat) (T : List Row) : Prop := ∀ o, w.cell? ⟨B, o, none⟩ = (cellsT T)[o]?
theorem tab_below {B B' : Nat} {w w' : World} {T : List Row} (h : TabAt w B T) (hb : Below B' w w') (hB : B < B') : TabAt w' B T :=
  fun o => by rw [hb.cell (p := ⟨B, o, none⟩) hB]; exact h o
theorem tab_alloc {w : World} {B : Nat} {T : List Row} (h : TabAt w B T) (hB : B < w.heap.size) (o : Obj) : TabAt (w.alloc o) B T := tab_below h ((Below.refl w.heap.size w).alloc (Nat.le_refl _) o) hB
def NoT (b k : Nat) : Prop := (0 < k → wholesL.find? (fun r => holdsR r b) = none) ∧ (1 < k → systemsL.find? (fun r => holdsR r b) = none) ∧ (2 < k → floatsL.find? (fun r => holdsR r b) = none)
theorem decF_0 (b : Nat) (r : Row) (h : wholesL.find? (fun r => holdsR r b) = some r) : decF b = readF r b := by
  unfold decF tableL; rw [List.find?_append, h]; rfl
theorem decF_1 (b : Nat) (r : Row) (h0 : wholesL.find? (fun r => holdsR r b) = none) (h : systemsL.find? (fun r => holdsR r b) = some r) : decF b = readF r b := by
  unfold decF tableL; rw [List.find?_append, h0, List.find?_append, h]; rfl
theorem decF_2 (b : Nat) (r : Row) (h0 : wholesL.find? (fun r => holdsR r b) = none) (h1 : systemsL.find? (fun r => holdsR r b) = none) (h : floatsL.find? (fun r => holdsR r b) = some r) : decF b = readF r b := by
  unfold decF tableL; rw [List.find?_append, h0, List.find?_append, h1, h]; rfl
theorem decF_3 (b : Nat) (h0 : wholesL.find? (fun r => holdsR r b) = none) (h1 : systemsL.find? (fun r => holdsR r b) = none) (h : floatsL.find? (fun r => holdsR r b) = none) : decF b = zeroI := by
  unfold decF tableL; rw [List.find?_append, h0, List.find?_append, h1, h]; rfl
theorem index_0 (a b c : Option Addr) (w : World) : (Instr.index 43 (.agg #[.slice a 44 44, .slice b 25 25, .slice c 26 26]) (.int .i64 0)).run Try.prog w = .ok (.slice a 44 44) w := by kernel_rfl
theorem index_1 (a b c : Option Addr) (w : World) : (Instr.index 43 (.agg #[.slice a 44 44, .slice b 25 25, .slice c 26 26]) (.int .i64 1)).run Try.prog w = .ok (.slice b 25 25) w := by kernel_rfl
theorem index_2 (a b c : Option Addr) (w : World) : (Instr.index 43 (.agg #[.slice a 44 44, .slice b 25 25, .slice c 26 26]) (.int .i64 2)).run Try.prog w = .ok (.slice c 26 26) w := by kernel_rfl
theorem heap_alloc_at (w : World) (o : Obj) (g : Nat) (h : w.heap.size = g) : (w.alloc o).heap[g]? = some o := by subst h; exact heap_alloc_last w o
theorem heap_alloc_past (w : World) (o : Obj) (g : Nat) (h : g < w.heap.size) : (w.alloc o).heap[g]? = w.heap[g]? := Below.heap_alloc w o g h
theorem store_row (w : World) (g : Nat) (t : TypeId) (old cells : Array Value) (hg : w.heap[g]? = some (.cells old t (0, 0))) (ho : old.size = cells.size) (h1 : cells.all (·.oneCell') = true) :
    (storeCells ⟨g, 0, none⟩ cells.toList 0).run Try.prog w = .ok () (w.setRow g cells) := by
  have := run_storeCells_from (P := Try.prog) g t cells.toList 0 old w hg (by simp; omega) (fun v hv => (Array.all_eq_true_iff_forall_mem.1 h1) v (by simpa using hv))
  simpa [ho] using this

set_option maxRecDepth 100000 in
set_option maxHeartbeats 2000000 in
theorem Decode_c (b : Nat) (hb : Hid (b < 4294967296)) (w : World) : Calls Try.prog 10 #[.int .u32 b] w (RetX (decF b) w) := by
  have hv36 := (zero_of_info zero36).1
  have hv38 := (zero_of_info zero38).1
  have hv40 := (zero_of_info zero40).1
  have zw := size_wholes
  have zs := size_systems
  have zf := size_floats
  have u36 := under36
  have u38 := under38
  have u40 := under40
  go_enter Try.func10, Try.ntmps10
  go_upto_region 1 with fail
  go_cut [3, 4, 5] (fun s3 s4 s5 wx => ∃ g1 g2 g3, s3 = .pointer (some ⟨g1, 0, none⟩) ∧ s4 = .pointer (some ⟨g2, 0, none⟩) ∧ s5 = .pointer (some ⟨g3, 0, none⟩) ∧ TabAt wx g1 wholesL ∧ TabAt wx g2 systemsL ∧ TabAt wx g3 floatsL ∧
    AtI wx w.heap.size zeroI ∧ w.heap.size < g1 ∧ g1 < wx.heap.size ∧ g2 < wx.heap.size ∧ g3 < wx.heap.size ∧ w.heap.size < g2 ∧ w.heap.size < g3 ∧ Below w.heap.size w wx)
  case first =>
    go_wp2_with fail
    refine (wholes_c _).mono ?_; rintro e w1 ⟨rfl, hb1⟩; obtain ⟨hc1, hf1⟩ := bcell hb1; have hz1 := hb1.size; (try simp only [sz_alloc, sz_drew, sz_set] at hz1 hc1 hf1); have l1_0 : w.heap.size < w1.heap.size := (by omega); have n1_0 : ¬ w.heap.size = w1.heap.size := (by omega); have m1_0 : ¬ w1.heap.size = w.heap.size := (by omega); have k1_0 := fun o => hc1 (w.heap.size) o (by omega); have f1_0 := fun o => hf1 (w.heap.size) o (by omega); (try simp (disch := (first | rfl | omega | (simp only [sz_alloc, sz_drew, sz_set]; omega))) only [sz_alloc, sz_drew, sz_set, World.cell?_drew, World.frozen?_drew, World.cell?_alloc_at, World.cell?_alloc_past, World.frozen?_alloc_at, World.frozen?_alloc_past] at k1_0 f1_0)
    clear hc1 hf1
    go_wp2_with fail
    refine (systems_c _).mono ?_; rintro e w2 ⟨rfl, hb2⟩; obtain ⟨hc2, hf2⟩ := bcell hb2; have hz2 := hb2.size; (try simp only [sz_alloc, sz_drew, sz_set] at hz2 hc2 hf2); have l2_0 : w.heap.size < w2.heap.size := (by omega); have n2_0 : ¬ w.heap.size = w2.heap.size := (by omega); have m2_0 : ¬ w2.heap.size = w.heap.size := (by omega); have k2_0 := fun o => hc2 (w.heap.size) o (by omega); have f2_0 := fun o => hf2 (w.heap.size) o (by omega); (try simp (disch := (first | rfl | omega | (simp only [sz_alloc, sz_drew, sz_set]; omega))) only [sz_alloc, sz_drew, sz_set, World.cell?_drew, World.frozen?_drew, World.cell?_alloc_at, World.cell?_alloc_past, World.frozen?_alloc_at, World.frozen?_alloc_past] at k2_0 f2_0)
    clear hc2 hf2
    go_wp2_with fail
    refine (floats_c _).mono ?_; rintro e w3 ⟨rfl, hb3⟩; obtain ⟨hc3, hf3⟩ := bcell hb3; have hz3 := hb3.size; (try simp only [sz_alloc, sz_drew, sz_set] at hz3 hc3 hf3); have l3_0 : w.heap.size < w3.heap.size := (by omega); have n3_0 : ¬ w.heap.size = w3.heap.size := (by omega); have m3_0 : ¬ w3.heap.size = w.heap.size := (by omega); have k3_0 := fun o => hc3 (w.heap.size) o (by omega); have f3_0 := fun o => hf3 (w.heap.size) o (by omega); (try simp (disch := (first | rfl | omega | (simp only [sz_alloc, sz_drew, sz_set]; omega))) only [sz_alloc, sz_drew, sz_set, World.cell?_drew, World.frozen?_drew, World.cell?_alloc_at, World.cell?_alloc_past, World.frozen?_alloc_at, World.frozen?_alloc_past] at k3_0 f3_0)
    clear hc3 hf3
    go_wp2_with fail
    obtain ⟨W4, hW4⟩ : ∃ W, W = ((w3.alloc (Obj.cells (noughtT 44) 36)).alloc (Obj.cells (noughtT 25) 38)).alloc (Obj.cells (noughtT 26) 40) := ⟨_, rfl⟩
    have q1 : W4.heap[w3.heap.size]? = some (.cells (noughtT 44) 36 (0, 0)) := by rw [hW4, heap_alloc_past _ _ _ (by simp only [sz_alloc]; omega), heap_alloc_past _ _ _ (by simp only [sz_alloc]; omega), heap_alloc_at _ _ _ rfl]
    have q2 : W4.heap[w3.heap.size + 1]? = some (.cells (noughtT 25) 38 (0, 0)) := by rw [hW4, heap_alloc_past _ _ _ (by simp only [sz_alloc]; omega), heap_alloc_at _ _ _ (by simp only [sz_alloc])]
    have q3 : W4.heap[w3.heap.size + 1 + 1]? = some (.cells (noughtT 26) 40 (0, 0)) := by rw [hW4, heap_alloc_at _ _ _ (by simp only [sz_alloc])]
    have s4 : W4.heap.size = w3.heap.size + 1 + 1 + 1 := by rw [hW4]; simp only [sz_alloc]
    have b4 : Below w.heap.size w W4 := by rw [hW4]; exact (by repeat (first | (with_reducible first | exact Below.refl _ _ | assumption | exact Nat.le_refl _ | refine Below.drew ?_ | refine Below.alloc ?_ ?_ _ | refine Below.setCell ?_ ?_ _ | refine le_alloc ?_ | refine le_set ?_ | refine le_drew ?_ | refine below_step (by assumption) ?_ ?_ | refine le_below (by assumption) ?_) | (dsimp only; omega)))
    have c4 : AtI W4 w.heap.size zeroI := by
      rw [hW4]
      refine atI_alloc (atI_alloc (atI_alloc ⟨fun o => ?_, fun o => ?_⟩ (by omega) _) (by simp only [sz_alloc]; omega) _) (by simp only [sz_alloc]; omega) _
      · rw [k3_0, k2_0, k1_0]; rfl
      · rw [f3_0, f2_0, f1_0]
    have hS1 := store_row W4 w3.heap.size 36 (noughtT 44) (cellsT wholesL) q1 (by decide +kernel) one_wholes
    rw [← hW4]
    clear hW4
    simp only [hS1, Result.andThen]
    rw [Oper.upon_skip]
    clear hS1
    have HQ := Lib.hid (And.intro q1 (And.intro q2 q3))
    have HC := Lib.hid c4
    clear q1 q2 q3 c4
    go_wp2_with fail
    have hS2 := store_row (W4.setRow w3.heap.size (cellsT wholesL)) (w3.heap.size + 1) 38 (noughtT 25) (cellsT systemsL) (by rw [setRow_other _ _ _ _ (by omega)]; exact HQ.out.2.1) (by decide +kernel) one_systems
    simp only [hS2, Result.andThen]
    rw [Oper.upon_skip]
    clear hS2
    go_wp2_with fail
    have hS3 := store_row ((W4.setRow w3.heap.size (cellsT wholesL)).setRow (w3.heap.size + 1) (cellsT systemsL)) (w3.heap.size + 1 + 1) 40 (noughtT 26) (cellsT floatsL) (by rw [setRow_other _ _ _ _ (by omega), setRow_other _ _ _ _ (by omega)]; exact HQ.out.2.2) (by decide +kernel) one_floats
    simp only [hS3, Result.andThen]
    rw [Oper.upon_skip]
    clear hS3
    go_wp2_with fail
    go_meet
    refine ⟨_, _, _, rfl, rfl, rfl, ?_, ?_, ?_, ?_, ?_, ?_, ?_, ?_, ?_, ?_, ?_⟩
    · intro o
      rw [cell_setRow_other _ _ _ _ (by show w3.heap.size ≠ _; omega), cell_setRow_other _ _ _ _ (by show w3.heap.size ≠ _; omega), cell_setRow_same _ _ _ _ _ _ _ HQ.out.1]
    · intro o
      rw [cell_setRow_other _ _ _ _ (by show w3.heap.size + 1 ≠ _; omega), cell_setRow_same _ _ _ _ _ _ _ (by rw [setRow_other _ _ _ _ (by omega)]; exact HQ.out.2.1)]
    · intro o
      rw [cell_setRow_same _ _ _ _ _ _ _ (by rw [setRow_other _ _ _ _ (by omega), setRow_other _ _ _ _ (by omega)]; exact HQ.out.2.2)]
    · refine ⟨fun o => ?_, fun o => ?_⟩
      · rw [cell_setRow_other _ _ _ _ (by show w.heap.size ≠ _; omega), cell_setRow_other _ _ _ _ (by show w.heap.size ≠ _; omega), cell_setRow_other _ _ _ _ (by show w.heap.size ≠ _; omega)]; exact HC.out.1 o
      · have e : ∀ (v : World) (g : Nat) (c : Array Value), w.heap.size ≠ g → (v.setRow g c).frozen? ⟨w.heap.size, o, none⟩ = v.frozen? ⟨w.heap.size, o, none⟩ := fun v g c h => by simp [World.frozen?, setRow_other v g w.heap.size c h]
        rw [e _ _ _ (by omega), e _ _ _ (by omega), e _ _ _ (by omega)]; exact HC.out.2 o
    · omega
    · simp only [setRow_size]; omega
    · simp only [setRow_size]; omega
    · simp only [setRow_size]; omega
    · omega
    · omega
    · exact below_setRow (below_setRow (below_setRow b4 (by omega) _) (by omega) _) (by omega) _
  case rest =>
    obtain ⟨g1, g2, g3, rfl, rfl, rfl, hT1, hT2, hT3, hI, l1, z1, z2, z3, l2, l3, hbc⟩ := hcut
    have HT1 := Lib.hid hT1; have HT2 := Lib.hid hT2; have HT3 := Lib.hid hT3; have HI := Lib.hid hI
    clear hT1 hT2 hT3 hI hv36 hv38 hv40 zw zs zf
    have hix0 := index_0 (some ⟨g1, 0, none⟩) (some ⟨g2, 0, none⟩) (some ⟨g3, 0, none⟩)
    have hix1 := index_1 (some ⟨g1, 0, none⟩) (some ⟨g2, 0, none⟩) (some ⟨g3, 0, none⟩)
    have hix2 := index_2 (some ⟨g1, 0, none⟩) (some ⟨g2, 0, none⟩) (some ⟨g3, 0, none⟩)
    go_wp2_with fail
    go_region
    all_goals go_wp2_with fail
    go_loopw [17] (fun i wr => ∃ k : Nat, k ≤ 3 ∧ i = .int .i64 k ∧ Hid (NoT b k) ∧ Hid (AtI wr w.heap.size zeroI) ∧ Hid (TabAt wr g1 wholesL) ∧ Hid (TabAt wr g2 systemsL) ∧ Hid (TabAt wr g3 floatsL) ∧ Below w.heap.size w wr ∧ wc.heap.size ≤ wr.heap.size) (fun i _ => 3 - (intOf i).toNat)
    case atStart => exact ⟨0, by omega, rfl, ⟨fun h => absurd h (by decide), fun h => absurd h (by decide), fun h => absurd h (by decide)⟩, HI, HT1, HT2, HT3, hbc.drew, Nat.le_refl _⟩
    case round =>
      clear HI HT1 HT2 HT3
      obtain ⟨k, hk, rfl, hN, HI, HT1, HT2, HT3, hbw, hzw⟩ := hrel
      have hk4 : k = 0 ∨ k = 1 ∨ k = 2 ∨ k = 3 := by omega
      clear hk
      rcases hk4 with rfl | rfl | rfl | rfl
      · cases hf : wholesL.find? (fun r => holdsR r b) with
        | none =>
          have HV : Hid (amongV wholesL b = .tuple #[.agg #[.int .u32 0, .int .u32 0, .int .u8 0, .int .u32 0], .bool false]) := by show _ = _; unfold amongV; rw [hf]; rfl
          have HN : Hid (NoT b 1) := ⟨fun h => hf, fun h => absurd h (by decide), fun h => absurd h (by decide)⟩
          clear hf
          go_wp2_with fail
          refine (among_c wholesL ok_wholes 44 rfl (by decide) b hb _ g1 (by omega) HT1 _).mono ?_; rintro e w5 ⟨rfl, hb5⟩
          rw [HV.out]
          have hz5 := hb5.size
          have HI5 := Lib.hid (atI_below HI.out hb5 (by omega))
          have HA1 := Lib.hid (tab_below HT1.out hb5 (by omega)); have HA2 := Lib.hid (tab_below HT2.out hb5 (by omega)); have HA3 := Lib.hid (tab_below HT3.out hb5 (by omega))
          go_wp2_with fail
          go_roundw
          case rel => exact ⟨1, by omega, by go_num, HN, atI_alloc HI5.out (by omega) _, tab_alloc HA1.out (by omega) _, tab_alloc HA2.out (by omega) _, tab_alloc HA3.out (by omega) _, (by repeat (first | (with_reducible first | exact Below.refl _ _ | assumption | exact Nat.le_refl _ | refine Below.drew ?_ | refine Below.alloc ?_ ?_ _ | refine Below.setCell ?_ ?_ _ | refine le_alloc ?_ | refine le_set ?_ | refine le_drew ?_ | refine below_step (by assumption) ?_ ?_ | refine le_below (by assumption) ?_) | (dsimp only; omega))), by simp only [sz_alloc]; omega⟩
          case measure => simp [intOf]
        | some r =>
          have HD := Lib.hid (decF_0 b r hf)
          have HO : Hid (OkR r) := ok_wholes r (List.mem_of_find?_eq_some hf)
          obtain ⟨m, mt, kd, p⟩ := r
          have HV : Hid (amongV wholesL b = .tuple #[.agg #[.int .u32 m, .int .u32 mt, .int .u8 kd, .int .u32 p], .bool true]) := by show _ = _; unfold amongV; rw [hf]; rfl
          clear hf
          go_wp2_with fail
          refine (among_c wholesL ok_wholes 44 rfl (by decide) b hb _ g1 (by omega) HT1 _).mono ?_; rintro e w5 ⟨rfl, hb5⟩
          rw [HV.out]
          have hz5 := hb5.size
          have HI5 := Lib.hid (atI_below HI.out hb5 (by omega))
          go_upto_region 7 with fail
          obtain ⟨X, hX⟩ : ∃ X, X = decF b := ⟨_, rfl⟩
          have HX := Lib.hid hX; clear hX
          go_cut [] (fun wx => AtI wx w.heap.size X ∧ Below w.heap.size w wx)
          case first =>
            go_wp2_with fail
            refine (read_c ⟨m, mt, kd, p⟩ b HO hb _).mono ?_; rintro e w6 ⟨rfl, hb6⟩
            have hz6 := hb6.size
            simp only [sz_alloc] at hz6
            have HI6 := Lib.hid (atI_below (atI_alloc HI5.out (by omega) (Obj.cells #[.int .u32 m, .int .u32 mt, .int .u8 kd, .int .u32 p] 35)) hb6 (by simp only [sz_alloc]; omega))
            rw [← HD.out, ← HX.out]
            dsimp only [cellsI]
            have z0' : w6.cell? ⟨w.heap.size, 0, none⟩ = some (.int .i64 0) := HI6.out.1 0
            have zf0' : w6.frozen? ⟨w.heap.size, 0, none⟩ = false := HI6.out.2 0
            have z1' : w6.cell? ⟨w.heap.size, 1, none⟩ = some (.int .i64 0) := HI6.out.1 1
            have zf1' : w6.frozen? ⟨w.heap.size, 1, none⟩ = false := HI6.out.2 1
            have z2' : w6.cell? ⟨w.heap.size, 2, none⟩ = some (.int .i64 0) := HI6.out.1 2
            have zf2' : w6.frozen? ⟨w.heap.size, 2, none⟩ = false := HI6.out.2 2
            have z3' : w6.cell? ⟨w.heap.size, 3, none⟩ = some (.int .i64 0) := HI6.out.1 3
            have zf3' : w6.frozen? ⟨w.heap.size, 3, none⟩ = false := HI6.out.2 3
            have z4' : w6.cell? ⟨w.heap.size, 4, none⟩ = some (.int .i64 0) := HI6.out.1 4
            have zf4' : w6.frozen? ⟨w.heap.size, 4, none⟩ = false := HI6.out.2 4
            have z5' : w6.cell? ⟨w.heap.size, 5, none⟩ = some (.int .i64 0) := HI6.out.1 5
            have zf5' : w6.frozen? ⟨w.heap.size, 5, none⟩ = false := HI6.out.2 5
            have z6' : w6.cell? ⟨w.heap.size, 6, none⟩ = some (.int .i64 0) := HI6.out.1 6
            have zf6' : w6.frozen? ⟨w.heap.size, 6, none⟩ = false := HI6.out.2 6
            have z7' : w6.cell? ⟨w.heap.size, 7, none⟩ = some (.int .i64 0) := HI6.out.1 7
            have zf7' : w6.frozen? ⟨w.heap.size, 7, none⟩ = false := HI6.out.2 7
            have z8' : w6.cell? ⟨w.heap.size, 8, none⟩ = some (.int .i64 0) := HI6.out.1 8
            have zf8' : w6.frozen? ⟨w.heap.size, 8, none⟩ = false := HI6.out.2 8
            have z9' : w6.cell? ⟨w.heap.size, 9, none⟩ = some (.bool false) := HI6.out.1 9
            have zf9' : w6.frozen? ⟨w.heap.size, 9, none⟩ = false := HI6.out.2 9
            have z10' : w6.cell? ⟨w.heap.size, 10, none⟩ = some (.bool false) := HI6.out.1 10
            have zf10' : w6.frozen? ⟨w.heap.size, 10, none⟩ = false := HI6.out.2 10
            have z11' : w6.cell? ⟨w.heap.size, 11, none⟩ = some (.bool false) := HI6.out.1 11
            have zf11' : w6.frozen? ⟨w.heap.size, 11, none⟩ = false := HI6.out.2 11
            go_wp2_with fail
            go_meet
            exact ⟨atI_eq (set_wo _ (set_un _ (set_ui _ (set_imm _ (set_size _ (set_csr _ (set_rm _ (set_rs3 _ (set_rs2 _ (set_rs1 _ (set_rd _ (set_kind _ (HI6.out))))))))))))) (by cases X; rfl), (by repeat (first | (with_reducible first | exact Below.refl _ _ | assumption | exact Nat.le_refl _ | refine Below.drew ?_ | refine Below.alloc ?_ ?_ _ | refine Below.setCell ?_ ?_ _ | refine le_alloc ?_ | refine le_set ?_ | refine le_drew ?_ | refine below_step (by assumption) ?_ ?_ | refine le_below (by assumption) ?_) | (dsimp only; omega)))⟩
          case rest =>
            obtain ⟨hY, hbY⟩ := hcut
            have y0 : wc.cell? ⟨w.heap.size, 0, none⟩ = some (.int .i64 X.kind) := hY.1 0
            have y1 : wc.cell? ⟨w.heap.size, 1, none⟩ = some (.int .i64 X.rd) := hY.1 1
            have y2 : wc.cell? ⟨w.heap.size, 2, none⟩ = some (.int .i64 X.rs1) := hY.1 2
            have y3 : wc.cell? ⟨w.heap.size, 3, none⟩ = some (.int .i64 X.rs2) := hY.1 3
            have y4 : wc.cell? ⟨w.heap.size, 4, none⟩ = some (.int .i64 X.rs3) := hY.1 4
            have y5 : wc.cell? ⟨w.heap.size, 5, none⟩ = some (.int .i64 X.rm) := hY.1 5
            have y6 : wc.cell? ⟨w.heap.size, 6, none⟩ = some (.int .i64 X.csr) := hY.1 6
            have y7 : wc.cell? ⟨w.heap.size, 7, none⟩ = some (.int .i64 X.size) := hY.1 7
            have y8 : wc.cell? ⟨w.heap.size, 8, none⟩ = some (.int .i64 X.imm) := hY.1 8
            have y9 : wc.cell? ⟨w.heap.size, 9, none⟩ = some (.bool X.ui) := hY.1 9
            have y10 : wc.cell? ⟨w.heap.size, 10, none⟩ = some (.bool X.un) := hY.1 10
            have y11 : wc.cell? ⟨w.heap.size, 11, none⟩ = some (.bool X.wo) := hY.1 11
            go_wp2_with fail
            refine bodyPost_ret (v := .agg (cellsI X)) (by simp [results, Try.results10, go_sem, y0, y1, y2, y3, y4, y5, y6, y7, y8, y9, y10, y11, cellsI] <;> (first | rfl | (repeat' (first | rfl | apply And.intro)))) rfl ⟨by rw [HX.out], hbY⟩
      · cases hf : systemsL.find? (fun r => holdsR r b) with
        | none =>
          have HV : Hid (amongV systemsL b = .tuple #[.agg #[.int .u32 0, .int .u32 0, .int .u8 0, .int .u32 0], .bool false]) := by show _ = _; unfold amongV; rw [hf]; rfl
          have HN : Hid (NoT b 2) := ⟨fun h => hN.out.1 (by decide), fun h => hf, fun h => absurd h (by decide)⟩
          clear hf
          go_wp2_with fail
          refine (among_c systemsL ok_systems 25 rfl (by decide) b hb _ g2 (by omega) HT2 _).mono ?_; rintro e w5 ⟨rfl, hb5⟩
          rw [HV.out]
          have hz5 := hb5.size
          have HI5 := Lib.hid (atI_below HI.out hb5 (by omega))
          have HA1 := Lib.hid (tab_below HT1.out hb5 (by omega)); have HA2 := Lib.hid (tab_below HT2.out hb5 (by omega)); have HA3 := Lib.hid (tab_below HT3.out hb5 (by omega))
          go_wp2_with fail
          go_roundw
          case rel => exact ⟨2, by omega, by go_num, HN, atI_alloc HI5.out (by omega) _, tab_alloc HA1.out (by omega) _, tab_alloc HA2.out (by omega) _, tab_alloc HA3.out (by omega) _, (by repeat (first | (with_reducible first | exact Below.refl _ _ | assumption | exact Nat.le_refl _ | refine Below.drew ?_ | refine Below.alloc ?_ ?_ _ | refine Below.setCell ?_ ?_ _ | refine le_alloc ?_ | refine le_set ?_ | refine le_drew ?_ | refine below_step (by assumption) ?_ ?_ | refine le_below (by assumption) ?_) | (dsimp only; omega))), by simp only [sz_alloc]; omega⟩
          case measure => simp [intOf]
        | some r =>
          have HD := Lib.hid (decF_1 b r (hN.out.1 (by decide)) hf)
          have HO : Hid (OkR r) := ok_systems r (List.mem_of_find?_eq_some hf)
          obtain ⟨m, mt, kd, p⟩ := r
          have HV : Hid (amongV systemsL b = .tuple #[.agg #[.int .u32 m, .int .u32 mt, .int .u8 kd, .int .u32 p], .bool true]) := by show _ = _; unfold amongV; rw [hf]; rfl
          clear hf
          go_wp2_with fail
          refine (among_c systemsL ok_systems 25 rfl (by decide) b hb _ g2 (by omega) HT2 _).mono ?_; rintro e w5 ⟨rfl, hb5⟩
          rw [HV.out]
          have hz5 := hb5.size
          have HI5 := Lib.hid (atI_below HI.out hb5 (by omega))
          go_upto_region 7 with fail
          obtain ⟨X, hX⟩ : ∃ X, X = decF b := ⟨_, rfl⟩
          have HX := Lib.hid hX; clear hX
          go_cut [] (fun wx => AtI wx w.heap.size X ∧ Below w.heap.size w wx)
          case first =>
            go_wp2_with fail
            refine (read_c ⟨m, mt, kd, p⟩ b HO hb _).mono ?_; rintro e w6 ⟨rfl, hb6⟩
            have hz6 := hb6.size
            simp only [sz_alloc] at hz6
            have HI6 := Lib.hid (atI_below (atI_alloc HI5.out (by omega) (Obj.cells #[.int .u32 m, .int .u32 mt, .int .u8 kd, .int .u32 p] 35)) hb6 (by simp only [sz_alloc]; omega))
            rw [← HD.out, ← HX.out]
            dsimp only [cellsI]
            have z0' : w6.cell? ⟨w.heap.size, 0, none⟩ = some (.int .i64 0) := HI6.out.1 0
            have zf0' : w6.frozen? ⟨w.heap.size, 0, none⟩ = false := HI6.out.2 0
            have z1' : w6.cell? ⟨w.heap.size, 1, none⟩ = some (.int .i64 0) := HI6.out.1 1
            have zf1' : w6.frozen? ⟨w.heap.size, 1, none⟩ = false := HI6.out.2 1
            have z2' : w6.cell? ⟨w.heap.size, 2, none⟩ = some (.int .i64 0) := HI6.out.1 2
            have zf2' : w6.frozen? ⟨w.heap.size, 2, none⟩ = false := HI6.out.2 2
            have z3' : w6.cell? ⟨w.heap.size, 3, none⟩ = some (.int .i64 0) := HI6.out.1 3
            have zf3' : w6.frozen? ⟨w.heap.size, 3, none⟩ = false := HI6.out.2 3
            have z4' : w6.cell? ⟨w.heap.size, 4, none⟩ = some (.int .i64 0) := HI6.out.1 4
            have zf4' : w6.frozen? ⟨w.heap.size, 4, none⟩ = false := HI6.out.2 4
            have z5' : w6.cell? ⟨w.heap.size, 5, none⟩ = some (.int .i64 0) := HI6.out.1 5
            have zf5' : w6.frozen? ⟨w.heap.size, 5, none⟩ = false := HI6.out.2 5
            have z6' : w6.cell? ⟨w.heap.size, 6, none⟩ = some (.int .i64 0) := HI6.out.1 6
            have zf6' : w6.frozen? ⟨w.heap.size, 6, none⟩ = false := HI6.out.2 6
            have z7' : w6.cell? ⟨w.heap.size, 7, none⟩ = some (.int .i64 0) := HI6.out.1 7
            have zf7' : w6.frozen? ⟨w.heap.size, 7, none⟩ = false := HI6.out.2 7
            have z8' : w6.cell? ⟨w.heap.size, 8, none⟩ = some (.int .i64 0) := HI6.out.1 8
            have zf8' : w6.frozen? ⟨w.heap.size, 8, none⟩ = false := HI6.out.2 8
            have z9' : w6.cell? ⟨w.heap.size, 9, none⟩ = some (.bool false) := HI6.out.1 9
            have zf9' : w6.frozen? ⟨w.heap.size, 9, none⟩ = false := HI6.out.2 9
            have z10' : w6.cell? ⟨w.heap.size, 10, none⟩ = some (.bool false) := HI6.out.1 10
            have zf10' : w6.frozen? ⟨w.heap.size, 10, none⟩ = false := HI6.out.2 10
            have z11' : w6.cell? ⟨w.heap.size, 11, none⟩ = some (.bool false) := HI6.out.1 11
            have zf11' : w6.frozen? ⟨w.heap.size, 11, none⟩ = false := HI6.out.2 11
            go_wp2_with fail
            go_meet
            exact ⟨atI_eq (set_wo _ (set_un _ (set_ui _ (set_imm _ (set_size _ (set_csr _ (set_rm _ (set_rs3 _ (set_rs2 _ (set_rs1 _ (set_rd _ (set_kind _ (HI6.out))))))))))))) (by cases X; rfl), (by repeat (first | (with_reducible first | exact Below.refl _ _ | assumption | exact Nat.le_refl _ | refine Below.drew ?_ | refine Below.alloc ?_ ?_ _ | refine Below.setCell ?_ ?_ _ | refine le_alloc ?_ | refine le_set ?_ | refine le_drew ?_ | refine below_step (by assumption) ?_ ?_ | refine le_below (by assumption) ?_) | (dsimp only; omega)))⟩
          case rest =>
            obtain ⟨hY, hbY⟩ := hcut
            have y0 : wc.cell? ⟨w.heap.size, 0, none⟩ = some (.int .i64 X.kind) := hY.1 0
            have y1 : wc.cell? ⟨w.heap.size, 1, none⟩ = some (.int .i64 X.rd) := hY.1 1
            have y2 : wc.cell? ⟨w.heap.size, 2, none⟩ = some (.int .i64 X.rs1) := hY.1 2
            have y3 : wc.cell? ⟨w.heap.size, 3, none⟩ = some (.int .i64 X.rs2) := hY.1 3
            have y4 : wc.cell? ⟨w.heap.size, 4, none⟩ = some (.int .i64 X.rs3) := hY.1 4
            have y5 : wc.cell? ⟨w.heap.size, 5, none⟩ = some (.int .i64 X.rm) := hY.1 5
            have y6 : wc.cell? ⟨w.heap.size, 6, none⟩ = some (.int .i64 X.csr) := hY.1 6
            have y7 : wc.cell? ⟨w.heap.size, 7, none⟩ = some (.int .i64 X.size) := hY.1 7
            have y8 : wc.cell? ⟨w.heap.size, 8, none⟩ = some (.int .i64 X.imm) := hY.1 8
            have y9 : wc.cell? ⟨w.heap.size, 9, none⟩ = some (.bool X.ui) := hY.1 9
            have y10 : wc.cell? ⟨w.heap.size, 10, none⟩ = some (.bool X.un) := hY.1 10
            have y11 : wc.cell? ⟨w.heap.size, 11, none⟩ = some (.bool X.wo) := hY.1 11
            go_wp2_with fail
            refine bodyPost_ret (v := .agg (cellsI X)) (by simp [results, Try.results10, go_sem, y0, y1, y2, y3, y4, y5, y6, y7, y8, y9, y10, y11, cellsI] <;> (first | rfl | (repeat' (first | rfl | apply And.intro)))) rfl ⟨by rw [HX.out], hbY⟩
      · cases hf : floatsL.find? (fun r => holdsR r b) with
        | none =>
          have HV : Hid (amongV floatsL b = .tuple #[.agg #[.int .u32 0, .int .u32 0, .int .u8 0, .int .u32 0], .bool false]) := by show _ = _; unfold amongV; rw [hf]; rfl
          have HN : Hid (NoT b 3) := ⟨fun h => hN.out.1 (by decide), fun h => hN.out.2.1 (by decide), fun h => hf⟩
          clear hf
          go_wp2_with fail
          refine (among_c floatsL ok_floats 26 rfl (by decide) b hb _ g3 (by omega) HT3 _).mono ?_; rintro e w5 ⟨rfl, hb5⟩
          rw [HV.out]
          have hz5 := hb5.size
          have HI5 := Lib.hid (atI_below HI.out hb5 (by omega))
          have HA1 := Lib.hid (tab_below HT1.out hb5 (by omega)); have HA2 := Lib.hid (tab_below HT2.out hb5 (by omega)); have HA3 := Lib.hid (tab_below HT3.out hb5 (by omega))
          go_wp2_with fail
          go_roundw
          case rel => exact ⟨3, by omega, by go_num, HN, atI_alloc HI5.out (by omega) _, tab_alloc HA1.out (by omega) _, tab_alloc HA2.out (by omega) _, tab_alloc HA3.out (by omega) _, (by repeat (first | (with_reducible first | exact Below.refl _ _ | assumption | exact Nat.le_refl _ | refine Below.drew ?_ | refine Below.alloc ?_ ?_ _ | refine Below.setCell ?_ ?_ _ | refine le_alloc ?_ | refine le_set ?_ | refine le_drew ?_ | refine below_step (by assumption) ?_ ?_ | refine le_below (by assumption) ?_) | (dsimp only; omega))), by simp only [sz_alloc]; omega⟩
          case measure => simp [intOf]
        | some r =>
          have HD := Lib.hid (decF_2 b r (hN.out.1 (by decide)) (hN.out.2.1 (by decide)) hf)
          have HO : Hid (OkR r) := ok_floats r (List.mem_of_find?_eq_some hf)
          obtain ⟨m, mt, kd, p⟩ := r
          have HV : Hid (amongV floatsL b = .tuple #[.agg #[.int .u32 m, .int .u32 mt, .int .u8 kd, .int .u32 p], .bool true]) := by show _ = _; unfold amongV; rw [hf]; rfl
          clear hf
          go_wp2_with fail
          refine (among_c floatsL ok_floats 26 rfl (by decide) b hb _ g3 (by omega) HT3 _).mono ?_; rintro e w5 ⟨rfl, hb5⟩
          rw [HV.out]
          have hz5 := hb5.size
          have HI5 := Lib.hid (atI_below HI.out hb5 (by omega))
          go_upto_region 7 with fail
          obtain ⟨X, hX⟩ : ∃ X, X = decF b := ⟨_, rfl⟩
          have HX := Lib.hid hX; clear hX
          go_cut [] (fun wx => AtI wx w.heap.size X ∧ Below w.heap.size w wx)
          case first =>
            go_wp2_with fail
            refine (read_c ⟨m, mt, kd, p⟩ b HO hb _).mono ?_; rintro e w6 ⟨rfl, hb6⟩
            have hz6 := hb6.size
            simp only [sz_alloc] at hz6
            have HI6 := Lib.hid (atI_below (atI_alloc HI5.out (by omega) (Obj.cells #[.int .u32 m, .int .u32 mt, .int .u8 kd, .int .u32 p] 35)) hb6 (by simp only [sz_alloc]; omega))
            rw [← HD.out, ← HX.out]
            dsimp only [cellsI]
            have z0' : w6.cell? ⟨w.heap.size, 0, none⟩ = some (.int .i64 0) := HI6.out.1 0
            have zf0' : w6.frozen? ⟨w.heap.size, 0, none⟩ = false := HI6.out.2 0
            have z1' : w6.cell? ⟨w.heap.size, 1, none⟩ = some (.int .i64 0) := HI6.out.1 1
            have zf1' : w6.frozen? ⟨w.heap.size, 1, none⟩ = false := HI6.out.2 1
            have z2' : w6.cell? ⟨w.heap.size, 2, none⟩ = some (.int .i64 0) := HI6.out.1 2
            have zf2' : w6.frozen? ⟨w.heap.size, 2, none⟩ = false := HI6.out.2 2
            have z3' : w6.cell? ⟨w.heap.size, 3, none⟩ = some (.int .i64 0) := HI6.out.1 3
            have zf3' : w6.frozen? ⟨w.heap.size, 3, none⟩ = false := HI6.out.2 3
            have z4' : w6.cell? ⟨w.heap.size, 4, none⟩ = some (.int .i64 0) := HI6.out.1 4
            have zf4' : w6.frozen? ⟨w.heap.size, 4, none⟩ = false := HI6.out.2 4
            have z5' : w6.cell? ⟨w.heap.size, 5, none⟩ = some (.int .i64 0) := HI6.out.1 5
            have zf5' : w6.frozen? ⟨w.heap.size, 5, none⟩ = false := HI6.out.2 5
            have z6' : w6.cell? ⟨w.heap.size, 6, none⟩ = some (.int .i64 0) := HI6.out.1 6
            have zf6' : w6.frozen? ⟨w.heap.size, 6, none⟩ = false := HI6.out.2 6
            have z7' : w6.cell? ⟨w.heap.size, 7, none⟩ = some (.int .i64 0) := HI6.out.1 7
            have zf7' : w6.frozen? ⟨w.heap.size, 7, none⟩ = false := HI6.out.2 7
            have z8' : w6.cell? ⟨w.heap.size, 8, none⟩ = some (.int .i64 0) := HI6.out.1 8
            have zf8' : w6.frozen? ⟨w.heap.size, 8, none⟩ = false := HI6.out.2 8
            have z9' : w6.cell? ⟨w.heap.size, 9, none⟩ = some (.bool false) := HI6.out.1 9
            have zf9' : w6.frozen? ⟨w.heap.size, 9, none⟩ = false := HI6.out.2 9
            have z10' : w6.cell? ⟨w.heap.size, 10, none⟩ = some (.bool false) := HI6.out.1 10
            have zf10' : w6.frozen? ⟨w.heap.size, 10, none⟩ = false := HI6.out.2 10
            have z11' : w6.cell? ⟨w.heap.size, 11, none⟩ = some (.bool false) := HI6.out.1 11
            have zf11' : w6.frozen? ⟨w.heap.size, 11, none⟩ = false := HI6.out.2 11
            go_wp2_with fail
            go_meet
            exact ⟨atI_eq (set_wo _ (set_un _ (set_ui _ (set_imm _ (set_size _ (set_csr _ (set_rm _ (set_rs3 _ (set_rs2 _ (set_rs1 _ (set_rd _ (set_kind _ (HI6.out))))))))))))) (by cases X; rfl), (by repeat (first | (with_reducible first | exact Below.refl _ _ | assumption | exact Nat.le_refl _ | refine Below.drew ?_ | refine Below.alloc ?_ ?_ _ | refine Below.setCell ?_ ?_ _ | refine le_alloc ?_ | refine le_set ?_ | refine le_drew ?_ | refine below_step (by assumption) ?_ ?_ | refine le_below (by assumption) ?_) | (dsimp only; omega)))⟩
          case rest =>
            obtain ⟨hY, hbY⟩ := hcut
            have y0 : wc.cell? ⟨w.heap.size, 0, none⟩ = some (.int .i64 X.kind) := hY.1 0
            have y1 : wc.cell? ⟨w.heap.size, 1, none⟩ = some (.int .i64 X.rd) := hY.1 1
            have y2 : wc.cell? ⟨w.heap.size, 2, none⟩ = some (.int .i64 X.rs1) := hY.1 2
            have y3 : wc.cell? ⟨w.heap.size, 3, none⟩ = some (.int .i64 X.rs2) := hY.1 3
            have y4 : wc.cell? ⟨w.heap.size, 4, none⟩ = some (.int .i64 X.rs3) := hY.1 4
            have y5 : wc.cell? ⟨w.heap.size, 5, none⟩ = some (.int .i64 X.rm) := hY.1 5
            have y6 : wc.cell? ⟨w.heap.size, 6, none⟩ = some (.int .i64 X.csr) := hY.1 6
            have y7 : wc.cell? ⟨w.heap.size, 7, none⟩ = some (.int .i64 X.size) := hY.1 7
            have y8 : wc.cell? ⟨w.heap.size, 8, none⟩ = some (.int .i64 X.imm) := hY.1 8
            have y9 : wc.cell? ⟨w.heap.size, 9, none⟩ = some (.bool X.ui) := hY.1 9
            have y10 : wc.cell? ⟨w.heap.size, 10, none⟩ = some (.bool X.un) := hY.1 10
            have y11 : wc.cell? ⟨w.heap.size, 11, none⟩ = some (.bool X.wo) := hY.1 11
            go_wp2_with fail
            refine bodyPost_ret (v := .agg (cellsI X)) (by simp [results, Try.results10, go_sem, y0, y1, y2, y3, y4, y5, y6, y7, y8, y9, y10, y11, cellsI] <;> (first | rfl | (repeat' (first | rfl | apply And.intro)))) rfl ⟨by rw [HX.out], hbY⟩
      · have hX : decF b = zeroI := decF_3 b (hN.out.1 (by decide)) (hN.out.2.1 (by decide)) (hN.out.2.2 (by decide))
        have HX := Lib.hid hX; clear hX
        go_upto_region 9 with fail
        go_cut [] (fun wx => AtI wx w.heap.size zeroI ∧ Below w.heap.size w wx)
        case first =>
          have z0' : wr.cell? ⟨w.heap.size, 0, none⟩ = some (.int .i64 0) := HI.out.1 0
          have zf0' : wr.frozen? ⟨w.heap.size, 0, none⟩ = false := HI.out.2 0
          have z1' : wr.cell? ⟨w.heap.size, 1, none⟩ = some (.int .i64 0) := HI.out.1 1
          have zf1' : wr.frozen? ⟨w.heap.size, 1, none⟩ = false := HI.out.2 1
          have z2' : wr.cell? ⟨w.heap.size, 2, none⟩ = some (.int .i64 0) := HI.out.1 2
          have zf2' : wr.frozen? ⟨w.heap.size, 2, none⟩ = false := HI.out.2 2
          have z3' : wr.cell? ⟨w.heap.size, 3, none⟩ = some (.int .i64 0) := HI.out.1 3
          have zf3' : wr.frozen? ⟨w.heap.size, 3, none⟩ = false := HI.out.2 3
          have z4' : wr.cell? ⟨w.heap.size, 4, none⟩ = some (.int .i64 0) := HI.out.1 4
          have zf4' : wr.frozen? ⟨w.heap.size, 4, none⟩ = false := HI.out.2 4
          have z5' : wr.cell? ⟨w.heap.size, 5, none⟩ = some (.int .i64 0) := HI.out.1 5
          have zf5' : wr.frozen? ⟨w.heap.size, 5, none⟩ = false := HI.out.2 5
          have z6' : wr.cell? ⟨w.heap.size, 6, none⟩ = some (.int .i64 0) := HI.out.1 6
          have zf6' : wr.frozen? ⟨w.heap.size, 6, none⟩ = false := HI.out.2 6
          have z7' : wr.cell? ⟨w.heap.size, 7, none⟩ = some (.int .i64 0) := HI.out.1 7
          have zf7' : wr.frozen? ⟨w.heap.size, 7, none⟩ = false := HI.out.2 7
          have z8' : wr.cell? ⟨w.heap.size, 8, none⟩ = some (.int .i64 0) := HI.out.1 8
          have zf8' : wr.frozen? ⟨w.heap.size, 8, none⟩ = false := HI.out.2 8
          have z9' : wr.cell? ⟨w.heap.size, 9, none⟩ = some (.bool false) := HI.out.1 9
          have zf9' : wr.frozen? ⟨w.heap.size, 9, none⟩ = false := HI.out.2 9
          have z10' : wr.cell? ⟨w.heap.size, 10, none⟩ = some (.bool false) := HI.out.1 10
          have zf10' : wr.frozen? ⟨w.heap.size, 10, none⟩ = false := HI.out.2 10
          have z11' : wr.cell? ⟨w.heap.size, 11, none⟩ = some (.bool false) := HI.out.1 11
          have zf11' : wr.frozen? ⟨w.heap.size, 11, none⟩ = false := HI.out.2 11
          go_wp2_with fail
          go_meet
          exact ⟨atI_eq (set_wo _ (set_un _ (set_ui _ (set_imm _ (set_size _ (set_csr _ (set_rm _ (set_rs3 _ (set_rs2 _ (set_rs1 _ (set_rd _ (set_kind _ (HI.out))))))))))))) rfl, (by repeat (first | (with_reducible first | exact Below.refl _ _ | assumption | exact Nat.le_refl _ | refine Below.drew ?_ | refine Below.alloc ?_ ?_ _ | refine Below.setCell ?_ ?_ _ | refine le_alloc ?_ | refine le_set ?_ | refine le_drew ?_ | refine below_step (by assumption) ?_ ?_ | refine le_below (by assumption) ?_) | (dsimp only; omega)))⟩
        case rest =>
          obtain ⟨hY, hbY⟩ := hcut
          obtain ⟨X, hZ⟩ : ∃ X, X = zeroI := ⟨_, rfl⟩
          rw [← hZ] at hY
          have HZ := Lib.hid hZ; clear hZ
          have y0 : wc.cell? ⟨w.heap.size, 0, none⟩ = some (.int .i64 X.kind) := hY.1 0
          have y1 : wc.cell? ⟨w.heap.size, 1, none⟩ = some (.int .i64 X.rd) := hY.1 1
          have y2 : wc.cell? ⟨w.heap.size, 2, none⟩ = some (.int .i64 X.rs1) := hY.1 2
          have y3 : wc.cell? ⟨w.heap.size, 3, none⟩ = some (.int .i64 X.rs2) := hY.1 3
          have y4 : wc.cell? ⟨w.heap.size, 4, none⟩ = some (.int .i64 X.rs3) := hY.1 4
          have y5 : wc.cell? ⟨w.heap.size, 5, none⟩ = some (.int .i64 X.rm) := hY.1 5
          have y6 : wc.cell? ⟨w.heap.size, 6, none⟩ = some (.int .i64 X.csr) := hY.1 6
          have y7 : wc.cell? ⟨w.heap.size, 7, none⟩ = some (.int .i64 X.size) := hY.1 7
          have y8 : wc.cell? ⟨w.heap.size, 8, none⟩ = some (.int .i64 X.imm) := hY.1 8
          have y9 : wc.cell? ⟨w.heap.size, 9, none⟩ = some (.bool X.ui) := hY.1 9
          have y10 : wc.cell? ⟨w.heap.size, 10, none⟩ = some (.bool X.un) := hY.1 10
          have y11 : wc.cell? ⟨w.heap.size, 11, none⟩ = some (.bool X.wo) := hY.1 11
          go_wp2_with fail
          refine bodyPost_ret (v := .agg (cellsI X)) (by simp [results, Try.results10, go_sem, y0, y1, y2, y3, y4, y5, y6, y7, y8, y9, y10, y11, cellsI] <;> (first | rfl | (repeat' (first | rfl | apply And.intro)))) rfl ⟨by rw [HX.out, HZ.out], hbY⟩
end Go.Proofs.Ytlohpakcikkdmaa
