/- The contract of Encode. -/
import Derived.Laws.CopyOwn
import Derived.Test.YtlohpakcikkdmaaE6
namespace Go.Proofs.Ytlohpakcikkdmaa
open Go.ChangeShapes Go.WideShapes Go.ChangeAt Go.RowKit
set_option linter.unusedVariables false
set_option linter.unusedSimpArgs false

theorem okw_wholes : ∀ r ∈ wholesL, OkW r := by unfold OkW; decide +kernel
theorem okw_systems : ∀ r ∈ systemsL, OkW r := by unfold OkW; decide +kernel
theorem okw_floats : ∀ r ∈ floatsL, OkW r := by unfold OkW; decide +kernel
theorem try_t (r : Row) (I : Ins) (h : attB r I = true) : tryF r I = some (attA r I) := by
  unfold attB at h; unfold attA tryF
  by_cases hk : (r.kind : Int) = I.kind
  · rw [if_pos hk] at h ⊢
    rw [if_pos ⟨hk, of_decide_eq_true h⟩]
  · rw [if_neg hk] at h; exact absurd h (by decide)
theorem try_f (r : Row) (I : Ins) (h : attB r I = false) : tryF r I = none := by
  unfold attB at h; unfold tryF
  by_cases hk : (r.kind : Int) = I.kind
  · rw [if_pos hk] at h
    rw [if_neg (fun hh => of_decide_eq_false h hh.2)]
  · rw [if_neg (fun hh => hk hh.1)]
/-- None of the first k rows has bits. -/
def NoTry (T : List Row) (I : Ins) (k : Nat) : Prop := ∀ r ∈ T.take k, tryF r I = none
theorem noTry_step {T : List Row} {I : Ins} {k : Nat} {r : Row} (h : NoTry T I k) (hr : T[k]? = some r) (hh : tryF r I = none) : NoTry T I (k + 1) := by
  intro q hq
  rw [List.take_add_one, hr] at hq
  simp only [Option.toList_some, List.mem_append, List.mem_singleton] at hq
  rcases hq with hq | rfl
  · exact h q hq
  · exact hh
theorem noTry_all {T : List Row} {I : Ins} (h : NoTry T I T.length) : T.findSome? (fun r => tryF r I) = none := by
  rw [List.findSome?_eq_none_iff]; intro r hr; exact h r (by simpa using hr)
theorem try_at {T : List Row} {I : Ins} {k : Nat} {r : Row} {n : Nat} (h : NoTry T I k) (hr : T[k]? = some r) (hh : tryF r I = some n) : T.findSome? (fun r => tryF r I) = some n := by
  obtain ⟨hk, hk'⟩ := List.getElem?_eq_some_iff.1 hr
  rw [← List.take_append_drop k T, List.findSome?_append, List.findSome?_eq_none_iff.2 h, List.drop_eq_getElem_cons hk, List.findSome?_cons, hk', hh]; rfl
def NoEnc (I : Ins) (k : Nat) : Prop := (0 < k → wholesL.findSome? (fun r => tryF r I) = none) ∧ (1 < k → systemsL.findSome? (fun r => tryF r I) = none) ∧ (2 < k → floatsL.findSome? (fun r => tryF r I) = none)
theorem encF_0 (I : Ins) (n : Nat) (h : wholesL.findSome? (fun r => tryF r I) = some n) : encF I = some n := by
  unfold encF tableL; rw [List.findSome?_append, h]; rfl
theorem encF_1 (I : Ins) (n : Nat) (h0 : wholesL.findSome? (fun r => tryF r I) = none) (h : systemsL.findSome? (fun r => tryF r I) = some n) : encF I = some n := by
  unfold encF tableL; rw [List.findSome?_append, h0, List.findSome?_append, h]; rfl
theorem encF_2 (I : Ins) (n : Nat) (h0 : wholesL.findSome? (fun r => tryF r I) = none) (h1 : systemsL.findSome? (fun r => tryF r I) = none) (h : floatsL.findSome? (fun r => tryF r I) = some n) : encF I = some n := by
  unfold encF tableL; rw [List.findSome?_append, h0, List.findSome?_append, h1, h]; rfl
theorem encF_3 (I : Ins) (h0 : wholesL.findSome? (fun r => tryF r I) = none) (h1 : systemsL.findSome? (fun r => tryF r I) = none) (h : floatsL.findSome? (fun r => tryF r I) = none) : encF I = none := by
  unfold encF tableL; rw [List.findSome?_append, h0, List.findSome?_append, h1, h]; rfl
def encN (I : Ins) : Nat := (encF I).getD 0
def encB (I : Ins) : Bool := (encF I).isSome

set_option maxRecDepth 100000 in
set_option maxHeartbeats 4000000 in
theorem Encode_c (I : Ins) (w : World) : Calls Try.prog 12 #[.agg (cellsI I)] w (RetA (encN I) (encB I) w) := by
  have hv36 := (zero_of_info zero36).1
  have hv38 := (zero_of_info zero38).1
  have hv40 := (zero_of_info zero40).1
  have zw := size_wholes
  have zs := size_systems
  have zf := size_floats
  have u36 := under36
  have u38 := under38
  have u40 := under40
  obtain ⟨J, hJ⟩ : ∃ J, J = I := ⟨_, rfl⟩
  have HE : Hid (encN I = encN J ∧ encB I = encB J) := by rw [hJ]; exact ⟨rfl, rfl⟩
  generalize encN I = en at HE ⊢
  generalize encB I = eb at HE ⊢
  obtain ⟨kind, rd, rs1, rs2, rs3, rm, csr, size, imm, ui, un, wo⟩ := I
  have HJ := Lib.hid hJ; clear hJ
  show Calls Try.prog 12 #[.agg #[.int .i64 kind, .int .i64 rd, .int .i64 rs1, .int .i64 rs2, .int .i64 rs3, .int .i64 rm, .int .i64 csr, .int .i64 size, .int .i64 imm, .bool ui, .bool un, .bool wo]] w (RetA en eb w)
  go_enter Try.func12, Try.ntmps12
  go_upto_region 1 with fail
  go_cut [4, 5, 6] (fun s3 s4 s5 wx => ∃ g1 g2 g3, s3 = .pointer (some ⟨g1, 0, none⟩) ∧ s4 = .pointer (some ⟨g2, 0, none⟩) ∧ s5 = .pointer (some ⟨g3, 0, none⟩) ∧ TabAt wx g1 wholesL ∧ TabAt wx g2 systemsL ∧ TabAt wx g3 floatsL ∧
    AtI wx w.heap.size J ∧ w.heap.size < g1 ∧ g1 < wx.heap.size ∧ g2 < wx.heap.size ∧ g3 < wx.heap.size ∧ w.heap.size < g2 ∧ w.heap.size < g3 ∧ Below w.heap.size w wx)
  case first =>
    go_wp2_with fail
    refine (wholes_c _).mono ?_; rintro e w1 ⟨rfl, hb1⟩; obtain ⟨hc1, hf1⟩ := bcell hb1; have hz1 := hb1.size; (try simp only [sz_alloc, sz_drew, sz_set] at hz1 hc1 hf1); have l1_0 : w.heap.size < w1.heap.size := (by omega); have n1_0 : ¬ w.heap.size = w1.heap.size := (by omega); have m1_0 : ¬ w1.heap.size = w.heap.size := (by omega); have k1_0 := fun o => hc1 (w.heap.size) o (by omega); have f1_0 := fun o => hf1 (w.heap.size) o (by omega); (try simp (disch := (first | rfl | omega | (simp only [sz_alloc, sz_drew, sz_set]; omega))) only [sz_alloc, sz_drew, sz_set, World.cell?_drew, World.frozen?_drew, World.cell?_alloc_at, World.cell?_alloc_past, World.frozen?_alloc_at, World.frozen?_alloc_past] at k1_0 f1_0)
    clear hc1 hf1
    go_wp2_with fail
    refine (systems_c _).mono ?_; rintro e w2 ⟨rfl, hb2⟩; obtain ⟨hc2, hf2⟩ := bcell hb2; have hz2 := hb2.size; (try simp only [sz_alloc, sz_drew, sz_set] at hz2 hc2 hf2); have l2_0 : w.heap.size < w2.heap.size := (by omega); have n2_0 : ¬ w.heap.size = w2.heap.size := (by omega); have m2_0 : ¬ w2.heap.size = w.heap.size := (by omega); have k2_0 := fun o => hc2 (w.heap.size) o (by omega); have f2_0 := fun o => hf2 (w.heap.size) o (by omega); (try simp (disch := (first | rfl | omega | (simp only [sz_alloc, sz_drew, sz_set]; omega))) only [sz_alloc, sz_drew, sz_set, World.cell?_drew, World.frozen?_drew, World.cell?_alloc_at, World.cell?_alloc_past, World.frozen?_alloc_at, World.frozen?_alloc_past] at k2_0 f2_0)
    clear hc2 hf2
    go_wp2_with fail
    refine (floats_c _).mono ?_; rintro e w3 ⟨rfl, hb3⟩; obtain ⟨hc3, hf3⟩ := bcell hb3; have hz3 := hb3.size; (try simp only [sz_alloc, sz_drew, sz_set] at hz3 hc3 hf3); have l3_0 : w.heap.size < w3.heap.size := (by omega); have n3_0 : ¬ w.heap.size = w3.heap.size := (by omega); have m3_0 : ¬ w3.heap.size = w.heap.size := (by omega); have k3_0 := fun o => hc3 (w.heap.size) o (by omega); have f3_0 := fun o => hf3 (w.heap.size) o (by omega); (try simp (disch := (first | rfl | omega | (simp only [sz_alloc, sz_drew, sz_set]; omega))) only [sz_alloc, sz_drew, sz_set, World.cell?_drew, World.frozen?_drew, World.cell?_alloc_at, World.cell?_alloc_past, World.frozen?_alloc_at, World.frozen?_alloc_past] at k3_0 f3_0)
    clear hc3 hf3
    go_wp2_with fail
    obtain ⟨W4, hW4⟩ : ∃ W, W = ((w3.alloc (Obj.cells (noughtT 44) 36)).alloc (Obj.cells (noughtT 25) 38)).alloc (Obj.cells (noughtT 26) 40) := ⟨_, rfl⟩
    have q1 : W4.heap[w3.heap.size]? = some (.cells (noughtT 44) 36 (0, 0)) := by rw [hW4, heap_alloc_past _ _ _ (by simp only [sz_alloc]; omega), heap_alloc_past _ _ _ (by simp only [sz_alloc]; omega), heap_alloc_at _ _ _ rfl]
    have q2 : W4.heap[w3.heap.size + 1]? = some (.cells (noughtT 25) 38 (0, 0)) := by rw [hW4, heap_alloc_past _ _ _ (by simp only [sz_alloc]; omega), heap_alloc_at _ _ _ (by simp only [sz_alloc])]
    have q3 : W4.heap[w3.heap.size + 1 + 1]? = some (.cells (noughtT 26) 40 (0, 0)) := by rw [hW4, heap_alloc_at _ _ _ (by simp only [sz_alloc])]
    have s4 : W4.heap.size = w3.heap.size + 1 + 1 + 1 := by rw [hW4]; simp only [sz_alloc]
    have b4 : Below w.heap.size w W4 := by rw [hW4]; exact (by repeat (first | (with_reducible first | exact Below.refl _ _ | assumption | exact Nat.le_refl _ | refine Below.drew ?_ | refine Below.alloc ?_ ?_ _ | refine Below.setCell ?_ ?_ _ | refine le_alloc ?_ | refine le_set ?_ | refine le_drew ?_ | refine below_step (by assumption) ?_ ?_ | refine le_below (by assumption) ?_) | (dsimp only; omega)))
    have c4 : AtI W4 w.heap.size J := by
      rw [hW4]
      refine atI_alloc (atI_alloc (atI_alloc ⟨fun o => ?_, fun o => ?_⟩ (by omega) _) (by simp only [sz_alloc]; omega) _) (by simp only [sz_alloc]; omega) _
      · rw [k3_0, k2_0, k1_0, HJ.out]; rfl
      · rw [f3_0, f2_0, f1_0]
    have hS1 := store_row W4 w3.heap.size 36 (noughtT 44) (cellsT wholesL) q1 (by decide +kernel) one_wholes
    rw [← hW4]
    clear hW4
    simp only [hS1, Result.andThen]
    rw [Oper.upon_skip]
    clear hS1
    have HQ := Lib.hid (And.intro q1 (And.intro q2 q3))
    have HC := Lib.hid c4
    clear q1 q2 q3 c4
    go_wp2_with fail
    have hS2 := store_row (W4.setRow w3.heap.size (cellsT wholesL)) (w3.heap.size + 1) 38 (noughtT 25) (cellsT systemsL) (by rw [setRow_other _ _ _ _ (by omega)]; exact HQ.out.2.1) (by decide +kernel) one_systems
    simp only [hS2, Result.andThen]
    rw [Oper.upon_skip]
    clear hS2
    go_wp2_with fail
    have hS3 := store_row ((W4.setRow w3.heap.size (cellsT wholesL)).setRow (w3.heap.size + 1) (cellsT systemsL)) (w3.heap.size + 1 + 1) 40 (noughtT 26) (cellsT floatsL) (by rw [setRow_other _ _ _ _ (by omega), setRow_other _ _ _ _ (by omega)]; exact HQ.out.2.2) (by decide +kernel) one_floats
    simp only [hS3, Result.andThen]
    rw [Oper.upon_skip]
    clear hS3
    go_wp2_with fail
    go_meet
    refine ⟨_, _, _, rfl, rfl, rfl, ?_, ?_, ?_, ?_, ?_, ?_, ?_, ?_, ?_, ?_, ?_⟩
    · intro o
      rw [cell_setRow_other _ _ _ _ (by show w3.heap.size ≠ _; omega), cell_setRow_other _ _ _ _ (by show w3.heap.size ≠ _; omega), cell_setRow_same _ _ _ _ _ _ _ HQ.out.1]
    · intro o
      rw [cell_setRow_other _ _ _ _ (by show w3.heap.size + 1 ≠ _; omega), cell_setRow_same _ _ _ _ _ _ _ (by rw [setRow_other _ _ _ _ (by omega)]; exact HQ.out.2.1)]
    · intro o
      rw [cell_setRow_same _ _ _ _ _ _ _ (by rw [setRow_other _ _ _ _ (by omega), setRow_other _ _ _ _ (by omega)]; exact HQ.out.2.2)]
    · refine ⟨fun o => ?_, fun o => ?_⟩
      · rw [cell_setRow_other _ _ _ _ (by show w.heap.size ≠ _; omega), cell_setRow_other _ _ _ _ (by show w.heap.size ≠ _; omega), cell_setRow_other _ _ _ _ (by show w.heap.size ≠ _; omega)]; exact HC.out.1 o
      · have e : ∀ (v : World) (g : Nat) (c : Array Value), w.heap.size ≠ g → (v.setRow g c).frozen? ⟨w.heap.size, o, none⟩ = v.frozen? ⟨w.heap.size, o, none⟩ := fun v g c h => by simp [World.frozen?, setRow_other v g w.heap.size c h]
        rw [e _ _ _ (by omega), e _ _ _ (by omega), e _ _ _ (by omega)]; exact HC.out.2 o
    · omega
    · simp only [setRow_size]; omega
    · simp only [setRow_size]; omega
    · simp only [setRow_size]; omega
    · omega
    · omega
    · exact below_setRow (below_setRow (below_setRow b4 (by omega) _) (by omega) _) (by omega) _
  case rest =>
    obtain ⟨g1, g2, g3, rfl, rfl, rfl, hT1, hT2, hT3, hI, l1, z1, z2, z3, l2, l3, hbc⟩ := hcut
    have HT1 := Lib.hid hT1; have HT2 := Lib.hid hT2; have HT3 := Lib.hid hT3; have HI := Lib.hid hI
    clear hT1 hT2 hT3 hI hv36 hv38 hv40 zw zs zf
    have hix0 := index_0 (some ⟨g1, 0, none⟩) (some ⟨g2, 0, none⟩) (some ⟨g3, 0, none⟩)
    have hix1 := index_1 (some ⟨g1, 0, none⟩) (some ⟨g2, 0, none⟩) (some ⟨g3, 0, none⟩)
    have hix2 := index_2 (some ⟨g1, 0, none⟩) (some ⟨g2, 0, none⟩) (some ⟨g3, 0, none⟩)
    go_wp2_with fail
    go_region
    all_goals go_wp2_with fail
    go_loopw [20] (fun i wr => ∃ k : Nat, k ≤ 3 ∧ i = .int .i64 k ∧ Hid (NoEnc J k) ∧ Hid (AtI wr w.heap.size J) ∧ Hid (TabAt wr g1 wholesL) ∧ Hid (TabAt wr g2 systemsL) ∧ Hid (TabAt wr g3 floatsL) ∧ Below w.heap.size w wr ∧ wc.heap.size ≤ wr.heap.size) (fun i _ => 3 - (intOf i).toNat)
    case atStart => exact ⟨0, by omega, rfl, ⟨fun h => absurd h (by decide), fun h => absurd h (by decide), fun h => absurd h (by decide)⟩, HI, HT1, HT2, HT3, hbc.drew, Nat.le_refl _⟩
    case round =>
      clear HI HT1 HT2 HT3
      obtain ⟨k, hk, rfl, hN, HI, HT1, HT2, HT3, hbw, hzw⟩ := hrel
      have hk4 : k = 0 ∨ k = 1 ∨ k = 2 ∨ k = 3 := by omega
      clear hk
      rcases hk4 with rfl | rfl | rfl | rfl
      · go_wp2_with fail
        go_loopw [25] (fun i wr => ∃ j : Nat, j ≤ 44 ∧ i = .int .i64 j ∧ Hid (NoTry wholesL J j) ∧ Hid (AtI wr w.heap.size J) ∧ Hid (TabAt wr g1 wholesL) ∧ Hid (TabAt wr g2 systemsL) ∧ Hid (TabAt wr g3 floatsL) ∧ Below w.heap.size w wr ∧ wc.heap.size ≤ wr.heap.size) (fun i _ => 44 - (intOf i).toNat)
        case atStart => exact ⟨0, by omega, rfl, fun r hr => by simp at hr, HI, HT1, HT2, HT3, hbw, hzw⟩
        case round =>
          clear HI HT1 HT2 HT3 hbw hzw
          obtain ⟨j, hj, rfl, hM, HJ2, HT1, HT2, HT3, hbw, hzw⟩ := hrel
          have hzl : w.heap.size < wr.heap.size := by omega
          have hzn : ¬ w.heap.size = wr.heap.size := by omega
          by_cases hlt : j < 44
          · have hlt' : (j : Int) < 44 := by omega
            obtain ⟨r, hr⟩ : ∃ r, wholesL[j]? = some r := ⟨_, List.getElem?_eq_getElem (show j < wholesL.length from hlt)⟩
            have HR := Lib.hid hr
            have HO : Hid (OkW r) := okw_wholes r (List.mem_of_getElem? hr)
            obtain ⟨q0, q1, q2, q3⟩ := cellsT_get wholesL j r hr
            clear hr
            have hat := Lib.hid (fun v => attempt_c r HO J v)
            cases hv : attB r J with
            | false =>
              have HF := Lib.hid (try_f r J hv)
              rw [hv] at hat
              obtain ⟨m, mt, kd, p⟩ := r
              have c0 : wr.cell? ⟨g1, j * 4, none⟩ = some (.int .u32 m) := by rw [HT1.out, Nat.mul_comm]; exact q0
              have c1 : wr.cell? ⟨g1, j * 4 + 1, none⟩ = some (.int .u32 mt) := by rw [HT1.out, Nat.mul_comm]; exact q1
              have c2 : wr.cell? ⟨g1, j * 4 + 2, none⟩ = some (.int .u8 kd) := by rw [HT1.out, Nat.mul_comm]; exact q2
              have c3 : wr.cell? ⟨g1, j * 4 + 3, none⟩ = some (.int .u32 p) := by rw [HT1.out, Nat.mul_comm]; exact q3
              have b0 : wr.cell? ⟨w.heap.size, 0, none⟩ = some (.int .i64 kind) := (HJ2.out.1 0).trans (by rw [HJ.out]; rfl)
              have b1 : wr.cell? ⟨w.heap.size, 1, none⟩ = some (.int .i64 rd) := (HJ2.out.1 1).trans (by rw [HJ.out]; rfl)
              have b2 : wr.cell? ⟨w.heap.size, 2, none⟩ = some (.int .i64 rs1) := (HJ2.out.1 2).trans (by rw [HJ.out]; rfl)
              have b3 : wr.cell? ⟨w.heap.size, 3, none⟩ = some (.int .i64 rs2) := (HJ2.out.1 3).trans (by rw [HJ.out]; rfl)
              have b4 : wr.cell? ⟨w.heap.size, 4, none⟩ = some (.int .i64 rs3) := (HJ2.out.1 4).trans (by rw [HJ.out]; rfl)
              have b5 : wr.cell? ⟨w.heap.size, 5, none⟩ = some (.int .i64 rm) := (HJ2.out.1 5).trans (by rw [HJ.out]; rfl)
              have b6 : wr.cell? ⟨w.heap.size, 6, none⟩ = some (.int .i64 csr) := (HJ2.out.1 6).trans (by rw [HJ.out]; rfl)
              have b7 : wr.cell? ⟨w.heap.size, 7, none⟩ = some (.int .i64 size) := (HJ2.out.1 7).trans (by rw [HJ.out]; rfl)
              have b8 : wr.cell? ⟨w.heap.size, 8, none⟩ = some (.int .i64 imm) := (HJ2.out.1 8).trans (by rw [HJ.out]; rfl)
              have b9 : wr.cell? ⟨w.heap.size, 9, none⟩ = some (.bool ui) := (HJ2.out.1 9).trans (by rw [HJ.out]; rfl)
              have b10 : wr.cell? ⟨w.heap.size, 10, none⟩ = some (.bool un) := (HJ2.out.1 10).trans (by rw [HJ.out]; rfl)
              have b11 : wr.cell? ⟨w.heap.size, 11, none⟩ = some (.bool wo) := (HJ2.out.1 11).trans (by rw [HJ.out]; rfl)
              have hJeq := HJ.out
              generalize attA ⟨m, mt, kd, p⟩ J = aa at hat
              have hat2 : Hid (∀ v, Calls Try.prog 21 #[.agg #[.int .u32 m, .int .u32 mt, .int .u8 kd, .int .u32 p], .agg #[.int .i64 kind, .int .i64 rd, .int .i64 rs1, .int .i64 rs2, .int .i64 rs3, .int .i64 rm, .int .i64 csr, .int .i64 size, .int .i64 imm, .bool ui, .bool un, .bool wo]] v (RetA aa false v)) := fun v => by have h := hat.out v; rw [hJeq] at h; exact h
              clear hv hat q0 q1 q2 q3 hJeq
              go_wp2_with fail
              refine (hat2.out _).mono ?_; rintro e w9 ⟨rfl, hb9⟩
              have hz9 := hb9.size
              simp only [sz_alloc] at hz9
              have HJ9 := Lib.hid (atI_below HJ2.out (below_step hb9 ((Below.refl wr.heap.size wr).alloc (Nat.le_refl _) _) (by simp only [sz_alloc]; omega)) (by omega))
              have HA1 := Lib.hid (tab_below HT1.out (below_step hb9 ((Below.refl wr.heap.size wr).alloc (Nat.le_refl _) _) (by simp only [sz_alloc]; omega)) (by omega))
              have HA2 := Lib.hid (tab_below HT2.out (below_step hb9 ((Below.refl wr.heap.size wr).alloc (Nat.le_refl _) _) (by simp only [sz_alloc]; omega)) (by omega))
              have HA3 := Lib.hid (tab_below HT3.out (below_step hb9 ((Below.refl wr.heap.size wr).alloc (Nat.le_refl _) _) (by simp only [sz_alloc]; omega)) (by omega))
              go_wp2_with fail
              go_roundw
              case rel =>
                (repeat apply Exists.intro)
                refine ⟨?_, rfl⟩
                exact ⟨j + 1, by omega, by go_num, noTry_step hM.out HR.out HF.out, HJ9, HA1, HA2, HA3, (by repeat (first | (with_reducible first | exact Below.refl _ _ | assumption | exact Nat.le_refl _ | refine Below.drew ?_ | refine Below.alloc ?_ ?_ _ | refine Below.setCell ?_ ?_ _ | refine le_alloc ?_ | refine le_set ?_ | refine le_drew ?_ | refine below_step (by assumption) ?_ ?_ | refine le_below (by assumption) ?_) | (dsimp only; omega))), by omega⟩
              case measure => simp [intOf]; omega
            | true =>
              have HF := Lib.hid (encF_0 J _ (try_at hM.out HR.out (try_t r J hv)))
              rw [hv] at hat
              obtain ⟨m, mt, kd, p⟩ := r
              have c0 : wr.cell? ⟨g1, j * 4, none⟩ = some (.int .u32 m) := by rw [HT1.out, Nat.mul_comm]; exact q0
              have c1 : wr.cell? ⟨g1, j * 4 + 1, none⟩ = some (.int .u32 mt) := by rw [HT1.out, Nat.mul_comm]; exact q1
              have c2 : wr.cell? ⟨g1, j * 4 + 2, none⟩ = some (.int .u8 kd) := by rw [HT1.out, Nat.mul_comm]; exact q2
              have c3 : wr.cell? ⟨g1, j * 4 + 3, none⟩ = some (.int .u32 p) := by rw [HT1.out, Nat.mul_comm]; exact q3
              have b0 : wr.cell? ⟨w.heap.size, 0, none⟩ = some (.int .i64 kind) := (HJ2.out.1 0).trans (by rw [HJ.out]; rfl)
              have b1 : wr.cell? ⟨w.heap.size, 1, none⟩ = some (.int .i64 rd) := (HJ2.out.1 1).trans (by rw [HJ.out]; rfl)
              have b2 : wr.cell? ⟨w.heap.size, 2, none⟩ = some (.int .i64 rs1) := (HJ2.out.1 2).trans (by rw [HJ.out]; rfl)
              have b3 : wr.cell? ⟨w.heap.size, 3, none⟩ = some (.int .i64 rs2) := (HJ2.out.1 3).trans (by rw [HJ.out]; rfl)
              have b4 : wr.cell? ⟨w.heap.size, 4, none⟩ = some (.int .i64 rs3) := (HJ2.out.1 4).trans (by rw [HJ.out]; rfl)
              have b5 : wr.cell? ⟨w.heap.size, 5, none⟩ = some (.int .i64 rm) := (HJ2.out.1 5).trans (by rw [HJ.out]; rfl)
              have b6 : wr.cell? ⟨w.heap.size, 6, none⟩ = some (.int .i64 csr) := (HJ2.out.1 6).trans (by rw [HJ.out]; rfl)
              have b7 : wr.cell? ⟨w.heap.size, 7, none⟩ = some (.int .i64 size) := (HJ2.out.1 7).trans (by rw [HJ.out]; rfl)
              have b8 : wr.cell? ⟨w.heap.size, 8, none⟩ = some (.int .i64 imm) := (HJ2.out.1 8).trans (by rw [HJ.out]; rfl)
              have b9 : wr.cell? ⟨w.heap.size, 9, none⟩ = some (.bool ui) := (HJ2.out.1 9).trans (by rw [HJ.out]; rfl)
              have b10 : wr.cell? ⟨w.heap.size, 10, none⟩ = some (.bool un) := (HJ2.out.1 10).trans (by rw [HJ.out]; rfl)
              have b11 : wr.cell? ⟨w.heap.size, 11, none⟩ = some (.bool wo) := (HJ2.out.1 11).trans (by rw [HJ.out]; rfl)
              have hJeq := HJ.out
              generalize attA ⟨m, mt, kd, p⟩ J = aa at hat HF
              have hat2 : Hid (∀ v, Calls Try.prog 21 #[.agg #[.int .u32 m, .int .u32 mt, .int .u8 kd, .int .u32 p], .agg #[.int .i64 kind, .int .i64 rd, .int .i64 rs1, .int .i64 rs2, .int .i64 rs3, .int .i64 rm, .int .i64 csr, .int .i64 size, .int .i64 imm, .bool ui, .bool un, .bool wo]] v (RetA aa true v)) := fun v => by have h := hat.out v; rw [hJeq] at h; exact h
              have HQ : Hid (en = aa ∧ eb = true) := ⟨by rw [HE.out.1]; unfold encN; rw [HF.out]; rfl, by rw [HE.out.2]; unfold encB; rw [HF.out]; rfl⟩
              clear hv hat q0 q1 q2 q3 hJeq
              go_wp2_with fail
              refine (hat2.out _).mono ?_; rintro e w9 ⟨rfl, hb9⟩
              have hz9 := hb9.size
              simp only [sz_alloc] at hz9
              go_wp2_with fail
              go_ret2
              exact ⟨by rw [HQ.out.1, HQ.out.2]; rfl, (by repeat (first | (with_reducible first | exact Below.refl _ _ | assumption | exact Nat.le_refl _ | refine Below.drew ?_ | refine Below.alloc ?_ ?_ _ | refine Below.setCell ?_ ?_ _ | refine le_alloc ?_ | refine le_set ?_ | refine le_drew ?_ | refine below_step (by assumption) ?_ ?_ | refine le_below (by assumption) ?_) | (dsimp only; omega)))⟩
          · obtain rfl : j = 44 := by omega
            have HN2 : Hid (NoEnc J 1) := ⟨fun h => noTry_all (by exact hM.out), fun h => absurd h (by decide), fun h => absurd h (by decide)⟩
            go_wp2_with fail
            go_roundw
            case rel => exact ⟨1, by omega, by go_num, HN2, HJ2, HT1, HT2, HT3, hbw, hzw⟩
            case measure => simp [intOf]
      · go_wp2_with fail
        go_loopw [25] (fun i wr => ∃ j : Nat, j ≤ 25 ∧ i = .int .i64 j ∧ Hid (NoTry systemsL J j) ∧ Hid (AtI wr w.heap.size J) ∧ Hid (TabAt wr g1 wholesL) ∧ Hid (TabAt wr g2 systemsL) ∧ Hid (TabAt wr g3 floatsL) ∧ Below w.heap.size w wr ∧ wc.heap.size ≤ wr.heap.size) (fun i _ => 25 - (intOf i).toNat)
        case atStart => exact ⟨0, by omega, rfl, fun r hr => by simp at hr, HI, HT1, HT2, HT3, hbw, hzw⟩
        case round =>
          clear HI HT1 HT2 HT3 hbw hzw
          obtain ⟨j, hj, rfl, hM, HJ2, HT1, HT2, HT3, hbw, hzw⟩ := hrel
          have hzl : w.heap.size < wr.heap.size := by omega
          have hzn : ¬ w.heap.size = wr.heap.size := by omega
          by_cases hlt : j < 25
          · have hlt' : (j : Int) < 25 := by omega
            obtain ⟨r, hr⟩ : ∃ r, systemsL[j]? = some r := ⟨_, List.getElem?_eq_getElem (show j < systemsL.length from hlt)⟩
            have HR := Lib.hid hr
            have HO : Hid (OkW r) := okw_systems r (List.mem_of_getElem? hr)
            obtain ⟨q0, q1, q2, q3⟩ := cellsT_get systemsL j r hr
            clear hr
            have hat := Lib.hid (fun v => attempt_c r HO J v)
            cases hv : attB r J with
            | false =>
              have HF := Lib.hid (try_f r J hv)
              rw [hv] at hat
              obtain ⟨m, mt, kd, p⟩ := r
              have c0 : wr.cell? ⟨g2, j * 4, none⟩ = some (.int .u32 m) := by rw [HT2.out, Nat.mul_comm]; exact q0
              have c1 : wr.cell? ⟨g2, j * 4 + 1, none⟩ = some (.int .u32 mt) := by rw [HT2.out, Nat.mul_comm]; exact q1
              have c2 : wr.cell? ⟨g2, j * 4 + 2, none⟩ = some (.int .u8 kd) := by rw [HT2.out, Nat.mul_comm]; exact q2
              have c3 : wr.cell? ⟨g2, j * 4 + 3, none⟩ = some (.int .u32 p) := by rw [HT2.out, Nat.mul_comm]; exact q3
              have b0 : wr.cell? ⟨w.heap.size, 0, none⟩ = some (.int .i64 kind) := (HJ2.out.1 0).trans (by rw [HJ.out]; rfl)
              have b1 : wr.cell? ⟨w.heap.size, 1, none⟩ = some (.int .i64 rd) := (HJ2.out.1 1).trans (by rw [HJ.out]; rfl)
              have b2 : wr.cell? ⟨w.heap.size, 2, none⟩ = some (.int .i64 rs1) := (HJ2.out.1 2).trans (by rw [HJ.out]; rfl)
              have b3 : wr.cell? ⟨w.heap.size, 3, none⟩ = some (.int .i64 rs2) := (HJ2.out.1 3).trans (by rw [HJ.out]; rfl)
              have b4 : wr.cell? ⟨w.heap.size, 4, none⟩ = some (.int .i64 rs3) := (HJ2.out.1 4).trans (by rw [HJ.out]; rfl)
              have b5 : wr.cell? ⟨w.heap.size, 5, none⟩ = some (.int .i64 rm) := (HJ2.out.1 5).trans (by rw [HJ.out]; rfl)
              have b6 : wr.cell? ⟨w.heap.size, 6, none⟩ = some (.int .i64 csr) := (HJ2.out.1 6).trans (by rw [HJ.out]; rfl)
              have b7 : wr.cell? ⟨w.heap.size, 7, none⟩ = some (.int .i64 size) := (HJ2.out.1 7).trans (by rw [HJ.out]; rfl)
              have b8 : wr.cell? ⟨w.heap.size, 8, none⟩ = some (.int .i64 imm) := (HJ2.out.1 8).trans (by rw [HJ.out]; rfl)
              have b9 : wr.cell? ⟨w.heap.size, 9, none⟩ = some (.bool ui) := (HJ2.out.1 9).trans (by rw [HJ.out]; rfl)
              have b10 : wr.cell? ⟨w.heap.size, 10, none⟩ = some (.bool un) := (HJ2.out.1 10).trans (by rw [HJ.out]; rfl)
              have b11 : wr.cell? ⟨w.heap.size, 11, none⟩ = some (.bool wo) := (HJ2.out.1 11).trans (by rw [HJ.out]; rfl)
              have hJeq := HJ.out
              generalize attA ⟨m, mt, kd, p⟩ J = aa at hat
              have hat2 : Hid (∀ v, Calls Try.prog 21 #[.agg #[.int .u32 m, .int .u32 mt, .int .u8 kd, .int .u32 p], .agg #[.int .i64 kind, .int .i64 rd, .int .i64 rs1, .int .i64 rs2, .int .i64 rs3, .int .i64 rm, .int .i64 csr, .int .i64 size, .int .i64 imm, .bool ui, .bool un, .bool wo]] v (RetA aa false v)) := fun v => by have h := hat.out v; rw [hJeq] at h; exact h
              clear hv hat q0 q1 q2 q3 hJeq
              go_wp2_with fail
              refine (hat2.out _).mono ?_; rintro e w9 ⟨rfl, hb9⟩
              have hz9 := hb9.size
              simp only [sz_alloc] at hz9
              have HJ9 := Lib.hid (atI_below HJ2.out (below_step hb9 ((Below.refl wr.heap.size wr).alloc (Nat.le_refl _) _) (by simp only [sz_alloc]; omega)) (by omega))
              have HA1 := Lib.hid (tab_below HT1.out (below_step hb9 ((Below.refl wr.heap.size wr).alloc (Nat.le_refl _) _) (by simp only [sz_alloc]; omega)) (by omega))
              have HA2 := Lib.hid (tab_below HT2.out (below_step hb9 ((Below.refl wr.heap.size wr).alloc (Nat.le_refl _) _) (by simp only [sz_alloc]; omega)) (by omega))
              have HA3 := Lib.hid (tab_below HT3.out (below_step hb9 ((Below.refl wr.heap.size wr).alloc (Nat.le_refl _) _) (by simp only [sz_alloc]; omega)) (by omega))
              go_wp2_with fail
              go_roundw
              case rel =>
                (repeat apply Exists.intro)
                refine ⟨?_, rfl⟩
                exact ⟨j + 1, by omega, by go_num, noTry_step hM.out HR.out HF.out, HJ9, HA1, HA2, HA3, (by repeat (first | (with_reducible first | exact Below.refl _ _ | assumption | exact Nat.le_refl _ | refine Below.drew ?_ | refine Below.alloc ?_ ?_ _ | refine Below.setCell ?_ ?_ _ | refine le_alloc ?_ | refine le_set ?_ | refine le_drew ?_ | refine below_step (by assumption) ?_ ?_ | refine le_below (by assumption) ?_) | (dsimp only; omega))), by omega⟩
              case measure => simp [intOf]; omega
            | true =>
              have HF := Lib.hid (encF_1 J _ (hN.out.1 (by decide)) (try_at hM.out HR.out (try_t r J hv)))
              rw [hv] at hat
              obtain ⟨m, mt, kd, p⟩ := r
              have c0 : wr.cell? ⟨g2, j * 4, none⟩ = some (.int .u32 m) := by rw [HT2.out, Nat.mul_comm]; exact q0
              have c1 : wr.cell? ⟨g2, j * 4 + 1, none⟩ = some (.int .u32 mt) := by rw [HT2.out, Nat.mul_comm]; exact q1
              have c2 : wr.cell? ⟨g2, j * 4 + 2, none⟩ = some (.int .u8 kd) := by rw [HT2.out, Nat.mul_comm]; exact q2
              have c3 : wr.cell? ⟨g2, j * 4 + 3, none⟩ = some (.int .u32 p) := by rw [HT2.out, Nat.mul_comm]; exact q3
              have b0 : wr.cell? ⟨w.heap.size, 0, none⟩ = some (.int .i64 kind) := (HJ2.out.1 0).trans (by rw [HJ.out]; rfl)
              have b1 : wr.cell? ⟨w.heap.size, 1, none⟩ = some (.int .i64 rd) := (HJ2.out.1 1).trans (by rw [HJ.out]; rfl)
              have b2 : wr.cell? ⟨w.heap.size, 2, none⟩ = some (.int .i64 rs1) := (HJ2.out.1 2).trans (by rw [HJ.out]; rfl)
              have b3 : wr.cell? ⟨w.heap.size, 3, none⟩ = some (.int .i64 rs2) := (HJ2.out.1 3).trans (by rw [HJ.out]; rfl)
              have b4 : wr.cell? ⟨w.heap.size, 4, none⟩ = some (.int .i64 rs3) := (HJ2.out.1 4).trans (by rw [HJ.out]; rfl)
              have b5 : wr.cell? ⟨w.heap.size, 5, none⟩ = some (.int .i64 rm) := (HJ2.out.1 5).trans (by rw [HJ.out]; rfl)
              have b6 : wr.cell? ⟨w.heap.size, 6, none⟩ = some (.int .i64 csr) := (HJ2.out.1 6).trans (by rw [HJ.out]; rfl)
              have b7 : wr.cell? ⟨w.heap.size, 7, none⟩ = some (.int .i64 size) := (HJ2.out.1 7).trans (by rw [HJ.out]; rfl)
              have b8 : wr.cell? ⟨w.heap.size, 8, none⟩ = some (.int .i64 imm) := (HJ2.out.1 8).trans (by rw [HJ.out]; rfl)
              have b9 : wr.cell? ⟨w.heap.size, 9, none⟩ = some (.bool ui) := (HJ2.out.1 9).trans (by rw [HJ.out]; rfl)
              have b10 : wr.cell? ⟨w.heap.size, 10, none⟩ = some (.bool un) := (HJ2.out.1 10).trans (by rw [HJ.out]; rfl)
              have b11 : wr.cell? ⟨w.heap.size, 11, none⟩ = some (.bool wo) := (HJ2.out.1 11).trans (by rw [HJ.out]; rfl)
              have hJeq := HJ.out
              generalize attA ⟨m, mt, kd, p⟩ J = aa at hat HF
              have hat2 : Hid (∀ v, Calls Try.prog 21 #[.agg #[.int .u32 m, .int .u32 mt, .int .u8 kd, .int .u32 p], .agg #[.int .i64 kind, .int .i64 rd, .int .i64 rs1, .int .i64 rs2, .int .i64 rs3, .int .i64 rm, .int .i64 csr, .int .i64 size, .int .i64 imm, .bool ui, .bool un, .bool wo]] v (RetA aa true v)) := fun v => by have h := hat.out v; rw [hJeq] at h; exact h
              have HQ : Hid (en = aa ∧ eb = true) := ⟨by rw [HE.out.1]; unfold encN; rw [HF.out]; rfl, by rw [HE.out.2]; unfold encB; rw [HF.out]; rfl⟩
              clear hv hat q0 q1 q2 q3 hJeq
              go_wp2_with fail
              refine (hat2.out _).mono ?_; rintro e w9 ⟨rfl, hb9⟩
              have hz9 := hb9.size
              simp only [sz_alloc] at hz9
              go_wp2_with fail
              go_ret2
              exact ⟨by rw [HQ.out.1, HQ.out.2]; rfl, (by repeat (first | (with_reducible first | exact Below.refl _ _ | assumption | exact Nat.le_refl _ | refine Below.drew ?_ | refine Below.alloc ?_ ?_ _ | refine Below.setCell ?_ ?_ _ | refine le_alloc ?_ | refine le_set ?_ | refine le_drew ?_ | refine below_step (by assumption) ?_ ?_ | refine le_below (by assumption) ?_) | (dsimp only; omega)))⟩
          · obtain rfl : j = 25 := by omega
            have HN2 : Hid (NoEnc J 2) := ⟨fun h => hN.out.1 (by decide), fun h => noTry_all (by exact hM.out), fun h => absurd h (by decide)⟩
            go_wp2_with fail
            go_roundw
            case rel => exact ⟨2, by omega, by go_num, HN2, HJ2, HT1, HT2, HT3, hbw, hzw⟩
            case measure => simp [intOf]
      · go_wp2_with fail
        go_loopw [25] (fun i wr => ∃ j : Nat, j ≤ 26 ∧ i = .int .i64 j ∧ Hid (NoTry floatsL J j) ∧ Hid (AtI wr w.heap.size J) ∧ Hid (TabAt wr g1 wholesL) ∧ Hid (TabAt wr g2 systemsL) ∧ Hid (TabAt wr g3 floatsL) ∧ Below w.heap.size w wr ∧ wc.heap.size ≤ wr.heap.size) (fun i _ => 26 - (intOf i).toNat)
        case atStart => exact ⟨0, by omega, rfl, fun r hr => by simp at hr, HI, HT1, HT2, HT3, hbw, hzw⟩
        case round =>
          clear HI HT1 HT2 HT3 hbw hzw
          obtain ⟨j, hj, rfl, hM, HJ2, HT1, HT2, HT3, hbw, hzw⟩ := hrel
          have hzl : w.heap.size < wr.heap.size := by omega
          have hzn : ¬ w.heap.size = wr.heap.size := by omega
          by_cases hlt : j < 26
          · have hlt' : (j : Int) < 26 := by omega
            obtain ⟨r, hr⟩ : ∃ r, floatsL[j]? = some r := ⟨_, List.getElem?_eq_getElem (show j < floatsL.length from hlt)⟩
            have HR := Lib.hid hr
            have HO : Hid (OkW r) := okw_floats r (List.mem_of_getElem? hr)
            obtain ⟨q0, q1, q2, q3⟩ := cellsT_get floatsL j r hr
            clear hr
            have hat := Lib.hid (fun v => attempt_c r HO J v)
            cases hv : attB r J with
            | false =>
              have HF := Lib.hid (try_f r J hv)
              rw [hv] at hat
              obtain ⟨m, mt, kd, p⟩ := r
              have c0 : wr.cell? ⟨g3, j * 4, none⟩ = some (.int .u32 m) := by rw [HT3.out, Nat.mul_comm]; exact q0
              have c1 : wr.cell? ⟨g3, j * 4 + 1, none⟩ = some (.int .u32 mt) := by rw [HT3.out, Nat.mul_comm]; exact q1
              have c2 : wr.cell? ⟨g3, j * 4 + 2, none⟩ = some (.int .u8 kd) := by rw [HT3.out, Nat.mul_comm]; exact q2
              have c3 : wr.cell? ⟨g3, j * 4 + 3, none⟩ = some (.int .u32 p) := by rw [HT3.out, Nat.mul_comm]; exact q3
              have b0 : wr.cell? ⟨w.heap.size, 0, none⟩ = some (.int .i64 kind) := (HJ2.out.1 0).trans (by rw [HJ.out]; rfl)
              have b1 : wr.cell? ⟨w.heap.size, 1, none⟩ = some (.int .i64 rd) := (HJ2.out.1 1).trans (by rw [HJ.out]; rfl)
              have b2 : wr.cell? ⟨w.heap.size, 2, none⟩ = some (.int .i64 rs1) := (HJ2.out.1 2).trans (by rw [HJ.out]; rfl)
              have b3 : wr.cell? ⟨w.heap.size, 3, none⟩ = some (.int .i64 rs2) := (HJ2.out.1 3).trans (by rw [HJ.out]; rfl)
              have b4 : wr.cell? ⟨w.heap.size, 4, none⟩ = some (.int .i64 rs3) := (HJ2.out.1 4).trans (by rw [HJ.out]; rfl)
              have b5 : wr.cell? ⟨w.heap.size, 5, none⟩ = some (.int .i64 rm) := (HJ2.out.1 5).trans (by rw [HJ.out]; rfl)
              have b6 : wr.cell? ⟨w.heap.size, 6, none⟩ = some (.int .i64 csr) := (HJ2.out.1 6).trans (by rw [HJ.out]; rfl)
              have b7 : wr.cell? ⟨w.heap.size, 7, none⟩ = some (.int .i64 size) := (HJ2.out.1 7).trans (by rw [HJ.out]; rfl)
              have b8 : wr.cell? ⟨w.heap.size, 8, none⟩ = some (.int .i64 imm) := (HJ2.out.1 8).trans (by rw [HJ.out]; rfl)
              have b9 : wr.cell? ⟨w.heap.size, 9, none⟩ = some (.bool ui) := (HJ2.out.1 9).trans (by rw [HJ.out]; rfl)
              have b10 : wr.cell? ⟨w.heap.size, 10, none⟩ = some (.bool un) := (HJ2.out.1 10).trans (by rw [HJ.out]; rfl)
              have b11 : wr.cell? ⟨w.heap.size, 11, none⟩ = some (.bool wo) := (HJ2.out.1 11).trans (by rw [HJ.out]; rfl)
              have hJeq := HJ.out
              generalize attA ⟨m, mt, kd, p⟩ J = aa at hat
              have hat2 : Hid (∀ v, Calls Try.prog 21 #[.agg #[.int .u32 m, .int .u32 mt, .int .u8 kd, .int .u32 p], .agg #[.int .i64 kind, .int .i64 rd, .int .i64 rs1, .int .i64 rs2, .int .i64 rs3, .int .i64 rm, .int .i64 csr, .int .i64 size, .int .i64 imm, .bool ui, .bool un, .bool wo]] v (RetA aa false v)) := fun v => by have h := hat.out v; rw [hJeq] at h; exact h
              clear hv hat q0 q1 q2 q3 hJeq
              go_wp2_with fail
              refine (hat2.out _).mono ?_; rintro e w9 ⟨rfl, hb9⟩
              have hz9 := hb9.size
              simp only [sz_alloc] at hz9
              have HJ9 := Lib.hid (atI_below HJ2.out (below_step hb9 ((Below.refl wr.heap.size wr).alloc (Nat.le_refl _) _) (by simp only [sz_alloc]; omega)) (by omega))
              have HA1 := Lib.hid (tab_below HT1.out (below_step hb9 ((Below.refl wr.heap.size wr).alloc (Nat.le_refl _) _) (by simp only [sz_alloc]; omega)) (by omega))
              have HA2 := Lib.hid (tab_below HT2.out (below_step hb9 ((Below.refl wr.heap.size wr).alloc (Nat.le_refl _) _) (by simp only [sz_alloc]; omega)) (by omega))
              have HA3 := Lib.hid (tab_below HT3.out (below_step hb9 ((Below.refl wr.heap.size wr).alloc (Nat.le_refl _) _) (by simp only [sz_alloc]; omega)) (by omega))
              go_wp2_with fail
              go_roundw
              case rel =>
                (repeat apply Exists.intro)
                refine ⟨?_, rfl⟩
                exact ⟨j + 1, by omega, by go_num, noTry_step hM.out HR.out HF.out, HJ9, HA1, HA2, HA3, (by repeat (first | (with_reducible first | exact Below.refl _ _ | assumption | exact Nat.le_refl _ | refine Below.drew ?_ | refine Below.alloc ?_ ?_ _ | refine Below.setCell ?_ ?_ _ | refine le_alloc ?_ | refine le_set ?_ | refine le_drew ?_ | refine below_step (by assumption) ?_ ?_ | refine le_below (by assumption) ?_) | (dsimp only; omega))), by omega⟩
              case measure => simp [intOf]; omega
            | true =>
              have HF := Lib.hid (encF_2 J _ (hN.out.1 (by decide)) (hN.out.2.1 (by decide)) (try_at hM.out HR.out (try_t r J hv)))
              rw [hv] at hat
              obtain ⟨m, mt, kd, p⟩ := r
              have c0 : wr.cell? ⟨g3, j * 4, none⟩ = some (.int .u32 m) := by rw [HT3.out, Nat.mul_comm]; exact q0
              have c1 : wr.cell? ⟨g3, j * 4 + 1, none⟩ = some (.int .u32 mt) := by rw [HT3.out, Nat.mul_comm]; exact q1
              have c2 : wr.cell? ⟨g3, j * 4 + 2, none⟩ = some (.int .u8 kd) := by rw [HT3.out, Nat.mul_comm]; exact q2
              have c3 : wr.cell? ⟨g3, j * 4 + 3, none⟩ = some (.int .u32 p) := by rw [HT3.out, Nat.mul_comm]; exact q3
              have b0 : wr.cell? ⟨w.heap.size, 0, none⟩ = some (.int .i64 kind) := (HJ2.out.1 0).trans (by rw [HJ.out]; rfl)
              have b1 : wr.cell? ⟨w.heap.size, 1, none⟩ = some (.int .i64 rd) := (HJ2.out.1 1).trans (by rw [HJ.out]; rfl)
              have b2 : wr.cell? ⟨w.heap.size, 2, none⟩ = some (.int .i64 rs1) := (HJ2.out.1 2).trans (by rw [HJ.out]; rfl)
              have b3 : wr.cell? ⟨w.heap.size, 3, none⟩ = some (.int .i64 rs2) := (HJ2.out.1 3).trans (by rw [HJ.out]; rfl)
              have b4 : wr.cell? ⟨w.heap.size, 4, none⟩ = some (.int .i64 rs3) := (HJ2.out.1 4).trans (by rw [HJ.out]; rfl)
              have b5 : wr.cell? ⟨w.heap.size, 5, none⟩ = some (.int .i64 rm) := (HJ2.out.1 5).trans (by rw [HJ.out]; rfl)
              have b6 : wr.cell? ⟨w.heap.size, 6, none⟩ = some (.int .i64 csr) := (HJ2.out.1 6).trans (by rw [HJ.out]; rfl)
              have b7 : wr.cell? ⟨w.heap.size, 7, none⟩ = some (.int .i64 size) := (HJ2.out.1 7).trans (by rw [HJ.out]; rfl)
              have b8 : wr.cell? ⟨w.heap.size, 8, none⟩ = some (.int .i64 imm) := (HJ2.out.1 8).trans (by rw [HJ.out]; rfl)
              have b9 : wr.cell? ⟨w.heap.size, 9, none⟩ = some (.bool ui) := (HJ2.out.1 9).trans (by rw [HJ.out]; rfl)
              have b10 : wr.cell? ⟨w.heap.size, 10, none⟩ = some (.bool un) := (HJ2.out.1 10).trans (by rw [HJ.out]; rfl)
              have b11 : wr.cell? ⟨w.heap.size, 11, none⟩ = some (.bool wo) := (HJ2.out.1 11).trans (by rw [HJ.out]; rfl)
              have hJeq := HJ.out
              generalize attA ⟨m, mt, kd, p⟩ J = aa at hat HF
              have hat2 : Hid (∀ v, Calls Try.prog 21 #[.agg #[.int .u32 m, .int .u32 mt, .int .u8 kd, .int .u32 p], .agg #[.int .i64 kind, .int .i64 rd, .int .i64 rs1, .int .i64 rs2, .int .i64 rs3, .int .i64 rm, .int .i64 csr, .int .i64 size, .int .i64 imm, .bool ui, .bool un, .bool wo]] v (RetA aa true v)) := fun v => by have h := hat.out v; rw [hJeq] at h; exact h
              have HQ : Hid (en = aa ∧ eb = true) := ⟨by rw [HE.out.1]; unfold encN; rw [HF.out]; rfl, by rw [HE.out.2]; unfold encB; rw [HF.out]; rfl⟩
              clear hv hat q0 q1 q2 q3 hJeq
              go_wp2_with fail
              refine (hat2.out _).mono ?_; rintro e w9 ⟨rfl, hb9⟩
              have hz9 := hb9.size
              simp only [sz_alloc] at hz9
              go_wp2_with fail
              go_ret2
              exact ⟨by rw [HQ.out.1, HQ.out.2]; rfl, (by repeat (first | (with_reducible first | exact Below.refl _ _ | assumption | exact Nat.le_refl _ | refine Below.drew ?_ | refine Below.alloc ?_ ?_ _ | refine Below.setCell ?_ ?_ _ | refine le_alloc ?_ | refine le_set ?_ | refine le_drew ?_ | refine below_step (by assumption) ?_ ?_ | refine le_below (by assumption) ?_) | (dsimp only; omega)))⟩
          · obtain rfl : j = 26 := by omega
            have HN2 : Hid (NoEnc J 3) := ⟨fun h => hN.out.1 (by decide), fun h => hN.out.2.1 (by decide), fun h => noTry_all (by exact hM.out)⟩
            go_wp2_with fail
            go_roundw
            case rel => exact ⟨3, by omega, by go_num, HN2, HJ2, HT1, HT2, HT3, hbw, hzw⟩
            case measure => simp [intOf]
      · have hX : encF J = none := encF_3 J (hN.out.1 (by decide)) (hN.out.2.1 (by decide)) (hN.out.2.2 (by decide))
        have HQ : Hid (en = 0 ∧ eb = false) := ⟨by rw [HE.out.1]; unfold encN; rw [hX]; rfl, by rw [HE.out.2]; unfold encB; rw [hX]; rfl⟩
        clear hX
        go_wp2_with fail
        go_ret2
        exact ⟨by rw [HQ.out.1, HQ.out.2]; rfl, hbw⟩
end Go.Proofs.Ytlohpakcikkdmaa
