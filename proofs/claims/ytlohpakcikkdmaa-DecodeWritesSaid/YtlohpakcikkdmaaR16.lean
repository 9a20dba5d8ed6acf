/- The reference's Decode, of whatever rows returns. -/
import Derived.Test.YtlohpakcikkdmaaR15
import Derived.Test.YtlohpakcikkdmaaR13
namespace Go.Proofs.Ytlohpakcikkdmaa
open Go.ChangeShapes Go.WideShapes Go.ChangeAt Go.RowKit
set_option linter.unusedVariables false
set_option linter.unusedSimpArgs false
def OkQ (q : QRow) : Prop := q.mask < 4294967296 ∧ q.bits < 4294967296 ∧ q.form.size ≤ 100
def holdsQ (q : QRow) (b : Nat) : Bool := decide (b &&& q.mask = q.bits)
def rowQ (q : QRow) (b : Nat) : Ins := readQ q.kind q.form q.size q.word q.un b
def decQ (T : List QRow) (b : Nat) : Ins := match T.find? (fun q => holdsQ q b) with | some q => if (rowQ q b).rm = 5 ∨ (rowQ q b).rm = 6 then zeroI else rowQ q b | none => zeroI
theorem cellsQs_get (T : List QRow) (k : Nat) (q : QRow) (h : T[k]? = some q) : (cellsQs T)[7 * k]? = some (.int .u32 q.mask) ∧ (cellsQs T)[7 * k + 1]? = some (.int .u32 q.bits) ∧ (cellsQs T)[7 * k + 2]? = some (.int .i64 q.kind) ∧ (cellsQs T)[7 * k + 3]? = some (.string q.form) ∧ (cellsQs T)[7 * k + 4]? = some (.int .i64 q.size) ∧ (cellsQs T)[7 * k + 5]? = some (.bool q.word) ∧ (cellsQs T)[7 * k + 6]? = some (.bool q.un) := by
  unfold cellsQs
  induction T generalizing k with
  | nil => simp at h
  | cons a T ih =>
    cases k with
    | zero => simp at h; subst h; exact ⟨rfl, rfl, rfl, rfl, rfl, rfl, rfl⟩
    | succ k =>
      obtain ⟨t0, t1, t2, t3, t4, t5, t6⟩ := ih k (by simpa using h)
      simp only [List.flatMap_cons]
      have hl : (cellsQ a).length = 7 := rfl
      refine ⟨?_, ?_, ?_, ?_, ?_, ?_, ?_⟩
      · rw [List.getElem?_append_right (by omega), hl, show 7 * (k + 1) - 7 = 7 * k by omega]; exact t0
      · rw [List.getElem?_append_right (by omega), hl, show 7 * (k + 1) + 1 - 7 = 7 * k + 1 by omega]; exact t1
      · rw [List.getElem?_append_right (by omega), hl, show 7 * (k + 1) + 2 - 7 = 7 * k + 2 by omega]; exact t2
      · rw [List.getElem?_append_right (by omega), hl, show 7 * (k + 1) + 3 - 7 = 7 * k + 3 by omega]; exact t3
      · rw [List.getElem?_append_right (by omega), hl, show 7 * (k + 1) + 4 - 7 = 7 * k + 4 by omega]; exact t4
      · rw [List.getElem?_append_right (by omega), hl, show 7 * (k + 1) + 5 - 7 = 7 * k + 5 by omega]; exact t5
      · rw [List.getElem?_append_right (by omega), hl, show 7 * (k + 1) + 6 - 7 = 7 * k + 6 by omega]; exact t6
theorem own_cells {w : World} {base : Nat} {v : Value} {L : List QRow} (h : OwnT w base v L) (h0 : 0 < L.length) : ∃ g cap, v = .slice (some ⟨g, 0, none⟩) L.length cap ∧ g < w.heap.size ∧ ∀ o u, (cellsQs L)[o]? = some u → w.cell? ⟨g, o, none⟩ = some u := by
  rcases h.2 with ⟨rfl, h1⟩ | ⟨g, cap, cur, rfl, hbg, hg, hnc, hcm, hcs, htake⟩
  · exact absurd h1 (by omega)
  · refine ⟨g, cap, rfl, (own_lt h g rfl).2, fun o u hu => ?_⟩
    have hc := World.ownsRow.cells (w := w) h rfl o u hu
    by_cases ho0 : o = 0
    · subst ho0; simpa [Addr.add] using hc
    · simpa [Addr.add, ho0] using hc
def NoneQ (T : List QRow) (b k : Nat) : Prop := ∀ q ∈ T.take k, holdsQ q b = false
theorem noneQ_step {T : List QRow} {b k : Nat} {q : QRow} (h : NoneQ T b k) (hr : T[k]? = some q) (hh : holdsQ q b = false) : NoneQ T b (k + 1) := by
  intro r hq
  rw [List.take_add_one, hr] at hq
  simp only [Option.toList_some, List.mem_append, List.mem_singleton] at hq
  rcases hq with hq | rfl
  · exact h r hq
  · exact hh
theorem noneQ_all {T : List QRow} {b : Nat} (h : NoneQ T b T.length) : decQ T b = zeroI := by
  have : T.find? (fun q => holdsQ q b) = none := by
    rw [List.find?_eq_none]; intro r hr; rw [h r (by simpa using hr)]; decide
  unfold decQ; rw [this]
theorem foundQ_at {T : List QRow} {b k : Nat} {q : QRow} (h : NoneQ T b k) (hr : T[k]? = some q) (hh : holdsQ q b = true) : decQ T b = if (rowQ q b).rm = 5 ∨ (rowQ q b).rm = 6 then zeroI else rowQ q b := by
  have : T.find? (fun q => holdsQ q b) = some q := by
    obtain ⟨hk, hk'⟩ := List.getElem?_eq_some_iff.1 hr
    rw [← List.take_append_drop k T, List.find?_append, List.find?_eq_none.2 (fun r hr => by rw [h r hr]; decide), List.drop_eq_getElem_cons hk, List.find?_cons_of_pos (by rw [hk']; exact hh), hk']; rfl
  unfold decQ; rw [this]
set_option maxRecDepth 100000 in
set_option maxHeartbeats 4000000 in
theorem Decode_q (T : List QRow) (n : Nat) (hn : Hid (T.length = n)) (h0 : 0 < n) (hn2 : n ≤ 1000) (hT : Hid (∀ q ∈ T, OkQ q)) (hR : Hid (∀ v, Calls Try.prog 19 #[] v (RetO T v))) (b : Nat) (hb : Hid (b < 4294967296)) (w : World) :
    Calls Try.prog 11 #[.int .u32 b] w (RetX (decQ T b) w) := by
  go_enter Try.func11, Try.ntmps11
  go_wp2_with fail
  have HA := Lib.hid (atI_new' w 25 w.heap.size rfl)
  refine (hR.out _).mono ?_; rintro e w1 ⟨v1, rfl, h1, hb1⟩
  obtain ⟨g, cap, hv, hg, hc⟩ := own_cells h1 (by rw [hn.out]; exact h0)
  rw [hn.out] at hv
  subst hv
  have HC := Lib.hid hc
  clear hc h1
  have hz1 := hb1.size
  simp only [sz_alloc] at hz1
  have HA1 := Lib.hid (atI_below HA.out hb1 (by rw [sz_alloc]; omega))
  have hw1 : Below w.heap.size w w1 := below_step hb1 ((Below.refl w.heap.size w).alloc (Nat.le_refl _) _) (by rw [sz_alloc]; omega)
  clear HA
  go_wp2_with fail
  go_loopw [4] (fun i wr => ∃ k : Nat, k ≤ n ∧ i = .int .i64 k ∧ Hid (NoneQ T b k) ∧ Below w1.heap.size w1 wr) (fun i _ => n - (intOf i).toNat)
  case atStart => exact ⟨0, by omega, rfl, fun q hq => by simp at hq, Below.refl _ _⟩
  case round =>
    obtain ⟨k, hk, rfl, hN, hbw⟩ := hrel
    have HAr := Lib.hid (atI_below HA1.out hbw (by omega))
    have hwr : Below w.heap.size w wr := below_step hbw hw1 (by omega)
    have hzr := hbw.size
    by_cases hlt : k < n
    · have hlt' : (k : Int) < (n : Int) := by omega
      obtain ⟨q, hq⟩ : ∃ q, T[k]? = some q := ⟨_, List.getElem?_eq_getElem (by rw [hn.out]; exact hlt)⟩
      have HR := Lib.hid hq
      have HO : Hid (OkQ q) := hT.out q (List.mem_of_getElem? hq)
      obtain ⟨t0, t1, t2, t3, t4, t5, t6⟩ := cellsQs_get T k q hq
      clear hq
      obtain ⟨m, bt, kd, s, sz, wd, un⟩ := q
      have c0 : wr.cell? ⟨g, k * 7, none⟩ = some (.int .u32 m) := by rw [hbw.cell (p := ⟨g, k * 7, none⟩) hg, Nat.mul_comm]; exact HC.out _ _ t0
      have c1 : wr.cell? ⟨g, k * 7 + 1, none⟩ = some (.int .u32 bt) := by rw [hbw.cell (p := ⟨g, k * 7 + 1, none⟩) hg, Nat.mul_comm]; exact HC.out _ _ t1
      have c2 : wr.cell? ⟨g, k * 7 + 2, none⟩ = some (.int .i64 kd) := by rw [hbw.cell (p := ⟨g, k * 7 + 2, none⟩) hg, Nat.mul_comm]; exact HC.out _ _ t2
      have c3 : wr.cell? ⟨g, k * 7 + 3, none⟩ = some (.string s) := by rw [hbw.cell (p := ⟨g, k * 7 + 3, none⟩) hg, Nat.mul_comm]; exact HC.out _ _ t3
      have c4 : wr.cell? ⟨g, k * 7 + 4, none⟩ = some (.int .i64 sz) := by rw [hbw.cell (p := ⟨g, k * 7 + 4, none⟩) hg, Nat.mul_comm]; exact HC.out _ _ t4
      have c5 : wr.cell? ⟨g, k * 7 + 5, none⟩ = some (.bool wd) := by rw [hbw.cell (p := ⟨g, k * 7 + 5, none⟩) hg, Nat.mul_comm]; exact HC.out _ _ t5
      have c6 : wr.cell? ⟨g, k * 7 + 6, none⟩ = some (.bool un) := by rw [hbw.cell (p := ⟨g, k * 7 + 6, none⟩) hg, Nat.mul_comm]; exact HC.out _ _ t6
      clear t0 t1 t2 t3 t4 t5 t6
      have e1 : bits .and .u32 (b : Int) (m : Int) = ((b &&& m : Nat) : Int) := u32_and_nat b m hb.out HO.out.1
      by_cases hm : b &&& m = bt
      · have hh : holdsQ ⟨m, bt, kd, s, sz, wd, un⟩ b = true := decide_eq_true hm
        have HF := Lib.hid (foundQ_at hN.out HR.out hh)
        have e0 : (bits .and .u32 (b : Int) (m : Int) != (bt : Int)) = false := by rw [e1, hm]; simp
        obtain ⟨X, hX⟩ : ∃ X, X = rowQ ⟨m, bt, kd, s, sz, wd, un⟩ b := ⟨_, rfl⟩
        have hrd := Lib.hid (fun v => read_q m bt kd s sz wd un HO.out.2.2 b hb v)
        have hX2 : readQ kd s sz wd un b = X := hX.symm
        rw [hX2] at hrd
        rw [← hX] at HF
        clear e1 hm hh hX hX2 HR HO
        go_wp2_with fail
        go_quiet (fail)
        have hbq : Below w.heap.size w (wr.drewN nq) := below_drewQ hwr nq
        have HAq : Hid (AtI (wr.drewN nq) w.heap.size zeroI) := HAr.out
        have d0 : (wr.drewN nq).cell? ⟨g, k * 7, none⟩ = some (.int .u32 m) := c0
        have d1 : (wr.drewN nq).cell? ⟨g, k * 7 + 1, none⟩ = some (.int .u32 bt) := c1
        have d2 : (wr.drewN nq).cell? ⟨g, k * 7 + 2, none⟩ = some (.int .i64 kd) := c2
        have d3 : (wr.drewN nq).cell? ⟨g, k * 7 + 3, none⟩ = some (.string s) := c3
        have d4 : (wr.drewN nq).cell? ⟨g, k * 7 + 4, none⟩ = some (.int .i64 sz) := c4
        have d5 : (wr.drewN nq).cell? ⟨g, k * 7 + 5, none⟩ = some (.bool wd) := c5
        have d6 : (wr.drewN nq).cell? ⟨g, k * 7 + 6, none⟩ = some (.bool un) := c6
        have hzq : w1.heap.size ≤ (wr.drewN nq).heap.size := hzr
        clear c0 c1 c2 c3 c4 c5 c6
        generalize wr.drewN nq = wq at *
        go_wp2_with fail
        refine (hrd.out _).mono ?_; rintro e w6 ⟨rfl, hb6⟩
        have hz6 := hb6.size
        have HA6 := Lib.hid (atI_below HAq.out hb6 (by omega))
        have hw6 : Below w.heap.size w w6 := below_step hb6 hbq hbq.size
        clear hrd HAq HAr d0 d1 d2 d3 d4 d5 d6
        have g1 : w.heap.size < w6.heap.size := by omega
        have g2 : ¬ w.heap.size = w6.heap.size := by omega
        have g3 : ¬ w6.heap.size = w.heap.size := by omega
        dsimp only [cellsI]
        by_cases h5 : X.rm = 5 ∨ X.rm = 6
        · have HV : Hid (decQ T b = zeroI) := by show _ = _; rw [HF.out, if_pos h5]
          rcases h5 with h5 | h5
          · have f5 : (X.rm == 5) = true := by rw [h5]; rfl
            clear h5 HF
            have z0 : w6.cell? ⟨w.heap.size, 0, none⟩ = some (.int .i64 0) := HA6.out.1 0
            have zf0 : w6.frozen? ⟨w.heap.size, 0, none⟩ = false := HA6.out.2 0
            have z1 : w6.cell? ⟨w.heap.size, 1, none⟩ = some (.int .i64 0) := HA6.out.1 1
            have zf1 : w6.frozen? ⟨w.heap.size, 1, none⟩ = false := HA6.out.2 1
            have z2 : w6.cell? ⟨w.heap.size, 2, none⟩ = some (.int .i64 0) := HA6.out.1 2
            have zf2 : w6.frozen? ⟨w.heap.size, 2, none⟩ = false := HA6.out.2 2
            have z3 : w6.cell? ⟨w.heap.size, 3, none⟩ = some (.int .i64 0) := HA6.out.1 3
            have zf3 : w6.frozen? ⟨w.heap.size, 3, none⟩ = false := HA6.out.2 3
            have z4 : w6.cell? ⟨w.heap.size, 4, none⟩ = some (.int .i64 0) := HA6.out.1 4
            have zf4 : w6.frozen? ⟨w.heap.size, 4, none⟩ = false := HA6.out.2 4
            have z5 : w6.cell? ⟨w.heap.size, 5, none⟩ = some (.int .i64 0) := HA6.out.1 5
            have zf5 : w6.frozen? ⟨w.heap.size, 5, none⟩ = false := HA6.out.2 5
            have z6 : w6.cell? ⟨w.heap.size, 6, none⟩ = some (.int .i64 0) := HA6.out.1 6
            have zf6 : w6.frozen? ⟨w.heap.size, 6, none⟩ = false := HA6.out.2 6
            have z7 : w6.cell? ⟨w.heap.size, 7, none⟩ = some (.int .i64 0) := HA6.out.1 7
            have zf7 : w6.frozen? ⟨w.heap.size, 7, none⟩ = false := HA6.out.2 7
            have z8 : w6.cell? ⟨w.heap.size, 8, none⟩ = some (.int .i64 0) := HA6.out.1 8
            have zf8 : w6.frozen? ⟨w.heap.size, 8, none⟩ = false := HA6.out.2 8
            have z9 : w6.cell? ⟨w.heap.size, 9, none⟩ = some (.bool false) := HA6.out.1 9
            have zf9 : w6.frozen? ⟨w.heap.size, 9, none⟩ = false := HA6.out.2 9
            have z10 : w6.cell? ⟨w.heap.size, 10, none⟩ = some (.bool false) := HA6.out.1 10
            have zf10 : w6.frozen? ⟨w.heap.size, 10, none⟩ = false := HA6.out.2 10
            have z11 : w6.cell? ⟨w.heap.size, 11, none⟩ = some (.bool false) := HA6.out.1 11
            have zf11 : w6.frozen? ⟨w.heap.size, 11, none⟩ = false := HA6.out.2 11
            go_upto_region 8 with fail
            go_cut [] (fun wx => AtI wx w.heap.size zeroI ∧ Below w.heap.size w wx)
            case first =>
              go_wp2_with fail
              go_meet
              exact ⟨atI_eq (atI_alloc (set_wo _ (set_un _ (set_ui _ (set_imm _ (set_size _ (set_csr _ (set_rm _ (set_rs3 _ (set_rs2 _ (set_rs1 _ (set_rd _ (set_kind _ HA6.out)))))))))))) (by simp only [sz_set]; omega) _) (by rfl), (by repeat (first | (with_reducible first | exact Below.refl _ _ | assumption | exact Nat.le_refl _ | refine Below.drew ?_ | refine Below.alloc ?_ ?_ _ | refine Below.setCell ?_ ?_ _ | refine le_alloc ?_ | refine le_set ?_ | refine le_drew ?_ | refine below_step (by assumption) ?_ ?_ | refine le_below (by assumption) ?_) | (dsimp only; omega)))⟩
            case rest =>
              obtain ⟨hY, hbY⟩ := hcut
              obtain ⟨Y, hZ⟩ : ∃ Y, Y = zeroI := ⟨_, rfl⟩
              rw [← hZ] at hY
              have HZ := Lib.hid hZ; clear hZ
              clear z0 zf0 z1 zf1 z2 zf2 z3 zf3 z4 zf4 z5 zf5 z6 zf6 z7 zf7 z8 zf8 z9 zf9 z10 zf10 z11 zf11
              have y0 : wc.cell? ⟨w.heap.size, 0, none⟩ = some (.int .i64 Y.kind) := hY.1 0
              have y1 : wc.cell? ⟨w.heap.size, 1, none⟩ = some (.int .i64 Y.rd) := hY.1 1
              have y2 : wc.cell? ⟨w.heap.size, 2, none⟩ = some (.int .i64 Y.rs1) := hY.1 2
              have y3 : wc.cell? ⟨w.heap.size, 3, none⟩ = some (.int .i64 Y.rs2) := hY.1 3
              have y4 : wc.cell? ⟨w.heap.size, 4, none⟩ = some (.int .i64 Y.rs3) := hY.1 4
              have y5 : wc.cell? ⟨w.heap.size, 5, none⟩ = some (.int .i64 Y.rm) := hY.1 5
              have y6 : wc.cell? ⟨w.heap.size, 6, none⟩ = some (.int .i64 Y.csr) := hY.1 6
              have y7 : wc.cell? ⟨w.heap.size, 7, none⟩ = some (.int .i64 Y.size) := hY.1 7
              have y8 : wc.cell? ⟨w.heap.size, 8, none⟩ = some (.int .i64 Y.imm) := hY.1 8
              have y9 : wc.cell? ⟨w.heap.size, 9, none⟩ = some (.bool Y.ui) := hY.1 9
              have y10 : wc.cell? ⟨w.heap.size, 10, none⟩ = some (.bool Y.un) := hY.1 10
              have y11 : wc.cell? ⟨w.heap.size, 11, none⟩ = some (.bool Y.wo) := hY.1 11
              go_wp2_with fail
              refine bodyPost_ret (v := .agg (cellsI Y)) (by simp [results, Try.results11, go_sem, y0, y1, y2, y3, y4, y5, y6, y7, y8, y9, y10, y11, cellsI] <;> (first | rfl | (repeat' (first | rfl | apply And.intro)))) rfl ⟨by rw [HV.out, HZ.out], hbY⟩
          · have f5 : (X.rm == 5) = false := by rw [h5]; rfl
            have f6 : (X.rm == 6) = true := by rw [h5]; rfl
            clear h5 HF
            have z0 : w6.cell? ⟨w.heap.size, 0, none⟩ = some (.int .i64 0) := HA6.out.1 0
            have zf0 : w6.frozen? ⟨w.heap.size, 0, none⟩ = false := HA6.out.2 0
            have z1 : w6.cell? ⟨w.heap.size, 1, none⟩ = some (.int .i64 0) := HA6.out.1 1
            have zf1 : w6.frozen? ⟨w.heap.size, 1, none⟩ = false := HA6.out.2 1
            have z2 : w6.cell? ⟨w.heap.size, 2, none⟩ = some (.int .i64 0) := HA6.out.1 2
            have zf2 : w6.frozen? ⟨w.heap.size, 2, none⟩ = false := HA6.out.2 2
            have z3 : w6.cell? ⟨w.heap.size, 3, none⟩ = some (.int .i64 0) := HA6.out.1 3
            have zf3 : w6.frozen? ⟨w.heap.size, 3, none⟩ = false := HA6.out.2 3
            have z4 : w6.cell? ⟨w.heap.size, 4, none⟩ = some (.int .i64 0) := HA6.out.1 4
            have zf4 : w6.frozen? ⟨w.heap.size, 4, none⟩ = false := HA6.out.2 4
            have z5 : w6.cell? ⟨w.heap.size, 5, none⟩ = some (.int .i64 0) := HA6.out.1 5
            have zf5 : w6.frozen? ⟨w.heap.size, 5, none⟩ = false := HA6.out.2 5
            have z6 : w6.cell? ⟨w.heap.size, 6, none⟩ = some (.int .i64 0) := HA6.out.1 6
            have zf6 : w6.frozen? ⟨w.heap.size, 6, none⟩ = false := HA6.out.2 6
            have z7 : w6.cell? ⟨w.heap.size, 7, none⟩ = some (.int .i64 0) := HA6.out.1 7
            have zf7 : w6.frozen? ⟨w.heap.size, 7, none⟩ = false := HA6.out.2 7
            have z8 : w6.cell? ⟨w.heap.size, 8, none⟩ = some (.int .i64 0) := HA6.out.1 8
            have zf8 : w6.frozen? ⟨w.heap.size, 8, none⟩ = false := HA6.out.2 8
            have z9 : w6.cell? ⟨w.heap.size, 9, none⟩ = some (.bool false) := HA6.out.1 9
            have zf9 : w6.frozen? ⟨w.heap.size, 9, none⟩ = false := HA6.out.2 9
            have z10 : w6.cell? ⟨w.heap.size, 10, none⟩ = some (.bool false) := HA6.out.1 10
            have zf10 : w6.frozen? ⟨w.heap.size, 10, none⟩ = false := HA6.out.2 10
            have z11 : w6.cell? ⟨w.heap.size, 11, none⟩ = some (.bool false) := HA6.out.1 11
            have zf11 : w6.frozen? ⟨w.heap.size, 11, none⟩ = false := HA6.out.2 11
            go_upto_region 8 with fail
            go_cut [] (fun wx => AtI wx w.heap.size zeroI ∧ Below w.heap.size w wx)
            case first =>
              go_wp2_with fail
              go_meet
              exact ⟨atI_eq (atI_alloc (set_wo _ (set_un _ (set_ui _ (set_imm _ (set_size _ (set_csr _ (set_rm _ (set_rs3 _ (set_rs2 _ (set_rs1 _ (set_rd _ (set_kind _ HA6.out)))))))))))) (by simp only [sz_set]; omega) _) (by rfl), (by repeat (first | (with_reducible first | exact Below.refl _ _ | assumption | exact Nat.le_refl _ | refine Below.drew ?_ | refine Below.alloc ?_ ?_ _ | refine Below.setCell ?_ ?_ _ | refine le_alloc ?_ | refine le_set ?_ | refine le_drew ?_ | refine below_step (by assumption) ?_ ?_ | refine le_below (by assumption) ?_) | (dsimp only; omega)))⟩
            case rest =>
              obtain ⟨hY, hbY⟩ := hcut
              obtain ⟨Y, hZ⟩ : ∃ Y, Y = zeroI := ⟨_, rfl⟩
              rw [← hZ] at hY
              have HZ := Lib.hid hZ; clear hZ
              clear z0 zf0 z1 zf1 z2 zf2 z3 zf3 z4 zf4 z5 zf5 z6 zf6 z7 zf7 z8 zf8 z9 zf9 z10 zf10 z11 zf11
              have y0 : wc.cell? ⟨w.heap.size, 0, none⟩ = some (.int .i64 Y.kind) := hY.1 0
              have y1 : wc.cell? ⟨w.heap.size, 1, none⟩ = some (.int .i64 Y.rd) := hY.1 1
              have y2 : wc.cell? ⟨w.heap.size, 2, none⟩ = some (.int .i64 Y.rs1) := hY.1 2
              have y3 : wc.cell? ⟨w.heap.size, 3, none⟩ = some (.int .i64 Y.rs2) := hY.1 3
              have y4 : wc.cell? ⟨w.heap.size, 4, none⟩ = some (.int .i64 Y.rs3) := hY.1 4
              have y5 : wc.cell? ⟨w.heap.size, 5, none⟩ = some (.int .i64 Y.rm) := hY.1 5
              have y6 : wc.cell? ⟨w.heap.size, 6, none⟩ = some (.int .i64 Y.csr) := hY.1 6
              have y7 : wc.cell? ⟨w.heap.size, 7, none⟩ = some (.int .i64 Y.size) := hY.1 7
              have y8 : wc.cell? ⟨w.heap.size, 8, none⟩ = some (.int .i64 Y.imm) := hY.1 8
              have y9 : wc.cell? ⟨w.heap.size, 9, none⟩ = some (.bool Y.ui) := hY.1 9
              have y10 : wc.cell? ⟨w.heap.size, 10, none⟩ = some (.bool Y.un) := hY.1 10
              have y11 : wc.cell? ⟨w.heap.size, 11, none⟩ = some (.bool Y.wo) := hY.1 11
              go_wp2_with fail
              refine bodyPost_ret (v := .agg (cellsI Y)) (by simp [results, Try.results11, go_sem, y0, y1, y2, y3, y4, y5, y6, y7, y8, y9, y10, y11, cellsI] <;> (first | rfl | (repeat' (first | rfl | apply And.intro)))) rfl ⟨by rw [HV.out, HZ.out], hbY⟩
        · have HV : Hid (decQ T b = X) := by show _ = _; rw [HF.out, if_neg h5]
          have f5 : (X.rm == 5) = false := by rw [beq_eq_false_iff_ne]; intro e; exact h5 (.inl e)
          have f6 : (X.rm == 6) = false := by rw [beq_eq_false_iff_ne]; intro e; exact h5 (.inr e)
          clear h5 HF
          have z0 : w6.cell? ⟨w.heap.size, 0, none⟩ = some (.int .i64 0) := HA6.out.1 0
          have zf0 : w6.frozen? ⟨w.heap.size, 0, none⟩ = false := HA6.out.2 0
          have z1 : w6.cell? ⟨w.heap.size, 1, none⟩ = some (.int .i64 0) := HA6.out.1 1
          have zf1 : w6.frozen? ⟨w.heap.size, 1, none⟩ = false := HA6.out.2 1
          have z2 : w6.cell? ⟨w.heap.size, 2, none⟩ = some (.int .i64 0) := HA6.out.1 2
          have zf2 : w6.frozen? ⟨w.heap.size, 2, none⟩ = false := HA6.out.2 2
          have z3 : w6.cell? ⟨w.heap.size, 3, none⟩ = some (.int .i64 0) := HA6.out.1 3
          have zf3 : w6.frozen? ⟨w.heap.size, 3, none⟩ = false := HA6.out.2 3
          have z4 : w6.cell? ⟨w.heap.size, 4, none⟩ = some (.int .i64 0) := HA6.out.1 4
          have zf4 : w6.frozen? ⟨w.heap.size, 4, none⟩ = false := HA6.out.2 4
          have z5 : w6.cell? ⟨w.heap.size, 5, none⟩ = some (.int .i64 0) := HA6.out.1 5
          have zf5 : w6.frozen? ⟨w.heap.size, 5, none⟩ = false := HA6.out.2 5
          have z6 : w6.cell? ⟨w.heap.size, 6, none⟩ = some (.int .i64 0) := HA6.out.1 6
          have zf6 : w6.frozen? ⟨w.heap.size, 6, none⟩ = false := HA6.out.2 6
          have z7 : w6.cell? ⟨w.heap.size, 7, none⟩ = some (.int .i64 0) := HA6.out.1 7
          have zf7 : w6.frozen? ⟨w.heap.size, 7, none⟩ = false := HA6.out.2 7
          have z8 : w6.cell? ⟨w.heap.size, 8, none⟩ = some (.int .i64 0) := HA6.out.1 8
          have zf8 : w6.frozen? ⟨w.heap.size, 8, none⟩ = false := HA6.out.2 8
          have z9 : w6.cell? ⟨w.heap.size, 9, none⟩ = some (.bool false) := HA6.out.1 9
          have zf9 : w6.frozen? ⟨w.heap.size, 9, none⟩ = false := HA6.out.2 9
          have z10 : w6.cell? ⟨w.heap.size, 10, none⟩ = some (.bool false) := HA6.out.1 10
          have zf10 : w6.frozen? ⟨w.heap.size, 10, none⟩ = false := HA6.out.2 10
          have z11 : w6.cell? ⟨w.heap.size, 11, none⟩ = some (.bool false) := HA6.out.1 11
          have zf11 : w6.frozen? ⟨w.heap.size, 11, none⟩ = false := HA6.out.2 11
          go_upto_region 9 with fail
          go_cut [] (fun wx => AtI wx w.heap.size X ∧ Below w.heap.size w wx)
          case first =>
            go_wp2_with fail
            go_meet
            exact ⟨atI_eq (atI_alloc (set_wo _ (set_un _ (set_ui _ (set_imm _ (set_size _ (set_csr _ (set_rm _ (set_rs3 _ (set_rs2 _ (set_rs1 _ (set_rd _ (set_kind _ HA6.out)))))))))))) (by simp only [sz_set]; omega) _) (by cases X; rfl), (by repeat (first | (with_reducible first | exact Below.refl _ _ | assumption | exact Nat.le_refl _ | refine Below.drew ?_ | refine Below.alloc ?_ ?_ _ | refine Below.setCell ?_ ?_ _ | refine le_alloc ?_ | refine le_set ?_ | refine le_drew ?_ | refine below_step (by assumption) ?_ ?_ | refine le_below (by assumption) ?_) | (dsimp only; omega)))⟩
          case rest =>
            obtain ⟨hY, hbY⟩ := hcut
            obtain ⟨Y, hZ⟩ : ∃ Y, Y = X := ⟨_, rfl⟩
            rw [← hZ] at hY
            have HZ := Lib.hid hZ; clear hZ
            clear z0 zf0 z1 zf1 z2 zf2 z3 zf3 z4 zf4 z5 zf5 z6 zf6 z7 zf7 z8 zf8 z9 zf9 z10 zf10 z11 zf11
            have y0 : wc.cell? ⟨w.heap.size, 0, none⟩ = some (.int .i64 Y.kind) := hY.1 0
            have y1 : wc.cell? ⟨w.heap.size, 1, none⟩ = some (.int .i64 Y.rd) := hY.1 1
            have y2 : wc.cell? ⟨w.heap.size, 2, none⟩ = some (.int .i64 Y.rs1) := hY.1 2
            have y3 : wc.cell? ⟨w.heap.size, 3, none⟩ = some (.int .i64 Y.rs2) := hY.1 3
            have y4 : wc.cell? ⟨w.heap.size, 4, none⟩ = some (.int .i64 Y.rs3) := hY.1 4
            have y5 : wc.cell? ⟨w.heap.size, 5, none⟩ = some (.int .i64 Y.rm) := hY.1 5
            have y6 : wc.cell? ⟨w.heap.size, 6, none⟩ = some (.int .i64 Y.csr) := hY.1 6
            have y7 : wc.cell? ⟨w.heap.size, 7, none⟩ = some (.int .i64 Y.size) := hY.1 7
            have y8 : wc.cell? ⟨w.heap.size, 8, none⟩ = some (.int .i64 Y.imm) := hY.1 8
            have y9 : wc.cell? ⟨w.heap.size, 9, none⟩ = some (.bool Y.ui) := hY.1 9
            have y10 : wc.cell? ⟨w.heap.size, 10, none⟩ = some (.bool Y.un) := hY.1 10
            have y11 : wc.cell? ⟨w.heap.size, 11, none⟩ = some (.bool Y.wo) := hY.1 11
            go_wp2_with fail
            refine bodyPost_ret (v := .agg (cellsI Y)) (by simp [results, Try.results11, go_sem, y0, y1, y2, y3, y4, y5, y6, y7, y8, y9, y10, y11, cellsI] <;> (first | rfl | (repeat' (first | rfl | apply And.intro)))) rfl ⟨by rw [HV.out, HZ.out], hbY⟩
      · have hh : holdsQ ⟨m, bt, kd, s, sz, wd, un⟩ b = false := decide_eq_false hm
        have HN2 := Lib.hid (noneQ_step hN.out HR.out hh)
        have e0 : (bits .and .u32 (b : Int) (m : Int) != (bt : Int)) = true := by rw [e1, bne_iff_ne]; intro h; exact hm (by exact_mod_cast h)
        clear e1 hm hh HR HO
        go_wp2_with fail
        go_quiet (fail)
        have hbq : Below w1.heap.size w1 (wr.drewN nq) := below_drewQ hbw nq
        generalize wr.drewN nq = wq at *
        go_wp2_with fail
        go_roundw
        case rel => exact ⟨k + 1, by omega, by go_num, HN2.out, hbq⟩
        case measure => simp [intOf]; omega
    · obtain rfl : k = n := by omega
      have hlt' : ¬ (k : Int) < (k : Int) := by omega
      have HV : Hid (decQ T b = zeroI) := noneQ_all (by rw [hn.out]; exact hN.out)
      have z0 : wr.cell? ⟨w.heap.size, 0, none⟩ = some (.int .i64 0) := HAr.out.1 0
      have zf0 : wr.frozen? ⟨w.heap.size, 0, none⟩ = false := HAr.out.2 0
      have z1 : wr.cell? ⟨w.heap.size, 1, none⟩ = some (.int .i64 0) := HAr.out.1 1
      have zf1 : wr.frozen? ⟨w.heap.size, 1, none⟩ = false := HAr.out.2 1
      have z2 : wr.cell? ⟨w.heap.size, 2, none⟩ = some (.int .i64 0) := HAr.out.1 2
      have zf2 : wr.frozen? ⟨w.heap.size, 2, none⟩ = false := HAr.out.2 2
      have z3 : wr.cell? ⟨w.heap.size, 3, none⟩ = some (.int .i64 0) := HAr.out.1 3
      have zf3 : wr.frozen? ⟨w.heap.size, 3, none⟩ = false := HAr.out.2 3
      have z4 : wr.cell? ⟨w.heap.size, 4, none⟩ = some (.int .i64 0) := HAr.out.1 4
      have zf4 : wr.frozen? ⟨w.heap.size, 4, none⟩ = false := HAr.out.2 4
      have z5 : wr.cell? ⟨w.heap.size, 5, none⟩ = some (.int .i64 0) := HAr.out.1 5
      have zf5 : wr.frozen? ⟨w.heap.size, 5, none⟩ = false := HAr.out.2 5
      have z6 : wr.cell? ⟨w.heap.size, 6, none⟩ = some (.int .i64 0) := HAr.out.1 6
      have zf6 : wr.frozen? ⟨w.heap.size, 6, none⟩ = false := HAr.out.2 6
      have z7 : wr.cell? ⟨w.heap.size, 7, none⟩ = some (.int .i64 0) := HAr.out.1 7
      have zf7 : wr.frozen? ⟨w.heap.size, 7, none⟩ = false := HAr.out.2 7
      have z8 : wr.cell? ⟨w.heap.size, 8, none⟩ = some (.int .i64 0) := HAr.out.1 8
      have zf8 : wr.frozen? ⟨w.heap.size, 8, none⟩ = false := HAr.out.2 8
      have z9 : wr.cell? ⟨w.heap.size, 9, none⟩ = some (.bool false) := HAr.out.1 9
      have zf9 : wr.frozen? ⟨w.heap.size, 9, none⟩ = false := HAr.out.2 9
      have z10 : wr.cell? ⟨w.heap.size, 10, none⟩ = some (.bool false) := HAr.out.1 10
      have zf10 : wr.frozen? ⟨w.heap.size, 10, none⟩ = false := HAr.out.2 10
      have z11 : wr.cell? ⟨w.heap.size, 11, none⟩ = some (.bool false) := HAr.out.1 11
      have zf11 : wr.frozen? ⟨w.heap.size, 11, none⟩ = false := HAr.out.2 11
      go_upto_region 10 with fail
      go_cut [] (fun wx => AtI wx w.heap.size zeroI ∧ Below w.heap.size w wx)
      case first =>
        go_wp2_with fail
        go_meet
        exact ⟨atI_eq (set_wo _ (set_un _ (set_ui _ (set_imm _ (set_size _ (set_csr _ (set_rm _ (set_rs3 _ (set_rs2 _ (set_rs1 _ (set_rd _ (set_kind _ HAr.out)))))))))))) (by rfl), (by repeat (first | (with_reducible first | exact Below.refl _ _ | assumption | exact Nat.le_refl _ | refine Below.drew ?_ | refine Below.alloc ?_ ?_ _ | refine Below.setCell ?_ ?_ _ | refine le_alloc ?_ | refine le_set ?_ | refine le_drew ?_ | refine below_step (by assumption) ?_ ?_ | refine le_below (by assumption) ?_) | (dsimp only; omega)))⟩
      case rest =>
        obtain ⟨hY, hbY⟩ := hcut
        obtain ⟨Y, hZ⟩ : ∃ Y, Y = zeroI := ⟨_, rfl⟩
        rw [← hZ] at hY
        have HZ := Lib.hid hZ; clear hZ
        clear z0 zf0 z1 zf1 z2 zf2 z3 zf3 z4 zf4 z5 zf5 z6 zf6 z7 zf7 z8 zf8 z9 zf9 z10 zf10 z11 zf11
        have y0 : wc.cell? ⟨w.heap.size, 0, none⟩ = some (.int .i64 Y.kind) := hY.1 0
        have y1 : wc.cell? ⟨w.heap.size, 1, none⟩ = some (.int .i64 Y.rd) := hY.1 1
        have y2 : wc.cell? ⟨w.heap.size, 2, none⟩ = some (.int .i64 Y.rs1) := hY.1 2
        have y3 : wc.cell? ⟨w.heap.size, 3, none⟩ = some (.int .i64 Y.rs2) := hY.1 3
        have y4 : wc.cell? ⟨w.heap.size, 4, none⟩ = some (.int .i64 Y.rs3) := hY.1 4
        have y5 : wc.cell? ⟨w.heap.size, 5, none⟩ = some (.int .i64 Y.rm) := hY.1 5
        have y6 : wc.cell? ⟨w.heap.size, 6, none⟩ = some (.int .i64 Y.csr) := hY.1 6
        have y7 : wc.cell? ⟨w.heap.size, 7, none⟩ = some (.int .i64 Y.size) := hY.1 7
        have y8 : wc.cell? ⟨w.heap.size, 8, none⟩ = some (.int .i64 Y.imm) := hY.1 8
        have y9 : wc.cell? ⟨w.heap.size, 9, none⟩ = some (.bool Y.ui) := hY.1 9
        have y10 : wc.cell? ⟨w.heap.size, 10, none⟩ = some (.bool Y.un) := hY.1 10
        have y11 : wc.cell? ⟨w.heap.size, 11, none⟩ = some (.bool Y.wo) := hY.1 11
        go_wp2_with fail
        refine bodyPost_ret (v := .agg (cellsI Y)) (by simp [results, Try.results11, go_sem, y0, y1, y2, y3, y4, y5, y6, y7, y8, y9, y10, y11, cellsI] <;> (first | rfl | (repeat' (first | rfl | apply And.intro)))) rfl ⟨by rw [HV.out, HZ.out], hbY⟩
end Go.Proofs.Ytlohpakcikkdmaa
