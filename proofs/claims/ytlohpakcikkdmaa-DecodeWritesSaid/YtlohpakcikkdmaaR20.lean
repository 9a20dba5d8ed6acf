/- The contract of the reference's Encode. -/
import Derived.Test.YtlohpakcikkdmaaR18
import Derived.Test.YtlohpakcikkdmaaR19
import Derived.Test.YtlohpakcikkdmaaE6
import Derived.Lib.QuietBelow
namespace Go.Proofs.Ytlohpakcikkdmaa
open Go.ChangeShapes Go.WideShapes Go.ChangeAt Go.RowKit Go.Sort
set_option linter.unusedVariables false
set_option linter.unusedSimpArgs false
/-- The bits that an instruction has by a row of the document's own answer. -/
def tryQ (T : List QRow) (I : Ins) (q : QRow) : Option Nat := if q.kind = I.kind ∧ decQ T (writeQ q.bits q.form I) = I then some (writeQ q.bits q.form I) else none
def encQ (T : List QRow) (I : Ins) : Option Nat := if I.kind = 0 then none else T.findSome? (tryQ T I)
theorem writeQ_lt (bt : Nat) (s : ByteArray) (I : Ins) (h : bt < 4294967296) : writeQ bt s I < 4294967296 := by
  have h8 := wq8_lt s I _ (wq7_lt s I _ (wq6_lt s I _ (wq5_lt s I _ (wq4_lt s I _ (wq3_lt s I _ (wq2_lt s I _ (wq1_lt s I _ h)))))))
  unfold writeQ immW
  split
  · exact iw73_lt I _ h8 1
  · split
    · exact iw83_lt I _ h8 2
    · split
      · exact iw66_lt I _ h8 4
      · split
        · exact iw85_lt I _ h8 1
        · split
          · exact iw74_lt I _ h8 4
          · exact h8
def NoneE (T : List QRow) (I : Ins) (k : Nat) : Prop := ∀ q ∈ T.take k, tryQ T I q = none
theorem noneE_step {T : List QRow} {I : Ins} {k : Nat} {q : QRow} (h : NoneE T I k) (hr : T[k]? = some q) (hh : tryQ T I q = none) : NoneE T I (k + 1) := by
  intro r hq
  rw [List.take_add_one, hr] at hq
  simp only [Option.toList_some, List.mem_append, List.mem_singleton] at hq
  rcases hq with hq | rfl
  · exact h r hq
  · exact hh
theorem noneE_all {T : List QRow} {I : Ins} (h : NoneE T I T.length) : encQ T I = none := by
  unfold encQ; split
  · rfl
  · rw [List.findSome?_eq_none_iff]; intro r hr; exact h r (by simpa using hr)
theorem findSome_at {T : List QRow} (f : QRow → Option Nat) {k : Nat} {q : QRow} {n : Nat} (h : ∀ r ∈ T.take k, f r = none) (hr : T[k]? = some q) (hh : f q = some n) : T.findSome? f = some n := by
  obtain ⟨hk, hk'⟩ := List.getElem?_eq_some_iff.1 hr
  rw [← List.take_append_drop k T, List.findSome?_append, List.findSome?_eq_none_iff.2 (fun r hr => h r hr), List.drop_eq_getElem_cons hk, List.findSome?_cons, hk', hh]; rfl
theorem foundE_at {T : List QRow} {I : Ins} {k : Nat} {q : QRow} {n : Nat} (hk0 : ¬ I.kind = 0) (h : NoneE T I k) (hr : T[k]? = some q) (hh : tryQ T I q = some n) : encQ T I = some n := by
  unfold encQ; rw [if_neg hk0]
  exact findSome_at (tryQ T I) h hr hh
set_option maxRecDepth 100000 in
set_option maxHeartbeats 8000000 in
theorem Encode_q (T : List QRow) (n : Nat) (hn : Hid (T.length = n)) (h0 : 0 < n) (hn2 : n ≤ 1000) (hT : Hid (∀ q ∈ T, OkQ q)) (hR : Hid (∀ v, Calls Try.prog 19 #[] v (RetO T v)))
    (hD : Hid (∀ b, b < 4294967296 → ∀ v, Calls Try.prog 11 #[.int .u32 (b : Nat)] v (RetX (decQ T b) v))) (I : Ins) (w : World) :
    Calls Try.prog 13 #[.agg (cellsI I)] w (RetA ((encQ T I).getD 0) (encQ T I).isSome w) := by
  show Calls Try.prog 13 #[.agg #[.int .i64 I.kind, .int .i64 I.rd, .int .i64 I.rs1, .int .i64 I.rs2, .int .i64 I.rs3, .int .i64 I.rm, .int .i64 I.csr, .int .i64 I.size, .int .i64 I.imm, .bool I.ui, .bool I.un, .bool I.wo]] w (RetA ((encQ T I).getD 0) (encQ T I).isSome w)
  go_enter Try.func13, Try.ntmps13
  go_wp2_with fail
  have HA := Lib.hid (atI_lit w 25 w.heap.size I rfl)
  refine (hR.out _).mono ?_; rintro e w1 ⟨v1, rfl, h1, hb1⟩
  obtain ⟨g, cap, hv, hg, hc⟩ := own_cells h1 (by rw [hn.out]; exact h0)
  rw [hn.out] at hv
  subst hv
  have HC := Lib.hid hc
  clear hc h1
  have hz1 := hb1.size
  simp only [sz_alloc] at hz1
  have HA1 := Lib.hid (atI_below HA.out hb1 (by rw [sz_alloc]; omega))
  have hw1 : Below w.heap.size w w1 := below_step hb1 ((Below.refl w.heap.size w).alloc (Nat.le_refl _) _) (by rw [sz_alloc]; omega)
  clear HA
  go_wp2_with fail
  go_loopw [5] (fun i wr => ∃ k : Nat, k ≤ n ∧ i = .int .i64 k ∧ Hid (NoneE T I k) ∧ Below w1.heap.size w1 wr) (fun i _ => n - (intOf i).toNat)
  case atStart => exact ⟨0, by omega, rfl, fun q hq => by simp at hq, Below.refl _ _⟩
  case round =>
    obtain ⟨k, hk, rfl, hN, hbw⟩ := hrel
    have HAr := Lib.hid (atI_below HA1.out hbw (by omega))
    have hwr : Below w.heap.size w wr := below_step hbw hw1 (by omega)
    have hzr := hbw.size
    have a0 : wr.cell? ⟨w.heap.size, 0, none⟩ = some (.int .i64 I.kind) := HAr.out.1 0
    by_cases hlt : k < n
    · have hlt' : (k : Int) < (n : Int) := by omega
      by_cases hk0 : I.kind = 0
      · have HE : Hid (encQ T I = none) := by show _ = _; unfold encQ; rw [if_pos hk0]
        have e0 : (I.kind != 0) = false := by rw [hk0]; rfl
        clear hk0
        go_wp2_with fail
        go_ret2
        exact ⟨by rw [HE.out]; rfl, (by repeat (first | (with_reducible first | exact Below.refl _ _ | assumption | exact Nat.le_refl _ | refine Below.drew ?_ | refine Below.alloc ?_ ?_ _ | refine Below.setCell ?_ ?_ _ | refine le_alloc ?_ | refine le_set ?_ | refine le_drew ?_ | refine below_step (by assumption) ?_ ?_ | refine le_below (by assumption) ?_) | (dsimp only; omega)))⟩
      have e0 : (I.kind != 0) = true := by simpa using hk0
      have HK := Lib.hid hk0; clear hk0
      obtain ⟨q, hq⟩ : ∃ q, T[k]? = some q := ⟨_, List.getElem?_eq_getElem (by rw [hn.out]; exact hlt)⟩
      have HR := Lib.hid hq
      have HO : Hid (OkQ q) := hT.out q (List.mem_of_getElem? hq)
      obtain ⟨t0, t1, t2, t3, t4, t5, t6⟩ := cellsQs_get T k q hq
      clear hq
      obtain ⟨m, bt, kd, s, sz, wd, un⟩ := q
      have c0 : wr.cell? ⟨g, k * 7, none⟩ = some (.int .u32 m) := by rw [hbw.cell (p := ⟨g, k * 7, none⟩) hg, Nat.mul_comm]; exact HC.out _ _ t0
      have c1 : wr.cell? ⟨g, k * 7 + 1, none⟩ = some (.int .u32 bt) := by rw [hbw.cell (p := ⟨g, k * 7 + 1, none⟩) hg, Nat.mul_comm]; exact HC.out _ _ t1
      have c2 : wr.cell? ⟨g, k * 7 + 2, none⟩ = some (.int .i64 kd) := by rw [hbw.cell (p := ⟨g, k * 7 + 2, none⟩) hg, Nat.mul_comm]; exact HC.out _ _ t2
      have c3 : wr.cell? ⟨g, k * 7 + 3, none⟩ = some (.string s) := by rw [hbw.cell (p := ⟨g, k * 7 + 3, none⟩) hg, Nat.mul_comm]; exact HC.out _ _ t3
      have c4 : wr.cell? ⟨g, k * 7 + 4, none⟩ = some (.int .i64 sz) := by rw [hbw.cell (p := ⟨g, k * 7 + 4, none⟩) hg, Nat.mul_comm]; exact HC.out _ _ t4
      have c5 : wr.cell? ⟨g, k * 7 + 5, none⟩ = some (.bool wd) := by rw [hbw.cell (p := ⟨g, k * 7 + 5, none⟩) hg, Nat.mul_comm]; exact HC.out _ _ t5
      have c6 : wr.cell? ⟨g, k * 7 + 6, none⟩ = some (.bool un) := by rw [hbw.cell (p := ⟨g, k * 7 + 6, none⟩) hg, Nat.mul_comm]; exact HC.out _ _ t6
      clear t0 t1 t2 t3 t4 t5 t6
      by_cases hkd : kd = I.kind
      · have ek : (kd != I.kind) = false := by rw [hkd]; simp
        have HKD := Lib.hid hkd; clear hkd
        go_wp2_with fail
        go_quiet (fail)
        have hbq : Below w.heap.size w (wr.drewN nq) := below_drewQ hwr nq
        have hbq1 : Below w1.heap.size w1 (wr.drewN nq) := below_drewQ hbw nq
        have HAq : Hid (AtI (wr.drewN nq) w.heap.size I) := HAr.out
        have d0 : (wr.drewN nq).cell? ⟨g, k * 7, none⟩ = some (.int .u32 m) := c0
        have d1 : (wr.drewN nq).cell? ⟨g, k * 7 + 1, none⟩ = some (.int .u32 bt) := c1
        have d2 : (wr.drewN nq).cell? ⟨g, k * 7 + 2, none⟩ = some (.int .i64 kd) := c2
        have d3 : (wr.drewN nq).cell? ⟨g, k * 7 + 3, none⟩ = some (.string s) := c3
        have d4 : (wr.drewN nq).cell? ⟨g, k * 7 + 4, none⟩ = some (.int .i64 sz) := c4
        have d5 : (wr.drewN nq).cell? ⟨g, k * 7 + 5, none⟩ = some (.bool wd) := c5
        have d6 : (wr.drewN nq).cell? ⟨g, k * 7 + 6, none⟩ = some (.bool un) := c6
        have hzq : w1.heap.size ≤ (wr.drewN nq).heap.size := hzr
        clear c0 c1 c2 c3 c4 c5 c6 a0 HAr hwr hzr hbw
        generalize wr.drewN nq = wq at *
        have a0 : wq.cell? ⟨w.heap.size, 0, none⟩ = some (.int .i64 I.kind) := HAq.out.1 0
        have a1 : wq.cell? ⟨w.heap.size, 1, none⟩ = some (.int .i64 I.rd) := HAq.out.1 1
        have a2 : wq.cell? ⟨w.heap.size, 2, none⟩ = some (.int .i64 I.rs1) := HAq.out.1 2
        have a3 : wq.cell? ⟨w.heap.size, 3, none⟩ = some (.int .i64 I.rs2) := HAq.out.1 3
        have a4 : wq.cell? ⟨w.heap.size, 4, none⟩ = some (.int .i64 I.rs3) := HAq.out.1 4
        have a5 : wq.cell? ⟨w.heap.size, 5, none⟩ = some (.int .i64 I.rm) := HAq.out.1 5
        have a6 : wq.cell? ⟨w.heap.size, 6, none⟩ = some (.int .i64 I.csr) := HAq.out.1 6
        have a7 : wq.cell? ⟨w.heap.size, 7, none⟩ = some (.int .i64 I.size) := HAq.out.1 7
        have a8 : wq.cell? ⟨w.heap.size, 8, none⟩ = some (.int .i64 I.imm) := HAq.out.1 8
        have a9 : wq.cell? ⟨w.heap.size, 9, none⟩ = some (.bool I.ui) := HAq.out.1 9
        have a10 : wq.cell? ⟨w.heap.size, 10, none⟩ = some (.bool I.un) := HAq.out.1 10
        have a11 : wq.cell? ⟨w.heap.size, 11, none⟩ = some (.bool I.wo) := HAq.out.1 11
        have Kd0 := cell_regrown d0
        have Kd1 := cell_regrown d1
        have Kd2 := cell_regrown d2
        have Kd3 := cell_regrown d3
        have Kd4 := cell_regrown d4
        have Kd5 := cell_regrown d5
        have Kd6 := cell_regrown d6
        have Ka0 := cell_regrown a0
        have Ka1 := cell_regrown a1
        have Ka2 := cell_regrown a2
        have Ka3 := cell_regrown a3
        have Ka4 := cell_regrown a4
        have Ka5 := cell_regrown a5
        have Ka6 := cell_regrown a6
        have Ka7 := cell_regrown a7
        have Ka8 := cell_regrown a8
        have Ka9 := cell_regrown a9
        have Ka10 := cell_regrown a10
        have Ka11 := cell_regrown a11
        have HX : Hid (writeQ bt s I < 4294967296) := writeQ_lt bt s I HO.out.2.1
        have HT1 : Hid (∀ Y, decQ T (writeQ bt s I) = Y → tryQ T I ⟨m, bt, kd, s, sz, wd, un⟩ = if Y = I then some (writeQ bt s I) else none) := by
          intro Y hY; unfold tryQ; dsimp only; rw [hY, HKD.out]; simp
        have q1 : ∀ dd os, Calls Try.prog 22 #[.agg #[.int .u32 m, .int .u32 bt, .int .i64 kd, .string s, .int .i64 sz, .bool wd, .bool un], .agg #[.int .i64 I.kind, .int .i64 I.rd, .int .i64 I.rs1, .int .i64 I.rs2, .int .i64 I.rs3, .int .i64 I.rm, .int .i64 I.csr, .int .i64 I.size, .int .i64 I.imm, .bool I.ui, .bool I.un, .bool I.wo]] (grow (redrawn wq dd) os) fun e w'' => e = .returned (.int .u32 ((writeQ bt s I : Nat) : Int)) ∧ ∃ p : Regrown, w'' = grow (redrawn wq p.d) p.os :=
          fun dd os => q_u (write_q m bt HO.out.2.1 kd s sz wd un HO.out.2.2 I _)
        obtain ⟨X, hX⟩ : ∃ X, X = writeQ bt s I := ⟨_, rfl⟩
        rw [← hX] at q1 HX HT1
        clear hX
        go_upto_region 6 with fail
        refine wp_region_quiet_below (by kernel_rfl) (by kernel_rfl) ?_
        repeat (go_big_quiet_step (first | (go_at_call 22; exact q1 _ _)))
        refine wpQuiet_nil ?_
        intro _ hw'
        obtain ⟨⟨dq, osq⟩, hw''⟩ := hw'
        subst hw''
        have hb2 := below_regrown wq dq osq
        generalize grow (redrawn wq dq) osq = w2 at hb2 ⊢
        have hz2 := hb2.size
        have HA2 := Lib.hid (atI_below HAq.out hb2 (by omega))
        have hw2 : Below w.heap.size w w2 := below_step hb2 hbq hbq.size
        have hw21 : Below w1.heap.size w1 w2 := below_step hb2 hbq1 hbq1.size
        clear Kd0 d0 Kd1 d1 Kd2 d2 Kd3 d3 Kd4 d4 Kd5 d5 Kd6 d6 Ka0 a0 Ka1 a1 Ka2 a2 Ka3 a3 Ka4 a4 Ka5 a5 Ka6 a6 Ka7 a7 Ka8 a8 Ka9 a9 Ka10 a10 Ka11 a11 q1 HAq hbq hbq1 hb2 hzq
        obtain ⟨Y, hY⟩ : ∃ Y, decQ T X = Y := ⟨_, rfl⟩
        have HT2 := Lib.hid (HT1.out Y hY)
        have hdc := Lib.hid (fun v => hD.out X HX.out v)
        rw [hY] at hdc
        clear hY HT1
        obtain ⟨bv, hbv⟩ : ∃ bv, bv = decide (Y = I) := ⟨_, rfl⟩
        have hq25 := fun v => eq25 Y.kind Y.rd Y.rs1 Y.rs2 Y.rs3 Y.rm Y.csr Y.size Y.imm Y.ui Y.un Y.wo I.kind I.rd I.rs1 I.rs2 I.rs3 I.rm I.csr I.size I.imm I.ui I.un I.wo v
        have e2 : decide ((⟨Y.kind, Y.rd, Y.rs1, Y.rs2, Y.rs3, Y.rm, Y.csr, Y.size, Y.imm, Y.ui, Y.un, Y.wo⟩ : Ins) = ⟨I.kind, I.rd, I.rs1, I.rs2, I.rs3, I.rm, I.csr, I.size, I.imm, I.ui, I.un, I.wo⟩) = bv := by rw [hbv]
        rw [e2] at hq25
        have HB := Lib.hid hbv
        clear hbv e2
        have g25 := guard25
        have a0 : w2.cell? ⟨w.heap.size, 0, none⟩ = some (.int .i64 I.kind) := HA2.out.1 0
        have a1 : w2.cell? ⟨w.heap.size, 1, none⟩ = some (.int .i64 I.rd) := HA2.out.1 1
        have a2 : w2.cell? ⟨w.heap.size, 2, none⟩ = some (.int .i64 I.rs1) := HA2.out.1 2
        have a3 : w2.cell? ⟨w.heap.size, 3, none⟩ = some (.int .i64 I.rs2) := HA2.out.1 3
        have a4 : w2.cell? ⟨w.heap.size, 4, none⟩ = some (.int .i64 I.rs3) := HA2.out.1 4
        have a5 : w2.cell? ⟨w.heap.size, 5, none⟩ = some (.int .i64 I.rm) := HA2.out.1 5
        have a6 : w2.cell? ⟨w.heap.size, 6, none⟩ = some (.int .i64 I.csr) := HA2.out.1 6
        have a7 : w2.cell? ⟨w.heap.size, 7, none⟩ = some (.int .i64 I.size) := HA2.out.1 7
        have a8 : w2.cell? ⟨w.heap.size, 8, none⟩ = some (.int .i64 I.imm) := HA2.out.1 8
        have a9 : w2.cell? ⟨w.heap.size, 9, none⟩ = some (.bool I.ui) := HA2.out.1 9
        have a10 : w2.cell? ⟨w.heap.size, 10, none⟩ = some (.bool I.un) := HA2.out.1 10
        have a11 : w2.cell? ⟨w.heap.size, 11, none⟩ = some (.bool I.wo) := HA2.out.1 11
        have Ka0 := cell_regrown a0
        have Ka1 := cell_regrown a1
        have Ka2 := cell_regrown a2
        have Ka3 := cell_regrown a3
        have Ka4 := cell_regrown a4
        have Ka5 := cell_regrown a5
        have Ka6 := cell_regrown a6
        have Ka7 := cell_regrown a7
        have Ka8 := cell_regrown a8
        have Ka9 := cell_regrown a9
        have Ka10 := cell_regrown a10
        have Ka11 := cell_regrown a11
        have q2 : ∀ dd os, Calls Try.prog 11 #[.int .u32 X] (grow (redrawn w2 dd) os) fun e w'' => e = .returned (.agg #[.int .i64 Y.kind, .int .i64 Y.rd, .int .i64 Y.rs1, .int .i64 Y.rs2, .int .i64 Y.rs3, .int .i64 Y.rm, .int .i64 Y.csr, .int .i64 Y.size, .int .i64 Y.imm, .bool Y.ui, .bool Y.un, .bool Y.wo]) ∧ ∃ p : Regrown, w'' = grow (redrawn w2 p.d) p.os := fun dd os => q_x (hdc.out _)
        go_upto_region 7 with fail
        refine wp_region_quiet_below (by kernel_rfl) (by kernel_rfl) ?_
        repeat (go_big_quiet_step (first | (go_at_call 11; exact q2 _ _)))
        refine wpQuiet_nil ?_
        intro _ hw'
        obtain ⟨⟨dq3, osq3⟩, hw''⟩ := hw'
        subst hw''
        have hb3 := below_regrown w2 dq3 osq3
        generalize grow (redrawn w2 dq3) osq3 = w3 at hb3 ⊢
        have hw3 : Below w.heap.size w w3 := below_step hb3 hw2 hw2.size
        have hw31 : Below w1.heap.size w1 w3 := below_step hb3 hw21 hw21.size
        clear Ka0 a0 Ka1 a1 Ka2 a2 Ka3 a3 Ka4 a4 Ka5 a5 Ka6 a6 Ka7 a7 Ka8 a8 Ka9 a9 Ka10 a10 Ka11 a11 q2 hb3 hz2 HA2 hw2 hw21 hdc hq25 g25
        cases bv with
        | true =>
          have HE : Hid (encQ T I = some X) := by
            refine foundE_at HK.out hN.out HR.out ?_
            rw [HT2.out, if_pos (of_decide_eq_true HB.out.symm)]
          clear hN HR HT2 HB
          go_wp2_with fail
          go_ret2
          exact ⟨by rw [HE.out]; rfl, hw3⟩
        | false =>
          have HN : Hid (NoneE T I (k + 1)) := noneE_step hN.out HR.out (by rw [HT2.out, if_neg (of_decide_eq_false HB.out.symm)])
          have HL := Lib.hid hlt
          clear hN HR HT2 HB hlt
          go_wp2_with fail
          go_roundw
          case rel => exact ⟨k + 1, by have := HL.out; omega, by first | rfl | (congr 1; have := HL.out; rw [IntWalk.wrap64_in _ (by omega)]; omega) | (congr 1), HN, hw31⟩
          case measure => have := HL.out; first | (simp [intOf]; done) | (simp [intOf]; omega) | (rw [IntWalk.wrap64_in _ (by omega)]; simp [intOf]; omega)
      · have ek : (kd != I.kind) = true := by simpa using hkd
        have HN : Hid (NoneE T I (k + 1)) := noneE_step hN.out HR.out (by unfold tryQ; rw [if_neg (fun h => hkd h.1)])
        have HL := Lib.hid hlt
        clear hN HR hlt hkd
        go_wp2_with fail
        go_quiet (fail)
        go_wp2_with fail
        go_roundw
        case rel => exact ⟨k + 1, by have := HL.out; omega, by first | rfl | (congr 1; have := HL.out; rw [IntWalk.wrap64_in _ (by omega)]; omega) | (congr 1), HN, by first | exact below_drewQ hbw _ | exact below_drewQ (below_drewQ hbw _) _⟩
        case measure => have := HL.out; first | (simp [intOf]; done) | (simp [intOf]; omega) | (rw [IntWalk.wrap64_in _ (by omega)]; simp [intOf]; omega)
    · have hkn : k = n := by omega
      have hlt' : ¬ (k : Int) < (n : Int) := by omega
      have HE : Hid (encQ T I = none) := noneE_all (by rw [hn.out, ← hkn]; exact hN.out)
      clear hlt hkn hN
      go_wp2_with fail
      go_ret2
      exact ⟨by rw [HE.out]; rfl, hwr⟩
theorem EncodeR_c (I : Ins) (w : World) : Calls Try.prog 13 #[.agg (cellsI I)] w (RetA ((encQ allQ I).getD 0) (encQ allQ I).isSome w) :=
  Encode_q allQ 160 (by show _ = _; decide +kernel) (by decide) (by decide) ok_allQ rows_all (fun b hb v => DecodeR_c b hb v) I w
end Go.Proofs.Ytlohpakcikkdmaa
