/- What the document's own answer reads of bits that one of its rows holds, is what the code reads by the row that it is of. -/
import Derived.Test.YtlohpakcikkdmaaM7
import Derived.Test.YtlohpakcikkdmaaM4
namespace Go.Proofs.Ytlohpakcikkdmaa
set_option linter.unusedVariables false
set_option linter.unusedSimpArgs false
theorem qrd_if (s : ByteArray) (b : Nat) (I : Ins) : qrd s b I = { I with rd := if hasQ s 100 then (fld b 7 5 : Nat) else I.rd } := by unfold qrd; cases hasQ s 100 <;> rfl
theorem qrs1_if (s : ByteArray) (b : Nat) (I : Ins) : qrs1 s b I = { I with rs1 := if hasQ s 49 then (fld b 15 5 : Nat) else I.rs1 } := by unfold qrs1; cases hasQ s 49 <;> rfl
theorem qrs2_if (s : ByteArray) (b : Nat) (I : Ins) : qrs2 s b I = { I with rs2 := if hasQ s 50 then (fld b 20 5 : Nat) else I.rs2 } := by unfold qrs2; cases hasQ s 50 <;> rfl
theorem qrs3_if (s : ByteArray) (b : Nat) (I : Ins) : qrs3 s b I = { I with rs3 := if hasQ s 51 then (fld b 27 5 : Nat) else I.rs3 } := by unfold qrs3; cases hasQ s 51 <;> rfl
theorem qrm_if (s : ByteArray) (b : Nat) (I : Ins) : qrm s b I = { I with rm := if hasQ s 114 then (fld b 12 3 : Nat) else I.rm } := by unfold qrm; cases hasQ s 114 <;> rfl
theorem qcsr_if (s : ByteArray) (b : Nat) (I : Ins) : qcsr s b I = { I with csr := if hasQ s 99 then (fld b 20 12 : Nat) else I.csr } := by unfold qcsr; cases hasQ s 99 <;> rfl
theorem readQ_eq (k : Int) (s : ByteArray) (sz : Int) (wd un : Bool) (b : Nat) : readQ k s sz wd un b =
    ⟨k, if hasQ s 100 then (fld b 7 5 : Nat) else 0, if hasQ s 49 then (fld b 15 5 : Nat) else 0, if hasQ s 50 then (fld b 20 5 : Nat) else 0, if hasQ s 51 then (fld b 27 5 : Nat) else 0,
     if hasQ s 114 then (fld b 12 3 : Nat) else 0, if hasQ s 99 then (fld b 20 12 : Nat) else 0, sz, immQ s b, hasQ s 61, un, wd⟩ := by
  unfold readQ; rw [qcsr_if, qrm_if, qrs3_if, qrs2_if, qrs1_if, qrd_if]; rfl
theorem readF_eq (r : Row) (b : Nat) : readF r b =
    ⟨r.kind, if has r.parts 1 then (fld b 7 5 : Nat) else 0, if has r.parts 2 then (fld b 15 5 : Nat) else 0, if has r.parts 4 then (fld b 20 5 : Nat) else 0, if has r.parts 8 then (fld b 27 5 : Nat) else 0,
     if has r.parts 16 then (fld b 12 3 : Nat) else 0, if has r.parts 32 then (fld b 20 12 : Nat) else 0,
     if has r.parts 16384 then (4 * 2 ^ fld b 25 1 : Nat) else if has r.parts 8192 then (2 ^ fld b 12 2 : Nat) else 0,
     immV r.parts b, has r.parts 131072, if has r.parts 65536 then decide (fld b 20 1 = 1) else has r.parts 262144,
     if has r.parts 65536 then decide (fld b 21 1 = 0) else if has r.parts 32768 then decide (fld b 3 1 = 1) else false⟩ := rfl
theorem im73 (b : Nat) (hb : b < 4294967296) : imq73 b = immI b := by
  unfold imq73 immI sgn; simp only [nq73]
  rw [fe b 20 12 1048576 4096 (by decide) (by decide)]
  split <;> split <;> omega
theorem im83 (b : Nat) (hb : b < 4294967296) : imq83 b = immS b := by
  unfold imq83 immS sgn; simp only [nq83]
  rw [fe b 7 5 128 32 (by decide) (by decide), fe b 25 7 33554432 128 (by decide) (by decide)]
  split <;> split <;> omega
theorem im66 (b : Nat) (hb : b < 4294967296) : imq66 b = immB b := by
  unfold imq66 immB sgn; simp only [nq66]
  have h1 := fldlt b 8 4; have h2 := fldlt b 25 6; have h3 := fldlt b 7 1
  simp only [show (2 : Nat) ^ 4 = 16 by decide, show (2 : Nat) ^ 6 = 64 by decide, show (2 : Nat) ^ 1 = 2 by decide] at h1 h2 h3
  rw [fe b 31 1 2147483648 2 (by decide) (by decide)]
  generalize fld b 8 4 = x at *; generalize fld b 25 6 = y at *; generalize fld b 7 1 = z at *
  split <;> split <;> omega
theorem im85 (b : Nat) (hb : b < 4294967296) : imq85 b = immU b := by
  unfold imq85 immU sgn; simp only [nq85]
  rw [fe b 12 20 4096 1048576 (by decide) (by decide)]
  split <;> split <;> omega
theorem im74 (b : Nat) (hb : b < 4294967296) : imq74 b = immJ b := by
  unfold imq74 immJ sgn; simp only [nq74]
  have h1 := fldlt b 21 10; have h2 := fldlt b 12 8; have h3 := fldlt b 20 1
  simp only [show (2 : Nat) ^ 10 = 1024 by decide, show (2 : Nat) ^ 8 = 256 by decide, show (2 : Nat) ^ 1 = 2 by decide] at h1 h2 h3
  rw [fe b 31 1 2147483648 2 (by decide) (by decide)]
  generalize fld b 21 10 = x at *; generalize fld b 12 8 = y at *; generalize fld b 20 1 = z at *
  split <;> split <;> omega
theorem imm_eq (s : ByteArray) (p b : Nat) (hb : b < 4294967296) (hp : p &&& 8128 = impQ s) : immQ s b = immV p b := by
  unfold immV; rw [hp]
  unfold immQ endQ impQ
  cases hasQ s 122
  · cases hasQ s 104
    · rcases letterQ_cases s with h | h | h | h | h | h
      · rw [h]; exact im73 b hb
      · rw [h]; exact im83 b hb
      · rw [h]; exact im66 b hb
      · rw [h]; exact im85 b hb
      · rw [h]; exact im74 b hb
      · rw [h]; rfl
    · rfl
  · rfl
theorem cov_of {M f c b x : Nat} (h : covB M f c = true) (hb : b &&& M = x) : fld b f c = fld x f c := by
  have h2 : M &&& msk f c = msk f c := Nat.eq_of_beq_eq_true h
  rw [← hb]; exact (fld_cov h2 b).symm
theorem refs_read {r : Row} {q : QRow} {b : Nat} (hb : b < 4294967296) (h : refs r q = true) (hq : b &&& q.mask = q.bits) : rowQ q b = readF r b ∧ b &&& r.mask = r.mat ∧ hasQ q.form 114 = has r.parts 16 := by
  unfold refs at h
  simp only [Bool.and_eq_true, beq_iff_eq, decide_eq_true_eq] at h
  obtain ⟨⟨⟨⟨⟨⟨⟨⟨⟨⟨⟨⟨⟨h1, h2⟩, h3⟩, h4⟩, h5⟩, h6⟩, h7⟩, h8⟩, h9⟩, h10⟩, h11⟩, h12⟩, h13⟩, h14⟩ := h
  have h1' : q.mask &&& r.mask = r.mask := Nat.eq_of_beq_eq_true h1
  have h2' : q.bits &&& r.mask = r.mat := Nat.eq_of_beq_eq_true h2
  have h11' : r.parts &&& 8128 = impQ q.form := Nat.eq_of_beq_eq_true h11
  refine ⟨?_, ?_, h8⟩
  · unfold rowQ
    rw [readQ_eq, readF_eq, h3, h4, h5, h6, h7, h8, h9, h10, imm_eq q.form r.parts b hb h11']
    have es : q.size = (if has r.parts 16384 then ((4 * 2 ^ fld b 25 1 : Nat) : Int) else if has r.parts 8192 then ((2 ^ fld b 12 2 : Nat) : Int) else (0 : Int)) := by
      unfold sizeOk at h12
      cases c1 : has r.parts 16384
      · rw [c1] at h12; rw [if_neg (by decide)] at h12 ⊢
        cases c2 : has r.parts 8192
        · rw [c2] at h12; rw [if_neg (by decide)] at h12 ⊢; exact of_decide_eq_true h12
        · rw [c2] at h12; rw [if_pos rfl] at h12 ⊢
          simp only [Bool.and_eq_true, decide_eq_true_eq] at h12
          rw [h12.2, cov_of h12.1 hq]
      · rw [c1] at h12; rw [if_pos rfl] at h12 ⊢
        simp only [Bool.and_eq_true, decide_eq_true_eq] at h12
        rw [h12.2, cov_of h12.1 hq]
    have ew : q.word = if has r.parts 65536 then decide (fld b 21 1 = 0) else if has r.parts 32768 then decide (fld b 3 1 = 1) else false := by
      unfold wordOk at h13
      cases c1 : has r.parts 65536
      · rw [c1] at h13; rw [if_neg (by decide)] at h13 ⊢
        cases c2 : has r.parts 32768
        · rw [c2] at h13; rw [if_neg (by decide)] at h13 ⊢; exact eq_of_beq h13
        · rw [c2] at h13; rw [if_pos rfl] at h13 ⊢
          simp only [Bool.and_eq_true, beq_iff_eq] at h13
          rw [h13.2, cov_of h13.1 hq]
      · rw [c1] at h13; rw [if_pos rfl] at h13 ⊢
        simp only [Bool.and_eq_true, beq_iff_eq] at h13
        rw [h13.2, cov_of h13.1 hq]
    have eu : q.un = if has r.parts 65536 then decide (fld b 20 1 = 1) else has r.parts 262144 := by
      unfold unOk at h14
      cases c1 : has r.parts 65536
      · rw [c1] at h14; rw [if_neg (by decide)] at h14 ⊢; exact eq_of_beq h14
      · rw [c1] at h14; rw [if_pos rfl] at h14 ⊢
        simp only [Bool.and_eq_true, beq_iff_eq] at h14
        rw [h14.2, cov_of h14.1 hq]
    rw [es, ew, eu]
  · rw [← h1', ← Nat.and_assoc, hq, h2']
theorem or_add (x y : Nat) (h : x &&& y = 0) : x ||| y = x + y := by
  have hs : x + y < 2 ^ (x + y) := Nat.lt_two_pow_self
  have hx : x % 2 ^ (x + y) = x := Nat.mod_eq_of_lt (by omega)
  have hy : y % 2 ^ (x + y) = y := Nat.mod_eq_of_lt (by omega)
  have e := BitVec.add_eq_or_of_and_eq_zero (BitVec.ofNat (x + y) x) (BitVec.ofNat (x + y) y) (by
    apply BitVec.eq_of_toNat_eq
    rw [BitVec.toNat_and, BitVec.toNat_ofNat, BitVec.toNat_ofNat, hx, hy, h]; simp)
  have e2 := congrArg BitVec.toNat e
  rw [BitVec.toNat_add, BitVec.toNat_or, BitVec.toNat_ofNat, BitVec.toNat_ofNat, hx, hy, Nat.mod_eq_of_lt hs] at e2
  exact e2.symm
theorem sub_mask {M m : Nat} (h : M &&& m = m) : ∃ e, e = M - m ∧ M = m ||| e ∧ m &&& e = 0 := by
  refine ⟨M - m, rfl, ?_⟩
  have hx : M ^^^ m = M - m := by
    have e1 : M = (M ^^^ m) ||| m := by
      apply Nat.eq_of_testBit_eq; intro i
      have := congrArg (fun x => x.testBit i) h
      simp only [Nat.testBit_and] at this
      simp only [Nat.testBit_or, Nat.testBit_xor]
      revert this; cases M.testBit i <;> cases m.testBit i <;> simp
    have e2 : (M ^^^ m) &&& m = 0 := by
      apply Nat.eq_of_testBit_eq; intro i
      have := congrArg (fun x => x.testBit i) h
      simp only [Nat.testBit_and] at this
      simp only [Nat.testBit_and, Nat.testBit_xor, Nat.zero_testBit]
      revert this; cases M.testBit i <;> cases m.testBit i <;> simp
    have e3 := or_add _ _ e2
    omega
  constructor
  · rw [← hx]
    apply Nat.eq_of_testBit_eq; intro i
    have := congrArg (fun x => x.testBit i) h
    simp only [Nat.testBit_and] at this
    simp only [Nat.testBit_or, Nat.testBit_xor]
    revert this; cases M.testBit i <;> cases m.testBit i <;> simp
  · rw [← hx]
    apply Nat.eq_of_testBit_eq; intro i
    have := congrArg (fun x => x.testBit i) h
    simp only [Nat.testBit_and] at this
    simp only [Nat.testBit_and, Nat.testBit_xor, Nat.zero_testBit]
    revert this; cases M.testBit i <;> cases m.testBit i <;> simp
theorem covers_at {r : Row} {b : Nat} (hb : b < 4294967296) (hc : covers allQ r = true) (h : b &&& r.mask = r.mat) : ∃ q ∈ allQ, b &&& q.mask = q.bits := by
  unfold covers at hc
  cases hf : allQ.find? (fun q => refs r q) with
  | none => rw [hf] at hc; exact Bool.noConfusion hc
  | some q0 =>
    rw [hf] at hc
    have hr := List.find?_some hf
    have h1 : q0.mask &&& r.mask = r.mask := by
      unfold refs at hr
      simp only [Bool.and_eq_true] at hr
      exact Nat.eq_of_beq_eq_true hr.1.1.1.1.1.1.1.1.1.1.1.1.1
    obtain ⟨e, he, hM, hd⟩ := sub_mask h1
    dsimp only at hc
    rw [← he, List.all_eq_true] at hc
    have hmem := subs_mem e b 32
    have hlt : (b &&& e) % 2 ^ 32 = b &&& e := Nat.mod_eq_of_lt (Nat.lt_of_le_of_lt Nat.and_le_left hb)
    rw [hlt] at hmem
    have h2 := hc _ hmem
    rw [List.any_eq_true] at h2
    obtain ⟨q, hq, h3⟩ := h2
    rw [Bool.and_eq_true] at h3
    have e1 : q.mask = q0.mask := Nat.eq_of_beq_eq_true h3.1
    have e2 : q.bits = r.mat + (b &&& e) := Nat.eq_of_beq_eq_true h3.2
    refine ⟨q, hq, ?_⟩
    rw [e1, e2, hM, Nat.and_or_distrib_left, h]
    have e3 : r.mat &&& (b &&& e) = 0 := by
      rw [← h]
      apply Nat.eq_of_testBit_eq; intro i
      have := congrArg (fun x => x.testBit i) hd
      simp only [Nat.testBit_and, Nat.zero_testBit] at this
      simp only [Nat.testBit_and, Nat.zero_testBit]
      revert this; cases b.testBit i <;> cases r.mask.testBit i <;> cases e.testBit i <;> simp
    exact or_add _ _ e3
theorem reads (b : Nat) (hb : b < 4294967296) : decQ allQ b = decF b := by
  have hA := all_refs
  have hC := all_covers
  rw [List.all_eq_true] at hA hC
  unfold decQ
  cases hf : allQ.find? (fun q => holdsQ q b) with
  | none =>
    rw [List.find?_eq_none] at hf
    rcases decF_cases b with ⟨h0, _⟩ | ⟨r, hr, h1, _⟩
    · rw [h0]
    · obtain ⟨q, hq, h2⟩ := covers_at hb (hC r hr) (holdsR_mat h1)
      exact absurd (decide_eq_true h2) (hf q hq)
  | some q =>
    have hq := List.mem_of_find?_eq_some hf
    have hh : b &&& q.mask = q.bits := by have := List.find?_some hf; simpa [holdsQ] using this
    have h1 := hA q hq
    rw [List.any_eq_true] at h1
    obtain ⟨r, hr, h2⟩ := h1
    obtain ⟨h3, h4, h5⟩ := refs_read hb h2 hh
    dsimp only
    rw [h3]
    have hrm : (readF r b).rm = (if has r.parts 16 then ((fld b 12 3 : Nat) : Int) else (0 : Int)) := by rw [readF_eq]
    have hfl := fldlt b 12 3
    rw [show (2 : Nat) ^ 3 = 8 by decide] at hfl
    rw [hrm]
    cases c : has r.parts 16
    · rw [if_neg (show ¬ ((false = true) : Prop) by decide), if_neg (by omega)]
      exact (decF_of hr (holds_mk h4 (fun h => by rw [c] at h; exact absurd h (by decide)))).symm
    · rw [if_pos rfl]
      by_cases hx : fld b 12 3 = 5 ∨ fld b 12 3 = 6
      · rw [if_pos (by omega)]
        rcases decF_cases b with ⟨h0, _⟩ | ⟨r', hr', h1', _⟩
        · rw [h0]
        · have e := row_uniq hr' hr (holdsR_mat h1') h4
          subst e
          have := holdsR_rm h1' c
          omega
      · rw [if_neg (by omega)]
        exact (decF_of hr (holds_mk h4 (fun _ => by omega))).symm
end Go.Proofs.Ytlohpakcikkdmaa
