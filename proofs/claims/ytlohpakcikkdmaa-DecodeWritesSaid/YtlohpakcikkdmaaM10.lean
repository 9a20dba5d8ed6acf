/- The document's own answer writes as the code does: the last steps. -/
import Derived.Test.YtlohpakcikkdmaaM9
import Derived.Test.YtlohpakcikkdmaaR20
namespace Go.Proofs.Ytlohpakcikkdmaa
set_option linter.unusedVariables false
set_option linter.unusedSimpArgs false
def keepQ (q : QRow) : Nat := Nat.xor q.mask (Nat.land q.mask (fmQ q.form))
def exclQ (s : ByteArray) : Bool := !(hasQ s 122 && hasQ s 104) && (!(hasQ s 122 || hasQ s 104) || Nat.beq (letterQ s) 0)
/-- What a row of the document's own answer has, is of the row of the code that it is of. -/
def fits (r : Row) (q : QRow) : Bool :=
  Nat.beq (Nat.land (q.bits ||| fmQ q.form) (full r)) (q.bits ||| fmQ q.form) && Nat.beq (q.mask ||| regM r.parts ||| immM r.parts) (full r) && exclQ q.form
theorem all_apart : allQ.all (fun q => tableL.all (fun r => !(Nat.beq (Nat.land (Nat.land r.mask (keepQ q)) (Nat.xor r.mat q.bits)) 0) || refs r q)) = true := by decide +kernel
theorem all_fits : allQ.all (fun q => tableL.all (fun r => !(refs r q) || fits r q)) = true := by decide +kernel
theorem apart_at {r : Row} {q : QRow} (hr : r ∈ tableL) (hq : q ∈ allQ) {N y : Nat} (h1 : N &&& r.mask = r.mat) (h2 : N = q.bits ||| y) (hy : Sub y (fmQ q.form)) : refs r q = true := by
  have h := all_apart
  rw [List.all_eq_true] at h
  have h3 := h q hq
  rw [List.all_eq_true] at h3
  have h4 := h3 r hr
  rw [Bool.or_eq_true] at h4
  rcases h4 with h4 | h4
  · exfalso
    have e : Nat.land (Nat.land r.mask (keepQ q)) (Nat.xor r.mat q.bits) = 0 := by
      show (r.mask &&& (q.mask ^^^ (q.mask &&& fmQ q.form))) &&& (r.mat ^^^ q.bits) = 0
      rw [← h1, h2]
      apply Nat.eq_of_testBit_eq; intro i
      have a := sub_bit hy i
      simp only [Nat.testBit_and, Nat.testBit_or, Nat.testBit_xor, Nat.zero_testBit]
      revert a
      cases r.mask.testBit i <;> cases q.mask.testBit i <;> cases (fmQ q.form).testBit i <;> cases q.bits.testBit i <;> cases y.testBit i <;> simp
    rw [e] at h4
    exact absurd h4 (by decide)
  · exact h4
theorem fits_at {r : Row} {q : QRow} (hr : r ∈ tableL) (hq : q ∈ allQ) (h : refs r q = true) : Sub (q.bits ||| fmQ q.form) (full r) ∧ q.mask ||| regM r.parts ||| immM r.parts = full r ∧ exclQ q.form = true := by
  have g := all_fits
  rw [List.all_eq_true] at g
  have h3 := g q hq
  rw [List.all_eq_true] at h3
  have h4 := h3 r hr
  rw [h] at h4
  simp only [Bool.not_true, Bool.false_or, fits, Bool.and_eq_true] at h4
  exact ⟨Nat.eq_of_beq_eq_true h4.1.1, Nat.eq_of_beq_eq_true h4.1.2, h4.2⟩
theorem pl_zero (f c : Nat) : plN 0 f c = 0 := by unfold plN; simp
theorem wq_of (t : Bool) (x : Nat) (v : Nat) (f c : Nat) : (if t then x ||| plN (if t then (v : Int) else 0) f c else x) = x ||| plN (if t then (v : Int) else 0) f c := by
  cases t
  · rw [if_neg (by decide), if_neg (by decide), pl_zero, Nat.or_zero]
  · rfl
theorem wImm_64 {p : Nat} (i : Int) (hp : p &&& 8128 = 64) : wImm p i = plN i 20 12 := by unfold wImm; rw [if_pos hp]
theorem wImm_128 {p : Nat} (i : Int) (hp : p &&& 8128 = 128) : wImm p i = plN (i / 32) 25 7 ||| plN i 7 5 := by unfold wImm; rw [if_neg (by rw [hp]; decide), if_pos hp]
theorem wImm_256 {p : Nat} (i : Int) (hp : p &&& 8128 = 256) : wImm p i = plN (i / 4096) 31 1 ||| plN (i / 2048) 7 1 ||| plN (i / 32) 25 6 ||| plN (i / 2) 8 4 := by unfold wImm; rw [if_neg (by rw [hp]; decide), if_neg (by rw [hp]; decide), if_pos hp]
theorem wImm_512 {p : Nat} (i : Int) (hp : p &&& 8128 = 512) : wImm p i = plN (i / 4096) 12 20 := by unfold wImm; rw [if_neg (by rw [hp]; decide), if_neg (by rw [hp]; decide), if_neg (by rw [hp]; decide), if_pos hp]
theorem wImm_1024 {p : Nat} (i : Int) (hp : p &&& 8128 = 1024) : wImm p i = plN (i / 1048576) 31 1 ||| plN (i / 4096) 12 8 ||| plN (i / 2048) 20 1 ||| plN (i / 2) 21 10 := by unfold wImm; rw [if_neg (by rw [hp]; decide), if_neg (by rw [hp]; decide), if_neg (by rw [hp]; decide), if_neg (by rw [hp]; decide), if_pos hp]
theorem wImm_2048 {p : Nat} (i : Int) (hp : p &&& 8128 = 2048) : wImm p i = plN i 20 6 := by unfold wImm; rw [if_neg (by rw [hp]; decide), if_neg (by rw [hp]; decide), if_neg (by rw [hp]; decide), if_neg (by rw [hp]; decide), if_neg (by rw [hp]; decide), if_pos hp]
theorem wImm_4096 {p : Nat} (i : Int) (hp : p &&& 8128 = 4096) : wImm p i = plN i 15 5 := by unfold wImm; rw [if_neg (by rw [hp]; decide), if_neg (by rw [hp]; decide), if_neg (by rw [hp]; decide), if_neg (by rw [hp]; decide), if_neg (by rw [hp]; decide), if_neg (by rw [hp]; decide), if_pos hp]
theorem wImm_0 {p : Nat} (i : Int) (hp : p &&& 8128 = 0) : wImm p i = 0 := by unfold wImm; rw [if_neg (by rw [hp]; decide), if_neg (by rw [hp]; decide), if_neg (by rw [hp]; decide), if_neg (by rw [hp]; decide), if_neg (by rw [hp]; decide), if_neg (by rw [hp]; decide), if_neg (by rw [hp]; decide)]
theorem immW_73 (I : Ins) (x : Nat) : immW 73 I x = x ||| plN I.imm 20 12 := by unfold immW; rw [if_pos rfl]; simp only [iw73]
theorem immW_83 (I : Ins) (x : Nat) : immW 83 I x = x ||| plN I.imm 7 5 ||| plN (I.imm / 32) 25 7 := by unfold immW; rw [if_neg (by decide), if_pos rfl]; simp only [iw83]
theorem immW_66 (I : Ins) (x : Nat) : immW 66 I x = x ||| plN (I.imm / 2) 8 4 ||| plN (I.imm / 32) 25 6 ||| plN (I.imm / 2048) 7 1 ||| plN (I.imm / 4096) 31 1 := by unfold immW; rw [if_neg (by decide), if_neg (by decide), if_pos rfl]; simp only [iw66]
theorem immW_85 (I : Ins) (x : Nat) : immW 85 I x = x ||| plN (I.imm / 4096) 12 20 := by unfold immW; rw [if_neg (by decide), if_neg (by decide), if_neg (by decide), if_pos rfl]; simp only [iw85]
theorem immW_74 (I : Ins) (x : Nat) : immW 74 I x = x ||| plN (I.imm / 2) 21 10 ||| plN (I.imm / 2048) 20 1 ||| plN (I.imm / 4096) 12 8 ||| plN (I.imm / 1048576) 31 1 := by unfold immW; rw [if_neg (by decide), if_neg (by decide), if_neg (by decide), if_neg (by decide), if_pos rfl]; simp only [iw74]
theorem immW_0 (I : Ins) (x : Nat) : immW 0 I x = x := by unfold immW; rw [if_neg (by decide), if_neg (by decide), if_neg (by decide), if_neg (by decide), if_neg (by decide)]
theorem wq7_f (s : ByteArray) (I : Ins) (x : Nat) (h : hasQ s 104 = false) : wq7 s I x = x := by unfold wq7; rw [h]; rfl
theorem wq7_t (s : ByteArray) (I : Ins) (x : Nat) (h : hasQ s 104 = true) : wq7 s I x = x ||| plN I.imm 20 6 := by unfold wq7; rw [h]; rfl
theorem wq8_f (s : ByteArray) (I : Ins) (x : Nat) (h : hasQ s 122 = false) : wq8 s I x = x := by unfold wq8; rw [h]; rfl
theorem wq8_t (s : ByteArray) (I : Ins) (x : Nat) (h : hasQ s 122 = true) : wq8 s I x = x ||| plN I.imm 15 5 := by unfold wq8; rw [h]; rfl
theorem imp_l {s : ByteArray} (h1 : hasQ s 122 = false) (h2 : hasQ s 104 = false) : impQ s = if letterQ s = 73 then 64 else if letterQ s = 83 then 128 else if letterQ s = 66 then 256 else if letterQ s = 85 then 512 else if letterQ s = 74 then 1024 else 0 := by
  unfold impQ; rw [h1, h2]; rfl
theorem imm_write (s : ByteArray) (p : Nat) (I : Ins) (x : Nat) (hp : p &&& 8128 = impQ s) (he : exclQ s = true) : immW (letterQ s) I (wq8 s I (wq7 s I x)) = x ||| wImm p I.imm := by
  unfold exclQ at he
  cases h1 : hasQ s 122
  · rw [wq8_f s I _ h1]
    cases h2 : hasQ s 104
    · rw [wq7_f s I _ h2]
      rw [imp_l h1 h2] at hp
      rcases letterQ_cases s with h | h | h | h | h | h
      all_goals rw [h] at hp ⊢
      · rw [immW_73, wImm_64 _ hp]
      · rw [immW_83, wImm_128 _ hp, Nat.or_assoc, Nat.or_comm (plN I.imm 7 5)]
      · rw [immW_66, wImm_256 _ hp]
        generalize plN (I.imm / 2) 8 4 = a; generalize plN (I.imm / 32) 25 6 = b; generalize plN (I.imm / 2048) 7 1 = c; generalize plN (I.imm / 4096) 31 1 = d
        apply Nat.eq_of_testBit_eq; intro i
        simp only [Nat.testBit_or]
        cases x.testBit i <;> cases a.testBit i <;> cases b.testBit i <;> cases c.testBit i <;> cases d.testBit i <;> rfl
      · rw [immW_85, wImm_512 _ hp]
      · rw [immW_74, wImm_1024 _ hp]
        generalize plN (I.imm / 2) 21 10 = a; generalize plN (I.imm / 2048) 20 1 = b; generalize plN (I.imm / 4096) 12 8 = c; generalize plN (I.imm / 1048576) 31 1 = d
        apply Nat.eq_of_testBit_eq; intro i
        simp only [Nat.testBit_or]
        cases x.testBit i <;> cases a.testBit i <;> cases b.testBit i <;> cases c.testBit i <;> cases d.testBit i <;> rfl
      · rw [immW_0, wImm_0 _ hp, Nat.or_zero]
    · rw [h1, h2] at he
      have hl : letterQ s = 0 := Nat.eq_of_beq_eq_true (by simpa using he)
      have hp' : p &&& 8128 = 2048 := by rw [hp]; unfold impQ; rw [h1, h2]; rfl
      rw [hl, immW_0, wq7_t s I _ h2, wImm_2048 _ hp']
  · cases h2 : hasQ s 104
    · rw [h1, h2] at he
      have hl : letterQ s = 0 := Nat.eq_of_beq_eq_true (by simpa using he)
      have hp' : p &&& 8128 = 4096 := by rw [hp]; unfold impQ; rw [h1]; rfl
      rw [hl, immW_0, wq8_t s I _ h1, wq7_f s I _ h2, wImm_4096 _ hp']
    · rw [h1, h2] at he; simp at he
theorem regs_write {r : Row} {q : QRow} (hf : (hasQ q.form 100 = has r.parts 1) ∧ (hasQ q.form 49 = has r.parts 2) ∧ (hasQ q.form 50 = has r.parts 4) ∧ (hasQ q.form 51 = has r.parts 8) ∧ (hasQ q.form 114 = has r.parts 16) ∧ (hasQ q.form 99 = has r.parts 32)) (n bt : Nat) :
    wq6 q.form (readF r n) (wq5 q.form (readF r n) (wq4 q.form (readF r n) (wq3 q.form (readF r n) (wq2 q.form (readF r n) (wq1 q.form (readF r n) bt))))) = bt ||| wRegs (readF r n) := by
  obtain ⟨f1, f2, f3, f4, f5, f6⟩ := hf
  unfold wq6 wq5 wq4 wq3 wq2 wq1 wRegs
  rw [readF_eq, f1, f2, f3, f4, f5, f6]
  dsimp only
  rw [wq_of, wq_of, wq_of, wq_of, wq_of, wq_of]
  simp only [Nat.or_assoc]
theorem canonQ {r : Row} {q : QRow} (hr : r ∈ tableL) (hq : q ∈ allQ) (h : refs r q = true) {n : Nat} (hn : n < 4294967296) (hb : n &&& q.mask = q.bits) : writeQ q.bits q.form (readF r n) = n &&& full r := by
  obtain ⟨_, g2, g3⟩ := fits_at hr hq h
  have h' := h
  unfold refs at h'
  simp only [Bool.and_eq_true, beq_iff_eq, decide_eq_true_eq] at h'
  obtain ⟨⟨⟨⟨⟨⟨⟨⟨⟨⟨⟨⟨⟨h1, h2⟩, h3⟩, h4⟩, h5⟩, h6⟩, h7⟩, h8⟩, h9⟩, h10⟩, h11⟩, h12⟩, h13⟩, h14⟩ := h'
  have h11' : r.parts &&& 8128 = impQ q.form := Nat.eq_of_beq_eq_true h11
  unfold writeQ
  rw [imm_write q.form r.parts (readF r n) _ h11' g3, regs_write ⟨h4, h5, h6, h7, h8, h9⟩, wRegs_read, show (readF r n).imm = immV r.parts n from rfl, wImm_read r.parts n hn (row_ok r hr).1, ← g2]
  simp only [Nat.and_or_distrib_left, hb]
theorem enc_sound {I : Ins} {q : QRow} (hq : q ∈ allQ) (hk : ¬ I.kind = 0) (hlt : writeQ q.bits q.form I < 4294967296) (hd : decF (writeQ q.bits q.form I) = I) : encF I = some (writeQ q.bits q.form I) := by
  obtain ⟨y, hy1, hy2⟩ := laid_write q.bits q.form I
  generalize writeQ q.bits q.form I = N at *
  rcases decF_cases N with ⟨h0, _⟩ | ⟨r, hr, h1, h2⟩
  · exfalso; rw [h0] at hd; rw [← hd] at hk; exact hk rfl
  · have hrefs := apart_at hr hq (holdsR_mat h1) hy1 hy2
    obtain ⟨g1, _, _⟩ := fits_at hr hq hrefs
    have hN0 : Sub N (q.bits ||| fmQ q.form) := by
      rw [hy1]
      refine sub_of fun i => ?_
      have a := sub_bit hy2 i
      simp only [Nat.testBit_or]
      revert a; cases q.bits.testBit i <;> cases y.testBit i <;> cases (fmQ q.form).testBit i <;> simp
    have hN : Sub N (full r) := sub_trans hN0 g1
    obtain ⟨n, n1, n2, n3, n4, _⟩ := enc_dec hr hlt h1
    rw [← h2, hd] at n1
    have h5 := (dec_inj hr hlt n4 h1 n2).2
    have h6 : n &&& full r = N := by rw [h5]; exact hN
    have h8 : n &&& N = N := by
      have e : n &&& (n &&& full r) = n &&& full r := by rw [← Nat.and_assoc, Nat.and_self]
      rw [h6] at e; exact e
    have h7 : n = N := n3.symm.trans h8
    rw [n1, h7]
theorem enc_complete {I : Ins} {n : Nat} (h : encF I = some n) : ∃ q ∈ allQ, q.kind = I.kind ∧ decF (writeQ q.bits q.form I) = I := by
  obtain ⟨q0, hq0, hk, hd, _, hl⟩ := encF_some h
  rcases decF_cases n with ⟨h0, _⟩ | ⟨r, hr, h1, h2⟩
  · exfalso
    rw [h0] at hd
    have := row_pos q0 hq0
    rw [← hd] at hk
    have e : zeroI.kind = 0 := rfl
    omega
  · have hC := all_covers
    rw [List.all_eq_true] at hC
    obtain ⟨q, hq, h3⟩ := covers_at hl (hC r hr) (holdsR_mat h1)
    have hA := all_refs
    rw [List.all_eq_true] at hA
    have h4 := hA q hq
    rw [List.any_eq_true] at h4
    obtain ⟨r', hr', h5⟩ := h4
    obtain ⟨h6, h7, _⟩ := refs_read hl h5 h3
    have e := row_uniq hr' hr h7 (holdsR_mat h1)
    subst e
    refine ⟨q, hq, ?_, ?_⟩
    · have h8 := h5
      unfold refs at h8
      simp only [Bool.and_eq_true, decide_eq_true_eq] at h8
      have hqk : q.kind = (r'.kind : Int) := h8.1.1.1.1.1.1.1.1.1.1.1.2
      rw [← hd, h2, readF_eq]; exact hqk
    · rw [← hd, h2, canonQ hr hq h5 hl h3]
      exact dec_full hr hl h1
theorem bits_ok : ∀ q ∈ allQ, q.bits < 4294967296 := fun q hq => (ok_allQ q hq).2.1
theorem writes (I : Ins) : encQ allQ I = encF I := by
  by_cases hk : I.kind = 0
  · rw [enc_zero I hk]; unfold encQ; rw [if_pos hk]
  unfold encQ; rw [if_neg hk]
  have htry : ∀ q ∈ allQ, tryQ allQ I q = if q.kind = I.kind ∧ decF (writeQ q.bits q.form I) = I then some (writeQ q.bits q.form I) else none := fun q hq => by
    unfold tryQ; rw [reads _ (writeQ_lt _ _ _ (bits_ok q hq))]
  cases hf : allQ.findSome? (tryQ allQ I) with
  | some n =>
    obtain ⟨q, hq, ht⟩ := List.exists_of_findSome?_eq_some hf
    rw [htry q hq] at ht
    by_cases hc : q.kind = I.kind ∧ decF (writeQ q.bits q.form I) = I
    · rw [if_pos hc] at ht
      rw [← ht, enc_sound hq hk (writeQ_lt _ _ _ (bits_ok q hq)) hc.2]
    · rw [if_neg hc] at ht; exact absurd ht (by simp)
  | none =>
    rw [List.findSome?_eq_none_iff] at hf
    cases he : encF I with
    | none => rfl
    | some n =>
      obtain ⟨q, hq, h1, h2⟩ := enc_complete he
      have := hf q hq
      rw [htry q hq, if_pos ⟨h1, h2⟩] at this
      exact absurd this (by simp)
end Go.Proofs.Ytlohpakcikkdmaa
