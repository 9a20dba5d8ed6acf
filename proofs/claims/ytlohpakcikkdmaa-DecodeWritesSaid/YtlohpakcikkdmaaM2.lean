/- The mathematics of the decoder's table. No Go text is named here. -/
import Derived.Test.YtlohpakcikkdmaaM1
namespace Go.Proofs.Ytlohpakcikkdmaa
set_option linter.unusedVariables false
set_option linter.unusedSimpArgs false
theorem holdsR_mat {r : Row} {b : Nat} (h : holdsR r b = true) : b &&& r.mask = r.mat := by
  unfold holdsR at h; rw [Bool.and_eq_true] at h; exact by simpa using h.1
theorem holdsR_rm {r : Row} {b : Nat} (h : holdsR r b = true) (hr : has r.parts 16 = true) : fld b 12 3 ≤ 4 ∨ fld b 12 3 = 7 := by
  unfold holdsR at h; rw [Bool.and_eq_true, hr] at h
  have := h.2
  simp only [Bool.not_true, Bool.false_or, Bool.or_eq_true, decide_eq_true_eq] at this
  exact this
theorem decF_cases (b : Nat) : (decF b = zeroI ∧ ∀ r ∈ tableL, holdsR r b = false) ∨ ∃ r ∈ tableL, holdsR r b = true ∧ decF b = readF r b := by
  unfold decF
  cases hf : tableL.find? (fun r => holdsR r b) with
  | none => exact .inl ⟨rfl, fun r hr => by have := List.find?_eq_none.1 hf r hr; simpa using this⟩
  | some r => exact .inr ⟨r, List.mem_of_find?_eq_some hf, by have := List.find?_some hf; simpa using this, rfl⟩
theorem row_kind : ∀ r ∈ tableL, 0 < r.kind ∧ r.kind < 78 := by decide +kernel
theorem row_low : ∀ r ∈ tableL, r.mask &&& 3 = 3 ∧ r.mat &&& 3 = 3 := by decide +kernel
def immOf (r : Row) : Nat := r.parts &&& 8128
theorem row_imm : ∀ r ∈ tableL, if r.kind = 3 ∨ (5 ≤ r.kind ∧ r.kind ≤ 10) then immOf r = 256 ∨ immOf r = 1024 else if r.kind = 1 ∨ r.kind = 2 then immOf r = 512 else immOf r = 0 ∨ immOf r = 64 ∨ immOf r = 128 ∨ immOf r = 2048 ∨ immOf r = 4096 := by decide +kernel
theorem row_disj : ∀ r ∈ tableL, ∀ q ∈ tableL, r = q ∨ (r.mask &&& q.mask &&& (r.mat ^^^ q.mat)) ≠ 0 := by decide +kernel
theorem row_uniq {r q : Row} (hr : r ∈ tableL) (hq : q ∈ tableL) {b : Nat} (h1 : b &&& r.mask = r.mat) (h2 : b &&& q.mask = q.mat) : r = q := by
  rcases row_disj r hr q hq with h | h
  · exact h
  · exact absurd (by
      rw [← h1, ← h2]
      apply Nat.eq_of_testBit_eq; intro i
      simp only [Nat.testBit_and, Nat.testBit_xor, Nat.zero_testBit]
      cases b.testBit i <;> cases r.mask.testBit i <;> cases q.mask.testBit i <;> rfl) h
theorem decF_of {r : Row} (hr : r ∈ tableL) {b : Nat} (h : holdsR r b = true) : decF b = readF r b := by
  rcases decF_cases b with ⟨_, h0⟩ | ⟨q, hq, hq1, hq2⟩
  · rw [h0 r hr] at h; exact absurd h (by decide)
  · rw [hq2, row_uniq hq hr (holdsR_mat hq1) (holdsR_mat h)]
theorem none_low {b : Nat} (h : b &&& 3 ≠ 3) : decF b = zeroI := by
  rcases decF_cases b with ⟨h0, _⟩ | ⟨r, hr, h1, _⟩
  · exact h0
  · exfalso; apply h
    have hl := row_low r hr
    have e : b &&& 3 = (b &&& r.mask) &&& 3 := by rw [Nat.and_assoc, hl.1]
    rw [e, holdsR_mat h1]; exact hl.2
theorem fldlt (b f c : Nat) : fld b f c < 2 ^ c := Nat.mod_lt _ (Nat.two_pow_pos c)
theorem sgnr (b : Nat) (hb : b < 4294967296) : -2147483648 ≤ sgn b ∧ sgn b ≤ 2147483647 := by unfold sgn; split <;> omega
/-- What the fields of an instruction that was decoded may be. -/
structure FieldsOk (b : Nat) (I : Ins) : Prop where
  kind : 0 ≤ I.kind ∧ I.kind < 78
  rd : I.rd = 0 ∨ I.rd = (fld b 7 5 : Int)
  rs1 : I.rs1 = 0 ∨ I.rs1 = (fld b 15 5 : Int)
  rs2 : I.rs2 = 0 ∨ I.rs2 = (fld b 20 5 : Int)
  rs3 : I.rs3 = 0 ∨ I.rs3 = (fld b 27 5 : Int)
  rm : (0 ≤ I.rm ∧ I.rm ≤ 4) ∨ I.rm = 7
  csr : 0 ≤ I.csr ∧ I.csr ≤ 4095
  size : I.size = 0 ∨ I.size = 1 ∨ I.size = 2 ∨ I.size = 4 ∨ I.size = 8
  jump : I.kind = 3 ∨ (5 ≤ I.kind ∧ I.kind ≤ 10) → I.imm % 2 = 0 ∧ -1048576 ≤ I.imm ∧ I.imm < 1048576
  upper : I.kind = 1 ∨ I.kind = 2 → I.imm = sgn b / 4096 * 4096
  short : ¬ (I.kind = 3 ∨ (5 ≤ I.kind ∧ I.kind ≤ 10)) → ¬ (I.kind = 1 ∨ I.kind = 2) → -2048 ≤ I.imm ∧ I.imm < 2048
theorem fieldsOk (b : Nat) (hb : b < 4294967296) : FieldsOk b (decF b) := by
  rcases decF_cases b with ⟨h0, _⟩ | ⟨r, hr, h1, h2⟩
  · rw [h0]
    exact ⟨⟨by decide, by decide⟩, .inl rfl, .inl rfl, .inl rfl, .inl rfl, .inl ⟨by decide, by decide⟩, ⟨by decide, by decide⟩, .inl rfl, fun _ => ⟨by decide, by decide, by decide⟩, fun h => absurd h (by decide), fun _ _ => ⟨by decide, by decide⟩⟩
  · rw [h2]
    have hk := row_kind r hr
    have hi := row_imm r hr
    have hz := sgnr b hb
    have ek : (readF r b).kind = r.kind := rfl
    have ei : (readF r b).imm = immV r.parts b := rfl
    refine ⟨?_, ?_, ?_, ?_, ?_, ?_, ?_, ?_, ?_, ?_, ?_⟩
    · rw [ek]; omega
    · rw [show (readF r b).rd = if has r.parts 1 then (fld b 7 5 : Int) else 0 from rfl]
      split
      · exact .inr rfl
      · exact .inl rfl
    · rw [show (readF r b).rs1 = if has r.parts 2 then (fld b 15 5 : Int) else 0 from rfl]
      split
      · exact .inr rfl
      · exact .inl rfl
    · rw [show (readF r b).rs2 = if has r.parts 4 then (fld b 20 5 : Int) else 0 from rfl]
      split
      · exact .inr rfl
      · exact .inl rfl
    · rw [show (readF r b).rs3 = if has r.parts 8 then (fld b 27 5 : Int) else 0 from rfl]
      split
      · exact .inr rfl
      · exact .inl rfl
    · rw [show (readF r b).rm = if has r.parts 16 then (fld b 12 3 : Int) else 0 from rfl]
      split
      · rename_i h16
        rcases holdsR_rm h1 h16 with h | h
        · left; omega
        · right; omega
      · left; omega
    · show 0 ≤ (if has r.parts 32 then (fld b 20 12 : Int) else 0) ∧ (if has r.parts 32 then (fld b 20 12 : Int) else 0) ≤ 4095
      have := fldlt b 20 12
      simp only [show (2 : Nat) ^ 12 = 4096 by decide] at this
      split <;> omega
    · rw [show (readF r b).size = if has r.parts 16384 then ((4 * 2 ^ fld b 25 1 : Nat) : Int) else if has r.parts 8192 then ((2 ^ fld b 12 2 : Nat) : Int) else 0 from rfl]
      have a := fldlt b 25 1
      have c := fldlt b 12 2
      split
      · have : fld b 25 1 = 0 ∨ fld b 25 1 = 1 := by omega
        rcases this with h | h <;> rw [h] <;> simp
      · split
        · have : fld b 12 2 = 0 ∨ fld b 12 2 = 1 ∨ fld b 12 2 = 2 ∨ fld b 12 2 = 3 := by omega
          rcases this with h | h | h | h <;> rw [h] <;> simp
        · simp
    · rw [ek, ei]; intro h
      rw [if_pos (by omega)] at hi
      have a := fldlt b 7 1; have c := fldlt b 25 6; have d := fldlt b 8 4; have e := fldlt b 12 8; have f := fldlt b 20 1; have g := fldlt b 21 10
      simp only [show (2 : Nat) ^ 1 = 2 by decide, show (2 : Nat) ^ 6 = 64 by decide, show (2 : Nat) ^ 4 = 16 by decide, show (2 : Nat) ^ 8 = 256 by decide, show (2 : Nat) ^ 10 = 1024 by decide] at a c d e f g
      unfold immOf at hi
      rcases hi with hi | hi
      · unfold immV immB; rw [hi]
        simp only [show ¬ (256 : Nat) = 64 by decide, show ¬ (256 : Nat) = 128 by decide, if_false, if_true]
        omega
      · unfold immV immJ; rw [hi]
        simp only [show ¬ (1024 : Nat) = 64 by decide, show ¬ (1024 : Nat) = 128 by decide, show ¬ (1024 : Nat) = 256 by decide, show ¬ (1024 : Nat) = 512 by decide, if_false, if_true]
        omega
    · rw [ek, ei]; intro h
      rw [if_neg (by omega), if_pos (by omega)] at hi
      unfold immOf at hi
      unfold immV immU; rw [hi]; rfl
    · rw [ek, ei]; intro h h'
      rw [if_neg (by omega), if_neg (by omega)] at hi
      unfold immOf at hi
      have a := fldlt b 7 5; have c := fldlt b 20 6; have d := fldlt b 15 5
      simp only [show (2 : Nat) ^ 5 = 32 by decide, show (2 : Nat) ^ 6 = 64 by decide] at a c d
      rcases hi with hi | hi | hi | hi | hi <;> unfold immV <;> rw [hi]
      · simp
      · simp only [if_true, immI]; omega
      · simp only [show ¬ (128 : Nat) = 64 by decide, if_false, if_true, immS]; omega
      · simp only [show ¬ (2048 : Nat) = 64 by decide, show ¬ (2048 : Nat) = 128 by decide, show ¬ (2048 : Nat) = 256 by decide, show ¬ (2048 : Nat) = 512 by decide, show ¬ (2048 : Nat) = 1024 by decide, if_false, if_true]; omega
      · simp only [show ¬ (4096 : Nat) = 64 by decide, show ¬ (4096 : Nat) = 128 by decide, show ¬ (4096 : Nat) = 256 by decide, show ¬ (4096 : Nat) = 512 by decide, show ¬ (4096 : Nat) = 1024 by decide, show ¬ (4096 : Nat) = 2048 by decide, if_false, if_true]; omega
end Go.Proofs.Ytlohpakcikkdmaa
