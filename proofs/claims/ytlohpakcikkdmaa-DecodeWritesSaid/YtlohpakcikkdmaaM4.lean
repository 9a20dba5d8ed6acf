/- The mathematics of the decoder's table: one row for each instruction. No Go text is named here. -/
import Derived.Test.YtlohpakcikkdmaaM3
namespace Go.Proofs.Ytlohpakcikkdmaa
set_option linter.unusedVariables false
set_option linter.unusedSimpArgs false
def fm (p : Nat) : Nat := regM p ||| szM p ||| immM p
/-- The bits of a row that count. -/
def full (r : Row) : Nat := r.mask ||| fm r.parts
theorem row_ok : ∀ r ∈ tableL, OkI r.parts ∧ OkS r.parts := by decide +kernel
theorem canon {r : Row} (hr : r ∈ tableL) {b : Nat} (hb : b < 4294967296) (h : b &&& r.mask = r.mat) : writeF r (readF r b) = b &&& full r := by
  have ho := row_ok r hr
  unfold writeF full fm
  rw [wRegs_read, wSizes_read r b ho.2, show (readF r b).imm = immV r.parts b from rfl, wImm_read r.parts b hb ho.1]
  simp only [Nat.and_or_distrib_left, h, Nat.or_assoc]
theorem row_cov : ∀ r ∈ tableL, (full r &&& r.mask = r.mask) ∧ (has r.parts 1 = true → full r &&& msk 7 5 = msk 7 5) ∧ (has r.parts 2 = true → full r &&& msk 15 5 = msk 15 5) ∧ (has r.parts 4 = true → full r &&& msk 20 5 = msk 20 5) ∧ (has r.parts 8 = true → full r &&& msk 27 5 = msk 27 5) ∧
    (has r.parts 16 = true → full r &&& msk 12 3 = msk 12 3) ∧ (has r.parts 32 = true → full r &&& msk 20 12 = msk 20 12) ∧ (has r.parts 8192 = true → full r &&& msk 12 2 = msk 12 2) ∧ (has r.parts 16384 = true → full r &&& msk 25 1 = msk 25 1) ∧ (has r.parts 32768 = true → full r &&& msk 3 1 = msk 3 1) ∧
    (has r.parts 65536 = true → full r &&& msk 21 1 = msk 21 1 ∧ full r &&& msk 20 1 = msk 20 1) := by decide +kernel
theorem row_covI : ∀ r ∈ tableL, (r.parts &&& 8128 = 64 → full r &&& msk 20 12 = msk 20 12) ∧ (r.parts &&& 8128 = 128 → full r &&& msk 25 7 = msk 25 7 ∧ full r &&& msk 7 5 = msk 7 5) ∧
    (r.parts &&& 8128 = 256 → full r &&& msk 31 1 = msk 31 1 ∧ full r &&& msk 7 1 = msk 7 1 ∧ full r &&& msk 25 6 = msk 25 6 ∧ full r &&& msk 8 4 = msk 8 4) ∧ (r.parts &&& 8128 = 512 → full r &&& msk 12 20 = msk 12 20) ∧
    (r.parts &&& 8128 = 1024 → full r &&& msk 31 1 = msk 31 1 ∧ full r &&& msk 12 8 = msk 12 8 ∧ full r &&& msk 20 1 = msk 20 1 ∧ full r &&& msk 21 10 = msk 21 10) ∧ (r.parts &&& 8128 = 2048 → full r &&& msk 20 6 = msk 20 6) ∧ (r.parts &&& 8128 = 4096 → full r &&& msk 15 5 = msk 15 5) := by decide +kernel
theorem sg20 (b c : Nat) (hb : b < 4294967296) (hc : c < 4294967296) (h : fld c 20 12 = fld b 20 12) : sgn c / 1048576 = sgn b / 1048576 := by
  rw [fe c 20 12 1048576 4096 (by decide) (by decide), fe b 20 12 1048576 4096 (by decide) (by decide)] at h
  unfold sgn; split <;> split <;> omega
theorem sg25 (b c : Nat) (hb : b < 4294967296) (hc : c < 4294967296) (h : fld c 25 7 = fld b 25 7) : sgn c / 33554432 = sgn b / 33554432 := by
  rw [fe c 25 7 33554432 128 (by decide) (by decide), fe b 25 7 33554432 128 (by decide) (by decide)] at h
  unfold sgn; split <;> split <;> omega
theorem sg31 (b c : Nat) (hb : b < 4294967296) (hc : c < 4294967296) (h : fld c 31 1 = fld b 31 1) : sgn c / 2147483648 = sgn b / 2147483648 := by
  rw [fe c 31 1 2147483648 2 (by decide) (by decide), fe b 31 1 2147483648 2 (by decide) (by decide)] at h
  unfold sgn; split <;> split <;> omega
theorem sg12 (b c : Nat) (hb : b < 4294967296) (hc : c < 4294967296) (h : fld c 12 20 = fld b 12 20) : sgn c / 4096 = sgn b / 4096 := by
  rw [fe c 12 20 4096 1048576 (by decide) (by decide), fe b 12 20 4096 1048576 (by decide) (by decide)] at h
  unfold sgn; split <;> split <;> omega
theorem ite_same {t : Bool} {x y : Int} (h : t = true → x = y) : (if t then x else 0) = if t then y else 0 := by
  cases t
  · rfl
  · exact h rfl
/-- What a row reads hangs on the bits that it has parts for. -/
theorem read_eq {r : Row} {b c : Nat} (hb : b < 4294967296) (hc : c < 4294967296)
    (h1 : has r.parts 1 = true → fld c 7 5 = fld b 7 5) (h2 : has r.parts 2 = true → fld c 15 5 = fld b 15 5) (h3 : has r.parts 4 = true → fld c 20 5 = fld b 20 5) (h4 : has r.parts 8 = true → fld c 27 5 = fld b 27 5)
    (h5 : has r.parts 16 = true → fld c 12 3 = fld b 12 3) (h6 : has r.parts 32 = true → fld c 20 12 = fld b 20 12) (h7 : has r.parts 8192 = true → fld c 12 2 = fld b 12 2) (h8 : has r.parts 16384 = true → fld c 25 1 = fld b 25 1)
    (h9 : has r.parts 32768 = true → fld c 3 1 = fld b 3 1) (h10 : has r.parts 65536 = true → fld c 21 1 = fld b 21 1 ∧ fld c 20 1 = fld b 20 1)
    (hi : immV r.parts c = immV r.parts b) : readF r c = readF r b := by
  have e1 : (if has r.parts 1 then (fld c 7 5 : Int) else 0) = if has r.parts 1 then (fld b 7 5 : Int) else 0 := ite_same (fun h => by rw [h1 h])
  have e2 : (if has r.parts 2 then (fld c 15 5 : Int) else 0) = if has r.parts 2 then (fld b 15 5 : Int) else 0 := ite_same (fun h => by rw [h2 h])
  have e3 : (if has r.parts 4 then (fld c 20 5 : Int) else 0) = if has r.parts 4 then (fld b 20 5 : Int) else 0 := ite_same (fun h => by rw [h3 h])
  have e4 : (if has r.parts 8 then (fld c 27 5 : Int) else 0) = if has r.parts 8 then (fld b 27 5 : Int) else 0 := ite_same (fun h => by rw [h4 h])
  have e5 : (if has r.parts 16 then (fld c 12 3 : Int) else 0) = if has r.parts 16 then (fld b 12 3 : Int) else 0 := ite_same (fun h => by rw [h5 h])
  have e6 : (if has r.parts 32 then (fld c 20 12 : Int) else 0) = if has r.parts 32 then (fld b 20 12 : Int) else 0 := ite_same (fun h => by rw [h6 h])
  have e7 : (if has r.parts 16384 then ((4 * 2 ^ fld c 25 1 : Nat) : Int) else if has r.parts 8192 then ((2 ^ fld c 12 2 : Nat) : Int) else 0) = if has r.parts 16384 then ((4 * 2 ^ fld b 25 1 : Nat) : Int) else if has r.parts 8192 then ((2 ^ fld b 12 2 : Nat) : Int) else 0 := by
    split
    · rw [h8 (by assumption)]
    · split
      · rw [h7 (by assumption)]
      · rfl
  have e8 : (if has r.parts 65536 then decide (fld c 21 1 = 0) else if has r.parts 32768 then decide (fld c 3 1 = 1) else false) = if has r.parts 65536 then decide (fld b 21 1 = 0) else if has r.parts 32768 then decide (fld b 3 1 = 1) else false := by
    split
    · rw [(h10 (by assumption)).1]
    · split
      · rw [h9 (by assumption)]
      · rfl
  have e9 : (if has r.parts 65536 then decide (fld c 20 1 = 1) else has r.parts 262144) = if has r.parts 65536 then decide (fld b 20 1 = 1) else has r.parts 262144 := by
    split
    · rw [(h10 (by assumption)).2]
    · rfl
  show (⟨_, _, _, _, _, _, _, _, _, _, _, _⟩ : Ins) = ⟨_, _, _, _, _, _, _, _, _, _, _, _⟩
  rw [Ins.mk.injEq]
  exact ⟨rfl, e1, e2, e3, e4, e5, e6, e7, hi, rfl, e9, e8⟩
theorem imm_full {p b c : Nat} (hb : b < 4294967296) (hc : c < 4294967296) (hp : OkI p)
    (i1 : p &&& 8128 = 64 → fld c 20 12 = fld b 20 12) (i2 : p &&& 8128 = 128 → fld c 25 7 = fld b 25 7 ∧ fld c 7 5 = fld b 7 5) (i3 : p &&& 8128 = 256 → fld c 31 1 = fld b 31 1 ∧ fld c 7 1 = fld b 7 1 ∧ fld c 25 6 = fld b 25 6 ∧ fld c 8 4 = fld b 8 4)
    (i4 : p &&& 8128 = 512 → fld c 12 20 = fld b 12 20) (i5 : p &&& 8128 = 1024 → fld c 31 1 = fld b 31 1 ∧ fld c 12 8 = fld b 12 8 ∧ fld c 20 1 = fld b 20 1 ∧ fld c 21 10 = fld b 21 10)
    (i6 : p &&& 8128 = 2048 → fld c 20 6 = fld b 20 6) (i7 : p &&& 8128 = 4096 → fld c 15 5 = fld b 15 5) : immV p c = immV p b := by
  unfold immV
  generalize hq : p &&& 8128 = q at *
  rcases (show q = 0 ∨ q = 64 ∨ q = 128 ∨ q = 256 ∨ q = 512 ∨ q = 1024 ∨ q = 2048 ∨ q = 4096 by rw [← hq]; exact hp) with h | h | h | h | h | h | h | h
  · rw [if_neg (by omega), if_neg (by omega), if_neg (by omega), if_neg (by omega), if_neg (by omega), if_neg (by omega), if_neg (by omega), if_neg (by omega), if_neg (by omega), if_neg (by omega), if_neg (by omega), if_neg (by omega), if_neg (by omega), if_neg (by omega)]
  · rw [if_pos h, if_pos h]; exact sg20 b c hb hc (i1 h)
  · rw [if_neg (by omega), if_pos h, if_neg (by omega), if_pos h]; unfold immS
    rw [sg25 b c hb hc (i2 h).1, (i2 h).2]
  · rw [if_neg (by omega), if_neg (by omega), if_pos h, if_neg (by omega), if_neg (by omega), if_pos h]; unfold immB
    rw [sg31 b c hb hc (i3 h).1, (i3 h).2.1, (i3 h).2.2.1, (i3 h).2.2.2]
  · rw [if_neg (by omega), if_neg (by omega), if_neg (by omega), if_pos h, if_neg (by omega), if_neg (by omega), if_neg (by omega), if_pos h]; unfold immU
    rw [sg12 b c hb hc (i4 h)]
  · rw [if_neg (by omega), if_neg (by omega), if_neg (by omega), if_neg (by omega), if_pos h, if_neg (by omega), if_neg (by omega), if_neg (by omega), if_neg (by omega), if_pos h]; unfold immJ
    rw [sg31 b c hb hc (i5 h).1, (i5 h).2.1, (i5 h).2.2.1, (i5 h).2.2.2]
  · rw [if_neg (by omega), if_neg (by omega), if_neg (by omega), if_neg (by omega), if_neg (by omega), if_pos h, if_neg (by omega), if_neg (by omega), if_neg (by omega), if_neg (by omega), if_neg (by omega), if_pos h, i6 h]
  · rw [if_neg (by omega), if_neg (by omega), if_neg (by omega), if_neg (by omega), if_neg (by omega), if_neg (by omega), if_pos h, if_neg (by omega), if_neg (by omega), if_neg (by omega), if_neg (by omega), if_neg (by omega), if_neg (by omega), if_pos h, i7 h]
theorem read_full {r : Row} (hr : r ∈ tableL) {b : Nat} (hb : b < 4294967296) : readF r (b &&& full r) = readF r b := by
  obtain ⟨_, c1, c2, c3, c4, c5, c6, c7, c8, c9, c10⟩ := row_cov r hr
  obtain ⟨i1, i2, i3, i4, i5, i6, i7⟩ := row_covI r hr
  have hc : b &&& full r < 4294967296 := Nat.lt_of_le_of_lt Nat.and_le_left hb
  exact read_eq hb hc (fun h => fld_cov (c1 h) b) (fun h => fld_cov (c2 h) b) (fun h => fld_cov (c3 h) b) (fun h => fld_cov (c4 h) b) (fun h => fld_cov (c5 h) b) (fun h => fld_cov (c6 h) b) (fun h => fld_cov (c7 h) b) (fun h => fld_cov (c8 h) b) (fun h => fld_cov (c9 h) b) (fun h => ⟨fld_cov (c10 h).1 b, fld_cov (c10 h).2 b⟩)
    (imm_full hb hc (row_ok r hr).1 (fun h => fld_cov (i1 h) b) (fun h => ⟨fld_cov (i2 h).1 b, fld_cov (i2 h).2 b⟩) (fun h => ⟨fld_cov (i3 h).1 b, fld_cov (i3 h).2.1 b, fld_cov (i3 h).2.2.1 b, fld_cov (i3 h).2.2.2 b⟩) (fun h => fld_cov (i4 h) b) (fun h => ⟨fld_cov (i5 h).1 b, fld_cov (i5 h).2.1 b, fld_cov (i5 h).2.2.1 b, fld_cov (i5 h).2.2.2 b⟩) (fun h => fld_cov (i6 h) b) (fun h => fld_cov (i7 h) b))
theorem holds_mk {r : Row} {b : Nat} (h : b &&& r.mask = r.mat) (h' : has r.parts 16 = true → fld b 12 3 ≤ 4 ∨ fld b 12 3 = 7) : holdsR r b = true := by
  unfold holdsR
  rw [h]
  cases h16 : has r.parts 16
  · simp
  · rcases h' h16 with h | h <;> simp [h]
theorem holds_full {r : Row} (hr : r ∈ tableL) {b : Nat} (h : holdsR r b = true) : holdsR r (b &&& full r) = true := by
  obtain ⟨c0, _, _, _, _, c5, _⟩ := row_cov r hr
  refine holds_mk (by rw [Nat.and_assoc, c0]; exact holdsR_mat h) (fun h16 => ?_)
  rw [fld_cov (c5 h16) b]; exact holdsR_rm h h16
theorem dec_full {r : Row} (hr : r ∈ tableL) {b : Nat} (hb : b < 4294967296) (h : holdsR r b = true) : decF (b &&& full r) = readF r b := by
  rw [decF_of hr (holds_full hr h), read_full hr hb]
/-- Two rows are told apart by what they read. -/
def sigD (r q : Row) : Bool :=
  (r.kind != q.kind) || (has r.parts 131072 != has q.parts 131072) || (!has r.parts 65536 && !has q.parts 65536 && (has r.parts 262144 != has q.parts 262144)) ||
  (has r.parts 8192 && has q.parts 8192 && ((r.mask &&& q.mask &&& msk 12 2 &&& (r.mat ^^^ q.mat)) != 0)) || (has r.parts 16384 && has q.parts 16384 && ((r.mask &&& q.mask &&& msk 25 1 &&& (r.mat ^^^ q.mat)) != 0)) ||
  (!has r.parts 32768 && !has r.parts 65536 && has q.parts 32768 && !has q.parts 65536 && (q.mask &&& 8 == 8) && (q.mat &&& 8 == 8)) || (!has q.parts 32768 && !has q.parts 65536 && has r.parts 32768 && !has r.parts 65536 && (r.mask &&& 8 == 8) && (r.mat &&& 8 == 8))
theorem row_sig : ∀ r ∈ tableL, ∀ q ∈ tableL, r = q ∨ sigD r q = true := by decide +kernel
theorem diff0 {r q : Row} {b c m : Nat} (hm : b &&& m = c &&& m) (h1 : b &&& r.mask = r.mat) (h2 : c &&& q.mask = q.mat) : r.mask &&& q.mask &&& m &&& (r.mat ^^^ q.mat) = 0 := by
  rw [← h1, ← h2]
  apply Nat.eq_of_testBit_eq; intro i
  have e : (b.testBit i && m.testBit i) = (c.testBit i && m.testBit i) := by rw [← Nat.testBit_and, hm, Nat.testBit_and]
  simp only [Nat.testBit_and, Nat.testBit_xor, Nat.zero_testBit]
  revert e
  cases b.testBit i <;> cases c.testBit i <;> cases m.testBit i <;> cases r.mask.testBit i <;> cases q.mask.testBit i <;> decide
theorem fld3_of {q : Row} {c : Nat} (h2 : c &&& q.mask = q.mat) (hm : q.mask &&& 8 = 8) (ht : q.mat &&& 8 = 8) : fld c 3 1 = 1 := by
  have e' : c &&& q.mask &&& 8 = c &&& 8 := by rw [Nat.and_assoc, hm]
  have e : c &&& 8 = 8 := by rw [← e', h2, ht]
  have := fld_place c 3 1
  rw [show msk 3 1 = 8 by decide, e] at this
  omega
theorem read_inj {r q : Row} (hr : r ∈ tableL) (hq : q ∈ tableL) {b c : Nat} (h1 : b &&& r.mask = r.mat) (h2 : c &&& q.mask = q.mat) (h : readF q c = readF r b) : q = r := by
  rcases row_sig q hq r hr with hs | hs
  · exact hs
  · exfalso
    have ek : (q.kind : Int) = r.kind := congrArg Ins.kind h
    have eu : has q.parts 131072 = has r.parts 131072 := congrArg Ins.ui h
    have en : (if has q.parts 65536 then decide (fld c 20 1 = 1) else has q.parts 262144) = if has r.parts 65536 then decide (fld b 20 1 = 1) else has r.parts 262144 := congrArg Ins.un h
    have es : (if has q.parts 16384 then ((4 * 2 ^ fld c 25 1 : Nat) : Int) else if has q.parts 8192 then ((2 ^ fld c 12 2 : Nat) : Int) else 0) = if has r.parts 16384 then ((4 * 2 ^ fld b 25 1 : Nat) : Int) else if has r.parts 8192 then ((2 ^ fld b 12 2 : Nat) : Int) else 0 := congrArg Ins.size h
    have ew : (if has q.parts 65536 then decide (fld c 21 1 = 0) else if has q.parts 32768 then decide (fld c 3 1 = 1) else false) = if has r.parts 65536 then decide (fld b 21 1 = 0) else if has r.parts 32768 then decide (fld b 3 1 = 1) else false := congrArg Ins.wo h
    unfold sigD at hs
    simp only [Bool.or_eq_true, Bool.and_eq_true, bne_iff_ne, Bool.not_eq_true', beq_iff_eq, ne_eq] at hs
    rcases hs with (((((hs | hs) | hs) | hs) | hs) | hs) | hs
    · exact hs (by exact_mod_cast ek)
    · exact hs eu
    · rw [hs.1.1, hs.1.2] at en; exact hs.2 en
    · have n1 : has q.parts 16384 = false := by rcases (row_ok q hq).2 with x | x | x | x | x <;> simp_all
      have n2 : has r.parts 16384 = false := by rcases (row_ok r hr).2 with x | x | x | x | x <;> simp_all
      rw [n1, n2, hs.1.1, hs.1.2] at es
      simp only [Bool.false_eq_true, if_false, if_true] at es
      have e : fld c 12 2 = fld b 12 2 := by
        have a := fldlt c 12 2; have d := fldlt b 12 2
        have a' : fld c 12 2 = 0 ∨ fld c 12 2 = 1 ∨ fld c 12 2 = 2 ∨ fld c 12 2 = 3 := by omega
        have d' : fld b 12 2 = 0 ∨ fld b 12 2 = 1 ∨ fld b 12 2 = 2 ∨ fld b 12 2 = 3 := by omega
        rcases a' with x | x | x | x <;> rcases d' with y | y | y | y <;> rw [x, y] at es ⊢ <;> simp at es
      exact hs.2 (diff0 (by rw [← fld_place, ← fld_place, e]) h2 h1)
    · rw [hs.1.1, hs.1.2] at es
      simp only [if_true] at es
      have e : fld c 25 1 = fld b 25 1 := by
        have a := fld1' c 25; have d := fld1' b 25
        rcases a with a | a <;> rcases d with d | d <;> rw [a, d] at es ⊢ <;> simp at es
      exact hs.2 (diff0 (by rw [← fld_place, ← fld_place, e]) h2 h1)
    · obtain ⟨⟨⟨⟨⟨a1, a2⟩, a3⟩, a4⟩, a5⟩, a6⟩ := hs
      rw [a1, a2, a3, a4, fld3_of h1 a5 a6] at ew
      simp at ew
    · obtain ⟨⟨⟨⟨⟨a1, a2⟩, a3⟩, a4⟩, a5⟩, a6⟩ := hs
      rw [a1, a2, a3, a4, fld3_of h2 a5 a6] at ew
      simp at ew
theorem dec_inj {r : Row} (hr : r ∈ tableL) {b c : Nat} (hb : b < 4294967296) (hc : c < 4294967296) (h : holdsR r b = true) (he : decF c = readF r b) : holdsR r c = true ∧ c &&& full r = b &&& full r := by
  rcases decF_cases c with ⟨h0, _⟩ | ⟨q, hq, hq1, hq2⟩
  · rw [h0] at he
    have ek : (0 : Int) = r.kind := congrArg Ins.kind he
    have := (row_kind r hr).1
    omega
  · rw [hq2] at he
    have e := read_inj hr hq (holdsR_mat h) (holdsR_mat hq1) he
    subst e
    exact ⟨hq1, by rw [← canon hr hc (holdsR_mat hq1), ← canon hr hb (holdsR_mat h), he]⟩
theorem row_uk : ∀ r ∈ tableL, full r = 4294967295 ∨ ∀ q ∈ tableL, q.kind = r.kind → q = r := by decide +kernel
theorem and_all (b : Nat) (hb : b < 4294967296) : b &&& 4294967295 = b := by
  rw [show 4294967295 = 2 ^ 32 - 1 by decide, Nat.and_two_pow_sub_one_eq_mod]; exact Nat.mod_eq_of_lt hb
theorem row_mat : ∀ r ∈ tableL, r.mat < 4294967296 := by decide +kernel
theorem encF_some {I : Ins} {n : Nat} (h : encF I = some n) : ∃ q ∈ tableL, (q.kind : Int) = I.kind ∧ decF n = I ∧ n = writeF q I ∧ n < 4294967296 := by
  obtain ⟨q, hq, ht⟩ := List.exists_of_findSome?_eq_some h
  unfold tryF at ht
  split at ht
  · rename_i hh
    have e : writeF q I = n := by simpa using ht
    subst e
    exact ⟨q, hq, hh.1, hh.2, rfl, writeF_lt q I (row_mat q hq)⟩
  · exact absurd ht (by simp)
/-- What was decoded has bits: of those that it was decoded of. -/
theorem enc_dec {r : Row} (hr : r ∈ tableL) {b : Nat} (hb : b < 4294967296) (h : holdsR r b = true) :
    ∃ n, encF (readF r b) = some n ∧ decF n = readF r b ∧ n &&& b = n ∧ n < 4294967296 ∧ (full r = 4294967295 → n = b) := by
  have ht : tryF r (readF r b) = some (writeF r (readF r b)) := by
    unfold tryF; rw [if_pos ⟨rfl, by rw [canon hr hb (holdsR_mat h)]; exact dec_full hr hb h⟩]
  cases hE : encF (readF r b) with
  | none =>
    unfold encF at hE
    rw [List.findSome?_eq_none_iff] at hE
    rw [hE r hr] at ht; exact absurd ht (by simp)
  | some n =>
    obtain ⟨q, hq, hk, hd, hn, hl⟩ := encF_some hE
    obtain ⟨h1, h2⟩ := dec_inj hr hb hl h hd
    have hx : full r = 4294967295 → n = b := fun hf => by rw [hf, and_all n hl, and_all b hb] at h2; exact h2
    refine ⟨n, rfl, hd, ?_, hl, hx⟩
    rcases row_uk r hr with hf | hu
    · rw [hx hf, Nat.and_self]
    · have e : q = r := hu q hq (by have hk' : (q.kind : Int) = (r.kind : Int) := hk; exact_mod_cast hk')
      subst e
      rw [hn, canon hr hb (holdsR_mat h), Nat.and_assoc, Nat.and_comm (full q) b, ← Nat.and_assoc, Nat.and_self]
theorem row_pos : ∀ r ∈ tableL, 0 < r.kind := fun r hr => (row_kind r hr).1
theorem enc_zero (I : Ins) (h : I.kind = 0) : encF I = none := by
  unfold encF; rw [List.findSome?_eq_none_iff]; intro r hr
  unfold tryF; rw [if_neg (fun hh => by have := row_pos r hr; omega)]
end Go.Proofs.Ytlohpakcikkdmaa
