/- The mathematics of DecodeShifts. No Go text is named here. -/
import Derived.Test.YtmpkhflngpncnaaM5
namespace Go.Proofs.Ytmpkhflngpncnaa
set_option linter.unusedVariables false
set_option linter.unusedSimpArgs false
theorem row_sh : ∀ r ∈ tableL, (r.kind = 15 ∨ r.kind = 19 ∨ r.kind = 20) → has r.parts 131072 = true → r.parts &&& 8128 = 2048 ∧ has r.parts 65536 = false ∧ (has r.parts 32768 = true → r.mask &&& msk 25 1 = msk 25 1 ∧ r.mat &&& msk 25 1 = 0) := by decide +kernel
theorem shifts1 {b : Nat} (hb : b < 4294967296) (hk : (decF b).kind = 15 ∨ (decF b).kind = 19 ∨ (decF b).kind = 20) (hu : (decF b).ui = true) : 0 ≤ (decF b).imm ∧ (decF b).imm ≤ 63 ∧ ((decF b).wo = true → (decF b).imm ≤ 31) := by
  rcases decF_cases b with ⟨h0, _⟩ | ⟨r, hr, h1, h2⟩
  · rw [h0] at hu; exact absurd hu (by decide)
  · rw [h2] at hk hu ⊢
    have hk' : r.kind = 15 ∨ r.kind = 19 ∨ r.kind = 20 := by
      have e : (readF r b).kind = (r.kind : Int) := rfl
      rw [e] at hk; omega
    obtain ⟨p1, p2, p3⟩ := row_sh r hr hk' hu
    have ei : (readF r b).imm = (fld b 20 6 : Int) := by
      show immV r.parts b = _
      unfold immV; rw [p1]
      simp only [show ¬ (2048 : Nat) = 64 by decide, show ¬ (2048 : Nat) = 128 by decide, show ¬ (2048 : Nat) = 256 by decide, show ¬ (2048 : Nat) = 512 by decide, show ¬ (2048 : Nat) = 1024 by decide, if_false, if_true]
    have hl : fld b 20 6 < 64 := fldlt b 20 6
    rw [ei]
    refine ⟨by omega, by omega, fun hw => ?_⟩
    have ew : (readF r b).wo = if has r.parts 65536 then decide (fld b 21 1 = 0) else if has r.parts 32768 then decide (fld b 3 1 = 1) else false := rfl
    rw [ew, p2] at hw
    simp only [Bool.false_eq_true, if_false] at hw
    cases h32 : has r.parts 32768 with
    | false => rw [h32] at hw; simp at hw
    | true =>
      obtain ⟨m1, m2⟩ := p3 h32
      have e : fld b 25 1 * 2 ^ 25 = 0 := by rw [fld_place, ← m1, ← Nat.and_assoc, holdsR_mat h1, m2]
      rw [fe b 25 1 33554432 2 (by decide) (by decide)] at e
      rw [fe b 20 6 1048576 64 (by decide) (by decide)]
      omega
theorem row_ui : ∀ r ∈ tableL, has r.parts 131072 = true → (13 ≤ r.kind ∧ r.kind ≤ 22) ∨ (35 ≤ r.kind ∧ r.kind ≤ 37) := by decide +kernel
theorem shifts3 {b : Nat} (hu : (decF b).ui = true) : (13 ≤ (decF b).kind ∧ (decF b).kind ≤ 22) ∨ (35 ≤ (decF b).kind ∧ (decF b).kind ≤ 37) := by
  rcases decF_cases b with ⟨h0, _⟩ | ⟨r, hr, h1, h2⟩
  · rw [h0] at hu; exact absurd hu (by decide)
  · rw [h2] at hu ⊢
    have := row_ui r hr hu
    have e : (readF r b).kind = (r.kind : Int) := rfl
    rw [e]; omega
/-- The bits beside the place of rs2 that the register form has. -/
def sBit (k : Nat) : Nat := if k = 20 then 1073741856 else 32
def regB (b k : Nat) : Nat := (b &&& 1048575) ||| sBit k
def RegOf (r q : Row) : Prop := q.kind = r.kind ∧ full q = 4294967295 ∧ has q.parts 131072 = false ∧ has q.parts 1 = true ∧ has q.parts 2 = true ∧ has q.parts 4 = true ∧ has q.parts 8 = false ∧ has q.parts 16 = false ∧ has q.parts 32 = false ∧ has q.parts 8192 = false ∧ has q.parts 16384 = false ∧ has q.parts 65536 = false ∧ has q.parts 262144 = false ∧ q.parts &&& 8128 = 0 ∧
  (r.mat &&& 1048575 &&& q.mask) ||| (sBit r.kind &&& q.mask) = q.mat ∧ r.mask &&& (1048575 &&& q.mask) = 1048575 &&& q.mask ∧ (has r.parts 32768 = true → has q.parts 32768 = true) ∧ (has r.parts 32768 = false → has q.parts 32768 = true → r.mask &&& 8 = 8 ∧ r.mat &&& 8 = 0)
instance (r q : Row) : Decidable (RegOf r q) := by unfold RegOf; infer_instance
theorem row_reg : ∀ r ∈ tableL, has r.parts 131072 = true → r.kind ≤ 22 → (∃ q ∈ tableL, RegOf r q) ∧ has r.parts 1 = true ∧ has r.parts 2 = true ∧ has r.parts 65536 = false := by decide +kernel
theorem sBit_c (k : Nat) : sBit k = 1073741856 ∨ sBit k = 32 := by unfold sBit; split <;> simp
theorem reg_and {b k m : Nat} (h : m &&& 1048575 = m) (hs : m &&& 1073741856 = 0) : regB b k &&& m = b &&& m := by
  have hs' : sBit k &&& m = 0 := by
    rcases sBit_c k with e | e
    · rw [e, Nat.and_comm]; exact hs
    · rw [e, Nat.and_comm, ← show (1073741856 : Nat) &&& 32 = 32 by decide, ← Nat.and_assoc, hs, Nat.zero_and]
  unfold regB
  rw [Nat.and_or_distrib_right, hs', Nat.or_zero, Nat.and_assoc, Nat.and_comm 1048575 m, h]
theorem regB_lt (b k : Nat) : regB b k < 4294967296 := by
  unfold regB
  refine or_lt32 _ _ (Nat.lt_of_le_of_lt Nat.and_le_right (by decide)) ?_
  rcases sBit_c k with e | e <;> rw [e] <;> decide
theorem shifts2 {b : Nat} (hb : b < 4294967296) (hu : (decF b).ui = true) (hk : (decF b).kind ≤ 22) :
    ∃ n, encF ⟨(decF b).kind, (decF b).rd, (decF b).rs1, 0, 0, 0, 0, 0, 0, false, false, (decF b).wo⟩ = some n ∧ n < 4294967296 ∧ n &&& 127 = (b &&& 127) ||| 32 ∧ n &&& 1044480 = b &&& 1044480 := by
  rcases decF_cases b with ⟨h0, _⟩ | ⟨r, hr, h1, h2⟩
  · rw [h0] at hu; exact absurd hu (by decide)
  · rw [h2] at hu hk ⊢
    have ek : (readF r b).kind = (r.kind : Int) := rfl
    obtain ⟨⟨q, hq, k0, k1, k2, k3, k4, k5, k6, k7, k8, k9, k10, k11, k12, k13, k14, k15, k16, k17⟩, z1, z2, z3⟩ := row_reg r hr hu (by rw [ek] at hk; omega)
    have hm : regB b r.kind &&& q.mask = q.mat := by
      unfold regB
      rw [Nat.and_or_distrib_right, Nat.and_assoc, ← k15, ← Nat.and_assoc, holdsR_mat h1, ← Nat.and_assoc]; exact k14
    have hold : holdsR q (regB b r.kind) = true := holds_mk hm (fun h => by rw [k7] at h; exact absurd h (by decide))
    have f7 : fld (regB b r.kind) 7 5 = fld b 7 5 := fld_same (reg_and (by decide) (by decide))
    have f15 : fld (regB b r.kind) 15 5 = fld b 15 5 := fld_same (reg_and (by decide) (by decide))
    have f3 : fld (regB b r.kind) 3 1 = fld b 3 1 := fld_same (reg_and (by decide) (by decide))
    have f20 : fld (regB b r.kind) 20 5 = 0 := by
      have e : fld (regB b r.kind) 20 5 * 2 ^ 20 = 0 := by
        rw [fld_place]; unfold regB
        rw [Nat.and_or_distrib_right, Nat.and_assoc, show 1048575 &&& msk 20 5 = 0 by decide, Nat.and_zero, Nat.zero_or]
        rcases sBit_c r.kind with e | e <;> rw [e] <;> decide
      have : (2 : Nat) ^ 20 = 1048576 := by decide
      omega
    have ew : (readF r b).wo = if has r.parts 65536 then decide (fld b 21 1 = 0) else if has r.parts 32768 then decide (fld b 3 1 = 1) else false := rfl
    have hz : readF q (regB b r.kind) = ⟨(readF r b).kind, (readF r b).rd, (readF r b).rs1, 0, 0, 0, 0, 0, 0, false, false, (readF r b).wo⟩ := by
      have e1 : (readF r b).rd = (fld b 7 5 : Int) := by show (if has r.parts 1 then (fld b 7 5 : Int) else 0) = _; rw [if_pos z1]
      have e2 : (readF r b).rs1 = (fld b 15 5 : Int) := by show (if has r.parts 2 then (fld b 15 5 : Int) else 0) = _; rw [if_pos z2]
      have e3 : (if has q.parts 32768 then decide (fld b 3 1 = 1) else false) = (readF r b).wo := by
        rw [ew, z3]; simp only [Bool.false_eq_true, if_false]
        cases h32 : has r.parts 32768 with
        | true => rw [k16 h32]
        | false =>
          cases g32 : has q.parts 32768 with
          | false => rfl
          | true =>
            obtain ⟨m1, m2⟩ := k17 h32 g32
            have e : fld b 3 1 * 2 ^ 3 = 0 := by rw [fld_place, show msk 3 1 = 8 by decide, ← m1, ← Nat.and_assoc, holdsR_mat h1, m2]
            have e' : fld b 3 1 = 0 := by have : (2 : Nat) ^ 3 = 8 := by decide
                                          omega
            rw [e']; rfl
      rw [e1, e2, ek]
      unfold readF sizesF regsF immV
      simp only [k0, k2, k3, k4, k5, k6, k7, k8, k9, k10, k11, k12, k13, f7, f15, f20, f3, e3, if_true, Bool.false_eq_true, if_false, zeroI, show ¬ (0 : Nat) = 64 by decide, show ¬ (0 : Nat) = 128 by decide, show ¬ (0 : Nat) = 256 by decide, show ¬ (0 : Nat) = 512 by decide, show ¬ (0 : Nat) = 1024 by decide, show ¬ (0 : Nat) = 2048 by decide, show ¬ (0 : Nat) = 4096 by decide]
      rfl
    obtain ⟨n, n1, n2, n3, n4, n5⟩ := enc_dec hq (regB_lt b r.kind) hold
    have hn := n5 k1
    rw [hz] at n1
    refine ⟨n, n1, n4, ?_, ?_⟩
    · rw [hn]; unfold regB
      rw [Nat.and_or_distrib_right, Nat.and_assoc, show 1048575 &&& 127 = 127 by decide]
      rcases sBit_c r.kind with e | e <;> rw [e] <;> rfl
    · rw [hn]; exact reg_and (by decide) (by decide)
end Go.Proofs.Ytmpkhflngpncnaa
