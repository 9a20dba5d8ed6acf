/- The mathematics of DecodeTurns and DecodeShifts. No Go text is named here. -/
import Derived.Test.YtmpkhflngpncnaaM4
namespace Go.Proofs.Ytmpkhflngpncnaa
set_option linter.unusedVariables false
set_option linter.unusedSimpArgs false
theorem fld_same {b c f k : Nat} (h : c &&& msk f k = b &&& msk f k) : fld c f k = fld b f k := by
  have e : fld c f k * 2 ^ f = fld b f k * 2 ^ f := by rw [fld_place, fld_place, h]
  exact Nat.eq_of_mul_eq_mul_right (Nat.two_pow_pos f) e
/-- Kinds that write rd. -/
def wrK (k : Int) : Bool := decide (k = 1 ∨ k = 2 ∨ k = 3 ∨ k = 4 ∨ k = 11 ∨ (13 ≤ k ∧ k ≤ 30) ∨ (35 ≤ k ∧ k ≤ 48) ∨ (53 ≤ k ∧ k ≠ 54))
theorem row_wr : ∀ r ∈ tableL, wrK r.kind = true → has r.parts 1 = true ∧ r.mask &&& 3968 = 0 ∧ immOf r ≠ 128 ∧ immOf r ≠ 256 := by decide +kernel
/-- Other bits for rd. -/
def turnB (b d : Nat) : Nat := (b &&& 4294963327) ||| d * 128
theorem turn_and {b d m : Nat} (hd : d < 32) (hm : m &&& 3968 = 0) (hl : m < 4294967296) : turnB b d &&& m = b &&& m := by
  unfold turnB
  have e1 : d * 128 = (d * 128) &&& 3968 := by
    have := fld_place (d * 128) 7 5
    rw [show msk 7 5 = 3968 by decide] at this
    rw [← this, fe (d * 128) 7 5 128 32 (by decide) (by decide)]; omega
  have e2 : d * 128 &&& m = 0 := by rw [e1, Nat.and_assoc, Nat.and_comm 3968 m, hm, Nat.and_zero]
  have e3 : 4294963327 &&& m = m := by
    have x1 : m &&& 4294967295 = m := and_all m hl
    have x2 : m &&& (4294963327 ||| 3968) = m := by rw [show 4294963327 ||| 3968 = 4294967295 by decide]; exact x1
    rw [Nat.and_or_distrib_left, hm, Nat.or_zero] at x2
    rw [Nat.and_comm]; exact x2
  rw [Nat.and_or_distrib_right, e2, Nat.or_zero, Nat.and_assoc, e3]
theorem turn_rd {b d : Nat} (hd : d < 32) : fld (turnB b d) 7 5 = d := by
  have e : fld (turnB b d) 7 5 * 2 ^ 7 = turnB b d &&& 3968 := by rw [fld_place]; rfl
  have e1 : d * 128 &&& 3968 = d * 128 := by
    have := fld_place (d * 128) 7 5
    rw [show msk 7 5 = 3968 by decide] at this
    rw [← this, fe (d * 128) 7 5 128 32 (by decide) (by decide)]; omega
  have e2 : turnB b d &&& 3968 = d * 128 := by
    unfold turnB
    rw [Nat.and_or_distrib_right, Nat.and_assoc, show 4294963327 &&& 3968 = 0 by decide, Nat.and_zero, Nat.zero_or, e1]
  rw [e2] at e
  have : (2 : Nat) ^ 7 = 128 := by decide
  omega
theorem turn_lt {b d : Nat} (hb : b < 4294967296) (hd : d < 32) : turnB b d < 4294967296 := by
  unfold turnB
  exact or_lt32 _ _ (Nat.lt_of_le_of_lt Nat.and_le_left hb) (by omega)
theorem turns {b d : Nat} (hb : b < 4294967296) (hd : d < 32) (hw : wrK (decF b).kind = true) : (decF b).rd = (fld b 7 5 : Int) ∧ decF (turnB b d) = { decF b with rd := (d : Int) } := by
  rcases decF_cases b with ⟨h0, _⟩ | ⟨r, hr, h1, h2⟩
  · rw [h0] at hw; exact absurd hw (by decide)
  · rw [h2] at hw ⊢
    obtain ⟨w1, w2, w3, w4⟩ := row_wr r hr hw
    have hc := turn_lt (b := b) hb hd
    have hm : r.mask < 4294967296 := by
      have : ∀ r ∈ tableL, r.mask < 4294967296 := by decide +kernel
      exact this r hr
    have hold : holdsR r (turnB b d) = true := holds_mk (by rw [turn_and hd w2 hm]; exact holdsR_mat h1) (fun h16 => by
      rw [fld_same (turn_and (m := msk 12 3) hd (by decide) (by decide))]; exact holdsR_rm h1 h16)
    refine ⟨?_, ?_⟩
    · show (if has r.parts 1 then (fld b 7 5 : Int) else 0) = _
      rw [if_pos w1]
    · rw [decF_of hr hold]
      have hi : immV r.parts (turnB b d) = immV r.parts b := imm_full hb hc (row_ok r hr).1 (fun _ => fld_same (turn_and hd (by decide) (by decide))) (fun h => absurd h w3) (fun h => absurd h w4) (fun _ => fld_same (turn_and hd (by decide) (by decide)))
        (fun _ => ⟨fld_same (turn_and hd (by decide) (by decide)), fld_same (turn_and hd (by decide) (by decide)), fld_same (turn_and hd (by decide) (by decide)), fld_same (turn_and hd (by decide) (by decide))⟩) (fun _ => fld_same (turn_and hd (by decide) (by decide))) (fun _ => fld_same (turn_and hd (by decide) (by decide)))
      have a15 : fld (turnB b d) 15 5 = fld b 15 5 := fld_same (turn_and hd (by decide) (by decide))
      have a20 : fld (turnB b d) 20 5 = fld b 20 5 := fld_same (turn_and hd (by decide) (by decide))
      have a27 : fld (turnB b d) 27 5 = fld b 27 5 := fld_same (turn_and hd (by decide) (by decide))
      have a12 : fld (turnB b d) 12 3 = fld b 12 3 := fld_same (turn_and hd (by decide) (by decide))
      have ac : fld (turnB b d) 20 12 = fld b 20 12 := fld_same (turn_and hd (by decide) (by decide))
      have aw : fld (turnB b d) 12 2 = fld b 12 2 := fld_same (turn_and hd (by decide) (by decide))
      have af : fld (turnB b d) 25 1 = fld b 25 1 := fld_same (turn_and hd (by decide) (by decide))
      have a3 : fld (turnB b d) 3 1 = fld b 3 1 := fld_same (turn_and hd (by decide) (by decide))
      have a21 : fld (turnB b d) 21 1 = fld b 21 1 := fld_same (turn_and hd (by decide) (by decide))
      have a201 : fld (turnB b d) 20 1 = fld b 20 1 := fld_same (turn_and hd (by decide) (by decide))
      unfold readF sizesF regsF
      simp only [a15, a20, a27, a12, ac, aw, af, a3, a21, a201, hi, turn_rd hd, w1, if_true]
end Go.Proofs.Ytmpkhflngpncnaa
