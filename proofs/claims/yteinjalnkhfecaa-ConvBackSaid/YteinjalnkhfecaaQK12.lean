/- Taken from other texts: what is needed of them. -/
import Derived.Test.YteinjalnkhfecaaQM
import Derived.Test.YteinjalnkhfecaaQA
import Derived.Test.YteinjalnkhfecaaQB
import Derived.Test.YteinjalnkhfecaaQE
import Derived.Test.YteinjalnkhfecaaQG
import Derived.Test.YteinjalnkhfecaaQK6
import Derived.Test.YteinjalnkhfecaaQL
import Derived.BigQuiet
import Derived.Deep.DeepCutAuto
namespace Go.Proofs.Yteinjalnkhfecaa.Q
open Go.ChangeShapes Go.WideShapes Go.ChangeAt Go.RowKit
set_option linter.unusedVariables false
set_option linter.unusedSimpArgs false
/-- A number of the reference at a block. -/
def AtN (w : World) (b : Nat) (m : Bool) (g n p : Nat) (E : Int) : Prop := b < w.heap.size ∧ w.cell? ⟨b, 0, none⟩ = some (.bool m) ∧ w.cell? ⟨b, 1, none⟩ = some (.slice (some ⟨g, 0, none⟩) n p) ∧ w.cell? ⟨b, 2, none⟩ = some (.int .i64 E)
theorem AtN.below {W w' : World} {b : Nat} {m : Bool} {g n p : Nat} {E : Int} (H : AtN W b m g n p E) (hb : Below W.heap.size W w') : AtN w' b m g n p E := by
  obtain ⟨h0, h1, h2, h3⟩ := H
  have hc := fun o => hb.cell (p := ⟨b, o, none⟩) h0
  exact ⟨Nat.lt_of_lt_of_le h0 hb.size, by rw [hc]; exact h1, by rw [hc]; exact h2, by rw [hc]; exact h3⟩
theorem atN_new (w : World) (m : Bool) (g n p : Nat) (E : Int) (t : TypeId) : AtN (w.alloc (Obj.cells #[.bool m, .slice (some ⟨g, 0, none⟩) n p, .int .i64 E] t)) w.heap.size m g n p E :=
  ⟨by rw [sz_alloc]; omega, by rw [World.cell?_alloc_at _ _ _ _ rfl]; rfl, by rw [World.cell?_alloc_at _ _ _ _ rfl]; rfl, by rw [World.cell?_alloc_at _ _ _ _ rfl]; rfl⟩
theorem noughtR_4 (m : Bool) (w : World) : Calls Try.prog 65 #[.int .i64 4, .bool m] w (RetU0 (noughtV false m) w) := by
  cases m
  all_goals (go_enter Try.func65, Try.ntmps65; go_wp2_with fail; go_ret; exact retU0_mk rfl)
theorem infinityR_4 (m : Bool) (w : World) : Calls Try.prog 63 #[.int .i64 4, .bool m] w (RetU (infV false m) w) := by
  have L : Hid (∀ w, Calls Try.prog 65 #[.int .i64 4, .bool m] w (RetU0 (noughtV false m) w)) := fun w => noughtR_4 m w
  cases m
  all_goals (go_enter Try.func63, Try.ntmps63; go_wp2_with fail; refine (shape_4 _).mono ?_; rintro e w1 ⟨rfl, b1⟩; go_upto_region 2 with fail; go_quiet (exact Calls.quiet_of_same ((L.out _).mono fun _ _ h => ⟨h.1, h.2⟩)); have b2 := below_drewN b1 nq; go_wp2_with fail; go_ret; exact retU_mk (by decide +kernel) b2)
theorem greatestR_4 (m : Bool) (w : World) : Calls Try.prog 100 #[.int .i64 4, .bool m] w (RetU (infV false m - 1) w) := by
  go_enter Try.func100, Try.ntmps100
  go_wp2_with fail
  refine (infinityR_4 m _).mono ?_
  rintro e w1 ⟨rfl, b1⟩
  cases m
  all_goals (go_wp2_with fail; go_ret; exact retU_mk rfl b1)
theorem noughtR_8 (m : Bool) (w : World) : Calls Try.prog 65 #[.int .i64 8, .bool m] w (RetU0 (noughtV true m) w) := by
  cases m
  all_goals (go_enter Try.func65, Try.ntmps65; go_wp2_with fail; go_ret; exact retU0_mk rfl)
theorem infinityR_8 (m : Bool) (w : World) : Calls Try.prog 63 #[.int .i64 8, .bool m] w (RetU (infV true m) w) := by
  have L : Hid (∀ w, Calls Try.prog 65 #[.int .i64 8, .bool m] w (RetU0 (noughtV true m) w)) := fun w => noughtR_8 m w
  cases m
  all_goals (go_enter Try.func63, Try.ntmps63; go_wp2_with fail; refine (shape_8 _).mono ?_; rintro e w1 ⟨rfl, b1⟩; go_upto_region 2 with fail; go_quiet (exact Calls.quiet_of_same ((L.out _).mono fun _ _ h => ⟨h.1, h.2⟩)); have b2 := below_drewN b1 nq; go_wp2_with fail; go_ret; exact retU_mk (by decide +kernel) b2)
theorem greatestR_8 (m : Bool) (w : World) : Calls Try.prog 100 #[.int .i64 8, .bool m] w (RetU (infV true m - 1) w) := by
  go_enter Try.func100, Try.ntmps100
  go_wp2_with fail
  refine (infinityR_8 m _).mono ?_
  rintro e w1 ⟨rfl, b1⟩
  cases m
  all_goals (go_wp2_with fail; go_ret; exact retU_mk rfl b1)
def flagT (d ex : Bool) (top L2 : Int) : Int := if ex then 0 else if top - fb d - 1 < 1 - bias d - fb d ∧ L2 + top - fb d - 1 < 1 - bias d - fb d + fb d + 1 then 3 else 1
def roundT (d : Bool) (rm : Int) (m : Bool) (last1 : Int) (k : Nat) (flag : Int) : Nat × Int :=
  if bias d < last1 + fb d ∧ blen k = fb d + 1 then (if rm = 1 ∨ rm = 2 ∧ m = false ∨ rm = 3 ∧ m = true then infV d m - 1 else infV d m, 5)
  else (noughtV d m + (if blen k = fb d + 1 then k - fracT d + (last1 - (1 - bias d - fb d) + 1).toNat * fracT d else k), flag)
theorem roundR_T (d : Bool) (rm : Int) (m : Bool) (M : Nat) (E : Int) (more : Bool) (top last : Int) (ht : top = (blen M : Int) + E) (hl : last = max (top - fb d - 1) (1 - bias d - fb d)) (K : Nat) (ex : Bool) (hc : cutR rm m M (last - E) more = (K, ex)) :
    roundR d rm m M E more = roundT d rm m (if fb d + 1 < blen K then last + 1 else last) (if fb d + 1 < blen K then K / 2 else K) (flagT d ex top (blen (cutR rm m M (top - fb d - 1 - E) more).1)) := by
  unfold roundR roundT flagT
  simp only
  rw [← ht, ← hl, hc]
theorem cutR_le (d : Bool) (rm : Int) (m : Bool) (M : Nat) (E : Int) (more : Bool) (h0 : M ≠ 0) (hm : more = true → fb d + 2 ≤ blen M) (p : Int) (hp : (blen M : Int) + E - fb d - 1 ≤ p) : (cutR rm m M (p - E) more).1 ≤ 2 * fracT d := by
  obtain ⟨X, e, hX⟩ : ∃ X e, Bey M E more X e := by
    cases more
    · exact ⟨M, E, .inl ⟨rfl, rfl, rfl⟩⟩
    · exact ⟨M * 2 + 1, E - 1, .inr ⟨rfl, rfl, rfl⟩⟩
  have hX0 : X ≠ 0 := by rcases hX with ⟨-, rfl, -⟩ | ⟨-, rfl, -⟩ <;> omega
  have ht : (blen M : Int) + E = topB X e + 1 := by
    unfold topB
    rcases hX with ⟨-, rfl, rfl⟩ | ⟨-, rfl, rfl⟩
    · omega
    · obtain ⟨a, b, c⟩ := blen_bounds M h0
      have : blen (M * 2 + 1) = blen M + 1 := by
        obtain ⟨k, hk⟩ : ∃ k, blen M = k + 1 := ⟨blen M - 1, by omega⟩
        rw [hk] at b c ⊢
        rw [Nat.add_sub_cancel] at b
        exact blen_of _ (k + 1) (by omega) (by rw [Nat.pow_succ]; omega) (by rw [Nat.pow_succ]; omega)
      omega
  rw [cutR_cutQ rm m M E more X e p (p - E) hX rfl (fun hh => by have := hm hh; omega)]
  have b1 := qrQ_small X e p hX0 (fb d + 1) (by omega)
  have b2 := cutQ_bd rm m X e p
  have hT : 2 ^ (fb d + 1) = 2 * fracT d := by obtain ⟨-, lT, -⟩ := lay_facts d; rw [Nat.pow_succ, lT]; omega
  show cutQ rm m X e p ≤ _
  omega
theorem blen_half (K : Nat) (h : 2 ≤ blen K) : blen (K / 2) = blen K - 1 := by have := blen_div K 1 (by omega); rwa [Nat.pow_one] at this
theorem lt_blen (k : Nat) : k < 2 ^ blen k := by
  by_cases h : k = 0
  · subst h; exact Nat.two_pow_pos _
  · exact (blen_bounds k h).2.2
theorem blen_ge (k n : Nat) (h : blen k = n + 1) : 2 ^ n ≤ k := by
  have h0 : k ≠ 0 := by intro e; rw [e] at h; simp [blen] at h
  have := (blen_bounds k h0).2.1
  rwa [h, Nat.add_sub_cancel] at this
def bvV (k x T : Nat) : Nat := k - T + x * T
theorem bits_val (k x T : Nat) (l : Int) (h1 : T ≤ k) (h2 : k < 18446744073709551616) (h3 : l = (x : Int)) (h4 : k - T + x * T < 18446744073709551616) : IntKind.u64.wrap (IntKind.u64.wrap ((k : Int) - T) + l * T) = ((bvV k x T : Nat) : Int) := by
  subst h3
  unfold bvV
  rw [show (k : Int) - (T : Int) = ((k - T : Nat) : Int) by omega, wrapN, Nat.mod_eq_of_lt (by omega), show ((k - T : Nat) : Int) + (x : Int) * (T : Int) = ((k - T + x * T : Nat) : Int) by push_cast; rfl, wrapN, Nat.mod_eq_of_lt h4]
theorem or_4 {nv k : Nat} (h : nv = 0 ∨ nv = 2147483648) (hk : k < 2147483648) : bits .or .u64 (nv : Int) (k : Int) = ((nv + k : Nat) : Int) := by
  rw [bits_or_u64_nat _ _ (by omega) (by omega)]
  rcases h with rfl | rfl
  · simp
  · rw [or_disj 31 _ _ (by decide) (by omega)]
theorem or_8 {nv k : Nat} (h : nv = 0 ∨ nv = 9223372036854775808) (hk : k < 9223372036854775808) : bits .or .u64 (nv : Int) (k : Int) = ((nv + k : Nat) : Int) := by
  rw [bits_or_u64_nat _ _ (by omega) (by omega)]
  rcases h with rfl | rfl
  · simp
  · rw [or_disj 63 _ _ (by decide) (by omega)]
end Go.Proofs.Yteinjalnkhfecaa.Q
