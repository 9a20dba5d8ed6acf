/- PROVED: 'AluWords' returns true whatever the kind and the numbers are: of words the upper 32 bits don't count. No condition. -/
import Derived.Test.YtbbgcjdflcfnjaaF2
import Derived.BigGuardPart
namespace Go.Proofs.Ytbbgcjdflcfnjaa
open Go.ChangeShapes Go.WideShapes Go.ChangeAt Go.RowKit
set_option linter.unusedVariables false
set_option linter.unusedSimpArgs false
theorem xor_up (a h : Nat) : (a ^^^ (h * 4294967296)) % 4294967296 = a % 4294967296 := by
  rw [show (4294967296 : Nat) = 2 ^ 32 by decide, Nat.xor_mod_two_pow]; simp
theorem wide32_lt (n : Nat) : wide32 n < 18446744073709551616 := uns_lt (by decide) _
theorem wide_again (n : Nat) (hn : n < 4294967296) : extV (wide32 n) 4 false = some (wide32 n) := by
  have e : wide32 n % (2 * H32) = n := by unfold wide32 uns sgn H64 H32; split <;> omega
  show some (extS H32 (wide32 n) false) = _
  unfold extS; rw [if_neg (by decide), e]; rfl
theorem words_eq (k : Int) (a b a' b' : Nat) (ha : a' % 4294967296 = a % 4294967296) (hb : b' % 4294967296 = b % 4294967296) : doV k true a' b' = doV k true a b := by
  unfold doV; rw [if_pos rfl, if_pos rfl, ha, hb]
theorem words_do (k : Int) (a b : Nat) : ∃ (n : Nat) (t : Bool), n < 18446744073709551616 ∧ doV k true a b = (if t then some n else none) ∧ (t = false → n = 0) ∧ extV n 4 false = some n := by
  have hl := fun n => bothV_lt (wd := 32) (half := H32) (k := k) (a := a % 4294967296) (b := b % 4294967296) (n := n) (by decide) (Nat.mod_lt _ (by decide))
  have hd : doV k true a b = (bothV 32 H32 k (a % 4294967296) (b % 4294967296)).map wide32 := rfl
  cases ho : bothV 32 H32 k (a % 4294967296) (b % 4294967296) with
  | none => exact ⟨0, false, by decide, by rw [hd, ho]; rfl, fun _ => rfl, by decide +kernel⟩
  | some n => exact ⟨wide32 n, true, wide32_lt n, by rw [hd, ho]; rfl, fun h => (by contradiction), wide_again n (hl n ho)⟩
set_option maxRecDepth 100000 in
theorem aluWords_walk (k a1 a2 a3 : Int) (w0 : (Lit.int .i64 k).wf = true) (w1 : (Lit.int .u64 a1).wf = true) (w2 : (Lit.int .u64 a2).wf = true) (w3 : (Lit.int .u64 a3).wf = true) (w : World) : Calls Try.prog 8 #[.int .i64 k, .int .u64 a1, .int .u64 a2, .int .u64 a3] w (RetB true w) := by
  obtain ⟨a, rfl, ha⟩ := u64_of_wf w1
  obtain ⟨b, rfl, hb⟩ := u64_of_wf w2
  obtain ⟨h, rfl, hh⟩ := u64_of_wf w3
  clear w0 w1 w2 w3
  have hlt1 : h * 4294967296 % 18446744073709551616 < 18446744073709551616 := Nat.mod_lt _ (by decide)
  have hlt2 : h / 4294967296 * 4294967296 < 18446744073709551616 := by have := hh.out; omega
  have e1 : bits .xor .u64 (a : Int) ((h : Int) * 4294967296 % 18446744073709551616) = ((a ^^^ (h * 4294967296 % 18446744073709551616) : Nat) : Int) := by
    rw [show (h : Int) * 4294967296 % 18446744073709551616 = ((h * 4294967296 % 18446744073709551616 : Nat) : Int) by simp, bits_xor_u64_nat a _ ha.out hlt1]
  have e2 : bits .xor .u64 (b : Int) ((h : Int) / 4294967296 * 4294967296 % 18446744073709551616) = ((b ^^^ (h / 4294967296 * 4294967296) : Nat) : Int) := by
    have := hh.out
    rw [show (h : Int) / 4294967296 * 4294967296 % 18446744073709551616 = ((h / 4294967296 * 4294967296 : Nat) : Int) by omega, bits_xor_u64_nat b _ hb.out hlt2]
  have q1 : (a ^^^ (h * 4294967296 % 18446744073709551616)) % 4294967296 = a % 4294967296 := by
    rw [show h * 4294967296 % 18446744073709551616 = (h % 4294967296) * 4294967296 by omega, xor_up]
  have q2 : (b ^^^ (h / 4294967296 * 4294967296)) % 4294967296 = b % 4294967296 := xor_up _ _
  have l1 : Hid ((a ^^^ (h * 4294967296 % 18446744073709551616)) < 18446744073709551616) := xor_lt64 _ _ ha.out hlt1
  have l2 : Hid ((b ^^^ (h / 4294967296 * 4294967296)) < 18446744073709551616) := xor_lt64 _ _ hb.out hlt2
  generalize a ^^^ (h * 4294967296 % 18446744073709551616) = c at *
  generalize b ^^^ (h / 4294967296 * 4294967296) = d at *
  obtain ⟨n, t, hn, hd, ht, he⟩ := words_do k a b
  have hd' := words_eq k a b c d q1 q2
  rw [hd] at hd'
  have D1 := Lib.hid (fun v => (do_c k true a b ha hb v).mono fun _ _ h => retN_of hd ht h)
  have D2 := Lib.hid (fun v => (do_c k true c d l1 l2 v).mono fun _ _ h => retN_of hd' ht h)
  have D3 := Lib.hid (fun v => (extend_c n 4 false hn v).mono fun _ _ h => retN_of (b := true) he (fun h => nomatch h) h)
  have E1 := Lib.hid e1; have E2 := Lib.hid e2
  clear hd hd' ht he hn q1 q2 l1 l2 hlt1 hlt2 e1 e2
  cases t
  all_goals (
    go_enter Try.func8, Try.ntmps8
    go_wp2_with fail
    refine (D1.out _).mono ?_; rintro e w1 ⟨rfl, hb1⟩
    go_wp2_with fail
    (try simp only [IntKind.wrap_u64])
    rw [E1.out, E2.out]
    refine (D2.out _).mono ?_; rintro e w2 ⟨rfl, hb2⟩
    go_wp2_with fail
    refine (D3.out _).mono ?_; rintro e w3 ⟨rfl, hb3⟩
    go_wp2_with fail
    refine (fixed_c _).mono ?_; rintro e w4 ⟨rfl, hb4⟩
    go_wp2_with fail
    go_ret
    exact retB_mk (by first | rfl | simp) (by repeat (first | (with_reducible first | exact Below.refl _ _ | assumption | exact Nat.le_refl _ | refine Below.drew ?_ | refine Below.alloc ?_ ?_ _ | refine below_drewN ?_ _ | refine Below.setCell ?_ ?_ _ | refine le_alloc ?_ | refine le_set ?_ | refine le_drew ?_ | refine le_drewN ?_ | refine below_step (by assumption) ?_ ?_ | refine le_below (by assumption) ?_) | (dsimp only; omega))))
end Go.Proofs.Ytbbgcjdflcfnjaa
namespace Go.Proofs.Ytbbgcjdflcfnjaa.aluWords
open Go.ChangeShapes Go.WideShapes Go.ChangeAt Go.RowKit
set_option linter.unusedVariables false
theorem own : ownKnob Try.prog.godebug = none := by kernel_rfl
set_option maxRecDepth 100000 in
theorem lifted (os : Os) (started : os.Started) (H : Type) (enc : TypeId × Value → H) :
    ReturnsInHanded {} Try.checked os 8 .any (Rows.aluWordsSpec.pre6 enc Try.prog Try.f8 Rows.aluWordsRow.domain false) (Rows.aluWordsSpec.post enc Try.prog Try.f8 false true false false) := by
  refine returnsInHanded_of_change (C := Try.checked) own started (by kernel_rfl) Try.func8
    (ChangeSpec.witness6 (enc := enc) (C := Try.checked) false ⟨#[], #[.int .i64 0, .int .u64 0, .int .u64 0, .int .u64 0], []⟩ 8 (by kernel_rfl) (by kernel_rfl) (by kernel_rfl) (by kernel_rfl)) ?_
  intro W base args ds gs before hval0 hW hcnd _
  have hval : ∀ (j : Nat) t v, Try.f8.params[j]? = some t → args[j]? = some v → Value.okWide Try.prog W .any base t v := hval0
  have hW' := hW
  obtain ⟨p, q, hA0, hV, rfl, hfz, hnd⟩ := hW
  have hA : DataW.TrodAll enc Try.prog W 0 (fun _ => true) true Try.f8.params.toList args.toList ds p := hA0
  rw [Try.params8] at hA hval
  obtain ⟨v0, vs0, d0, ds0, p0, q0, hargs, rfl, rfl, h0, r0⟩ := trodAll_cons hA
  obtain ⟨v1, vs1, d1, ds1, p1, q1, rfl, rfl, rfl, h1, r1⟩ := trodAll_cons r0
  obtain ⟨v2, vs2, d2, ds2, p2, q2, rfl, rfl, rfl, h2, r2⟩ := trodAll_cons r1
  obtain ⟨v3, vs3, d3, ds3, p3, q3, rfl, rfl, rfl, h3, r3⟩ := trodAll_cons r2
  obtain ⟨rfl, rfl, rfl⟩ := trodAll_nil r3
  obtain rfl : args = #[v0, v1, v2, v3] := by cases args; simp_all
  obtain ⟨rfl, rfl⟩ := trodVars_none hV
  obtain ⟨a0, rfl, rfl, rfl, w0⟩ := open_int Try.underlying3 (hval 0 3 v0 rfl rfl) h0
  obtain ⟨a1, rfl, rfl, rfl, w1⟩ := open_int Try.underlying22 (hval 1 22 v1 rfl rfl) h1
  obtain ⟨a2, rfl, rfl, rfl, w2⟩ := open_int Try.underlying22 (hval 2 22 v2 rfl rfl) h2
  obtain ⟨a3, rfl, rfl, rfl, w3⟩ := open_int Try.underlying22 (hval 3 22 v3 rfl rfl) h3
  clear hA0 hval0
  simp only [List.append_nil] at hW'
  refine (aluWords_walk a0 a1 a2 a3 w0 w1 w2 w3 W).mono fun e W' ⟨he, hg⟩ => ?_
  subst he
  exact ⟨_, rfl, post_nums hW' (fun _ _ _ => (trodAll_cons_mk (shut_bool Try.underlying4 _) trodAll_mk0)) (fun sp => (trodAll_cons_mk (shut_int Try.underlying3 w0) (trodAll_cons_mk (shut_int Try.underlying22 w1) (trodAll_cons_mk (shut_int Try.underlying22 w2) (trodAll_cons_mk (shut_int Try.underlying22 w3) trodAll_mk0))))) (fun _ => rfl) hg (ok_one (by kernel_rfl) rfl (okWide_bool_mk Try.underlying4 _))⟩
theorem over : Rows.aluWordsRow.holds Try.pinned (OpenSpec.ofChange Rows.aluWordsSpec) :=
  OpenClaim.holds_of_wide 8 Try.f8 rfl rfl rfl rfl rfl rfl rfl ⟨rfl, rfl, rfl, rfl, rfl⟩ rfl rfl rfl rfl rfl (by kernel_rfl) Try.func8 (by kernel_rfl)
    (of_decide_eq_true (by kernel_rfl)) (by unfold Func.isWrapper; first | (rw [if_pos (by decide +kernel)]; kernel_rfl) | (rw [if_neg (by decide +kernel)]; exact ⟨rfl, rfl⟩))
    (fun os started H enc _ => lifted os started H enc)
theorem proved : Rows.AluWordsSaid := over
#print axioms proved
end Go.Proofs.Ytbbgcjdflcfnjaa.aluWords
