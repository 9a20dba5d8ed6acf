/- PROVED: 'AluTurns' returns true whatever the two numbers are: there and back, pairs of branches. No condition. -/
import Derived.Test.YtbbgcjdflcfnjaaC3
import Derived.BigGuardPart
namespace Go.Proofs.Ytbbgcjdflcfnjaa
open Go.ChangeShapes Go.WideShapes Go.ChangeAt Go.RowKit
set_option linter.unusedVariables false
set_option linter.unusedSimpArgs false
theorem aluTurns_walk (a1 a2 : Int) (w1 : (Lit.int .u64 a1).wf = true) (w2 : (Lit.int .u64 a2).wf = true) (w : World) : Calls Try.prog 10 #[.int .u64 a1, .int .u64 a2] w (RetB true w) := by
  obtain ⟨a, rfl, ha⟩ := u64_of_wf w1
  obtain ⟨b, rfl, hb⟩ := u64_of_wf w2
  have ha' := ha.out; have hb' := hb.out
  have do_of : ∀ (k : Int) (x y n : Nat) (hx : x < 18446744073709551616) (hy : y < 18446744073709551616), doV k false x y = some n → Hid (∀ v, Calls Try.prog 11 #[.int .i64 k, .bool false, .int .u64 x, .int .u64 y] v (RetN n true v)) :=
    fun k x y n hx hy h => Lib.hid fun v => (do_c k false x y hx hy v).mono fun _ _ r => retN_of (b := true) h (fun h => nomatch h) r
  have br_of : ∀ (k : Int) (x : Bool), branchV k a b = some x → Hid (∀ v, Calls Try.prog 14 #[.int .i64 k, .int .u64 a, .int .u64 b] v (RetC x true v)) :=
    fun k x h => Lib.hid fun v => (branch_c k a b ha hb v).mono fun _ _ r => retC_of h r
  have at_of : ∀ (k : Int) (n : Nat), atomV k 8 a b = some n → Hid (∀ v, Calls Try.prog 16 #[.int .i64 k, .int .i64 8, .int .u64 a, .int .u64 b] v (RetN n true v)) :=
    fun k n h => Lib.hid fun v => (atomic_c k 8 a b ha hb v).mono fun _ _ r => retN_of (b := true) h (fun h => nomatch h) r
  have hs : (a + b) % 18446744073709551616 < 18446744073709551616 := Nat.mod_lt _ (by decide)
  have hl : a * 2 ^ (b % 64) % 18446744073709551616 < 18446744073709551616 := Nat.mod_lt _ (by decide)
  have hd : ((a + b) % 18446744073709551616 + (18446744073709551616 - b)) % 18446744073709551616 = a := by omega
  have hx := xor_lt64 a b ha' hb'
  refine turns_core a b ((a + b) % 18446744073709551616) (a * 2 ^ (b % 64) % 18446744073709551616) (a * 2 ^ (b % 64) % 18446744073709551616 / 2 ^ (b % 64)) (b % 64)
    (if sgn H64 a < sgn H64 b then a else b) (if sgn H64 a < sgn H64 b then b else a) (if sgn H64 a < sgn H64 b then 1 else 0) (a ^^^ b)
    (decide (sgn H64 a < sgn H64 b)) (decide (a = b)) (decide (a < b))
    (do_of 13 a b _ ha' hb' rfl) (do_of 14 _ b _ hs hb' (congrArg some hd)) (do_of 15 a b _ ha' hb' rfl) (do_of 19 _ b _ hl hb' rfl)
    (br_of 7 _ rfl) (br_of 8 _ rfl) (br_of 5 _ rfl) (br_of 6 _ rfl) (br_of 9 _ rfl) (br_of 10 _ rfl) (at_of 45 _ rfl) (at_of 46 _ rfl) (do_of 16 a b _ ha' hb' rfl)
    ?_ (Nat.mod_lt _ (by decide)) ?_ ?_ ?_ ?_ ?_ ?_ ?_ w
  · rw [show (63 : Int) = ((63 : Nat) : Int) from rfl, bits_and_u64_nat b 63 hb' (by decide), show 63 = 2 ^ 6 - 1 from rfl, Nat.and_two_pow_sub_one_eq_mod]
  · rw [IntKind.wrap_u64, sll64]; simp [H64]
  · by_cases h : a = b <;> simp [h]
    omega
  · by_cases h : a = b <;> simp [h]
    omega
  · intro h; have h2 := of_decide_eq_true h; simp [h2]
  · intro h; have h2 := of_decide_eq_false h; simp [h2]
  · exact bits_xor_u64_nat a b ha' hb'
  · rw [Nat.xor_comm a b]; exact bits_xor_u64_nat b a hb' ha'
end Go.Proofs.Ytbbgcjdflcfnjaa
namespace Go.Proofs.Ytbbgcjdflcfnjaa.aluTurns
open Go.ChangeShapes Go.WideShapes Go.ChangeAt Go.RowKit
set_option linter.unusedVariables false
theorem own : ownKnob Try.prog.godebug = none := by kernel_rfl
set_option maxRecDepth 100000 in
theorem lifted (os : Os) (started : os.Started) (H : Type) (enc : TypeId × Value → H) :
    ReturnsInHanded {} Try.checked os 10 .any (Rows.aluTurnsSpec.pre6 enc Try.prog Try.f10 Rows.aluTurnsRow.domain false) (Rows.aluTurnsSpec.post enc Try.prog Try.f10 false true false false) := by
  refine returnsInHanded_of_change (C := Try.checked) own started (by kernel_rfl) Try.func10
    (ChangeSpec.witness6 (enc := enc) (C := Try.checked) false ⟨#[], #[.int .u64 0, .int .u64 0], []⟩ 8 (by kernel_rfl) (by kernel_rfl) (by kernel_rfl) (by kernel_rfl)) ?_
  intro W base args ds gs before hval0 hW hcnd _
  have hval : ∀ (j : Nat) t v, Try.f10.params[j]? = some t → args[j]? = some v → Value.okWide Try.prog W .any base t v := hval0
  have hW' := hW
  obtain ⟨p, q, hA0, hV, rfl, hfz, hnd⟩ := hW
  have hA : DataW.TrodAll enc Try.prog W 0 (fun _ => true) true Try.f10.params.toList args.toList ds p := hA0
  rw [Try.params10] at hA hval
  obtain ⟨v0, vs0, d0, ds0, p0, q0, hargs, rfl, rfl, h0, r0⟩ := trodAll_cons hA
  obtain ⟨v1, vs1, d1, ds1, p1, q1, rfl, rfl, rfl, h1, r1⟩ := trodAll_cons r0
  obtain ⟨rfl, rfl, rfl⟩ := trodAll_nil r1
  obtain rfl : args = #[v0, v1] := by cases args; simp_all
  obtain ⟨rfl, rfl⟩ := trodVars_none hV
  obtain ⟨a0, rfl, rfl, rfl, w0⟩ := open_int Try.underlying22 (hval 0 22 v0 rfl rfl) h0
  obtain ⟨a1, rfl, rfl, rfl, w1⟩ := open_int Try.underlying22 (hval 1 22 v1 rfl rfl) h1
  clear hA0 hval0
  simp only [List.append_nil] at hW'
  refine (aluTurns_walk a0 a1 w0 w1 W).mono fun e W' ⟨he, hg⟩ => ?_
  subst he
  exact ⟨_, rfl, post_nums hW' (fun _ _ _ => (trodAll_cons_mk (shut_bool Try.underlying4 _) trodAll_mk0)) (fun sp => (trodAll_cons_mk (shut_int Try.underlying22 w0) (trodAll_cons_mk (shut_int Try.underlying22 w1) trodAll_mk0))) (fun _ => rfl) hg (ok_one (by kernel_rfl) rfl (okWide_bool_mk Try.underlying4 _))⟩
theorem over : Rows.aluTurnsRow.holds Try.pinned (OpenSpec.ofChange Rows.aluTurnsSpec) :=
  OpenClaim.holds_of_wide 10 Try.f10 rfl rfl rfl rfl rfl rfl rfl ⟨rfl, rfl, rfl, rfl, rfl⟩ rfl rfl rfl rfl rfl (by kernel_rfl) Try.func10 (by kernel_rfl)
    (of_decide_eq_true (by kernel_rfl)) (by unfold Func.isWrapper; first | (rw [if_pos (by decide +kernel)]; kernel_rfl) | (rw [if_neg (by decide +kernel)]; exact ⟨rfl, rfl⟩))
    (fun os started H enc _ => lifted os started H enc)
theorem proved : Rows.AluTurnsSaid := over
#print axioms proved
end Go.Proofs.Ytbbgcjdflcfnjaa.aluTurns
