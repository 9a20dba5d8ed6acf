/- PROVED: 'SoftScales' returns true whatever the numbers are: times a power of two, sums of what is shifted alike. No condition. -/
import Derived.Test.YtnmkahdgfakpiaaJ2
import Derived.Test.YtnmkahdgfakpiaaJ3
import Derived.Test.YtnmkahdgfakpiaaG13
namespace Go.Proofs.Ytnmkahdgfakpiaa
open Go.ChangeShapes Go.WideShapes Go.ChangeAt Go.RowKit
set_option linter.unusedVariables false
set_option linter.unusedSimpArgs false
theorem u64_of_wf {a : Int} (h : (Lit.int .u64 a).wf = true) : ∃ n : Nat, a = n ∧ Hid (n < 18446744073709551616) := by
  simp [Lit.wf, IntKind.min, IntKind.max, IntKind.signed, IntKind.bits] at h
  obtain ⟨h0, h1⟩ := h
  exact ⟨a.toNat, by omega, by show _ < _; omega⟩
theorem retG_of {r : Nat × Int} {n : Nat} {k : Int} {W : World} {e : Ending} {w' : World} (hn : r.1 = n) (hk : r.2 = k) (h : RetP r W e w') : RetG n k W e w' := by
  subst hn; subst hk; exact h
theorem retG8_of {r : Nat × Int} {n : Nat} {k : Int} {W : World} {e : Ending} {w' : World} (hn : r.1 = n) (hk : r.2 = k) (h : RetP r W e w') : RetG8 n k W e w' := by
  subst hn; subst hk; exact h
theorem modes_lt {d : Bool} {F : Int → Nat × Int} (h : ModesOk d F) (rm : Int) : (F rm).1 < 18446744073709551616 := by
  rcases h with ⟨fl, h⟩ | ⟨v, h⟩ | ⟨v, h⟩
  · rw [h]; exact quietB_lt d
  · exact (h rm).1.1
  · exact (h rm).1.1
theorem sumF_lt (d : Bool) (rm : Int) (a b : Nat) : (sumF d rm (readN d a) (readN d b)).1 < 18446744073709551616 := modes_lt (modes_add d a b) rm
theorem mode_bd (n : Int) : 0 ≤ modeV n ∧ modeV n < 5 := by have := mode_cases n; omega
theorem tmod_bd (x : Int) : -19 ≤ x.tmod 20 ∧ x.tmod 20 ≤ 19 := by
  have h1 := Int.tmod_lt_of_pos x (show (0 : Int) < 20 by decide)
  have h2 := Int.tmod_lt_of_pos (-x) (show (0 : Int) < 20 by decide)
  rw [Int.neg_tmod] at h2
  omega
theorem ne0 {x : Int} (h : (x != 0) = false) : x = 0 := by simpa using h
theorem scales_4 (a0 a1 a2 : Int) (a b : Nat) (hs : bits .and .i64 a0 1 = 0) (ha : Hid (a < 18446744073709551616)) (hb : Hid (b < 18446744073709551616)) (w : World) :
    Calls Try.prog 11 #[.int .i64 a0, .int .i64 a1, .int .i64 a2, .int .u64 a, .int .u64 b] w (RetB true w) := by
  obtain ⟨b1, b2⟩ := tmod_bd a2
  obtain ⟨t, ht⟩ : ∃ t : Nat, a2.tmod 20 + 128 = (t : Int) := ⟨(a2.tmod 20 + 128).toNat, by omega⟩
  have t1 : 1 ≤ t := by omega
  have t2 : (t : Int) ≤ 2 * bias false := by show (t : Int) ≤ 2 * 127; omega
  have t3 : -100 ≤ (t : Int) - bias false := by show -100 ≤ (t : Int) - 127; omega
  have tl : t * 8388608 < 18446744073709551616 := by omega
  have KK : Hid (IntKind.u64.wrap (IntKind.u64.wrap (wrap64 (wrap64 (127 + wrap64 (a2.tmod 20 + 20)) - 19)) * 8388608) = ((t * 8388608 : Nat) : Int)) := by
    show _ = _
    rw [IntWalk.wrap64_in (a2.tmod 20 + 20) ⟨by omega, by omega⟩, IntWalk.wrap64_in (127 + (a2.tmod 20 + 20)) ⟨by omega, by omega⟩, IntWalk.wrap64_in _ ⟨by omega, by omega⟩, IntKind.wrap_u64, IntKind.wrap_u64]; omega
  obtain ⟨m0, m5⟩ := mode_bd a1
  have ha' := ha.out; have hb' := hb.out
  obtain ⟨x, hx⟩ : ∃ x, x = (mulF false (modeV a1) (readN false a) (readN false (t * fracT false))).1 := ⟨_, rfl⟩
  obtain ⟨y, hy⟩ : ∃ y, y = (mulF false (modeV a1) (readN false b) (readN false (t * fracT false))).1 := ⟨_, rfl⟩
  obtain ⟨v, hv⟩ : ∃ v, v = (sumF false (modeV a1) (readN false a) (readN false b)).1 := ⟨_, rfl⟩
  obtain ⟨ww, hw⟩ : ∃ ww, ww = (sumF false (modeV a1) (readN false x) (readN false y)).1 := ⟨_, rfl⟩
  have hx6 : x < 18446744073709551616 := by rw [hx]; exact mulF_lt false (modeV a1) a _
  have hy6 : y < 18446744073709551616 := by rw [hy]; exact mulF_lt false (modeV a1) b _
  have hv6 : v < 18446744073709551616 := by rw [hv]; exact sumF_lt false (modeV a1) a b
  have hw6 : ww < 18446744073709551616 := by rw [hw]; exact sumF_lt false (modeV a1) x y
  have fin := scales false (modeV a1) a b t t1 t2 t3 x y v ww hx hy hv hw
  refine scale_4 a0 a1 a2 a b t hs KK x y v ww _ _ _ _ _ _ (nanB false x) (nanB false y) (isInf false x) (isInf false y) _ _ _ _ _ (func0B false v) (func0B false ww)
    (fun u => (Mul_c 4 false rfl (modeV a1) m0 m5 a (t * 8388608) ha' tl u).mono fun _ _ r => retG_of hx.symm rfl r)
    (fun u => (Mul_c 4 false rfl (modeV a1) m0 m5 b (t * 8388608) hb' tl u).mono fun _ _ r => retG_of hy.symm rfl r)
    (fun u => nanb_4 x hx6 u) (fun u => nanb_4 y hy6 u) (fun u => infb_4 x hx6 u) (fun u => infb_4 y hy6 u) rfl rfl
    (fun u => (Add_c 4 false rfl (modeV a1) m0 m5 a b ha' hb' u).mono fun _ _ r => retG_of hv.symm rfl r)
    (fun u => (Add_c 4 false rfl (modeV a1) m0 m5 x y hx6 hy6 u).mono fun _ _ r => retG_of hw.symm rfl r)
    (fun u => (Mul_c 4 false rfl (modeV a1) m0 m5 v (t * 8388608) hv6 tl u).mono fun _ _ r => retG_of rfl rfl r)
    rfl rfl rfl (fun u => func0_4 v hv6 u) (fun u => func0_4 ww hw6 u) ?_ w
  intro n1 n2 n3 n4 g0 g1 i0 j0 l0 f1 f2
  exact fin n1 n2 n3 n4 (ne0 g0) (ne0 g1) (ne0 i0) (ne0 j0) f1 f2
theorem scales_8 (a0 a1 a2 : Int) (a b : Nat) (hs : bits .and .i64 a0 1 = 1) (ha : Hid (a < 18446744073709551616)) (hb : Hid (b < 18446744073709551616)) (w : World) :
    Calls Try.prog 11 #[.int .i64 a0, .int .i64 a1, .int .i64 a2, .int .u64 a, .int .u64 b] w (RetB true w) := by
  obtain ⟨b1, b2⟩ := tmod_bd a2
  obtain ⟨t, ht⟩ : ∃ t : Nat, a2.tmod 20 + 1024 = (t : Int) := ⟨(a2.tmod 20 + 1024).toNat, by omega⟩
  have t1 : 1 ≤ t := by omega
  have t2 : (t : Int) ≤ 2 * bias true := by show (t : Int) ≤ 2 * 1023; omega
  have t3 : -100 ≤ (t : Int) - bias true := by show -100 ≤ (t : Int) - 1023; omega
  have tl : t * 4503599627370496 < 18446744073709551616 := by omega
  have KK : Hid (IntKind.u64.wrap (IntKind.u64.wrap (wrap64 (wrap64 (1023 + wrap64 (a2.tmod 20 + 20)) - 19)) * 4503599627370496) = ((t * 4503599627370496 : Nat) : Int)) := by
    show _ = _
    rw [IntWalk.wrap64_in (a2.tmod 20 + 20) ⟨by omega, by omega⟩, IntWalk.wrap64_in (1023 + (a2.tmod 20 + 20)) ⟨by omega, by omega⟩, IntWalk.wrap64_in _ ⟨by omega, by omega⟩, IntKind.wrap_u64, IntKind.wrap_u64]; omega
  obtain ⟨m0, m5⟩ := mode_bd a1
  have ha' := ha.out; have hb' := hb.out
  obtain ⟨x, hx⟩ : ∃ x, x = (mulF true (modeV a1) (readN true a) (readN true (t * fracT true))).1 := ⟨_, rfl⟩
  obtain ⟨y, hy⟩ : ∃ y, y = (mulF true (modeV a1) (readN true b) (readN true (t * fracT true))).1 := ⟨_, rfl⟩
  obtain ⟨v, hv⟩ : ∃ v, v = (sumF true (modeV a1) (readN true a) (readN true b)).1 := ⟨_, rfl⟩
  obtain ⟨ww, hw⟩ : ∃ ww, ww = (sumF true (modeV a1) (readN true x) (readN true y)).1 := ⟨_, rfl⟩
  have hx6 : x < 18446744073709551616 := by rw [hx]; exact mulF_lt true (modeV a1) a _
  have hy6 : y < 18446744073709551616 := by rw [hy]; exact mulF_lt true (modeV a1) b _
  have hv6 : v < 18446744073709551616 := by rw [hv]; exact sumF_lt true (modeV a1) a b
  have hw6 : ww < 18446744073709551616 := by rw [hw]; exact sumF_lt true (modeV a1) x y
  have fin := scales true (modeV a1) a b t t1 t2 t3 x y v ww hx hy hv hw
  refine scale_8 a0 a1 a2 a b t hs KK x y v ww _ _ _ _ _ _ (nanB true x) (nanB true y) (isInf true x) (isInf true y) _ _ _ _ _ (func0B true v) (func0B true ww)
    (fun u => (Mul_c 8 true rfl (modeV a1) m0 m5 a (t * 4503599627370496) ha' tl u).mono fun _ _ r => retG8_of hx.symm rfl r)
    (fun u => (Mul_c 8 true rfl (modeV a1) m0 m5 b (t * 4503599627370496) hb' tl u).mono fun _ _ r => retG8_of hy.symm rfl r)
    (fun u => nanb_8 x hx6 u) (fun u => nanb_8 y hy6 u) (fun u => infb_8 x hx6 u) (fun u => infb_8 y hy6 u) rfl rfl
    (fun u => (Add_c 8 true rfl (modeV a1) m0 m5 a b ha' hb' u).mono fun _ _ r => retG8_of hv.symm rfl r)
    (fun u => (Add_c 8 true rfl (modeV a1) m0 m5 x y hx6 hy6 u).mono fun _ _ r => retG8_of hw.symm rfl r)
    (fun u => (Mul_c 8 true rfl (modeV a1) m0 m5 v (t * 4503599627370496) hv6 tl u).mono fun _ _ r => retG8_of rfl rfl r)
    rfl rfl rfl (fun u => func0_8 v hv6 u) (fun u => func0_8 ww hw6 u) ?_ w
  intro n1 n2 n3 n4 g0 g1 i0 j0 l0 f1 f2
  exact fin n1 n2 n3 n4 (ne0 g0) (ne0 g1) (ne0 i0) (ne0 j0) f1 f2
theorem softScales_walk (a0 a1 a2 a3 a4 : Int) (w0 : (Lit.int .i64 a0).wf = true) (w1 : (Lit.int .i64 a1).wf = true) (w2 : (Lit.int .i64 a2).wf = true) (w3 : (Lit.int .u64 a3).wf = true) (w4 : (Lit.int .u64 a4).wf = true) (w : World) :
    Calls Try.prog 11 #[.int .i64 a0, .int .i64 a1, .int .i64 a2, .int .u64 a3, .int .u64 a4] w (RetB true w) := by
  obtain ⟨a, rfl, ha⟩ := u64_of_wf w3
  obtain ⟨b, rfl, hb⟩ := u64_of_wf w4
  rcases i64_and1 a0 with hs | hs
  · exact scales_4 a0 a1 a2 a b hs ha hb w
  · exact scales_8 a0 a1 a2 a b hs ha hb w
end Go.Proofs.Ytnmkahdgfakpiaa
namespace Go.Proofs.Ytnmkahdgfakpiaa.softScales
open Go.ChangeShapes Go.WideShapes Go.ChangeAt Go.RowKit
set_option linter.unusedVariables false
theorem own : ownKnob Try.prog.godebug = none := by kernel_rfl
set_option maxRecDepth 100000 in
theorem lifted (os : Os) (started : os.Started) (H : Type) (enc : TypeId × Value → H) :
    ReturnsInHanded {} Try.checked os 11 .any (Rows.softScalesSpec.pre6 enc Try.prog Try.f11 Rows.softScalesRow.domain false) (Rows.softScalesSpec.post enc Try.prog Try.f11 false true false false) := by
  refine returnsInHanded_of_change (C := Try.checked) own started (by kernel_rfl) Try.func11
    (ChangeSpec.witness6 (enc := enc) (C := Try.checked) false ⟨#[], #[.int .i64 0, .int .i64 0, .int .i64 0, .int .u64 0, .int .u64 0], []⟩ 8 (by kernel_rfl) (by kernel_rfl) (by kernel_rfl) (by kernel_rfl)) ?_
  intro W base args ds gs before hval0 hW hcnd _
  have hval : ∀ (j : Nat) t v, Try.f11.params[j]? = some t → args[j]? = some v → Value.okWide Try.prog W .any base t v := hval0
  have hW' := hW
  obtain ⟨p, q, hA0, hV, rfl, hfz, hnd⟩ := hW
  have hA : DataW.TrodAll enc Try.prog W 0 (fun _ => true) true Try.f11.params.toList args.toList ds p := hA0
  rw [Try.params11] at hA hval
  obtain ⟨v0, vs0, d0, ds0, p0, q0, hargs, rfl, rfl, h0, r0⟩ := trodAll_cons hA
  obtain ⟨v1, vs1, d1, ds1, p1, q1, rfl, rfl, rfl, h1, r1⟩ := trodAll_cons r0
  obtain ⟨v2, vs2, d2, ds2, p2, q2, rfl, rfl, rfl, h2, r2⟩ := trodAll_cons r1
  obtain ⟨v3, vs3, d3, ds3, p3, q3, rfl, rfl, rfl, h3, r3⟩ := trodAll_cons r2
  obtain ⟨v4, vs4, d4, ds4, p4, q4, rfl, rfl, rfl, h4, r4⟩ := trodAll_cons r3
  obtain ⟨rfl, rfl, rfl⟩ := trodAll_nil r4
  obtain rfl : args = #[v0, v1, v2, v3, v4] := by cases args; simp_all
  obtain ⟨rfl, rfl⟩ := trodVars_none hV
  obtain ⟨a0, rfl, rfl, rfl, w0⟩ := open_int Try.underlying3 (hval 0 3 v0 rfl rfl) h0
  obtain ⟨a1, rfl, rfl, rfl, w1⟩ := open_int Try.underlying3 (hval 1 3 v1 rfl rfl) h1
  obtain ⟨a2, rfl, rfl, rfl, w2⟩ := open_int Try.underlying3 (hval 2 3 v2 rfl rfl) h2
  obtain ⟨a3, rfl, rfl, rfl, w3⟩ := open_int Try.underlying22 (hval 3 22 v3 rfl rfl) h3
  obtain ⟨a4, rfl, rfl, rfl, w4⟩ := open_int Try.underlying22 (hval 4 22 v4 rfl rfl) h4
  clear hA0 hval0
  simp only [List.append_nil] at hW'
  refine (softScales_walk a0 a1 a2 a3 a4 w0 w1 w2 w3 w4 W).mono fun e W' ⟨he, hg⟩ => ?_
  subst he
  exact ⟨_, rfl, post_nums hW' (fun _ _ _ => (trodAll_cons_mk (shut_bool Try.underlying4 _) trodAll_mk0)) (fun sp => (trodAll_cons_mk (shut_int Try.underlying3 w0) (trodAll_cons_mk (shut_int Try.underlying3 w1) (trodAll_cons_mk (shut_int Try.underlying3 w2) (trodAll_cons_mk (shut_int Try.underlying22 w3) (trodAll_cons_mk (shut_int Try.underlying22 w4) trodAll_mk0)))))) (fun _ => rfl) hg (ok_one (by kernel_rfl) rfl (okWide_bool_mk Try.underlying4 _))⟩
theorem over : Rows.softScalesRow.holds Try.pinned (OpenSpec.ofChange Rows.softScalesSpec) :=
  OpenClaim.holds_of_wide 11 Try.f11 rfl rfl rfl rfl rfl rfl rfl ⟨rfl, rfl, rfl, rfl, rfl⟩ rfl rfl rfl rfl rfl (by kernel_rfl) Try.func11 (by kernel_rfl)
    (of_decide_eq_true (by kernel_rfl)) (by unfold Func.isWrapper; first | (rw [if_pos (by decide +kernel)]; kernel_rfl) | (rw [if_neg (by decide +kernel)]; exact ⟨rfl, rfl⟩))
    (fun os started H enc _ => lifted os started H enc)
theorem proved : Rows.SoftScalesSaid := over
#print axioms proved
end Go.Proofs.Ytnmkahdgfakpiaa.softScales
