/- PROVED: 'SoftBack' returns true whatever the numbers are: what is exact can be taken back. No condition. -/
import Derived.Test.YtnmkahdgfakpiaaI2
import Derived.Test.YtnmkahdgfakpiaaI3
import Derived.Test.YtnmkahdgfakpiaaG10
namespace Go.Proofs.Ytnmkahdgfakpiaa
open Go.ChangeShapes Go.WideShapes Go.ChangeAt Go.RowKit
set_option linter.unusedVariables false
set_option linter.unusedSimpArgs false
theorem u64_of_wf {a : Int} (h : (Lit.int .u64 a).wf = true) : ∃ n : Nat, a = n ∧ Hid (n < 18446744073709551616) := by
  simp [Lit.wf, IntKind.min, IntKind.max, IntKind.signed, IntKind.bits] at h
  obtain ⟨h0, h1⟩ := h
  exact ⟨a.toNat, by omega, by show _ < _; omega⟩
theorem retK_of {r : Nat × Int} {n : Nat} {k : Int} {W : World} {e : Ending} {w' : World} (hn : r.1 = n) (hk : r.2 = k) (h : RetP r W e w') : RetK n k W e w' := by
  subst hn; subst hk; exact h
theorem retJ_of {r : Nat × Int} {n : Nat} {k : Int} {W : World} {e : Ending} {w' : World} (hn : r.1 = n) (hk : r.2 = k) (h : RetP r W e w') : RetJ n k W e w' := by
  subst hn; subst hk; exact h
theorem andNot_top (d : Bool) (k : Nat) (hk : k < 64) (hd : signB d = 2 ^ k) (h64 : 2 ^ (k + 1) ≤ 18446744073709551616) (a : Nat) (ha : a < 2 * signB d) : bits .andNot .u64 (a : Int) ((signB d : Nat) : Int) = ((a % signB d : Nat) : Int) := by
  rw [hd]; exact u64_andNot_num a k hk (by rw [Nat.pow_succ]; omega) h64
theorem modes_lt {d : Bool} {F : Int → Nat × Int} (h : ModesOk d F) (rm : Int) : (F rm).1 < 18446744073709551616 := by
  rcases h with ⟨fl, h⟩ | ⟨v, h⟩ | ⟨v, h⟩
  · rw [h]; exact quietB_lt d
  · exact (h rm).1.1
  · exact (h rm).1.1
theorem sumF_lt (d : Bool) (rm : Int) (a b : Nat) : (sumF d rm (readN d a) (readN d b)).1 < 18446744073709551616 := modes_lt (modes_add d a b) rm
theorem divF_lt (d : Bool) (rm : Int) (a b : Nat) : (divF d rm (readN d a) (readN d b)).1 < 18446744073709551616 := modes_lt (modes_div d a b) rm
theorem nought_zero (d s : Bool) : isZero d (noughtV d s) = true := by cases d <;> cases s <;> rfl
theorem mode_bd (n : Int) : 0 ≤ modeV n ∧ modeV n < 5 := by have := mode_cases n; omega
theorem back_4 (a0 a1 : Int) (a b : Nat) (hs : bits .and .i64 a0 1 = 0) (ha : Hid (a < 18446744073709551616)) (hb : Hid (b < 18446744073709551616)) (w : World) :
    Calls Try.prog 10 #[.int .i64 a0, .int .i64 a1, .int .u64 a, .int .u64 b] w (RetB true w) := by
  have K1 := Lib.hid (fun v => mask_4 a ha v)
  have K2 := Lib.hid (fun v => mask_4 b hb v)
  have ha' := ha.out; have hb' := hb.out
  have hA : (a % 4294967296) < 2 * signB false := by show _ < 2 * 2147483648; omega
  have hB : (b % 4294967296) < 2 * signB false := by show _ < 2 * 2147483648; omega
  have hA6 : (a % 4294967296) < 18446744073709551616 := by omega
  have hB6 : (b % 4294967296) < 18446744073709551616 := by omega
  generalize a % 4294967296 = A at *
  generalize b % 4294967296 = B at *
  have N1 := Lib.hid (fun v => nanb_4 A hA6 v)
  have N2 := Lib.hid (fun v => nanb_4 B hB6 v)
  have N3 := Lib.hid (fun v => infb_4 A hA6 v)
  have N4 := Lib.hid (fun v => infb_4 B hB6 v)
  cases n1 : nanB false A
  case true => rw [n1] at N1; exact end0_4 a0 a1 a b A B hs K1 K2 N1 w
  rw [n1] at N1
  cases n2 : nanB false B
  case true => rw [n2] at N2; exact end1_4 a0 a1 a b A B hs K1 K2 N1 N2 w
  rw [n2] at N2
  cases n3 : isInf false A
  case true => rw [n3] at N3; exact end2_4 a0 a1 a b A B hs K1 K2 N1 N2 N3 w
  rw [n3] at N3
  cases n4 : isInf false B
  case true => rw [n4] at N4; exact end3_4 a0 a1 a b A B hs K1 K2 N1 N2 N3 N4 w
  rw [n4] at N4
  have hF := fin_lt false A hA n1 n3
  have hG := fin_lt false B hB n2 n4
  have sA := split_float false A hA
  have sB := split_float false B hB
  have zA := zero_iff false A hA
  have an := andNot_top false 31 (by decide) (by decide) (by decide) A hA
  obtain ⟨m0, m5⟩ := mode_bd a1
  obtain ⟨F, hFe⟩ : ∃ F, F = A % signB false := ⟨_, rfl⟩
  obtain ⟨G, hGe⟩ : ∃ G, G = B % signB false := ⟨_, rfl⟩
  rw [← hFe] at hF sA zA an
  rw [← hGe] at hG sB
  generalize decide (signB false ≤ A) = m at sA
  generalize decide (signB false ≤ B) = m' at sB
  have rA : readN false A = readN false (noughtV false m + F) := by rw [← sA]
  have rB : readN false B = readN false (noughtV false m' + G) := by rw [← sB]
  have rX : readN false (xorB false B) = readN false (xorB false (noughtV false m' + G)) := by rw [← sB]
  have DA := Lib.hid (fun v => Add_c 4 false rfl (modeV a1) m0 m5 A B hA6 hB6 v)
  have DM := Lib.hid (fun v => Mul_c 4 false rfl (modeV a1) m0 m5 A A hA6 hA6 v)
  have DD := Lib.hid (fun v => Div_c 4 false rfl (modeV a1) m0 m5 A B hA6 hB6 v)
  obtain ⟨x, hx⟩ : ∃ x, x = (sumF false (modeV a1) (readN false A) (readN false B)).1 := ⟨_, rfl⟩
  obtain ⟨f, hf⟩ : ∃ f, f = (sumF false (modeV a1) (readN false A) (readN false B)).2 := ⟨_, rfl⟩
  obtain ⟨q, hq⟩ : ∃ q, q = (mulF false (modeV a1) (readN false A) (readN false A)).1 := ⟨_, rfl⟩
  obtain ⟨h, hh⟩ : ∃ h, h = (mulF false (modeV a1) (readN false A) (readN false A)).2 := ⟨_, rfl⟩
  obtain ⟨dd, hd⟩ : ∃ dd, dd = (divF false (modeV a1) (readN false A) (readN false B)).1 := ⟨_, rfl⟩
  obtain ⟨j, hj⟩ : ∃ j, j = (divF false (modeV a1) (readN false A) (readN false B)).2 := ⟨_, rfl⟩
  obtain ⟨e, he⟩ : ∃ e, e = (mulF false (modeV a1) (readN false dd) (readN false B)).1 := ⟨_, rfl⟩
  have hx6 : x < 18446744073709551616 := by rw [hx]; exact sumF_lt false (modeV a1) A B
  have hq6 : q < 18446744073709551616 := by rw [hq]; exact mulF_lt false (modeV a1) A A
  have hd6 : dd < 18446744073709551616 := by rw [hd]; exact divF_lt false (modeV a1) A B
  have he6 : e < 18446744073709551616 := by rw [he]; exact mulF_lt false (modeV a1) dd B
  have zz := Lib.hid (fun v => zerob_4 A hA6 v)
  rw [zA] at zz
  have hmn : noughtV false m + F = A := sA.symm
  refine core_4 a0 a1 a b A B hs K1 K2 x q dd e F f h j (f == 0) (h == 0) (j == 0) ((e : Int) == (A : Int)) (decide (F = 0)) N1 N2 N3 N4 zz
    (fun v => (DA.out v).mono fun _ _ r => retK_of hx.symm hf.symm r) (fun v => (DM.out v).mono fun _ _ r => retK_of hq.symm hh.symm r) (fun v => (DD.out v).mono fun _ _ r => retK_of hd.symm hj.symm r)
    rfl rfl rfl rfl ?_ ?_ ?_ an ?_ ?_ w
  · intro h1 h2 v
    have h3 : f = 0 := by simpa using h1
    have h4 : 0 < F := Nat.pos_of_ne_zero (of_decide_eq_false h2)
    have bk := back_sum false (modeV a1) m m' F G hF hG h4 (by rw [← rA, ← rB, ← hf]; exact h3)
    rw [← rA, ← rB, ← rX, ← hx, hmn] at bk
    exact (Sub_c 4 false rfl (modeV a1) m0 m5 x B hx6 hB6 v).mono fun _ _ r => retK_of (by rw [bk]) (by rw [bk]) r
  · intro h1 v
    have h3 : h = 0 := by simpa using h1
    have bk := back_root false (modeV a1) m F hF (by rw [← rA, ← hh]; exact h3)
    rw [← rA, ← hq] at bk
    exact (Sqrt_c 4 false rfl (modeV a1) m0 m5 q hq6 v).mono fun _ _ r => retK_of (by rw [bk]) (by rw [bk]) r
  · intro h1 v
    have h3 : j = 0 := by simpa using h1
    have bk := back_quo false (modeV a1) m m' F G hF hG (by rw [← rA, ← rB, ← hj]; exact h3)
    rw [← rA, ← rB, ← hd] at bk
    have h4 : (mulF false (modeV a1) (readN false dd) (readN false B)).2 = 0 := by
      rcases bk with ⟨-, k⟩ | ⟨-, t, k⟩ <;> rw [k]
    exact (Mul_c 4 false rfl (modeV a1) m0 m5 dd B hd6 hB6 v).mono fun _ _ r => retK_of he.symm h4 r
  · intro h1
    have h2 := of_decide_eq_true h1
    rw [h2]; rfl
  · intro h1 h2
    have h3 : j = 0 := by simpa using h1
    have bk := back_quo false (modeV a1) m m' F G hF hG (by rw [← rA, ← rB, ← hj]; exact h3)
    rw [← rA, ← rB, ← hd] at bk
    rcases bk with ⟨-, k⟩ | ⟨h5, t, k⟩
    · exfalso
      rw [k, hmn] at he
      rw [he] at h2; simp at h2
    · refine ⟨decide_eq_true h5, fun v => ?_⟩
      have hz := zerob_4 e he6 v
      rw [he, k] at hz ⊢
      rw [nought_zero] at hz
      exact hz
theorem back_8 (a0 a1 : Int) (a b : Nat) (hs : bits .and .i64 a0 1 = 1) (ha : Hid (a < 18446744073709551616)) (hb : Hid (b < 18446744073709551616)) (w : World) :
    Calls Try.prog 10 #[.int .i64 a0, .int .i64 a1, .int .u64 a, .int .u64 b] w (RetB true w) := by
  have K1 := Lib.hid (fun v => mask_8 a ha v)
  have K2 := Lib.hid (fun v => mask_8 b hb v)
  have ha' := ha.out; have hb' := hb.out
  have hA : a < 2 * signB true := by show _ < 2 * 9223372036854775808; omega
  have hB : b < 2 * signB true := by show _ < 2 * 9223372036854775808; omega
  have hA6 : a < 18446744073709551616 := by omega
  have hB6 : b < 18446744073709551616 := by omega
  obtain ⟨A, hAe⟩ : ∃ A, A = a := ⟨_, rfl⟩
  obtain ⟨B, hBe⟩ : ∃ B, B = b := ⟨_, rfl⟩
  have K1' : Hid (∀ v, Calls Try.prog 29 #[.int .i64 8, .int .u64 a] v (RetU A v)) := by rw [hAe]; exact K1
  have K2' : Hid (∀ v, Calls Try.prog 29 #[.int .i64 8, .int .u64 b] v (RetU B v)) := by rw [hBe]; exact K2
  rw [← hAe] at hA hA6
  rw [← hBe] at hB hB6
  clear hAe hBe K1 K2
  have K1 := K1'; have K2 := K2'
  have N1 := Lib.hid (fun v => nanb_8 A hA6 v)
  have N2 := Lib.hid (fun v => nanb_8 B hB6 v)
  have N3 := Lib.hid (fun v => infb_8 A hA6 v)
  have N4 := Lib.hid (fun v => infb_8 B hB6 v)
  cases n1 : nanB true A
  case true => rw [n1] at N1; exact end0_8 a0 a1 a b A B hs K1 K2 N1 w
  rw [n1] at N1
  cases n2 : nanB true B
  case true => rw [n2] at N2; exact end1_8 a0 a1 a b A B hs K1 K2 N1 N2 w
  rw [n2] at N2
  cases n3 : isInf true A
  case true => rw [n3] at N3; exact end2_8 a0 a1 a b A B hs K1 K2 N1 N2 N3 w
  rw [n3] at N3
  cases n4 : isInf true B
  case true => rw [n4] at N4; exact end3_8 a0 a1 a b A B hs K1 K2 N1 N2 N3 N4 w
  rw [n4] at N4
  have hF := fin_lt true A hA n1 n3
  have hG := fin_lt true B hB n2 n4
  have sA := split_float true A hA
  have sB := split_float true B hB
  have zA := zero_iff true A hA
  have an := andNot_top true 63 (by decide) (by decide) (by decide) A hA
  obtain ⟨m0, m5⟩ := mode_bd a1
  obtain ⟨F, hFe⟩ : ∃ F, F = A % signB true := ⟨_, rfl⟩
  obtain ⟨G, hGe⟩ : ∃ G, G = B % signB true := ⟨_, rfl⟩
  rw [← hFe] at hF sA zA an
  rw [← hGe] at hG sB
  generalize decide (signB true ≤ A) = m at sA
  generalize decide (signB true ≤ B) = m' at sB
  have rA : readN true A = readN true (noughtV true m + F) := by rw [← sA]
  have rB : readN true B = readN true (noughtV true m' + G) := by rw [← sB]
  have rX : readN true (xorB true B) = readN true (xorB true (noughtV true m' + G)) := by rw [← sB]
  have DA := Lib.hid (fun v => Add_c 8 true rfl (modeV a1) m0 m5 A B hA6 hB6 v)
  have DM := Lib.hid (fun v => Mul_c 8 true rfl (modeV a1) m0 m5 A A hA6 hA6 v)
  have DD := Lib.hid (fun v => Div_c 8 true rfl (modeV a1) m0 m5 A B hA6 hB6 v)
  obtain ⟨x, hx⟩ : ∃ x, x = (sumF true (modeV a1) (readN true A) (readN true B)).1 := ⟨_, rfl⟩
  obtain ⟨f, hf⟩ : ∃ f, f = (sumF true (modeV a1) (readN true A) (readN true B)).2 := ⟨_, rfl⟩
  obtain ⟨q, hq⟩ : ∃ q, q = (mulF true (modeV a1) (readN true A) (readN true A)).1 := ⟨_, rfl⟩
  obtain ⟨h, hh⟩ : ∃ h, h = (mulF true (modeV a1) (readN true A) (readN true A)).2 := ⟨_, rfl⟩
  obtain ⟨dd, hd⟩ : ∃ dd, dd = (divF true (modeV a1) (readN true A) (readN true B)).1 := ⟨_, rfl⟩
  obtain ⟨j, hj⟩ : ∃ j, j = (divF true (modeV a1) (readN true A) (readN true B)).2 := ⟨_, rfl⟩
  obtain ⟨e, he⟩ : ∃ e, e = (mulF true (modeV a1) (readN true dd) (readN true B)).1 := ⟨_, rfl⟩
  have hx6 : x < 18446744073709551616 := by rw [hx]; exact sumF_lt true (modeV a1) A B
  have hq6 : q < 18446744073709551616 := by rw [hq]; exact mulF_lt true (modeV a1) A A
  have hd6 : dd < 18446744073709551616 := by rw [hd]; exact divF_lt true (modeV a1) A B
  have he6 : e < 18446744073709551616 := by rw [he]; exact mulF_lt true (modeV a1) dd B
  have zz := Lib.hid (fun v => zerob_8 A hA6 v)
  rw [zA] at zz
  have hmn : noughtV true m + F = A := sA.symm
  refine core_8 a0 a1 a b A B hs K1 K2 x q dd e F f h j (f == 0) (h == 0) (j == 0) ((e : Int) == (A : Int)) (decide (F = 0)) N1 N2 N3 N4 zz
    (fun v => (DA.out v).mono fun _ _ r => retJ_of hx.symm hf.symm r) (fun v => (DM.out v).mono fun _ _ r => retJ_of hq.symm hh.symm r) (fun v => (DD.out v).mono fun _ _ r => retJ_of hd.symm hj.symm r)
    rfl rfl rfl rfl ?_ ?_ ?_ an ?_ ?_ w
  · intro h1 h2 v
    have h3 : f = 0 := by simpa using h1
    have h4 : 0 < F := Nat.pos_of_ne_zero (of_decide_eq_false h2)
    have bk := back_sum true (modeV a1) m m' F G hF hG h4 (by rw [← rA, ← rB, ← hf]; exact h3)
    rw [← rA, ← rB, ← rX, ← hx, hmn] at bk
    exact (Sub_c 8 true rfl (modeV a1) m0 m5 x B hx6 hB6 v).mono fun _ _ r => retJ_of (by rw [bk]) (by rw [bk]) r
  · intro h1 v
    have h3 : h = 0 := by simpa using h1
    have bk := back_root true (modeV a1) m F hF (by rw [← rA, ← hh]; exact h3)
    rw [← rA, ← hq] at bk
    exact (Sqrt_c 8 true rfl (modeV a1) m0 m5 q hq6 v).mono fun _ _ r => retJ_of (by rw [bk]) (by rw [bk]) r
  · intro h1 v
    have h3 : j = 0 := by simpa using h1
    have bk := back_quo true (modeV a1) m m' F G hF hG (by rw [← rA, ← rB, ← hj]; exact h3)
    rw [← rA, ← rB, ← hd] at bk
    have h4 : (mulF true (modeV a1) (readN true dd) (readN true B)).2 = 0 := by
      rcases bk with ⟨-, k⟩ | ⟨-, t, k⟩ <;> rw [k]
    exact (Mul_c 8 true rfl (modeV a1) m0 m5 dd B hd6 hB6 v).mono fun _ _ r => retJ_of he.symm h4 r
  · intro h1
    have h2 := of_decide_eq_true h1
    rw [h2]; rfl
  · intro h1 h2
    have h3 : j = 0 := by simpa using h1
    have bk := back_quo true (modeV a1) m m' F G hF hG (by rw [← rA, ← rB, ← hj]; exact h3)
    rw [← rA, ← rB, ← hd] at bk
    rcases bk with ⟨-, k⟩ | ⟨h5, t, k⟩
    · exfalso
      rw [k, hmn] at he
      rw [he] at h2; simp at h2
    · refine ⟨decide_eq_true h5, fun v => ?_⟩
      have hz := zerob_8 e he6 v
      rw [he, k] at hz ⊢
      rw [nought_zero] at hz
      exact hz
theorem softBack_walk (a0 a1 a2 a3 : Int) (w0 : (Lit.int .i64 a0).wf = true) (w1 : (Lit.int .i64 a1).wf = true) (w2 : (Lit.int .u64 a2).wf = true) (w3 : (Lit.int .u64 a3).wf = true) (w : World) :
    Calls Try.prog 10 #[.int .i64 a0, .int .i64 a1, .int .u64 a2, .int .u64 a3] w (RetB true w) := by
  obtain ⟨a, rfl, ha⟩ := u64_of_wf w2
  obtain ⟨b, rfl, hb⟩ := u64_of_wf w3
  rcases i64_and1 a0 with hs | hs
  · exact back_4 a0 a1 a b hs ha hb w
  · exact back_8 a0 a1 a b hs ha hb w
end Go.Proofs.Ytnmkahdgfakpiaa
namespace Go.Proofs.Ytnmkahdgfakpiaa.softBack
open Go.ChangeShapes Go.WideShapes Go.ChangeAt Go.RowKit
set_option linter.unusedVariables false
theorem own : ownKnob Try.prog.godebug = none := by kernel_rfl
set_option maxRecDepth 100000 in
theorem lifted (os : Os) (started : os.Started) (H : Type) (enc : TypeId × Value → H) :
    ReturnsInHanded {} Try.checked os 10 .any (Rows.softBackSpec.pre6 enc Try.prog Try.f10 Rows.softBackRow.domain false) (Rows.softBackSpec.post enc Try.prog Try.f10 false true false false) := by
  refine returnsInHanded_of_change (C := Try.checked) own started (by kernel_rfl) Try.func10
    (ChangeSpec.witness6 (enc := enc) (C := Try.checked) false ⟨#[], #[.int .i64 0, .int .i64 0, .int .u64 0, .int .u64 0], []⟩ 8 (by kernel_rfl) (by kernel_rfl) (by kernel_rfl) (by kernel_rfl)) ?_
  intro W base args ds gs before hval0 hW hcnd _
  have hval : ∀ (j : Nat) t v, Try.f10.params[j]? = some t → args[j]? = some v → Value.okWide Try.prog W .any base t v := hval0
  have hW' := hW
  obtain ⟨p, q, hA0, hV, rfl, hfz, hnd⟩ := hW
  have hA : DataW.TrodAll enc Try.prog W 0 (fun _ => true) true Try.f10.params.toList args.toList ds p := hA0
  rw [Try.params10] at hA hval
  obtain ⟨v0, vs0, d0, ds0, p0, q0, hargs, rfl, rfl, h0, r0⟩ := trodAll_cons hA
  obtain ⟨v1, vs1, d1, ds1, p1, q1, rfl, rfl, rfl, h1, r1⟩ := trodAll_cons r0
  obtain ⟨v2, vs2, d2, ds2, p2, q2, rfl, rfl, rfl, h2, r2⟩ := trodAll_cons r1
  obtain ⟨v3, vs3, d3, ds3, p3, q3, rfl, rfl, rfl, h3, r3⟩ := trodAll_cons r2
  obtain ⟨rfl, rfl, rfl⟩ := trodAll_nil r3
  obtain rfl : args = #[v0, v1, v2, v3] := by cases args; simp_all
  obtain ⟨rfl, rfl⟩ := trodVars_none hV
  obtain ⟨a0, rfl, rfl, rfl, w0⟩ := open_int Try.underlying3 (hval 0 3 v0 rfl rfl) h0
  obtain ⟨a1, rfl, rfl, rfl, w1⟩ := open_int Try.underlying3 (hval 1 3 v1 rfl rfl) h1
  obtain ⟨a2, rfl, rfl, rfl, w2⟩ := open_int Try.underlying22 (hval 2 22 v2 rfl rfl) h2
  obtain ⟨a3, rfl, rfl, rfl, w3⟩ := open_int Try.underlying22 (hval 3 22 v3 rfl rfl) h3
  clear hA0 hval0
  simp only [List.append_nil] at hW'
  refine (softBack_walk a0 a1 a2 a3 w0 w1 w2 w3 W).mono fun e W' ⟨he, hg⟩ => ?_
  subst he
  exact ⟨_, rfl, post_nums hW' (fun _ _ _ => (trodAll_cons_mk (shut_bool Try.underlying4 _) trodAll_mk0)) (fun sp => (trodAll_cons_mk (shut_int Try.underlying3 w0) (trodAll_cons_mk (shut_int Try.underlying3 w1) (trodAll_cons_mk (shut_int Try.underlying22 w2) (trodAll_cons_mk (shut_int Try.underlying22 w3) trodAll_mk0))))) (fun _ => rfl) hg (ok_one (by kernel_rfl) rfl (okWide_bool_mk Try.underlying4 _))⟩
theorem over : Rows.softBackRow.holds Try.pinned (OpenSpec.ofChange Rows.softBackSpec) :=
  OpenClaim.holds_of_wide 10 Try.f10 rfl rfl rfl rfl rfl rfl rfl ⟨rfl, rfl, rfl, rfl, rfl⟩ rfl rfl rfl rfl rfl (by kernel_rfl) Try.func10 (by kernel_rfl)
    (of_decide_eq_true (by kernel_rfl)) (by unfold Func.isWrapper; first | (rw [if_pos (by decide +kernel)]; kernel_rfl) | (rw [if_neg (by decide +kernel)]; exact ⟨rfl, rfl⟩))
    (fun os started H enc _ => lifted os started H enc)
theorem proved : Rows.SoftBackSaid := over
#print axioms proved
end Go.Proofs.Ytnmkahdgfakpiaa.softBack
