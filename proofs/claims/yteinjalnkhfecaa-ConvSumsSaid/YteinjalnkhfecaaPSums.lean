/- PROVED: 'ConvSums' returns true whatever the arguments are: sums, differences, products and order of small whole numbers as floats. No condition. -/
import Derived.Test.YteinjalnkhfecaaZ11
import Derived.Test.YteinjalnkhfecaaZ12
import Derived.Test.YteinjalnkhfecaaF2
namespace Go.Proofs.Yteinjalnkhfecaa
open Go.ChangeShapes Go.WideShapes Go.ChangeAt Go.RowKit
set_option linter.unusedVariables false
set_option linter.unusedSimpArgs false
def RetXS (x : Nat) (f : Int) (W : World) (e : Ending) (w' : World) : Prop := e = .returned (.tuple #[.int .u64 x, .int .i64 f]) ∧ Below W.heap.size W w'
set_option maxRecDepth 100000 in
set_option maxHeartbeats 4000000 in
theorem convSums_core (a0 a1 a2 a3 sz r : Int) (x y : Nat) (HS : wrap64 (4 + wrap64 (4 * bits BinOp.and IntKind.i64 a0 1)) = sz) (HR : wrap64 ((IntKind.u64.wrap a1).tmod 5) = r)
    (p q : Int) (HP : a2.tmod 2048 = p) (HQ : a3.tmod 2048 = q) (HX : IntKind.u64.wrap p = (x : Int)) (HY : IntKind.u64.wrap q = (y : Int))
    (A B C D E : Nat) (fa fb : Int)
    (PA : Hid (∀ v, Calls Try.prog 18 #[.int .i64 sz, .int .i64 r, .bool false, .bool false, .int .u64 x] v (RetXS A fa v)))
    (PB : Hid (∀ v, Calls Try.prog 18 #[.int .i64 sz, .int .i64 r, .bool false, .bool false, .int .u64 y] v (RetXS B fb v)))
    (PC : Hid (∀ v, Calls Try.prog 34 #[.int .i64 sz, .int .i64 r, .int .u64 A, .int .u64 B] v (RetXS C 0 v)))
    (PD : Hid (∀ v, Calls Try.prog 35 #[.int .i64 sz, .int .i64 r, .int .u64 A, .int .u64 B] v (RetXS D 0 v)))
    (PE : Hid (∀ v, Calls Try.prog 36 #[.int .i64 sz, .int .i64 r, .int .u64 A, .int .u64 B] v (RetXS E 0 v)))
    (C1 D1 E1 : Nat)
    (HC : IntKind.u64.wrap (wrap64 (p + q)) = (C1 : Int)) (HD : IntKind.u64.wrap (wrap64 (p - q)) = (D1 : Int)) (HE : IntKind.u64.wrap (wrap64 (p * q)) = (E1 : Int))
    (PC1 : Hid (∀ v, Calls Try.prog 16 #[.int .i64 sz, .int .i64 r, .bool false, .bool false, .int .u64 C] v (RetXS C1 0 v)))
    (PD1 : Hid (∀ v, Calls Try.prog 16 #[.int .i64 sz, .int .i64 r, .bool true, .bool false, .int .u64 D] v (RetXS D1 0 v)))
    (PE1 : Hid (∀ v, Calls Try.prog 16 #[.int .i64 sz, .int .i64 r, .bool false, .bool false, .int .u64 E] v (RetXS E1 0 v)))
    (l0 f0 : Int) (HL : (l0 == 1) = decide (p < q))
    (P70 : Hid (∀ v, Calls Try.prog 28 #[.int .i64 70, .int .i64 sz, .int .u64 A, .int .u64 B] v (RetL l0 f0 v)))
    (w : World) : Calls Try.prog 10 #[.int .i64 a0, .int .i64 a1, .int .i64 a2, .int .i64 a3] w (RetB true w) := by
  have HL2 : Hid ((l0 == 1) = decide (p < q)) := HL
  clear HL
  go_enter Try.func10, Try.ntmps10
  go_wp2_with fail
  refine (awake_c _).mono ?_; rintro e w1 ⟨rfl, bq⟩
  have hbw := bq; clear bq
  go_wp2_with fail
  try rw [HS]
  try rw [HR]
  try rw [HP]
  try rw [HQ]
  try rw [HX]
  refine (PA.out _).mono ?_; rintro e wq ⟨rfl, bq⟩
  replace hbw := hbw.trans (bq.mono hbw.size); clear bq
  go_wp2_with fail
  try rw [HY]
  refine (PB.out _).mono ?_; rintro e wq ⟨rfl, bq⟩
  replace hbw := hbw.trans (bq.mono hbw.size); clear bq
  go_wp2_with fail
  refine (PC.out _).mono ?_; rintro e wq ⟨rfl, bq⟩
  replace hbw := hbw.trans (bq.mono hbw.size); clear bq
  go_wp2_with fail
  refine (PD.out _).mono ?_; rintro e wq ⟨rfl, bq⟩
  replace hbw := hbw.trans (bq.mono hbw.size); clear bq
  go_wp2_with fail
  refine (PE.out _).mono ?_; rintro e wq ⟨rfl, bq⟩
  replace hbw := hbw.trans (bq.mono hbw.size); clear bq
  go_wp2_with fail
  refine (PC1.out _).mono ?_; rintro e wq ⟨rfl, bq⟩
  replace hbw := hbw.trans (bq.mono hbw.size); clear bq
  go_wp2_with fail
  refine (PD1.out _).mono ?_; rintro e wq ⟨rfl, bq⟩
  replace hbw := hbw.trans (bq.mono hbw.size); clear bq
  go_wp2_with fail
  refine (PE1.out _).mono ?_; rintro e wq ⟨rfl, bq⟩
  replace hbw := hbw.trans (bq.mono hbw.size); clear bq
  go_wp2_with fail
  refine (P70.out _).mono ?_; rintro e wq ⟨rfl, bq⟩
  replace hbw := hbw.trans (bq.mono hbw.size); clear bq
  go_wp2_with fail
  rw [HL2.out]
  go_ret
  exact ⟨by simp, hbw⟩
theorem u64_of_wf_sums (a : Int) : ∃ n : Nat, IntKind.u64.wrap a = (n : Int) ∧ (n : Int) = a % 18446744073709551616 := by
  rw [IntKind.wrap_u64]
  exact ⟨(a % 18446744073709551616).toNat, by omega, by omega⟩
theorem mode_sums (rm : Int) : ∃ r : Int, wrap64 ((IntKind.u64.wrap rm).tmod 5) = r ∧ 0 ≤ r ∧ r ≤ 4 := by
  refine ⟨_, rfl, ?_⟩
  rw [IntKind.wrap_u64]
  obtain ⟨y, hy⟩ : ∃ y : Nat, rm % 18446744073709551616 = (y : Int) := ⟨(rm % 18446744073709551616).toNat, by omega⟩
  rw [hy]
  have h : ((y : Int).tmod 5) = ((y % 5 : Nat) : Int) := by rw [Int.ofNat_tmod]; rfl
  rw [h]
  unfold wrap64
  omega
theorem and1_sums (n : Int) : bits .and .i64 n 1 = 0 ∨ bits .and .i64 n 1 = 1 := by
  have e : bits .and .i64 n 1 = IntKind.i64.wrap ((BitVec.ofInt 64 n &&& BitVec.ofInt 64 1).toNat : Nat) := rfl
  have k : (BitVec.ofInt 64 n &&& BitVec.ofInt 64 1).toNat < 2 := by
    rw [BitVec.toNat_and]
    exact Nat.lt_of_le_of_lt Nat.and_le_right (by decide)
  rw [e, IntKind.wrap_i64]
  generalize (BitVec.ofInt 64 n &&& BitVec.ofInt 64 1).toNat = x at k ⊢
  omega
theorem size_sums (n : Int) : ∃ d : Bool, wrap64 (4 + wrap64 (4 * bits BinOp.and IntKind.i64 n 1)) = if d then 8 else 4 := by
  rcases and1_sums n with h | h
  · exact ⟨false, by rw [h]; show _ = (4 : Int); unfold wrap64; omega⟩
  · exact ⟨true, by rw [h]; show _ = (8 : Int); unfold wrap64; omega⟩
theorem tmod_sums (a : Int) : (a.tmod 2048).natAbs ≤ 2047 := by
  rw [Int.natAbs_tmod]
  have := Nat.mod_lt a.natAbs (show 0 < (2048 : Int).natAbs by decide)
  have e : (2048 : Int).natAbs = 2048 := rfl
  rw [e] at this ⊢
  omega
theorem wrap_sums (s : Int) (hs : s.natAbs ≤ 4194304) : ∃ n : Nat, IntKind.u64.wrap (wrap64 s) = (n : Int) ∧ (n : Int) = s % 18446744073709551616 := by
  have h : wrap64 s = s := by unfold wrap64; omega
  rw [h]
  exact u64_of_wf_sums s
theorem round_lt_sums (d : Bool) (r : Int) (hr : 0 ≤ r ∧ r ≤ 4) (p : Int) (hp : p.natAbs ≤ 4194304) : (wV d r p).1 < 18446744073709551616 := by
  by_cases h0 : p = 0
  · subst h0
    rw [wzero]
    cases d <;> decide
  · unfold wV
    rw [roundV_F d r _ 0 _ (by omega) (by omega) hr]
    obtain ⟨F, h1, h2⟩ := Q.roundF_shape d r ⟨1, decide (p < 0), 0, p.natAbs⟩ (by show p.natAbs ≠ 0; omega) (Nat.lt_trans (show p.natAbs < 18446744073709551616 by omega) (by decide))
    rw [h1]
    exact Q.shape_lt h2
theorem nought_lt_sums (d m : Bool) : Q.noughtV d m < 18446744073709551616 := by cases d <;> cases m <;> decide
/-- What is computed of a small whole number, read back. -/
theorem out_sums (d : Bool) (r : Int) (hr : 0 ≤ r ∧ r ≤ 4) (wd : Bool) (s : Int) (hs : s.natAbs ≤ 4194304) (n : Nat) (hn : (n : Int) = s % 18446744073709551616) (O : Nat × Int)
    (h1 : s ≠ 0 → O = ((wV d r s).1, 0)) (h2 : s = 0 → ∃ m, O = (Q.noughtV d m, 0)) : O.2 = 0 ∧ O.1 < 18446744073709551616 ∧ toIntV d r wd false O.1 = (n, 0) := by
  by_cases h0 : s = 0
  · obtain ⟨m, rfl⟩ := h2 h0
    have : n = 0 := by rw [h0] at hn; omega
    subst this
    exact ⟨rfl, nought_lt_sums d m, to_nought d r hr wd m⟩
  · rw [h1 h0]
    obtain ⟨C, c1, c2, c3, c4⟩ := wr d r hr s h0 hs
    exact ⟨rfl, round_lt_sums d r hr s hs, to_small d r hr wd s hs h0 n hn c2⟩
theorem fst_sums {r : Nat × Int} {x : Nat} {f : Int} (h : r = (x, f)) : r.1 = x ∧ r.2 = f := by subst h; exact ⟨rfl, rfl⟩
theorem retX_sums {r : Nat × Int} {x : Nat} {f : Int} (hr : r = (x, f)) {W : World} {e : Ending} {w' : World} (h : RetP r W e w') : RetXS x f W e w' := by subst hr; exact h
theorem retQ_sums {r : Nat × Int} {x : Nat} {f : Int} (hr : r = (x, f)) {W : World} {e : Ending} {w' : World} (h : Q.RetP r W e w') : RetXS x f W e w' := by subst hr; exact h
theorem from_sums (d : Bool) (r p : Int) (hp : p.natAbs ≤ 4194304) (x : Nat) (hx : (x : Int) = p % 18446744073709551616) : roundV d r (heldM false false x) 0 (heldF false false x) = wV d r p := by
  obtain ⟨a, b, -⟩ := held_small false p hp x hx
  rw [a, b]; rfl
theorem convSums_walk (a0 a1 a2 a3 : Int) (w0 : (Lit.int .i64 a0).wf = true) (w1 : (Lit.int .i64 a1).wf = true) (w2 : (Lit.int .i64 a2).wf = true) (w3 : (Lit.int .i64 a3).wf = true) (w : World) :
    Calls Try.prog 10 #[.int .i64 a0, .int .i64 a1, .int .i64 a2, .int .i64 a3] w (RetB true w) := by
  obtain ⟨d, hS⟩ := size_sums a0
  obtain ⟨r, hR, hr⟩ := mode_sums a1
  obtain ⟨sz, hsz⟩ : ∃ sz : Int, (if d then 8 else 4) = sz := ⟨_, rfl⟩
  rw [hsz] at hS
  have hd : Hid (SzOk sz d) := hsz.symm
  have hdQ : Hid (sz = if d then 8 else 4) := hsz.symm
  have hrm : Hid (0 ≤ r ∧ r ≤ 4) := hr
  have kp := tmod_sums a2
  have kq := tmod_sums a3
  obtain ⟨p, hP⟩ : ∃ p, a2.tmod 2048 = p := ⟨_, rfl⟩
  obtain ⟨q, hQ⟩ : ∃ q, a3.tmod 2048 = q := ⟨_, rfl⟩
  rw [hP] at kp
  rw [hQ] at kq
  obtain ⟨x, hX, hx⟩ := u64_of_wf_sums p
  obtain ⟨y, hY, hy⟩ := u64_of_wf_sums q
  have km : (p * q).natAbs ≤ 4194304 := by
    rw [Int.natAbs_mul]
    exact Nat.le_trans (Nat.mul_le_mul kp kq) (by decide)
  have kp' : p.natAbs ≤ 4194304 := by omega
  have kq' : q.natAbs ≤ 4194304 := by omega
  have ks : (p + q).natAbs ≤ 4194304 := by omega
  have kd : (p - q).natAbs ≤ 4194304 := by omega
  obtain ⟨n1, hC, hn1⟩ := wrap_sums (p + q) ks
  obtain ⟨n2, hD, hn2⟩ := wrap_sums (p - q) kd
  obtain ⟨n3, hE, hn3⟩ := wrap_sums (p * q) km
  have lx : Hid (x < 18446744073709551616) := by show _ < _; omega
  have ly : Hid (y < 18446744073709551616) := by show _ < _; omega
  obtain ⟨F, f1, f2, f3, f4⟩ := wshape d r hr p kp'
  obtain ⟨G, g1, g2, g3, g4⟩ := wshape d r hr q kq'
  have hA := round_lt_sums d r hr p kp'
  have hB := round_lt_sums d r hr q kq'
  have hcmp := cmp_small d r hr p q kp' kq'
  have PA := fun v => FromInt_c sz d hd r hrm false false x lx v
  have PB := fun v => FromInt_c sz d hd r hrm false false y ly v
  rw [from_sums d r p kp' x hx] at PA
  rw [from_sums d r q kq' y hy] at PB
  obtain ⟨A, fa, eA⟩ : ∃ A fa, wV d r p = (A, fa) := ⟨_, _, rfl⟩
  obtain ⟨B, fb, eB⟩ : ∃ B fb, wV d r q = (B, fb) := ⟨_, _, rfl⟩
  rw [eA] at hA hcmp f1 PA
  rw [eB] at hB hcmp g1 PB
  have hA' : Hid (A < 18446744073709551616) := hA
  have hB' : Hid (B < 18446744073709551616) := hB
  have f1' : A = Q.noughtV d (decide (p < 0)) + F := f1
  have g1' : B = Q.noughtV d (decide (q < 0)) + G := g1
  have FA := Q.read_fin2 d (decide (p < 0)) F f2
  have FB := Q.read_fin2 d (decide (q < 0)) G g2
  have mA := read_minus d (decide (p < 0)) F f2
  have mB := read_minus d (decide (q < 0)) G g2
  have FN := Q.read_fin2 d (!decide (q < 0)) G g2
  have sA := sval_of _ p mA f4
  have sB := sval_of _ q mB g4
  have sN := Q.sval_neg d (decide (q < 0)) G g2
  obtain ⟨kk, -, hi, -⟩ := Q.signB_pow d
  have xt := Q.xor_top d (decide (q < 0)) G (Nat.lt_trans g2 hi)
  rw [← f1'] at FA mA f4 sA
  rw [← g1'] at FB mB g4 sB sN xt
  rw [← xt] at sN FN
  have sN' : Q.sval (Q.readN d (Q.xorB d B)) = (-q) * (UU : Int) := by rw [sN, sB, Int.neg_mul]
  obtain ⟨u1, u2⟩ := sum_gen d r hr _ _ FA FB p q sA sB ks
  obtain ⟨v1, v2⟩ := sum_gen d r hr _ _ FA FN p (-q) sA sN' (by omega)
  obtain ⟨t1, t2⟩ := mul_gen d r hr _ _ FA FB p q mA f4 mB g4 km
  rw [← Int.sub_eq_add_neg] at v1 v2
  obtain ⟨c1, c2, c3⟩ := out_sums d r hr false (p + q) ks n1 hn1 _ u1 u2
  obtain ⟨d1, d2, d3⟩ := out_sums d r hr true (p - q) kd n2 hn2 _ v1 v2
  obtain ⟨e1, e2, e3⟩ := out_sums d r hr false (p * q) km n3 hn3 _ t1 t2
  have PC := fun v => Q.Add_c sz d hdQ r hr.1 (Int.lt_of_le_of_lt hr.2 (by decide)) A B hA' hB' v
  have PD := fun v => Q.Sub_c sz d hdQ r hr.1 (Int.lt_of_le_of_lt hr.2 (by decide)) A B hA' hB' v
  have PE := fun v => Q.Mul_c sz d hdQ r hr.1 (Int.lt_of_le_of_lt hr.2 (by decide)) A B hA' hB' v
  obtain ⟨C, fc, eC⟩ : ∃ C fc, Q.sumF d r (Q.readN d A) (Q.readN d B) = (C, fc) := ⟨_, _, rfl⟩
  obtain ⟨D, fd, eD⟩ : ∃ D fd, Q.sumF d r (Q.readN d A) (Q.readN d (Q.xorB d B)) = (D, fd) := ⟨_, _, rfl⟩
  obtain ⟨E, fe, eE⟩ : ∃ E fe, Q.mulF d r (Q.readN d A) (Q.readN d B) = (E, fe) := ⟨_, _, rfl⟩
  rw [eC] at c1 c2 c3 PC
  rw [eD] at d1 d2 d3 PD
  rw [eE] at e1 e2 e3 PE
  replace c1 : fc = 0 := c1
  replace d1 : fd = 0 := d1
  replace e1 : fe = 0 := e1
  subst c1 d1 e1
  have PC1 := fun v => ToInt_c sz d hd r hrm false false C c2 v
  have PD1 := fun v => ToInt_c sz d hd r hrm true false D d2 v
  have PE1 := fun v => ToInt_c sz d hd r hrm false false E e2 v
  rw [show toIntV d r false false C = (n1, 0) from c3] at PC1
  rw [show toIntV d r true false D = (n2, 0) from d3] at PD1
  rw [show toIntV d r false false E = (n3, 0) from e3] at PE1
  have HL : (cmpV 70 d A B == 1) = decide (p < q) := by
    rw [show cmpV 70 d A B = _ from hcmp]
    by_cases c : p < q
    · rw [if_pos c, decide_eq_true c]; rfl
    · rw [if_neg c, decide_eq_false c]; rfl
  exact convSums_core a0 a1 a2 a3 sz r x y hS hR p q hP hQ hX hY A B C D E fa fb PA PB PC PD PE n1 n2 n3 hC hD hE PC1 PD1 PE1 (cmpV 70 d A B) (cmpF 70 d A B) HL (fun v => Compare_70 sz d hd A B hA' hB' v) w
end Go.Proofs.Yteinjalnkhfecaa
namespace Go.Proofs.Yteinjalnkhfecaa.convSums
open Go.ChangeShapes Go.WideShapes Go.ChangeAt Go.RowKit
set_option linter.unusedVariables false
theorem own : ownKnob Try.prog.godebug = none := by kernel_rfl
set_option maxRecDepth 100000 in
theorem lifted (os : Os) (started : os.Started) (H : Type) (enc : TypeId × Value → H) :
    ReturnsInHanded {} Try.checked os 10 .any (Rows.convSumsSpec.pre6 enc Try.prog Try.f10 Rows.convSumsRow.domain false) (Rows.convSumsSpec.post enc Try.prog Try.f10 false true false false) := by
  refine returnsInHanded_of_change (C := Try.checked) own started (by kernel_rfl) Try.func10
    (ChangeSpec.witness6 (enc := enc) (C := Try.checked) false ⟨#[], #[.int .i64 0, .int .i64 0, .int .i64 0, .int .i64 0], []⟩ 8 (by kernel_rfl) (by kernel_rfl) (by kernel_rfl) (by kernel_rfl)) ?_
  intro W base args ds gs before hval0 hW hcnd _
  have hval : ∀ (j : Nat) t v, Try.f10.params[j]? = some t → args[j]? = some v → Value.okWide Try.prog W .any base t v := hval0
  have hW' := hW
  obtain ⟨p, q, hA0, hV, rfl, hfz, hnd⟩ := hW
  have hA : DataW.TrodAll enc Try.prog W 0 (fun _ => true) true Try.f10.params.toList args.toList ds p := hA0
  rw [Try.params10] at hA hval
  obtain ⟨v0, vs0, d0, ds0, p0, q0, hargs, rfl, rfl, h0, r0⟩ := trodAll_cons hA
  obtain ⟨v1, vs1, d1, ds1, p1, q1, rfl, rfl, rfl, h1, r1⟩ := trodAll_cons r0
  obtain ⟨v2, vs2, d2, ds2, p2, q2, rfl, rfl, rfl, h2, r2⟩ := trodAll_cons r1
  obtain ⟨v3, vs3, d3, ds3, p3, q3, rfl, rfl, rfl, h3, r3⟩ := trodAll_cons r2
  obtain ⟨rfl, rfl, rfl⟩ := trodAll_nil r3
  obtain rfl : args = #[v0, v1, v2, v3] := by cases args; simp_all
  obtain ⟨rfl, rfl⟩ := trodVars_none hV
  obtain ⟨a0, rfl, rfl, rfl, w0⟩ := open_int Try.underlying3 (hval 0 3 v0 rfl rfl) h0
  obtain ⟨a1, rfl, rfl, rfl, w1⟩ := open_int Try.underlying3 (hval 1 3 v1 rfl rfl) h1
  obtain ⟨a2, rfl, rfl, rfl, w2⟩ := open_int Try.underlying2 (hval 2 2 v2 rfl rfl) h2
  obtain ⟨a3, rfl, rfl, rfl, w3⟩ := open_int Try.underlying2 (hval 3 2 v3 rfl rfl) h3
  clear hA0 hval0
  simp only [List.append_nil] at hW'
  refine (convSums_walk a0 a1 a2 a3 w0 w1 w2 w3 W).mono fun e W' ⟨he, hg⟩ => ?_
  subst he
  exact ⟨_, rfl, post_nums hW' (fun _ _ _ => (trodAll_cons_mk (shut_bool Try.underlying4 _) trodAll_mk0)) (fun sp => (trodAll_cons_mk (shut_int Try.underlying3 w0) (trodAll_cons_mk (shut_int Try.underlying3 w1) (trodAll_cons_mk (shut_int Try.underlying2 w2) (trodAll_cons_mk (shut_int Try.underlying2 w3) trodAll_mk0))))) (fun _ => rfl) hg (ok_one (by kernel_rfl) rfl (okWide_bool_mk Try.underlying4 _))⟩
theorem over : Rows.convSumsRow.holds Try.pinned (OpenSpec.ofChange Rows.convSumsSpec) :=
  OpenClaim.holds_of_wide 10 Try.f10 rfl rfl rfl rfl rfl rfl rfl ⟨rfl, rfl, rfl, rfl, rfl⟩ rfl rfl rfl rfl rfl (by kernel_rfl) Try.func10 (by kernel_rfl)
    (of_decide_eq_true (by kernel_rfl)) (by unfold Func.isWrapper; first | (rw [if_pos (by decide +kernel)]; kernel_rfl) | (rw [if_neg (by decide +kernel)]; exact ⟨rfl, rfl⟩))
    (fun os started H enc _ => lifted os started H enc)
theorem proved : Rows.ConvSumsSaid := over
#print axioms proved
end Go.Proofs.Yteinjalnkhfecaa.convSums
