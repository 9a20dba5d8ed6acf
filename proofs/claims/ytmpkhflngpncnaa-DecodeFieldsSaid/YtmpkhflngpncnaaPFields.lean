/- PROVED: 'DecodeFields' returns true whatever the bits are: the fields of what is decoded are what they may be. No condition. -/
import Derived.Test.YtmpkhflngpncnaaF2
namespace Go.Proofs.Ytmpkhflngpncnaa
open Go.ChangeShapes Go.WideShapes Go.ChangeAt Go.RowKit
set_option linter.unusedVariables false
set_option linter.unusedSimpArgs false

theorem low2 (b : Nat) (hb : b < 4294967296) : (bits .and .u32 (b : Int) 3 != 3) = decide (b &&& 3 ≠ 3) := by
  have e : bits .and .u32 (b : Int) 3 = ((b &&& 3 : Nat) : Int) := u32_and_nat b 3 hb (by decide)
  rw [e, Bool.eq_iff_iff]
  simp only [bne_iff_ne, decide_eq_true_eq, ne_eq]
  constructor
  · intro h hh; exact h (by rw [hh]; rfl)
  · intro h hh; exact h (by exact_mod_cast hh)
theorem fld_and (b f c m : Nat) (hb : b < 4294967296) (hm : m = 2 ^ c - 1) (hc : c < 32) : bits .and .u32 ((b : Int) / ((2 ^ f : Nat) : Int)) (m : Int) = ((fld b f c : Nat) : Int) := by
  subst hm
  rw [← Int.natCast_ediv]
  exact u32_low (b / 2 ^ f) c (Nat.lt_of_le_of_lt (Nat.div_le_self _ _) hb) hc
/-- 'x is 0, or is the field': as the walk asks it. -/
def Fit (x e : Int) : Prop := (x != 0) = false ∨ ((x != 0) = true ∧ (x != e) = false)
theorem fit_mk {x e f : Int} (h : x = 0 ∨ x = f) (he : e = f) : Fit x e := by
  subst he
  unfold Fit
  by_cases h0 : x = 0
  · left; rw [h0]; rfl
  · right; rcases h with h | h
    · exact absurd h h0
    · exact ⟨by simpa using h0, by rw [h]; simp⟩
theorem i64_low12 (x : Int) : bits .and .i64 (x * 4096) 4095 = 0 := by
  have e : bits .and .i64 (x * 4096) 4095 = IntKind.i64.wrap ((BitVec.ofInt 64 (x * 4096) &&& BitVec.ofInt 64 4095).toNat : Nat) := rfl
  have k : (BitVec.ofInt 64 (x * 4096) &&& BitVec.ofInt 64 4095).toNat = 0 := by
    rw [BitVec.toNat_and, show (BitVec.ofInt 64 4095).toNat = 2 ^ 12 - 1 by decide, Nat.and_two_pow_sub_one_eq_mod, BitVec.toNat_ofInt]
    have : ((x * 4096 % ((2 ^ 64 : Nat) : Int)).toNat : Int) % 4096 = 0 := by
      rw [Int.toNat_of_nonneg (Int.emod_nonneg _ (by decide))]
      omega
    omega
  rw [e, k]; rfl
theorem upper_eq (b : Nat) (hb : b < 4294967296) : wrap64 (wrap32 (bits .and .u32 (b : Int) 4294963200)) = sgn b / 4096 * 4096 := by
  have e : bits .and .u32 (b : Int) 4294963200 = ((b &&& 4294963200 : Nat) : Int) := u32_and_nat b 4294963200 hb (by decide)
  have e2 : b &&& 4294963200 = b / 4096 * 4096 := by
    have := nat_midmask 32 12 b (by decide)
    rw [show (4294963200 : Nat) = 2 ^ 32 - 2 ^ 12 by decide]
    rw [this]; simp only [show (2 : Nat) ^ 32 = 4294967296 by decide, show (2 : Nat) ^ 12 = 4096 by decide]; omega
  rw [e, e2]
  unfold wrap64 wrap32 sgn
  split <;> omega

set_option maxRecDepth 100000 in
set_option maxHeartbeats 8000000 in
theorem decodeFields_walk (a0 : Int) (w0 : (Lit.int .u32 a0).wf = true) (w : World) : Calls Try.prog 6 #[.int .u32 a0] w (RetB true w) := by
  obtain ⟨b, rfl, hb⟩ := u32_of_wf w0
  clear w0
  have el := low2 b hb.out
  have hd := Lib.hid (fun v => Decode_c b hb v)
  by_cases h3 : b &&& 3 ≠ 3
  · have e3 : (bits .and .u32 (b : Int) 3 != 3) = true := by rw [el]; exact decide_eq_true h3
    rw [none_low h3] at hd
    have hd2 : Hid (∀ v, Calls Try.prog 10 #[.int .u32 b] v (fun e w' => e = .returned (.agg #[.int .i64 0, .int .i64 0, .int .i64 0, .int .i64 0, .int .i64 0, .int .i64 0, .int .i64 0, .int .i64 0, .int .i64 0, .bool false, .bool false, .bool false]) ∧ Below v.heap.size v w')) := hd.out
    clear h3 el hd
    have g25 := guard25
    have e25 := eqv_2
    go_enter Try.func6, Try.ntmps6
    go_wp2_with fail
    refine (awake_c _).mono ?_; rintro e w1 ⟨rfl, hb1⟩
    go_wp2_with fail
    refine (hd2.out _).mono ?_; rintro e w2 ⟨rfl, hb2⟩
    go_wp2_with fail
    go_ret
    exact retB_mk rfl (by repeat (first | (with_reducible first | exact Below.refl _ _ | assumption | exact Nat.le_refl _ | refine Below.drew ?_ | refine Below.alloc ?_ ?_ _ | refine Below.setCell ?_ ?_ _ | refine le_alloc ?_ | refine le_set ?_ | refine le_drew ?_ | refine below_step (by assumption) ?_ ?_ | refine le_below (by assumption) ?_) | (dsimp only; omega)))
  · have e3 : (bits .and .u32 (b : Int) 3 != 3) = false := by rw [el]; exact decide_eq_false h3
    have HF := Lib.hid (fieldsOk b hb.out)
    generalize decF b = I at hd HF
    obtain ⟨kind, rd, rs1, rs2, rs3, rm, csr, size, imm, ui, un, wo⟩ := I
    have hd2 : Hid (∀ v, Calls Try.prog 10 #[.int .u32 b] v (fun e w' => e = .returned (.agg #[.int .i64 kind, .int .i64 rd, .int .i64 rs1, .int .i64 rs2, .int .i64 rs3, .int .i64 rm, .int .i64 csr, .int .i64 size, .int .i64 imm, .bool ui, .bool un, .bool wo]) ∧ Below v.heap.size v w')) := hd.out
    clear h3 el hd
    go_enter Try.func6, Try.ntmps6
    go_wp2_with fail
    refine (awake_c _).mono ?_; rintro e w1 ⟨rfl, hb1⟩
    go_wp2_with fail
    refine (hd2.out _).mono ?_; rintro e w2 ⟨rfl, hb2⟩
    clear hd2
    go_upto_region 6 with fail
    dsimp only [List.append]
    have P1 := fit_mk HF.out.rd (show wrap64 (bits .and .u32 ((b : Int) / 128) 31) = ((fld b 7 5 : Nat) : Int) by rw [show ((b : Int) / 128) = (b : Int) / ((2 ^ 7 : Nat) : Int) by simp, show bits .and .u32 ((b : Int) / ((2 ^ 7 : Nat) : Int)) 31 = ((fld b 7 5 : Nat) : Int) from fld_and b 7 5 31 hb.out rfl (by decide)]; exact wr_7_5 b)
    have P2 := fit_mk HF.out.rs1 (show wrap64 (bits .and .u32 ((b : Int) / 32768) 31) = ((fld b 15 5 : Nat) : Int) by rw [show ((b : Int) / 32768) = (b : Int) / ((2 ^ 15 : Nat) : Int) by simp, show bits .and .u32 ((b : Int) / ((2 ^ 15 : Nat) : Int)) 31 = ((fld b 15 5 : Nat) : Int) from fld_and b 15 5 31 hb.out rfl (by decide)]; exact wr_15_5 b)
    have P3 := fit_mk HF.out.rs2 (show wrap64 (bits .and .u32 ((b : Int) / 1048576) 31) = ((fld b 20 5 : Nat) : Int) by rw [show ((b : Int) / 1048576) = (b : Int) / ((2 ^ 20 : Nat) : Int) by simp, show bits .and .u32 ((b : Int) / ((2 ^ 20 : Nat) : Int)) 31 = ((fld b 20 5 : Nat) : Int) from fld_and b 20 5 31 hb.out rfl (by decide)]; exact wr_20_5 b)
    have P4 := fit_mk HF.out.rs3 (show wrap64 ((b : Int) / 134217728) = ((fld b 27 5 : Nat) : Int) by have := hb.out; unfold fld; simp only [show (2 : Nat) ^ 27 = 134217728 by decide, show (2 : Nat) ^ 5 = 32 by decide]; rw [IntWalk.wrap64_in _ (by omega)]; omega)
    go_cut [106] (fun s106 wx => s106 = .bool false ∧ wx = w2.alloc (Obj.cells #[.int .i64 kind, .int .i64 rd, .int .i64 rs1, .int .i64 rs2, .int .i64 rs3, .int .i64 rm, .int .i64 csr, .int .i64 size, .int .i64 imm, .bool ui, .bool un, .bool wo] 25))
    case first =>
      have k1 : decide (kind < 0) = false := decide_eq_false (by have := HF.out.kind; dsimp only at this; omega)
      have k2 : decide (78 ≤ kind) = false := decide_eq_false (by have := HF.out.kind; dsimp only at this; omega)
      have m1 : decide (rm < 0) = false := decide_eq_false (by have := HF.out.rm; dsimp only at this; omega)
      have m2 : decide (7 < rm) = false := decide_eq_false (by have := HF.out.rm; dsimp only at this; omega)
      have m3 : (rm == 5) = false := by rw [beq_eq_false_iff_ne]; have := HF.out.rm; dsimp only at this; omega
      have m4 : (rm == 6) = false := by rw [beq_eq_false_iff_ne]; have := HF.out.rm; dsimp only at this; omega
      have c1 : decide (csr < 0) = false := decide_eq_false (by have := HF.out.csr; dsimp only at this; omega)
      have c2 : decide (4095 < csr) = false := decide_eq_false (by have := HF.out.csr; dsimp only at this; omega)
      rcases P1 with p1 | ⟨p1, p1'⟩ <;> rcases P2 with p2 | ⟨p2, p2'⟩ <;> rcases P3 with p3 | ⟨p3, p3'⟩ <;> rcases P4 with p4 | ⟨p4, p4'⟩
      all_goals
        as_aux_lemma =>
          go_wp2_with fail
          go_meet
          exact ⟨rfl, rfl⟩
    case rest =>
      as_aux_lemma =>
      obtain ⟨rfl, rfl⟩ := hcut
      clear P1 P2 P3 P4
      go_upto_region 8 with fail
      go_cut [129] (fun s129 wx => s129 = .bool false ∧ wx = w2.alloc (Obj.cells #[.int .i64 kind, .int .i64 rd, .int .i64 rs1, .int .i64 rs2, .int .i64 rs3, .int .i64 rm, .int .i64 csr, .int .i64 size, .int .i64 imm, .bool ui, .bool un, .bool wo] 25))
      case first =>
        rcases HF.out.size with h | h | h | h | h
        all_goals
          dsimp only at h
          subst h
          go_wp2_with fail
          go_meet
          exact ⟨rfl, rfl⟩
      case rest =>
        obtain ⟨rfl, rfl⟩ := hcut
        by_cases hj : kind = 3 ∨ (5 ≤ kind ∧ kind ≤ 10)
        · have hi := HF.out.jump hj
          dsimp only at hi
          have i1 : (imm.tmod 2 == 0) = true := by rw [beq_iff_eq]; exact Int.tmod_eq_zero_of_dvd (Int.dvd_of_emod_eq_zero hi.1)
          have i2 : decide (-1048576 ≤ imm) = true := decide_eq_true hi.2.1
          have i3 : decide (imm < 1048576) = true := decide_eq_true hi.2.2
          clear hi
          rcases hj with h | ⟨h1, h2⟩
          · subst h
            go_wp2_with fail
            go_ret
            exact retB_mk rfl (by repeat (first | (with_reducible first | exact Below.refl _ _ | assumption | exact Nat.le_refl _ | refine Below.drew ?_ | refine Below.alloc ?_ ?_ _ | refine Below.setCell ?_ ?_ _ | refine le_alloc ?_ | refine le_set ?_ | refine le_drew ?_ | refine below_step (by assumption) ?_ ?_ | refine le_below (by assumption) ?_) | (dsimp only; omega)))
          · have j1 : (kind == 3) = false := by rw [beq_eq_false_iff_ne]; omega
            have j2 : decide (5 ≤ kind) = true := decide_eq_true h1
            have j3 : decide (kind ≤ 10) = true := decide_eq_true h2
            clear h1 h2
            go_wp2_with fail
            go_ret
            exact retB_mk rfl (by repeat (first | (with_reducible first | exact Below.refl _ _ | assumption | exact Nat.le_refl _ | refine Below.drew ?_ | refine Below.alloc ?_ ?_ _ | refine Below.setCell ?_ ?_ _ | refine le_alloc ?_ | refine le_set ?_ | refine le_drew ?_ | refine below_step (by assumption) ?_ ?_ | refine le_below (by assumption) ?_) | (dsimp only; omega)))
        · by_cases hu : kind = 1 ∨ kind = 2
          · have hi := HF.out.upper hu
            dsimp only at hi
            have u1 : (bits .and .i64 imm 4095 == 0) = true := by rw [hi, i64_low12]; rfl
            have u2 : (imm == wrap64 (wrap32 (bits .and .u32 (b : Int) 4294963200))) = true := by rw [upper_eq b hb.out, hi]; simp
            have u3 : wrap64 (wrap32 (bits .and .u32 (b : Int) 4294963200)) = imm := by rw [upper_eq b hb.out, hi]
            clear hi hj
            rcases hu with h | h
            all_goals
              subst h
              go_wp2_with fail
              go_ret
              exact retB_mk (by first | rfl | (simp only [u3]; simp)) (by repeat (first | (with_reducible first | exact Below.refl _ _ | assumption | exact Nat.le_refl _ | refine Below.drew ?_ | refine Below.alloc ?_ ?_ _ | refine Below.setCell ?_ ?_ _ | refine le_alloc ?_ | refine le_set ?_ | refine le_drew ?_ | refine below_step (by assumption) ?_ ?_ | refine le_below (by assumption) ?_) | (dsimp only; omega)))
          · have hi := HF.out.short hj hu
            dsimp only at hi
            have i2 : decide (-2048 ≤ imm) = true := decide_eq_true hi.1
            have i3 : decide (imm < 2048) = true := decide_eq_true hi.2
            have j1 : (kind == 3) = false := by rw [beq_eq_false_iff_ne]; omega
            have j4 : (kind == 1) = false := by rw [beq_eq_false_iff_ne]; omega
            have j5 : (kind == 2) = false := by rw [beq_eq_false_iff_ne]; omega
            by_cases h5 : 5 ≤ kind
            · have j2 : decide (5 ≤ kind) = true := decide_eq_true h5
              have j3 : decide (kind ≤ 10) = false := decide_eq_false (by omega)
              clear hi hj hu h5
              go_wp2_with fail
              go_ret
              exact retB_mk rfl (by repeat (first | (with_reducible first | exact Below.refl _ _ | assumption | exact Nat.le_refl _ | refine Below.drew ?_ | refine Below.alloc ?_ ?_ _ | refine Below.setCell ?_ ?_ _ | refine le_alloc ?_ | refine le_set ?_ | refine le_drew ?_ | refine below_step (by assumption) ?_ ?_ | refine le_below (by assumption) ?_) | (dsimp only; omega)))
            · have j2 : decide (5 ≤ kind) = false := decide_eq_false h5
              clear hi hj hu h5
              go_wp2_with fail
              go_ret
              exact retB_mk rfl (by repeat (first | (with_reducible first | exact Below.refl _ _ | assumption | exact Nat.le_refl _ | refine Below.drew ?_ | refine Below.alloc ?_ ?_ _ | refine Below.setCell ?_ ?_ _ | refine le_alloc ?_ | refine le_set ?_ | refine le_drew ?_ | refine below_step (by assumption) ?_ ?_ | refine le_below (by assumption) ?_) | (dsimp only; omega)))
end Go.Proofs.Ytmpkhflngpncnaa
namespace Go.Proofs.Ytmpkhflngpncnaa.decodeFields
open Go.ChangeShapes Go.WideShapes Go.ChangeAt Go.RowKit
set_option linter.unusedVariables false
theorem own : ownKnob Try.prog.godebug = none := by kernel_rfl
set_option maxRecDepth 100000 in
theorem lifted (os : Os) (started : os.Started) (H : Type) (enc : TypeId × Value → H) :
    ReturnsInHanded {} Try.checked os 6 .any (Rows.decodeFieldsSpec.pre6 enc Try.prog Try.f6 Rows.decodeFieldsRow.domain false) (Rows.decodeFieldsSpec.post enc Try.prog Try.f6 false true false false) := by
  refine returnsInHanded_of_change (C := Try.checked) own started (by kernel_rfl) Try.func6
    (ChangeSpec.witness6 (enc := enc) (C := Try.checked) false ⟨#[], #[.int .u32 0], []⟩ 8 (by kernel_rfl) (by kernel_rfl) (by kernel_rfl) (by kernel_rfl)) ?_
  intro W base args ds gs before hval0 hW hcnd _
  have hval : ∀ (j : Nat) t v, Try.f6.params[j]? = some t → args[j]? = some v → Value.okWide Try.prog W .any base t v := hval0
  have hW' := hW
  obtain ⟨p, q, hA0, hV, rfl, hfz, hnd⟩ := hW
  have hA : DataW.TrodAll enc Try.prog W 0 (fun _ => true) true Try.f6.params.toList args.toList ds p := hA0
  rw [Try.params6] at hA hval
  obtain ⟨v0, vs0, d0, ds0, p0, q0, hargs, rfl, rfl, h0, r0⟩ := trodAll_cons hA
  obtain ⟨rfl, rfl, rfl⟩ := trodAll_nil r0
  obtain rfl : args = #[v0] := by cases args; simp_all
  obtain ⟨rfl, rfl⟩ := trodVars_none hV
  obtain ⟨a0, rfl, rfl, rfl, w0⟩ := open_int Try.underlying22 (hval 0 22 v0 rfl rfl) h0
  clear hA0 hval0
  simp only [List.append_nil] at hW'
  refine (decodeFields_walk a0 w0 W).mono fun e W' ⟨he, hg⟩ => ?_
  subst he
  exact ⟨_, rfl, post_nums hW' (fun _ _ _ => (trodAll_cons_mk (shut_bool Try.underlying4 _) trodAll_mk0)) (fun sp => (trodAll_cons_mk (shut_int Try.underlying22 w0) trodAll_mk0)) (fun _ => rfl) hg (ok_one (by kernel_rfl) rfl (okWide_bool_mk Try.underlying4 _))⟩
theorem over : Rows.decodeFieldsRow.holds Try.pinned (OpenSpec.ofChange Rows.decodeFieldsSpec) :=
  OpenClaim.holds_of_wide 6 Try.f6 rfl rfl rfl rfl rfl rfl rfl ⟨rfl, rfl, rfl, rfl, rfl⟩ rfl rfl rfl rfl rfl (by kernel_rfl) Try.func6 (by kernel_rfl)
    (of_decide_eq_true (by kernel_rfl)) (by unfold Func.isWrapper; first | (rw [if_pos (by decide +kernel)]; kernel_rfl) | (rw [if_neg (by decide +kernel)]; exact ⟨rfl, rfl⟩))
    (fun os started H enc _ => lifted os started H enc)
theorem proved : Rows.DecodeFieldsSaid := over
#print axioms proved
end Go.Proofs.Ytmpkhflngpncnaa.decodeFields

