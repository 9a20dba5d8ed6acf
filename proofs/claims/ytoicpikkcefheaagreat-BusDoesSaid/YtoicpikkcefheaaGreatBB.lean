/- The devices' find and follow. -/
import Derived.Test.YtoicpikkcefheaaGreatBA
import Derived.StillTailTactics
namespace Go.Proofs.YtoicpikkcefheaaGreat
open Go.ChangeShapes Go.WideShapes Go.ChangeAt Go.RowKit
open M (Fp Dj Cw Up Th Grp GrpAt jn exT)
set_option linter.unusedVariables false
set_option linter.unusedSimpArgs false
set_option maxRecDepth 20000
/-- Which device is there: 1 the clint, 2 the plic, 3 the uart, 0 none. -/
def dvK (x : Nat) : Nat := if 33554432 ≤ x ∧ x < 33619968 then 1 else if 201326592 ≤ x ∧ x < 205520896 then 2 else if 268435456 ≤ x ∧ x < 268435464 then 3 else 0
/-- How far an address lies behind a first one, around. -/
def farN (x k : Nat) : Nat := (x + (18446744073709551616 - k)) % 18446744073709551616
theorem far_wrap (x k : Nat) (hx : x < 18446744073709551616) (hk : k < 18446744073709551616) : IntKind.u64.wrap ((x : Int) - (k : Nat)) = ((farN x k : Nat) : Int) := by
  rw [IntKind.wrap_u64]; unfold farN; omega
theorem far_of (x k : Nat) (hx : x < 18446744073709551616) (hk : k ≤ x) : farN x k = x - k := by unfold farN; omega

theorem find_1 (b o c p u : Nat) (one : Bool) (R W : Fp) (x : Nat) (hx : Hid (x < 18446744073709551616)) (hk : 33554432 ≤ x ∧ x < 33619968) (w : World) (h : Hid ((eDv b o c p u one).P R W w)) : Calls Tryz.prog 75 #[.pointer (some ⟨b, o, none⟩), .int .u64 x] w (fun e w' => e = .returned (.tuple #[.iface 57 (.pointer (some ⟨c, 0, none⟩)), .int .u64 (farN x 33554432 : Nat)]) ∧ w' = w) := by
  obtain ⟨-, -, -, h4, c0, c1, c2, c3, f0, f1, f2, f3⟩ := h.out
  have q1 : IntKind.u64.wrap ((x : Int) - 33554432) = ((farN x 33554432 : Nat) : Int) := by have := hx.out; rw [IntKind.wrap_u64]; unfold farN; omega
  have n1 : ((farN x 33554432 : Nat) : Int) < 65536 := by have := hk; have := hx.out; unfold farN; omega
  clear hk
  generalize farN x 33554432 = y0 at *
  go_enter Tryz.func75, Tryz.ntmps75
  go_wp2_with fail
  go_ret2
  exact ⟨rfl, rfl⟩
theorem find_2 (b o c p u : Nat) (one : Bool) (R W : Fp) (x : Nat) (hx : Hid (x < 18446744073709551616)) (hk : 201326592 ≤ x ∧ x < 205520896) (w : World) (h : Hid ((eDv b o c p u one).P R W w)) : Calls Tryz.prog 75 #[.pointer (some ⟨b, o, none⟩), .int .u64 x] w (fun e w' => e = .returned (.tuple #[.iface 58 (.pointer (some ⟨p, 0, none⟩)), .int .u64 (farN x 201326592 : Nat)]) ∧ w' = w) := by
  obtain ⟨-, -, -, h4, c0, c1, c2, c3, f0, f1, f2, f3⟩ := h.out
  have q1 : IntKind.u64.wrap ((x : Int) - 33554432) = ((farN x 33554432 : Nat) : Int) := by have := hx.out; rw [IntKind.wrap_u64]; unfold farN; omega
  have n1 : decide (((farN x 33554432 : Nat) : Int) < 65536) = false := decide_eq_false (by have := hk; have := hx.out; unfold farN; omega)
  have q2 : IntKind.u64.wrap ((x : Int) - 201326592) = ((farN x 201326592 : Nat) : Int) := by have := hx.out; rw [IntKind.wrap_u64]; unfold farN; omega
  have n2 : ((farN x 201326592 : Nat) : Int) < 4194304 := by have := hk; have := hx.out; unfold farN; omega
  clear hk
  generalize farN x 33554432 = y0 at *
  generalize farN x 201326592 = y1 at *
  go_enter Tryz.func75, Tryz.ntmps75
  go_wp2_with fail
  go_ret2
  exact ⟨rfl, rfl⟩
theorem find_3 (b o c p u : Nat) (one : Bool) (R W : Fp) (x : Nat) (hx : Hid (x < 18446744073709551616)) (hk : 268435456 ≤ x ∧ x < 268435464) (w : World) (h : Hid ((eDv b o c p u one).P R W w)) : Calls Tryz.prog 75 #[.pointer (some ⟨b, o, none⟩), .int .u64 x] w (fun e w' => e = .returned (.tuple #[.iface 59 (.pointer (some ⟨u, 0, none⟩)), .int .u64 (farN x 268435456 : Nat)]) ∧ w' = w) := by
  obtain ⟨-, -, -, h4, c0, c1, c2, c3, f0, f1, f2, f3⟩ := h.out
  have q1 : IntKind.u64.wrap ((x : Int) - 33554432) = ((farN x 33554432 : Nat) : Int) := by have := hx.out; rw [IntKind.wrap_u64]; unfold farN; omega
  have n1 : decide (((farN x 33554432 : Nat) : Int) < 65536) = false := decide_eq_false (by have := hk; have := hx.out; unfold farN; omega)
  have q2 : IntKind.u64.wrap ((x : Int) - 201326592) = ((farN x 201326592 : Nat) : Int) := by have := hx.out; rw [IntKind.wrap_u64]; unfold farN; omega
  have n2 : decide (((farN x 201326592 : Nat) : Int) < 4194304) = false := decide_eq_false (by have := hk; have := hx.out; unfold farN; omega)
  have q3 : IntKind.u64.wrap ((x : Int) - 268435456) = ((farN x 268435456 : Nat) : Int) := by have := hx.out; rw [IntKind.wrap_u64]; unfold farN; omega
  have n3 : ((farN x 268435456 : Nat) : Int) < 8 := by have := hk; have := hx.out; unfold farN; omega
  clear hk
  generalize farN x 33554432 = y0 at *
  generalize farN x 201326592 = y1 at *
  generalize farN x 268435456 = y2 at *
  go_enter Tryz.func75, Tryz.ntmps75
  go_wp2_with fail
  go_ret2
  exact ⟨rfl, rfl⟩
theorem find_0 (b o c p u : Nat) (one : Bool) (R W : Fp) (x : Nat) (hx : Hid (x < 18446744073709551616)) (hk : ¬ (33554432 ≤ x ∧ x < 33619968) ∧ ¬ (201326592 ≤ x ∧ x < 205520896) ∧ ¬ (268435456 ≤ x ∧ x < 268435464)) (w : World) (h : Hid ((eDv b o c p u one).P R W w)) : Calls Tryz.prog 75 #[.pointer (some ⟨b, o, none⟩), .int .u64 x] w (fun e w' => e = .returned (.tuple #[.iface 135 (.agg #[]), .int .u64 (x : Nat)]) ∧ w' = w) := by
  obtain ⟨-, -, -, h4, c0, c1, c2, c3, f0, f1, f2, f3⟩ := h.out
  have q1 : IntKind.u64.wrap ((x : Int) - 33554432) = ((farN x 33554432 : Nat) : Int) := by have := hx.out; rw [IntKind.wrap_u64]; unfold farN; omega
  have n1 : decide (((farN x 33554432 : Nat) : Int) < 65536) = false := decide_eq_false (by have := hk; have := hx.out; unfold farN; omega)
  have q2 : IntKind.u64.wrap ((x : Int) - 201326592) = ((farN x 201326592 : Nat) : Int) := by have := hx.out; rw [IntKind.wrap_u64]; unfold farN; omega
  have n2 : decide (((farN x 201326592 : Nat) : Int) < 4194304) = false := decide_eq_false (by have := hk; have := hx.out; unfold farN; omega)
  have q3 : IntKind.u64.wrap ((x : Int) - 268435456) = ((farN x 268435456 : Nat) : Int) := by have := hx.out; rw [IntKind.wrap_u64]; unfold farN; omega
  have n3 : decide (((farN x 268435456 : Nat) : Int) < 8) = false := decide_eq_false (by have := hk; have := hx.out; unfold farN; omega)
  clear hk
  generalize farN x 33554432 = y0 at *
  generalize farN x 201326592 = y1 at *
  generalize farN x 268435456 = y2 at *
  go_enter Tryz.func75, Tryz.ntmps75
  go_wp2_with fail
  go_ret2
  exact ⟨rfl, rfl⟩

theorem below_one (w : World) (o : Obj) : Below w.heap.size w (w.alloc o) := (Below.refl _ _).alloc (Nat.le_refl _) o
theorem grp_drew {R0 W0 : Fp} {w0 w : World} {l : List Th} (h : Grp R0 W0 w0 l w) : Grp R0 W0 w0 l w.drew := h.below ((Below.refl _ _).drew)
theorem grp_drewN {R0 W0 : Fp} {w0 w : World} {l : List Th} (h : Grp R0 W0 w0 l w) (n : Nat) : Grp R0 W0 w0 l (w.drewN n) := h.below (below_drewN (Below.refl _ _) n)
theorem grp_alloc {R0 W0 : Fp} {w0 w : World} {l : List Th} (h : Grp R0 W0 w0 l w) (o : Obj) : Grp R0 W0 w0 l (w.alloc o) := h.below (below_one w o)
/-- What a call upon a group's own thing leaves of the whole. -/
theorem upon_of {R W : Fp} {w w' : World} {l : List Th} {v : Value} {R1 : Fp} (h : M.Grp R W w l w') (h5 : ∀ k j, W k j → R k j) (h6 : ∀ k j, R k j → k < w.heap.size) : Upon v (jn l) R W w (.returned v) w' := ⟨rfl, M.jn_close h h5 h6⟩
set_option maxHeartbeats 4000000 in
theorem follow_g (b o c p u : Nat) (D : Dv) (R W : Fp) (w0 w : World) (h : Hid (Grp R W w0 (dl b o c p u D) w)) : Calls Tryz.prog 76 #[.pointer (some ⟨b, o, none⟩)] w (fun e w' => e = .returned (.tuple #[]) ∧ Grp R W w0 (dl b o c p u D.fol) w') := by
  have hG : Hid (Grp R W w0 [eDv b o c p u D.one, eC c D.s D.a D.t, eP p D.S, eU u D.U] w.drew) := grp_drew h.out
  have hL : Hid (∀ up, Calls Tryz.prog 91 #[.pointer (some ⟨p, 0, none⟩), .int .i64 1, .bool up] w.drew (fun e w' => e = .returned (.bool true) ∧ Grp R W w0 [eDv b o c p u D.one, eC c D.s D.a D.t, eP p (P.comeF (D.S.setUp 1 up) 1), eU u D.U] w')) :=
    fun up => hG.out.step 2 rfl _ (fun R W q => lineP q 1 ⟨by decide, by decide⟩ up)
  have hU : Calls Tryz.prog 97 #[.pointer (some ⟨u, 0, none⟩)] w.drew (fun e w' => e = .returned (.bool (T.upF D.U)) ∧ w' = w.drew) := by
    obtain ⟨_, _, q⟩ := hG.out.get 3 rfl
    exact upU q
  have HU := Lib.hid hU
  clear hU
  obtain ⟨_, _, -, -, -, h4, c0, c1, c2, c3, f0, f1, f2, f3⟩ := hG.out.get 0 rfl
  have e1 : Hid (D.fol = { D with S := P.comeF (D.S.setUp 1 (D.one || T.upF D.U)) 1 }) := rfl
  have hfin : Hid (∀ w', Grp R W w0 [eDv b o c p u D.one, eC c D.s D.a D.t, eP p (P.comeF (D.S.setUp 1 (D.one || T.upF D.U)) 1), eU u D.U] w' → Grp R W w0 (dl b o c p u D.fol) w') :=
    fun w' q => q
  clear hG h e1
  generalize T.upF D.U = up at *
  generalize D.fol = D' at *
  generalize D.one = one at *
  cases one
  · go_enter Tryz.func76, Tryz.ntmps76
    go_wp2_with fail
    refine wp_region_still_tail 15 (by kernel_rfl) (by kernel_rfl) ?_
    simp only [List.take_succ_cons, List.take_zero, List.drop_succ_cons, List.drop_zero]
    repeat (first | still_step | still_call HU.out)
    refine wpStill_nil ?_
    change wpList _ _ _ _ _ w.drew
    go_wp2_with fail
    refine (hL.out _).mono ?_; rintro e w1 ⟨rfl, q⟩
    have Q := Lib.hid q
    clear q
    go_wp2_with fail
    go_end0
    exact ⟨rfl, hfin.out w1 Q.out⟩
  · go_enter Tryz.func76, Tryz.ntmps76
    go_wp2_with fail
    refine wp_region_still_tail 15 (by kernel_rfl) (by kernel_rfl) ?_
    simp only [List.take_succ_cons, List.take_zero, List.drop_succ_cons, List.drop_zero]
    repeat still_step
    refine wpStill_nil ?_
    change wpList _ _ _ _ _ w.drew
    go_wp2_with fail
    refine (hL.out _).mono ?_; rintro e w1 ⟨rfl, q⟩
    have Q := Lib.hid q
    clear q
    go_wp2_with fail
    go_end0
    exact ⟨rfl, hfin.out w1 Q.out⟩
end Go.Proofs.YtoicpikkcefheaaGreat
