/- The document's plic: where a register lies; what comes in; lines. -/
import Derived.Test.YtoicpikkcefheaaGreatRA
import Derived.Test.YtoicpikkcefheaaGreatQH
import Derived.Lib.QuietBelow
import Derived.BigQuiet
namespace Go.Proofs.YtoicpikkcefheaaGreat.P
open Go.ChangeShapes Go.WideShapes Go.ChangeAt Go.RowKit Go.Sort
open M (Fp Dj Cw Up Th)
set_option linter.unusedVariables false
set_option linter.unusedSimpArgs false
set_option maxRecDepth 20000
def RetIX (n : Int) (W : World) (e : Ending) (w' : World) : Prop := e = .returned (.int .i64 n) ∧ w' = W
def ctxF (a x d : Nat) : Int := if a = x then 0 else if a = x + d then 1 else -1
theorem context_c (a x d : Nat) (hx : x + d < 18446744073709551616) (w : World) : Calls Tryz.prog 79 #[.int .u64 a, .int .u64 x, .int .u64 d] w (RetIX (ctxF a x d) w) := by
  have e1 : IntKind.u64.wrap ((x : Int) + d) = ((x + d : Nat) : Int) := by rw [IntKind.wrap_u64]; omega
  by_cases h1 : a = x
  · have HV : Hid (ctxF a x d = 0) := by show _ = _; unfold ctxF; rw [if_pos h1]
    have h2 : ((a : Int) == (x : Int)) = true := by rw [beq_iff_eq]; omega
    have h2' : (a : Int) = x := by omega
    clear h1
    go_enter Tryz.func79, Tryz.ntmps79
    go_wp2_with fail
    go_ret
    exact ⟨by rw [HV.out]; rfl, rfl⟩
  · have h2 : ((a : Int) == (x : Int)) = false := by rw [beq_eq_false_iff_ne]; omega
    by_cases h3 : a = x + d
    · have HV : Hid (ctxF a x d = 1) := by show _ = _; unfold ctxF; rw [if_neg h1, if_pos h3]
      obtain ⟨z, hz⟩ : ∃ z, z = x + d := ⟨_, rfl⟩
      rw [← hz] at e1 h3
      subst h3
      clear hz hx
      go_enter Tryz.func79, Tryz.ntmps79
      go_wp2_with fail
      go_ret
      exact ⟨by rw [HV.out]; rfl, rfl⟩
    · have HV : Hid (ctxF a x d = -1) := by show _ = _; unfold ctxF; rw [if_neg h1, if_neg h3]
      obtain ⟨z, hz⟩ : ∃ z, z = x + d := ⟨_, rfl⟩
      rw [← hz] at e1 h3
      have h4 : ((a : Int) == (z : Int)) = false := by rw [beq_eq_false_iff_ne]; omega
      clear hz hx
      go_enter Tryz.func79, Tryz.ntmps79
      go_wp2_with fail
      go_ret
      exact ⟨by rw [HV.out]; rfl, rfl⟩
theorem andNot64 (a b : Nat) (ha : a < 18446744073709551616) (hb : b < 18446744073709551616) : bits .andNot .u64 (a : Int) (b : Int) = ((a &&& (18446744073709551615 - b) : Nat) : Int) := u64_andNot_nat a b ha hb
/-- Number j of the block is written, behind a region that drew its order. -/
def RetN1 (b j x : Nat) (W : World) (e0 : Ending) (w' : World) : Prop := e0 = .returned (.tuple #[]) ∧ ∃ w1, Below W.heap.size W w1 ∧ w' = w1.setCell ⟨b, j, none⟩ (.int .u64 (x : Nat))
set_option maxRecDepth 100000 in
theorem come_raw (b e p t ce cp ct u v s : Nat) (S : St) (w : World) (h : Hid (Raw w b e p t ce cp ct u v s S)) (hu : u < 512) (hv : v < 512) (hs : s < 512) :
    Calls Tryz.prog 80 #[.pointer (some ⟨b, 0, none⟩)] w (RetN1 b 1 (v ||| (u &&& (18446744073709551615 - s))) w) := by
  have a1 := andNot64 u s (by omega) (by omega)
  obtain ⟨d, hd⟩ : ∃ d, d = u &&& (18446744073709551615 - s) := ⟨_, rfl⟩
  have dl : d ≤ u := by rw [hd]; exact Nat.and_le_left
  rw [← hd] at a1 ⊢
  have a2 := u64_or_nat v d (by omega) (by omega)
  obtain ⟨z, hz⟩ : ∃ z, z = v ||| d := ⟨_, rfl⟩
  rw [← hz] at a2 ⊢
  have K0 := cell_regrown h.out.c0
  have K1 := cell_regrown h.out.c1
  have K2 := cell_regrown h.out.c2
  clear hu hv hs hd dl hz
  go_enter Tryz.func80, Tryz.ntmps80
  go_wp2_with fail
  refine wp_region_below_head 17 1 #[true, true, true, true, true, true, true, true, true, true, true, true, true, true, true, true, true, false] (by kernel_rfl) (by kernel_rfl) rfl ?_
  simp only [List.take_succ_cons, List.take_zero]
  iterate 17 (go_big_quiet_step (fail))
  refine wpQuiet_nil ?_
  intro _ hw'
  obtain ⟨⟨dq, osq⟩, hw''⟩ := hw'
  subst hw''
  have hb := below_regrown w dq osq
  have hR := Lib.hid (h.out.below hb)
  have HB := Lib.hid hb
  generalize grow (redrawn w dq) osq = w1 at *
  clear K0 K1 K2 hb
  have k1 := hR.out.c1
  have f1 := hR.out.fb 1
  refine wpAny_ready (rs := [17]) (by decide +kernel) (by simp) ?_
  refine AllReady.cons rfl (fun K hK => ?_) AllReady.nil
  go_simp
  try go_wp2_with fail
  refine wpAny_done (by decide +kernel) ?_ _
  go_wp2_with fail
  go_end0
  exact ⟨rfl, w1, HB.out, rfl⟩
theorem come_same (S : St) (n : Nat) (x : Bool) : (comeF (S.setUp n x) n).en = S.en ∧ (comeF (S.setUp n x) n).pr = S.pr ∧ (comeF (S.setUp n x) n).th = S.th := by
  unfold comeF
  cases ((S.setUp n x).up n && (S.setUp n x).st n == 0) <;> exact ⟨rfl, rfl, rfl⟩
theorem raw_congr {w : World} {b e p t ce cp ct u v s : Nat} {S S' : St} (h : Raw w b e p t ce cp ct u v s S) (h1 : S'.en = S.en) (h2 : S'.pr = S.pr) (h3 : S'.th = S.th) : Raw w b e p t ce cp ct u v s S' :=
  { h with en := fun i hi => by rw [h1]; exact h.en i hi, pr := fun i hi => by rw [h2]; exact h.pr i hi, th := fun i hi => by rw [h3]; exact h.th i hi }
end Go.Proofs.YtoicpikkcefheaaGreat.P
