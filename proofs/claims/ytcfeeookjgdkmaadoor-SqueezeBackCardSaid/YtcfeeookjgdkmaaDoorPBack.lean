/- PROVED: 'SqueezeBack' returns true whatever the half and the instruction are: halves and instructions, there and back. Condition: the package's three tables hold what the program's text lays. -/
import Derived.Test.YtcfeeookjgdkmaaDoorF2
import Derived.Test.YtcfeeookjgdkmaaDoorM4
import Derived.Test.YtcfeeookjgdkmaaDoorCards
import Derived.Test.YtcfeeookjgdkmaaDoorTie
import Derived.SevenTiedAt
namespace Go.Proofs.YtcfeeookjgdkmaaDoor
open Go.ChangeShapes Go.WideShapes Go.ChangeAt Go.RowKit
set_option linter.unusedVariables false
set_option linter.unusedSimpArgs false
set_option maxRecDepth 100000 in
set_option maxHeartbeats 1000000 in
theorem squeezeBack_walk (a0 a1 : Int) (w0 : (Lit.int .u16 a0).wf = true) (w1 : (Lit.int .u32 a1).wf = true) (w : World) (hg : G w) : Calls Tryd.prog 5 #[.int .u16 a0, .int .u32 a1] w (RetB true w) := by
  obtain ⟨h, rfl, hh⟩ := u16_of_wf w0
  obtain ⟨x, rfl, hx⟩ := u32_of_wf w1
  clear w0 w1
  have hG : Hid (G w) := hg
  clear hg
  have HE := Lib.hid (fun v g => Expand_c h hh v g)
  have HS := Lib.hid (fun v g => Shrink_c x hx v g)
  have hsh := Lib.hid (fun v => Short_c h hh v)
  obtain ⟨⟨y, b1⟩, h1⟩ : ∃ p, p = expandF h := ⟨_, rfl⟩
  obtain ⟨⟨k, b2⟩, h2⟩ : ∃ p, p = shrinkF x := ⟨_, rfl⟩
  rw [← h1] at HE
  rw [← h2] at HS
  dsimp only at HE HS
  -- the second half, from any world
  have second : ∀ (b2' : Bool), b2' = b2 → (b2' = false → k = 0) ∧ (b2' = true → Hid (∀ v, Hid (G v) → Calls Tryd.prog 7 #[.int .u16 k] v (RetP x true v))) := by
    rintro b2' rfl
    refine ⟨fun e => by subst e; exact shrink_none h2.symm, fun e => ?_⟩
    subst e
    obtain ⟨q1, q2⟩ := shrink_some h2.symm
    exact fun v g => by have := Expand_c k q2 v g; rw [q1] at this; exact this
  obtain ⟨n2, y2⟩ := second b2 rfl
  clear second h2
  cases b1 with
  | false =>
    obtain ⟨rfl, hz1, hz2⟩ := ex_none hh.out h1.symm
    clear h1 hsh hz1 hz2
    go_enter Tryd.func5, Tryd.ntmps5
    go_wp2_with fail
    refine (HE.out _ hG).mono ?_; rintro e w1 ⟨rfl, hb1⟩
    have hG1 := Lib.hid (g_below hG.out hb1 hG.out.1)
    go_wp2_with fail
    refine (HS.out _ hG1).mono ?_; rintro e w2 ⟨rfl, hb2⟩
    have hb2w : Below w.heap.size w w2 := below_step hb2 hb1 hb1.size
    have hG2 := Lib.hid (g_below hG.out hb2w hG.out.1)
    go_wp2_with fail
    refine (fixed_c _ hG2).mono ?_; rintro e w3 ⟨rfl, hb3⟩
    have hb3w : Below w.heap.size w w3 := below_step hb3 hb2w hb2w.size
    have hG3 := Lib.hid (g_below hG.out hb3w hG.out.1)
    cases b2 with
    | false =>
      obtain rfl := n2 rfl
      clear y2 n2
      go_wp2_with fail
      go_ret
      exact retB_mk rfl hb3w
    | true =>
      have Y := y2 rfl
      clear y2 n2
      go_wp2_with fail
      refine (Y.out _ hG3).mono ?_; rintro e w4 ⟨rfl, hb4⟩
      go_wp2_with fail
      go_ret
      exact retB_mk (by simp) (below_step hb4 hb3w hb3w.size)
  | true =>
    obtain ⟨hz0, hy, hy0, hy3, hh3, hz1, hz2⟩ := ex_some hh.out h1.symm
    clear hz0 hz1 hz2
    obtain ⟨l, hl, hlh⟩ := shrink_least hh.out h1.symm
    obtain ⟨q1, q2⟩ := shrink_some hl
    have HS2 : Hid (∀ v, Hid (G v) → Calls Tryd.prog 12 #[.int .u32 y] v (RetQ l true v)) := fun v g => by have := Shrink_c y hy v g; rw [hl] at this; exact this
    have HE2 : Hid (∀ v, Hid (G v) → Calls Tryd.prog 7 #[.int .u16 l] v (RetP y true v)) := fun v g => by have := Expand_c l q2 v g; rw [q1] at this; exact this
    have HY : Hid (∀ v, Calls Tryd.prog 10 #[.int .u16 ((y : Int) % 65536)] v (fun e w' => e = .returned (.bool false) ∧ v = w')) := fun v => by
      have := Short_c (y % 65536) (by show _ < _; omega) v
      rw [show ((y % 65536 : Nat) : Int) = (y : Int) % 65536 by omega, show decide (y % 65536 % 4 < 3) = false by rw [decide_eq_false_iff_not]; omega] at this; exact this
    have HH : Hid (∀ v, Calls Tryd.prog 10 #[.int .u16 h] v (fun e w' => e = .returned (.bool true) ∧ v = w')) := fun v => by
      have := hsh.out v
      rw [show decide (h % 4 < 3) = true by rw [decide_eq_true_eq]; exact hh3] at this; exact this
    have hlt : ¬ (h : Int) < (l : Int) := by omega
    clear h1 hsh hy hy0 hy3 hh3 hl hlh q1 q2
    go_enter Tryd.func5, Tryd.ntmps5
    go_wp2_with fail
    refine (HE.out _ hG).mono ?_; rintro e w1 ⟨rfl, hb1⟩
    have hG1 := Lib.hid (g_below hG.out hb1 hG.out.1)
    go_wp2_with fail
    refine (HS.out _ hG1).mono ?_; rintro e w2 ⟨rfl, hb2⟩
    have hb2w : Below w.heap.size w w2 := below_step hb2 hb1 hb1.size
    have hG2 := Lib.hid (g_below hG.out hb2w hG.out.1)
    go_wp2_with fail
    refine (fixed_c _ hG2).mono ?_; rintro e w3 ⟨rfl, hb3⟩
    have hb3w : Below w.heap.size w w3 := below_step hb3 hb2w hb2w.size
    have hG3 := Lib.hid (g_below hG.out hb3w hG.out.1)
    go_wp2_with fail
    refine (HS2.out _ hG3).mono ?_; rintro e w4 ⟨rfl, hb4⟩
    have hb4w : Below w.heap.size w w4 := below_step hb4 hb3w hb3w.size
    have hG4 := Lib.hid (g_below hG.out hb4w hG.out.1)
    go_wp2_with fail
    refine (HE2.out _ hG4).mono ?_; rintro e w5 ⟨rfl, hb5⟩
    have hb5w : Below w.heap.size w w5 := below_step hb5 hb4w hb4w.size
    have hG5 := Lib.hid (g_below hG.out hb5w hG.out.1)
    go_wp2_with fail
    refine (HY.out _).mono ?_; rintro e u1 ⟨rfl, rfl⟩
    go_wp2_with fail
    refine (HH.out _).mono ?_; rintro e u2 ⟨rfl, rfl⟩
    clear HY HH HS2 HE2 HE HS hG4 hG3 hG2 hG1
    cases b2 with
    | false =>
      obtain rfl := n2 rfl
      clear y2 n2
      go_wp2_with fail
      go_ret
      exact retB_mk rfl hb5w
    | true =>
      have Y := y2 rfl
      clear y2 n2
      go_wp2_with fail
      refine (Y.out _ hG5).mono ?_; rintro e w6 ⟨rfl, hb6⟩
      go_wp2_with fail
      go_ret
      exact retB_mk (by simp) (below_step hb6 hb5w hb5w.size)
end Go.Proofs.YtcfeeookjgdkmaaDoor
namespace Go.Proofs.YtcfeeookjgdkmaaDoor.squeezeBack
open Go.ChangeShapes Go.WideShapes Go.ChangeAt Go.RowKit Go.WideMaps Go.WideElems
set_option linter.unusedVariables false
theorem own : ownKnob Tryd.prog.godebug = none := by kernel_rfl
set_option maxRecDepth 100000 in
theorem lifted (os : Os) (started : os.Started) (H : Type) (enc : TypeId × Value → H) :
    ReturnsInHanded {} Tryd.checked os 5 .any (fun w args => (Rows.squeezeBackSpec.pre enc Tryd.prog Tryd.f5 [] false w args ∧ laidMetH Tryd.prog laidL w) ∧ sizedMet enc Tryd.prog Tryd.f5 (OpenSpec.ofChange Rows.squeezeBackSpec) false w args) (Rows.squeezeBackSpec.post enc Tryd.prog Tryd.f5 false true false false) := by
  refine returnsInHanded_of_change_and (C := Tryd.checked) (X := fun w _ => laidMetH Tryd.prog laidL w) (fun _ _ _ hh h => h.of_heap hh) own started (by kernel_rfl) Tryd.func5
    (ChangeSpec.witness_shaped (enc := enc) (C := Tryd.checked) (os := os) (X := fun w _ => laidMetH Tryd.prog laidL w) false (World.doorLaid Tryd.prog 400 os) #[.int .u16 0, .int .u32 0] 8 rfl (World.shaped_of_RefB (by kernel_rfl) (by kernel_rfl)) (by kernel_rfl) (by kernel_rfl) (by kernel_rfl) (door_met os _)) ?_
  intro W base args ds gs before hval0 hW _ _ hL _
  have hval : ∀ (j : Nat) t v, Tryd.f5.params[j]? = some t → args[j]? = some v → Value.okWide Tryd.prog W .any base t v := hval0
  have hW' := hW
  obtain ⟨p, q, hA0, hV, rfl, hfz, hnd⟩ := hW
  have hA : DataW.TrodAll enc Tryd.prog W 0 (fun _ => true) true Tryd.f5.params.toList args.toList ds p := hA0
  rw [Tryd.params5] at hA hval
  obtain ⟨v0, vs0, d0, ds0, p0, q0, hargs, rfl, rfl, h0, r0⟩ := trodAll_cons hA
  obtain ⟨v1, vs1, d1, ds1, p1, q1, rfl, rfl, rfl, h1, r1⟩ := trodAll_cons r0
  obtain ⟨rfl, rfl, rfl⟩ := trodAll_nil r1
  obtain rfl : args = #[v0, v1] := by cases args; simp_all
  obtain ⟨rfl, rfl⟩ := trodVars_none hV
  obtain ⟨a0, rfl, rfl, rfl, w0⟩ := open_int Tryd.underlying22 (hval 0 22 v0 rfl rfl) h0
  obtain ⟨a1, rfl, rfl, rfl, w1⟩ := open_int Tryd.underlying23 (hval 1 23 v1 rfl rfl) h1
  clear hA0 hval0
  simp only [List.append_nil] at hW'
  refine (squeezeBack_walk a0 a1 w0 w1 W (of_laid hL)).mono fun e W' ⟨he, hg⟩ => ?_
  subst he
  exact ⟨_, rfl, post_nums hW' (fun _ _ _ => (trodAll_cons_mk (shut_bool Tryd.underlying4 _) trodAll_mk0)) (fun sp => (trodAll_cons_mk (shut_int Tryd.underlying22 w0) (trodAll_cons_mk (shut_int Tryd.underlying23 w1) trodAll_mk0))) (fun _ => rfl) hg (ok_one (by kernel_rfl) rfl (okWide_bool_mk Tryd.underlying4 _))⟩
theorem over : Rows.SqueezeBackSaid :=
  OpenClaim.holds_of_wide 5 Tryd.f5 rfl rfl rfl rfl rfl rfl rfl ⟨rfl, rfl, rfl, rfl, rfl⟩ rfl rfl rfl rfl rfl (by kernel_rfl) Tryd.func5 (by kernel_rfl)
    (of_decide_eq_true (by kernel_rfl)) (by unfold Func.isWrapper; first | (rw [if_pos (by decide +kernel)]; kernel_rfl) | (rw [if_neg (by decide +kernel)]; exact ⟨rfl, rfl⟩))
    (fun os started H enc _ => lifted os started H enc)
theorem proved : Rows.SqueezeBackCardSaid :=
  Claim7.holds_tied_plain_at .later [] [.data, .data, .wider] true Rows.squeezeBackCard.stood.harness false
    over (fun _ h => by cases h) (by kernel_rfl) (fun _ h => by cases h) squeezeBack_row_tie rfl ⟨rfl, rfl⟩ (by kernel_rfl) rfl
    (fun f fn hf hfn => by
      obtain rfl : f = 5 := Option.some.inj ((show Tryd.prog.funcNamed "tandem/tandemlaw04.SqueezeBack" = some 5 by kernel_rfl).symm.trans hf) |>.symm
      obtain rfl : fn = Tryd.f5 := (Option.some.inj (Tryd.func5.symm.trans hfn)).symm
      exact ⟨by kernel_rfl, fun j t ht => by
        rw [Tryd.params5] at ht
        have hm : t ∈ [22, 23] := by simpa using Array.mem_of_getElem? ht
        have hall : ([22, 23].all fun u => !Tryd.prog.wantsStandIn u) = true := by kernel_rfl
        exact (show Tryd.prog.wantsStandIn t = false by simpa using List.all_eq_true.1 hall t hm)⟩)
    (by kernel_rfl)
#print axioms proved
end Go.Proofs.YtcfeeookjgdkmaaDoor.squeezeBack
