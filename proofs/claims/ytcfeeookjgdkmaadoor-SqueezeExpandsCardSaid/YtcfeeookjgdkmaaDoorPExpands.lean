/- PROVED: 'SqueezeExpands' returns true whatever the half is: what it stands for is as the document's own answer. Condition: the package's three tables hold what the program's text lays. -/
import Derived.Test.YtcfeeookjgdkmaaDoorF2
import Derived.Test.YtcfeeookjgdkmaaDoorM4
import Derived.Test.YtcfeeookjgdkmaaDoorCards
import Derived.Test.YtcfeeookjgdkmaaDoorTie
import Derived.SevenTiedAt
import Derived.Test.YtcfeeookjgdkmaaDoorR8
namespace Go.Proofs.YtcfeeookjgdkmaaDoor
open Go.ChangeShapes Go.WideShapes Go.ChangeAt Go.RowKit
set_option linter.unusedVariables false
set_option linter.unusedSimpArgs false
set_option maxRecDepth 100000 in
set_option maxHeartbeats 1000000 in
theorem squeezeExpands_walk (a0 : Int) (w0 : (Lit.int .u16 a0).wf = true) (w : World) (hg : G w) : Calls Tryd.prog 3 #[.int .u16 a0] w (RetB true w) := by
  obtain ⟨h, rfl, hh⟩ := u16_of_wf w0
  clear w0
  have hG : Hid (G w) := hg
  clear hg
  have HE := Lib.hid (fun v g => Expand_c h hh v g)
  have HD := Lib.hid (fun v => ExpandD_c h hh v)
  have HS := Lib.hid (fun v => Short_c h hh v)
  have HT := Lib.hid (fun v => ShortD_c h hh v)
  rw [expand_eq hh.out] at HE
  dsimp only at HE
  generalize (expandD h != 0) = b at *
  generalize expandD h = y at *
  generalize decide (h % 4 < 3) = s at *
  go_enter Tryd.func3, Tryd.ntmps3
  go_wp2_with fail
  refine (HE.out _ hG).mono ?_; rintro e w1 ⟨rfl, hb1⟩
  go_wp2_with fail
  refine (HD.out _).mono ?_; rintro e w2 ⟨rfl, hb2⟩
  have hb2w : Below w.heap.size w w2 := below_step hb2 hb1 hb1.size
  have hG2 := Lib.hid (g_below hG.out hb2w hG.out.1)
  go_wp2_with fail
  refine (fixed_c _ hG2).mono ?_; rintro e w3 ⟨rfl, hb3⟩
  have hb3w : Below w.heap.size w w3 := below_step hb3 hb2w hb2w.size
  go_wp2_with fail
  refine (HS.out _).mono ?_; rintro e u1 ⟨rfl, rfl⟩
  go_wp2_with fail
  refine (HT.out _).mono ?_; rintro e u2 ⟨rfl, rfl⟩
  go_wp2_with fail
  go_ret
  exact retB_mk (by simp) hb3w
end Go.Proofs.YtcfeeookjgdkmaaDoor
namespace Go.Proofs.YtcfeeookjgdkmaaDoor.squeezeExpands
open Go.ChangeShapes Go.WideShapes Go.ChangeAt Go.RowKit Go.WideMaps Go.WideElems
set_option linter.unusedVariables false
theorem own : ownKnob Tryd.prog.godebug = none := by kernel_rfl
set_option maxRecDepth 100000 in
theorem lifted (os : Os) (started : os.Started) (H : Type) (enc : TypeId × Value → H) :
    ReturnsInHanded {} Tryd.checked os 3 .any (fun w args => (Rows.squeezeExpandsSpec.pre enc Tryd.prog Tryd.f3 [] false w args ∧ laidMetH Tryd.prog laidL w) ∧ sizedMet enc Tryd.prog Tryd.f3 (OpenSpec.ofChange Rows.squeezeExpandsSpec) false w args) (Rows.squeezeExpandsSpec.post enc Tryd.prog Tryd.f3 false true false false) := by
  refine returnsInHanded_of_change_and (C := Tryd.checked) (X := fun w _ => laidMetH Tryd.prog laidL w) (fun _ _ _ hh h => h.of_heap hh) own started (by kernel_rfl) Tryd.func3
    (ChangeSpec.witness_shaped (enc := enc) (C := Tryd.checked) (os := os) (X := fun w _ => laidMetH Tryd.prog laidL w) false (World.doorLaid Tryd.prog 400 os) #[.int .u16 0] 8 rfl (World.shaped_of_RefB (by kernel_rfl) (by kernel_rfl)) (by kernel_rfl) (by kernel_rfl) (by kernel_rfl) (door_met os _)) ?_
  intro W base args ds gs before hval0 hW _ _ hL _
  have hval : ∀ (j : Nat) t v, Tryd.f3.params[j]? = some t → args[j]? = some v → Value.okWide Tryd.prog W .any base t v := hval0
  have hW' := hW
  obtain ⟨p, q, hA0, hV, rfl, hfz, hnd⟩ := hW
  have hA : DataW.TrodAll enc Tryd.prog W 0 (fun _ => true) true Tryd.f3.params.toList args.toList ds p := hA0
  rw [Tryd.params3] at hA hval
  obtain ⟨v0, vs0, d0, ds0, p0, q0, hargs, rfl, rfl, h0, r0⟩ := trodAll_cons hA
  obtain ⟨rfl, rfl, rfl⟩ := trodAll_nil r0
  obtain rfl : args = #[v0] := by cases args; simp_all
  obtain ⟨rfl, rfl⟩ := trodVars_none hV
  obtain ⟨a0, rfl, rfl, rfl, w0⟩ := open_int Tryd.underlying22 (hval 0 22 v0 rfl rfl) h0
  clear hA0 hval0
  simp only [List.append_nil] at hW'
  refine (squeezeExpands_walk a0 w0 W (of_laid hL)).mono fun e W' ⟨he, hg⟩ => ?_
  subst he
  exact ⟨_, rfl, post_nums hW' (fun _ _ _ => (trodAll_cons_mk (shut_bool Tryd.underlying4 _) trodAll_mk0)) (fun sp => (trodAll_cons_mk (shut_int Tryd.underlying22 w0) trodAll_mk0)) (fun _ => rfl) hg (ok_one (by kernel_rfl) rfl (okWide_bool_mk Tryd.underlying4 _))⟩
theorem over : Rows.SqueezeExpandsSaid :=
  OpenClaim.holds_of_wide 3 Tryd.f3 rfl rfl rfl rfl rfl rfl rfl ⟨rfl, rfl, rfl, rfl, rfl⟩ rfl rfl rfl rfl rfl (by kernel_rfl) Tryd.func3 (by kernel_rfl)
    (of_decide_eq_true (by kernel_rfl)) (by unfold Func.isWrapper; first | (rw [if_pos (by decide +kernel)]; kernel_rfl) | (rw [if_neg (by decide +kernel)]; exact ⟨rfl, rfl⟩))
    (fun os started H enc _ => lifted os started H enc)
theorem proved : Rows.SqueezeExpandsCardSaid :=
  Claim7.holds_tied_plain_at .later [] [.data, .data, .wider] true Rows.squeezeExpandsCard.stood.harness false
    over (fun _ h => by cases h) (by kernel_rfl) (fun _ h => by cases h) squeezeExpands_row_tie rfl ⟨rfl, rfl⟩ (by kernel_rfl) rfl
    (fun f fn hf hfn => by
      obtain rfl : f = 3 := Option.some.inj ((show Tryd.prog.funcNamed "tandem/tandemlaw04.SqueezeExpands" = some 3 by kernel_rfl).symm.trans hf) |>.symm
      obtain rfl : fn = Tryd.f3 := (Option.some.inj (Tryd.func3.symm.trans hfn)).symm
      exact ⟨by kernel_rfl, fun j t ht => by
        rw [Tryd.params3] at ht
        have hm : t ∈ [22] := by simpa using Array.mem_of_getElem? ht
        have hall : ([22].all fun u => !Tryd.prog.wantsStandIn u) = true := by kernel_rfl
        exact (show Tryd.prog.wantsStandIn t = false by simpa using List.all_eq_true.1 hall t hm)⟩)
    (by kernel_rfl)
#print axioms proved
end Go.Proofs.YtcfeeookjgdkmaaDoor.squeezeExpands
