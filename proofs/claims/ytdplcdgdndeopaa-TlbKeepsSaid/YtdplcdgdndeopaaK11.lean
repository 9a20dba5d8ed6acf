/- The code's All, New, Copy: what the six functions must do, they do. -/
import Derived.Test.YtdplcdgdndeopaaK10
import Derived.Test.YtdplcdgdndeopaaShelf
namespace Go.Proofs.Ytdplcdgdndeopaa
open Go.ChangeShapes Go.WideShapes Go.ChangeAt Go.RowKit Go.Sort
set_option linter.unusedVariables false
set_option linter.unusedSimpArgs false
theorem infoT : InfoE 33 44 := ⟨Try.underlying44, by kernel_rfl⟩
set_option maxRecDepth 100000 in
set_option maxHeartbeats 4000000 in
theorem all_q (b m : Nat) (X : St) (w : World) (h : Hid (Tb b m X X w)) : Calls Try.prog 20 #[.pointer (some ⟨b, 0, none⟩)] w (RetL 33 (allS X) w) := by
  have h0 : Hid (OwnE 33 w w.heap.size (.slice none 0 0) (allK X 0)) := World.ownsRow_nil _ _ _ _
  go_enter Try.func20, Try.ntmps20
  go_wp2_with (refine wpList_load_at rfl 57 _ rfl b 0 rfl (psC X) _ h.out.ps Try.underlying57 rfl (info_ps X) ?_)
  go_loopg [3, 10] 8 (fun gg o i wr => ∃ (k : Nat) (v : Value), k + gg = 8 ∧ v = o ∧ i = .int .i64 k ∧ Hid (OwnE 33 wr w.heap.size v (allK X k) ∧ Below w.heap.size w wr))
  case atStart => exact ⟨0, _, rfl, rfl, rfl, h0.out, Below.refl _ _⟩
  case round =>
    obtain ⟨k, v, hk, rfl, rfl, hr⟩ := hrel
    clear h h0
    cases gk with
    | zero =>
      obtain rfl : k = 8 := by omega
      go_wp2_with fail
      go_ret
      exact ⟨_, rfl, hr.out.1, hr.out.2⟩
    | succ gg =>
      have h8 : k < 8 := by omega
      have hlt : (k : Int) < 8 := by omega
      obtain ⟨ad, sp, lf, lv, gl, hx, hix⟩ := ps_ix5 X k h8
      have AY := Lib.hid (allK_y X k)
      have AN := Lib.hid (allK_n X k)
      rw [hx] at AY
      have HL := Lib.hid (allK_len X k)
      clear hx
      obtain ⟨iv, hiv⟩ : ∃ iv, X.is k = iv := ⟨_, rfl⟩
      rw [hiv] at hix
      have HI := Lib.hid hiv
      clear hiv
      obtain ⟨u, hu⟩ : ∃ u, u = wr.alloc (Obj.cells #[.bool iv, .int .u64 (ad : Nat), .int .i64 lv, .int .u64 (sp : Nat), .bool gl, .int .u64 (lf : Nat)] 56) := ⟨_, rfl⟩
      have HU := Lib.hid hu
      have hub : Below wr.heap.size wr u := by rw [hu]; exact (Below.refl _ _).alloc (Nat.le_refl _) _
      have RU : Hid (Row u wr.heap.size 56 #[.bool iv, .int .u64 (ad : Nat), .int .i64 lv, .int .u64 (sp : Nat), .bool gl, .int .u64 (lf : Nat)]) := by show Row _ _ _ _; rw [hu]; exact row_new _ _ _
      have HR := Lib.hid (show OwnE 33 u w.heap.size v (allK X k) ∧ Below w.heap.size w u ∧ w.heap.size ≤ u.heap.size from ⟨hr.out.1.below hub, below_step hub hr.out.2 hr.out.2.size, Nat.le_trans hr.out.2.size hub.size⟩)
      clear hu hub
      go_upto_region 5 with fail
      rw [show wr.alloc (Obj.cells #[.bool iv, .int .u64 (ad : Nat), .int .i64 lv, .int .u64 (sp : Nat), .bool gl, .int .u64 (lf : Nat)] 56) = u from HU.out.symm]
      obtain ⟨g, hg⟩ : ∃ g, wr.heap.size = g := ⟨_, rfl⟩
      rw [hg] at RU ⊢
      clear HU hg hr hix
      obtain ⟨k1, k2, k3, k4, k5⟩ := row6 RU.out
      have k0 : u.cell? ⟨g, 0, none⟩ = some (.bool iv) := (RU.out.cell 0).trans rfl
      cases iv
      · have F := Lib.hid (AN.out HI.out)
        go_wp2_with fail
        go_roundg gg
        case measure => omega
        exact ⟨k + 1, v, by omega, rfl, by push_cast; rfl, by rw [F.out]; exact ⟨HR.out.1, HR.out.2.1⟩⟩
      · have F := Lib.hid (AY.out HI.out)
        have hba : Below u.heap.size u (u.alloc (Obj.cells #[.int .u64 (ad : Nat), .int .i64 lv, .int .u64 (sp : Nat), .bool gl, .int .u64 (lf : Nat)] 33)) := (Below.refl _ _).alloc (Nat.le_refl _) _
        have HBA := Lib.hid hba
        clear hba AY AN
        go_wp2_with (refine append_e infoT rfl _ _ rfl w.heap.size v (allK X k) rfl (HR.out.1.below HBA.out) (by have := HL.out; omega) u.heap.size (.slice (some ⟨u.heap.size, 0, none⟩) 1 1) [⟨ad, lv, sp, gl, lf⟩] rfl (own_built _ u u.heap.size 1 _ [⟨ad, lv, sp, gl, lf⟩] (Nat.le_refl _) rfl (by decide) rfl) ⟨Nat.one_pos, (by decide : 1 ≤ 500)⟩ (Nat.le_trans HR.out.2.2 HBA.out.size) (by have := HL.out; show ((allK X k).length + 1) * 40 ≤ _; omega) ?_; intro v2 w2 q1 q2 q3)
        have hb2 : Below w.heap.size u w2 := below_step ((HR.out.1.below HBA.out).grown q2 (Nat.le_trans HR.out.2.2 HBA.out.size)) (HBA.out.mono HR.out.2.2) (Nat.le_refl _)
        have HR5 : Hid (OwnE 33 w2 w.heap.size v2 (allK X (k + 1)) ∧ Below w.heap.size w w2) := ⟨by rw [F.out]; exact q1, HR.out.2.1.trans hb2⟩
        clear q1 q2 q3 hb2 k0 k1 k2 k3 k4 k5 HBA
        go_wp2_with fail
        go_roundg gg
        case measure => omega
        exact ⟨k + 1, v2, by omega, rfl, by push_cast; rfl, HR5.out⟩
end Go.Proofs.Ytdplcdgdndeopaa
