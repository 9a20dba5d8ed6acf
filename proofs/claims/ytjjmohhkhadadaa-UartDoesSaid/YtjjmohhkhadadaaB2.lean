/- take, Give, withoutRoom, Sent, Copy. -/
import Derived.Test.YtjjmohhkhadadaaB1
namespace Go.Proofs.Ytjjmohhkhadadaa
open Go.ChangeShapes Go.WideShapes Go.ChangeAt Go.RowKit
set_option linter.unusedVariables false
set_option linter.unusedSimpArgs false
section
variable {R W T : Nat → Nat → Prop} {w w' : World} {b : Nat} {U : Ur} {sa : Option Addr} {n c g o : Nat} {ta : Option Addr} {m d h p : Nat}
theorem At.done0 (x : At R W w b U sa n c g o ta m d h p) {w2 : World} {a' : Option Addr} {n' c' g' o' : Nat} {L' : List Nat} (hc : Ch (Spare g o n c) w w2) (hs : SlA w2 a' n' c' g' o' L') (hn : n ≤ n') (hm : Mv w g o c g' o' c') (hok : OkU { U with q := L' }) :
    IsU (Up R w (w2.setCell ⟨b, 0, none⟩ (.slice a' n' c'))) (Up W w (w2.setCell ⟨b, 0, none⟩ (.slice a' n' c'))) (w2.setCell ⟨b, 0, none⟩ (.slice a' n' c')) b { U with q := L' } ∧ Ch W w (w2.setCell ⟨b, 0, none⟩ (.slice a' n' c')) := by
  refine ⟨?_, ?_⟩
  · rw [up_set, up_set]; exact ⟨_, _, _, _, _, _, _, _, _, _, x.came hc hs hn hm hok⟩
  · exact (hc.mono (spare_w x)).trans (Ch.set W w2 b 0 _ (x.wb 0) (by rw [(x.after0 hc).1]; rfl)) (fun _ _ h => .inl h)
theorem At.done4 (x : At R W w b U sa n c g o ta m d h p) {w2 : World} {a' : Option Addr} {n' c' g' o' : Nat} {L' : List Nat} (hc : Ch (Spare h p m d) w w2) (hs : SlA w2 a' n' c' g' o' L') (hn : m ≤ n') (hm : Mv w h p d g' o' c') :
    IsU (Up R w (w2.setCell ⟨b, 4, none⟩ (.slice a' n' c'))) (Up W w (w2.setCell ⟨b, 4, none⟩ (.slice a' n' c'))) (w2.setCell ⟨b, 4, none⟩ (.slice a' n' c')) b { U with sent := L' } ∧ Ch W w (w2.setCell ⟨b, 4, none⟩ (.slice a' n' c')) := by
  refine ⟨?_, ?_⟩
  · rw [up_set, up_set]; exact ⟨_, _, _, _, _, _, _, _, _, _, x.went hc hs hn hm⟩
  · exact (hc.mono (spare_s x)).trans (Ch.set W w2 b 4 _ (x.wb 4) (by rw [(x.after4 hc).1]; rfl)) (fun _ _ h => .inl h)
end
theorem cut_1 (sa : Option Addr) : sa = if 1 = 1 then sa else sa.map (·.add 1) := rfl
theorem take_c (R W : Nat → Nat → Prop) (b : Nat) (U : Ur) (w : World) (hU : Hid (IsU R W w b U)) : Calls Try.prog 24 #[.pointer (some ⟨b, 0, none⟩)] w (RetA (.int .u8 (U.q.headD 0 : Nat)) b { U with q := U.q.tail } R W w) := by
  obtain ⟨sa, n, c, g, o, ta, m, d, h, p, hA⟩ := hU.out
  have c0 := hA.c0; have f0 := hA.fz 0 (by decide)
  have hl := hA.q.len
  have hle := hA.q.le
  have hW := hA.wb 0
  have hS := Lib.hid (hA.cells 0 (by decide))
  cases n with
  | zero =>
    have hq : U.q = [] := List.length_eq_zero_iff.1 hl
    have HU : Hid (IsU (Up R w w) (Up W w w) w b { U with q := U.q.tail }) := by
      rw [show ({ U with q := U.q.tail } : Ur) = U by rw [hq]; cases U; simp_all]
      exact hA.up w
    have HV : Hid (U.q.headD 0 = 0) := by rw [hq]; rfl
    clear hA hl hle hW hS hq f0
    go_enter Try.func24, Try.ntmps24
    go_wp2_with fail
    go_ret
    exact ⟨by rw [HV.out]; rfl, HU.out, Ch.refl _ _⟩
  | succ n =>
    obtain ⟨ea, hg⟩ := hA.q.addr (by omega)
    obtain ⟨x, l, hq⟩ : ∃ x l, U.q = x :: l := by
      cases hq : U.q with
      | nil => rw [hq] at hl; cases hl
      | cons x l => exact ⟨x, l, rfl⟩
    have q0 := hA.q.cell 0 (by omega)
    rw [hq] at q0
    have q0' : w.cell? ⟨g, o, none⟩ = some (.int .u8 (x : Nat)) := q0
    have HV : Hid (U.q.headD 0 = x) := by rw [hq]; rfl
    have x8 : x < 256 := hA.ok.q x (by rw [hq]; exact List.mem_cons_self)
    subst ea
    by_cases h1 : c = 1
    · subst h1
      obtain rfl : n = 0 := by omega
      have HA := Lib.hid (hA.cut (some ⟨g, o, none⟩) rfl)
      have HC : Hid (Ch W w (w.setCell ⟨b, 0, none⟩ (.slice (some ⟨g, o, none⟩) 0 0))) := Ch.set W w b 0 _ hW hS.out
      clear hA hl hle hW hS hq q0 hg
      go_enter Try.func24, Try.ntmps24
      go_wp2_with fail
      go_ret
      exact ⟨by rw [HV.out]; rfl, HA.out.up w, HC.out⟩
    · obtain ⟨c, rfl⟩ : ∃ k, c = k + 2 := ⟨c - 2, by omega⟩
      have HA := Lib.hid (hA.cut (some ⟨g, o + 1, none⟩) (by rw [if_neg (by omega)]; rfl))
      have HC : Hid (Ch W w (w.setCell ⟨b, 0, none⟩ (.slice (some ⟨g, o + 1, none⟩) n (c + 1)))) := Ch.set W w b 0 _ hW hS.out
      clear hA hl hW hS hq q0 hg h1
      go_enter Try.func24, Try.ntmps24
      go_wp2_with fail
      go_ret
      exact ⟨by rw [HV.out]; rfl, HA.out.up w, HC.out⟩
theorem give_c (R W : Nat → Nat → Prop) (b x : Nat) (U : Ur) (w : World) (hU : Hid (IsU R W w b U)) (hx : Hid (x < 256)) : Calls Try.prog 16 #[.pointer (some ⟨b, 0, none⟩), .int .u8 x] w (RetA (.tuple #[]) b (giveF U x) R W w) := by
  obtain ⟨sa, n, c, g, o, ta, m, d, h, p, hA⟩ := hU.out
  have c0 := hA.c0; have c1 := hA.c1; have f0 := hA.fz 0 (by decide); have f1 := hA.fz 1 (by decide)
  have hl := hA.q.len
  have h16 := hA.ok.len
  by_cases hn : n = 16
  · subst hn
    have HF : Hid (giveF U x = { U with lost := true }) := by show _ = _; unfold giveF; rw [if_pos hl]
    have HA := Lib.hid (hA.lost true)
    have HC : Hid (Ch W w (w.setCell ⟨b, 1, none⟩ (.bool true))) := Ch.set W w b 1 _ (hA.wb 1) (hA.cells 1 (by decide))
    clear hA hl h16
    go_enter Try.func16, Try.ntmps16
    go_wp2_with fail
    refine bodyPost_ret (v := .tuple #[]) (by simp [results, Try.results16, go_sem] <;> (first | rfl | (repeat' (first | rfl | apply And.intro)))) rfl ⟨rfl, ?_, HC.out⟩
    rw [HF.out]; exact HA.out.up w
  · have HF : Hid (giveF U x = { U with q := U.q ++ [x] }) := by show _ = _; unfold giveF; rw [if_neg (by omega)]
    have HOK : Hid (OkU { U with q := U.q ++ [x] }) := by have := hA.ok.give x hx.out; rw [HF.out] at this; exact this
    have hn' : ((n : Int) == 16) = false := by simp; omega
    have n46 : n < 70368744177664 := by omega
    have HA := Lib.hid hA
    clear hA hl h16 hn c1 f1
    go_enter Try.func16, Try.ntmps16
    go_wp2_with (at_builtin; refine append_b rfl _ _ rfl (HA.out.q.below (below_one w _)) rfl n46 x w.heap.size rfl (by rw [World.cell?_alloc_at _ _ _ _ rfl]; rfl) ?_; intro a' c' g' o' w' q1 q2 q3; have HQ1 := Lib.hid q1; have HQ2 := Lib.hid (ch_one q2); have HQ3 := Lib.hid (mv_of (w := w) q3 (by rw [sz_alloc]; omega)); clear q1 q2 q3; have k0 := (HA.out.after0 HQ2.out).1; have k1 := (HA.out.after0 HQ2.out).2)
    go_end0
    have hd := HA.out.done0 HQ2.out HQ1.out (Nat.le_succ _) HQ3.out HOK.out
    refine ⟨rfl, ?_, hd.2⟩
    rw [HF.out]; exact hd.1
end Go.Proofs.Ytjjmohhkhadadaa
