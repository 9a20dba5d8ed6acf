/- Taken from other texts: what is needed of them. -/
import Derived.Test.YthhlcchofilimaaGreatDoorUA
import Derived.Test.YthhlcchofilimaaGreatDoorUB
import Derived.Test.YthhlcchofilimaaGreatDoorUC
import Derived.Test.YthhlcchofilimaaGreatDoorUD
import Derived.Test.YthhlcchofilimaaGreatDoorUE
import Derived.Test.YthhlcchofilimaaGreatDoorUG
import Derived.Laws.Bits64
import Derived.Laws.Bits64b
namespace Go.Proofs.YthhlcchofilimaaGreatDoor.U.T
set_option linter.unusedVariables false
set_option linter.unusedSimpArgs false
set_option maxRecDepth 20000
set_option maxRecDepth 20000
open Go.ChangeShapes Go.WideShapes Go.ChangeAt Go.RowKit
def RetA (v : Value) (b : Nat) (U : Ur) (R W : Nat → Nat → Prop) (w : World) (e : Ending) (w' : World) : Prop := e = .returned v ∧ IsU (Up R w w') (Up W w w') w' b U ∧ Ch W w w'
section
variable {R W T : Nat → Nat → Prop} {w w' : World} {b : Nat} {U : Ur} {sa : Option Addr} {n c g o : Nat} {ta : Option Addr} {m d h p : Nat}
theorem At.up (x : At R W w' b U sa n c g o ta m d h p) (w : World) : IsU (Up R w w') (Up W w w') w' b U :=
  ⟨_, _, _, _, _, _, _, _, _, _, x.mono (fun _ _ => .inl) (fun _ _ => .inl) (up_wr x _ _) (fun k j hk => hk.elim (x.rlt k j) (·.2))⟩
theorem up_set (R : Nat → Nat → Prop) (w w2 : World) (q : Addr) (v : Value) : Up R w (w2.setCell q v) = Up R w w2 := by unfold Up; simp only [sz_set]
theorem spare_w (x : At R W w b U sa n c g o ta m d h p) : ∀ i j, Spare g o n c i j → W i j := fun i j ⟨e, k, h1, h2, e2⟩ => by subst e e2; exact x.wq k h1 h2
theorem spare_s (x : At R W w b U sa n c g o ta m d h p) : ∀ i j, Spare h p m d i j → W i j := fun i j ⟨e, k, h1, h2, e2⟩ => by subst e e2; exact x.ws k h1 h2
end
theorem below_one (w : World) (o : Obj) : Below w.heap.size w (w.alloc o) := (Below.refl _ _).alloc (Nat.le_refl _) o
def RetN (U : Ur) (W : World) (e : Ending) (w' : World) : Prop := ∃ b R Q, e = .returned (.pointer (some ⟨b, 0, none⟩)) ∧ IsU R Q w' b U ∧ (∀ k j, R k j → W.heap.size ≤ k) ∧ Below W.heap.size W w'
theorem new_c (w : World) : Calls Tryz.prog 55 #[] w (RetN U0 w) := by
  go_enter Tryz.func55, Tryz.ntmps55
  go_wp2_with fail
  go_ret
  refine ⟨_, fun k _ => k = w.heap.size, fun k _ => k = w.heap.size, rfl, ⟨none, 0, 0, 0, 0, none, 0, 0, 0, 0, ?_⟩, fun k j hk => by rw [hk]; exact Nat.le_refl _, below_one _ _⟩
  refine ⟨by rw [sz_alloc]; omega, ?_, ?_, ?_, ?_, ?_, fun j hj => by rw [World.frozen?_alloc_at _ _ _ _ rfl], slA_nil _ _ _ _, slA_nil _ _ _ _, okU0, fun j => rfl, fun j => rfl, fun i hi => by omega, fun i _ hi => by omega, fun i hi => by omega, fun i _ hi => by omega, fun _ _ h => h, fun k j hk => by rw [hk, sz_alloc]; omega, fun h => by omega, fun h => by omega, fun h => by omega⟩ <;> (rw [World.cell?_alloc_at _ _ _ _ rfl]; rfl)
def thereB (a : Nat) (z : Int) : Bool := decide (a < 8) && decide (z = 1)
theorem there_c (a : Nat) (z : Int) (w : World) : Calls Tryz.prog 139 #[.int .u64 a, .int .i64 z] w (fun e w' => e = .returned (.bool (thereB a z)) ∧ w' = w) := by
  go_enter Tryz.func139, Tryz.ntmps139
  by_cases ha : a < 8
  · have ha' : (a : Int) < 8 := by omega
    by_cases hz : z = 1
    · subst hz
      have HB : Hid (thereB a 1 = true) := by show _ = _; unfold thereB; rw [decide_eq_true ha]; rfl
      clear ha
      go_wp2_with fail
      go_ret
      exact ⟨by rw [HB.out]; rfl, rfl⟩
    · have hz' : (z == 1) = false := by simpa using hz
      have HB : Hid (thereB a z = false) := by show _ = _; unfold thereB; rw [decide_eq_false hz, Bool.and_false]
      clear ha
      go_wp2_with fail
      go_ret
      exact ⟨by rw [HB.out]; rfl, rfl⟩
  · have ha' : ¬ (a : Int) < 8 := by omega
    have HB : Hid (thereB a z = false) := by show _ = _; unfold thereB; rw [decide_eq_false ha, Bool.false_and]
    clear ha
    go_wp2_with fail
    go_ret
    exact ⟨by rw [HB.out]; rfl, rfl⟩
theorem up_c (R W : Nat → Nat → Prop) (b : Nat) (U : Ur) (w : World) (hU : Hid (IsU R W w b U)) : Calls Tryz.prog 92 #[.pointer (some ⟨b, 0, none⟩)] w (fun e w' => e = .returned (.bool (upF U)) ∧ w' = w) := by
  obtain ⟨sa, n, c, g, o, ta, m, d, h, p, hA⟩ := hU.out
  have c0 := hA.c0; have c2 := hA.c2
  have hl := hA.q.len
  have hw := hA.ok.want
  obtain ⟨x, hx⟩ : ∃ x, U.want = x := ⟨_, rfl⟩
  rw [hx] at c2 hw
  clear hA
  go_enter Tryz.func92, Tryz.ntmps92
  have : x = 0 ∨ x = 1 := by omega
  rcases this with rfl | rfl
  · have HB : Hid (upF U = false) := by show _ = _; unfold upF; rw [hx]; rfl
    clear hx hl hw
    go_wp2_with fail
    go_ret
    exact ⟨by rw [HB.out]; rfl, rfl⟩
  · by_cases h0 : n = 0
    · subst h0
      have HB : Hid (upF U = false) := by show _ = _; unfold upF; rw [hx, hl]; rfl
      clear hx hl hw
      go_wp2_with fail
      go_ret
      exact ⟨by rw [HB.out]; rfl, rfl⟩
    · have HB : Hid (upF U = true) := by show _ = _; unfold upF; rw [hx, hl, decide_eq_true (Nat.pos_of_ne_zero h0)]; rfl
      have h0' : (0 : Int) < n := by omega
      have HD : Hid (decide (0 < n) = true) := decide_eq_true (Nat.pos_of_ne_zero h0)
      clear hx hl hw h0
      go_wp2_with fail
      go_ret
      refine ⟨?_, rfl⟩
      show Ending.returned (.bool (decide (0 < n))) = _
      rw [HD.out, HB.out]
theorem cause_c (R W : Nat → Nat → Prop) (b : Nat) (U : Ur) (w : World) (hU : Hid (IsU R W w b U)) : Calls Tryz.prog 141 #[.pointer (some ⟨b, 0, none⟩)] w (fun e w' => e = .returned (.int .u64 ((bif upF U then 4 else 1 : Nat) : Nat)) ∧ w' = w) := by
  go_enter Tryz.func141, Tryz.ntmps141
  have hc := up_c R W b U w hU
  cases hx : upF U
  · rw [hx] at hc
    have HC := Lib.hid hc; clear hc hx
    go_wp2_with fail
    refine HC.out.mono ?_; rintro e w1 ⟨rfl, h1⟩
    subst h1
    go_wp2_with fail
    go_ret
    exact ⟨rfl, rfl⟩
  · rw [hx] at hc
    have HC := Lib.hid hc; clear hc hx
    go_wp2_with fail
    refine HC.out.mono ?_; rintro e w1 ⟨rfl, h1⟩
    subst h1
    go_wp2_with fail
    go_ret
    exact ⟨rfl, rfl⟩
theorem state_c (R W : Nat → Nat → Prop) (b : Nat) (U : Ur) (w : World) (hU : Hid (IsU R W w b U)) : Calls Tryz.prog 142 #[.pointer (some ⟨b, 0, none⟩)] w (RetA (.int .u64 (stF U : Nat)) b { U with lost := false } R W w) := by
  obtain ⟨sa, n, c, g, o, ta, m, d, h, p, hA⟩ := hU.out
  have c0 := hA.c0; have c1 := hA.c1; have f1 := hA.fz 1 (by decide)
  have hl := hA.q.len
  have hW := hA.wb 1
  have hS := Lib.hid (hA.cells 1 (by decide))
  have HL := Lib.hid (hA.lost false)
  have HC : Hid (Ch W w (w.setCell ⟨b, 1, none⟩ (.bool false))) := Ch.set W w b 1 _ hW hS.out
  obtain ⟨x, hx⟩ : ∃ x, U.lost = x := ⟨_, rfl⟩
  rw [hx] at c1
  clear hA hW
  go_enter Tryz.func142, Tryz.ntmps142
  by_cases h0 : n = 0
  · subst h0
    cases x
    · have HV : Hid (stF U = 96) := by show _ = _; unfold stF; rw [hx, hl]; rfl
      clear hx hl
      go_wp2_with fail
      go_ret
      exact ⟨by rw [HV.out]; rfl, HL.out.up w, HC.out⟩
    · have HV : Hid (stF U = 98) := by show _ = _; unfold stF; rw [hx, hl]; rfl
      clear hx hl
      go_wp2_with fail
      go_ret
      exact ⟨by rw [HV.out]; rfl, HL.out.up w, HC.out⟩
  · have h0' : (0 : Int) < n := by omega
    cases x
    · have HV : Hid (stF U = 97) := by show _ = _; unfold stF; rw [hx, hl, decide_eq_true (Nat.pos_of_ne_zero h0)]; rfl
      clear hx hl h0
      go_wp2_with fail
      go_ret
      exact ⟨by rw [HV.out]; rfl, HL.out.up w, HC.out⟩
    · have HV : Hid (stF U = 99) := by show _ = _; unfold stF; rw [hx, hl, decide_eq_true (Nat.pos_of_ne_zero h0)]; rfl
      clear hx hl h0
      go_wp2_with fail
      go_ret
      exact ⟨by rw [HV.out]; rfl, HL.out.up w, HC.out⟩
end Go.Proofs.YthhlcchofilimaaGreatDoor.U.T
namespace Go.Proofs.YthhlcchofilimaaGreatDoor.U.T
set_option linter.unusedVariables false
set_option linter.unusedSimpArgs false
set_option maxRecDepth 20000
set_option maxRecDepth 20000
open Go.ChangeShapes Go.WideShapes Go.ChangeAt Go.RowKit
section
variable {R W T : Nat → Nat → Prop} {w w' : World} {b : Nat} {U : Ur} {sa : Option Addr} {n c g o : Nat} {ta : Option Addr} {m d h p : Nat}
end
theorem take_c (R W : Nat → Nat → Prop) (b : Nat) (U : Ur) (w : World) (hU : Hid (IsU R W w b U)) : Calls Tryz.prog 140 #[.pointer (some ⟨b, 0, none⟩)] w (RetA (.int .u8 (U.q.headD 0 : Nat)) b { U with q := U.q.tail } R W w) := by
  obtain ⟨sa, n, c, g, o, ta, m, d, h, p, hA⟩ := hU.out
  have c0 := hA.c0; have f0 := hA.fz 0 (by decide)
  have hl := hA.q.len
  have hle := hA.q.le
  have hW := hA.wb 0
  have hS := Lib.hid (hA.cells 0 (by decide))
  cases n with
  | zero =>
    have hq : U.q = [] := List.length_eq_zero_iff.1 hl
    have HU : Hid (IsU (Up R w w) (Up W w w) w b { U with q := U.q.tail }) := by
      rw [show ({ U with q := U.q.tail } : Ur) = U by rw [hq]; cases U; simp_all]
      exact hA.up w
    have HV : Hid (U.q.headD 0 = 0) := by rw [hq]; rfl
    clear hA hl hle hW hS hq f0
    go_enter Tryz.func140, Tryz.ntmps140
    go_wp2_with fail
    go_ret
    exact ⟨by rw [HV.out]; rfl, HU.out, Ch.refl _ _⟩
  | succ n =>
    obtain ⟨ea, hg⟩ := hA.q.addr (by omega)
    obtain ⟨x, l, hq⟩ : ∃ x l, U.q = x :: l := by
      cases hq : U.q with
      | nil => rw [hq] at hl; cases hl
      | cons x l => exact ⟨x, l, rfl⟩
    have q0 := hA.q.cell 0 (by omega)
    rw [hq] at q0
    have q0' : w.cell? ⟨g, o, none⟩ = some (.int .u8 (x : Nat)) := q0
    have HV : Hid (U.q.headD 0 = x) := by rw [hq]; rfl
    have x8 : x < 256 := hA.ok.q x (by rw [hq]; exact List.mem_cons_self)
    subst ea
    by_cases h1 : c = 1
    · subst h1
      obtain rfl : n = 0 := by omega
      have HA := Lib.hid (hA.cut (some ⟨g, o, none⟩) rfl)
      have HC : Hid (Ch W w (w.setCell ⟨b, 0, none⟩ (.slice (some ⟨g, o, none⟩) 0 0))) := Ch.set W w b 0 _ hW hS.out
      clear hA hl hle hW hS hq q0 hg
      go_enter Tryz.func140, Tryz.ntmps140
      go_wp2_with fail
      go_ret
      exact ⟨by rw [HV.out]; rfl, HA.out.up w, HC.out⟩
    · obtain ⟨c, rfl⟩ : ∃ k, c = k + 2 := ⟨c - 2, by omega⟩
      have HA := Lib.hid (hA.cut (some ⟨g, o + 1, none⟩) (by rw [if_neg (by omega)]; rfl))
      have HC : Hid (Ch W w (w.setCell ⟨b, 0, none⟩ (.slice (some ⟨g, o + 1, none⟩) n (c + 1)))) := Ch.set W w b 0 _ hW hS.out
      clear hA hl hW hS hq q0 hg h1
      go_enter Tryz.func140, Tryz.ntmps140
      go_wp2_with fail
      go_ret
      exact ⟨by rw [HV.out]; rfl, HA.out.up w, HC.out⟩
end Go.Proofs.YthhlcchofilimaaGreatDoor.U.T
namespace Go.Proofs.YthhlcchofilimaaGreatDoor.U.T
set_option linter.unusedVariables false
set_option linter.unusedSimpArgs false
set_option maxRecDepth 20000
set_option maxRecDepth 20000
open Go.ChangeShapes Go.WideShapes Go.ChangeAt Go.RowKit
theorem room_c (w0 w : World) (a : Option Addr) (n c g o : Nat) (L : List Nat) (h : Hid (SlA w0 a n c g o L)) : Calls Tryz.prog 93 #[.slice a n c] w (fun e w' => ∃ a', e = .returned (.slice a' n n) ∧ SlA w0 a' n n g o L ∧ w' = w) := by
  have hle := h.out.le
  by_cases h0 : n = 0
  · subst h0
    go_enter Tryz.func93, Tryz.ntmps93
    go_wp2_with fail
    go_ret
    exact ⟨_, rfl, h.out.full, rfl⟩
  · obtain ⟨e, hg⟩ := h.out.addr (by omega)
    subst e
    have h0' : 0 < n := Nat.pos_of_ne_zero h0
    have HF : Hid (SlA w0 (some ⟨g, o, none⟩) n n g o L) := by have := h.out.full; rw [if_neg h0] at this; exact this
    clear hg
    go_enter Tryz.func93, Tryz.ntmps93
    go_wp2_with fail
    go_ret
    exact ⟨_, rfl, HF.out, rfl⟩
def RetCp (R W : Nat → Nat → Prop) (b : Nat) (U : Ur) (w : World) (e : Ending) (w' : World) : Prop := ∃ b' R' W' W0, e = .returned (.pointer (some ⟨b', 0, none⟩)) ∧ IsU R W0 w' b U ∧ (∀ k j, W0 k j → W k j) ∧ IsU R' W' w' b' U ∧ (∀ k j, W' k j → w.heap.size ≤ k) ∧ (∀ k j, R' k j → w.heap.size ≤ k ∨ R k j) ∧ (∀ k j, W0 k j → ¬ R' k j) ∧ Below w.heap.size w w'
section
variable {R W T : Nat → Nat → Prop} {w w' : World} {b : Nat} {U : Ur} {sa : Option Addr} {n c g o : Nat} {ta : Option Addr} {m d h p : Nat}
/-- No more may be written than its block and what lies behind its slices. -/
def Tight (b g o n c h p m d : Nat) : Nat → Nat → Prop := fun k j => k = b ∨ Spare g o n c k j ∨ Spare h p m d k j
theorem At.tight (x : At R W w b U sa n c g o ta m d h p) : At R (Tight b g o n c h p m d) w b U sa n c g o ta m d h p ∧ ∀ k j, Tight b g o n c h p m d k j → W k j := by
  have hW : ∀ k j, Tight b g o n c h p m d k j → W k j := fun k j hk => by
    rcases hk with rfl | hk | hk
    · exact x.wb j
    · exact spare_w x k j hk
    · exact spare_s x k j hk
  exact ⟨{ x with wb := fun j => .inl rfl, wq := fun i h1 h2 => .inr (.inl ⟨rfl, i, h1, h2, rfl⟩), ws := fun i h1 h2 => .inr (.inr ⟨rfl, i, h1, h2, rfl⟩), wr := fun k j hk => x.wr k j (hW k j hk) }, hW⟩
/-- What a copy reads. -/
def CopyR (b' g o n h p m : Nat) : Nat → Nat → Prop := fun k j => k = b' ∨ (k = g ∧ ∃ i, i < n ∧ j = o + i) ∨ (k = h ∧ ∃ i, i < m ∧ j = p + i)
theorem At.copied (x : At R W w b U sa n c g o ta m d h p) {a1 a2 : Option Addr} (h1 : SlA w a1 n n g o U.q) (h2 : SlA w a2 m m h p U.sent) (hb : Below w.heap.size w w') (hs : w.heap.size < w'.heap.size)
    (c0 : w'.cell? ⟨w.heap.size, 0, none⟩ = some (.slice a1 n n)) (c1 : w'.cell? ⟨w.heap.size, 1, none⟩ = some (.bool U.lost)) (c2 : w'.cell? ⟨w.heap.size, 2, none⟩ = some (.int .u64 (U.want : Nat))) (c3 : w'.cell? ⟨w.heap.size, 3, none⟩ = some (.int .u8 (U.scr : Nat))) (c4 : w'.cell? ⟨w.heap.size, 4, none⟩ = some (.slice a2 m m))
    (fz : ∀ j, j < 5 → w'.frozen? ⟨w.heap.size, j, none⟩ = false) :
    ∃ R' W' W0, IsU R W0 w' b U ∧ (∀ k j, W0 k j → W k j) ∧ IsU R' W' w' w.heap.size U ∧ (∀ k j, W' k j → w.heap.size ≤ k) ∧ (∀ k j, R' k j → w.heap.size ≤ k ∨ R k j) ∧ (∀ k j, W0 k j → ¬ R' k j) := by
  obtain ⟨t1, t2⟩ := x.tight
  have hR : ∀ k j, CopyR w.heap.size g o n h p m k j → w.heap.size ≤ k ∨ R k j := fun k j hk => by
    rcases hk with rfl | ⟨rfl, i, hi, rfl⟩ | ⟨rfl, i, hi, rfl⟩
    · exact .inl (Nat.le_refl _)
    · exact .inr (x.rq i (Nat.lt_of_lt_of_le hi x.q.le))
    · exact .inr (x.rs i (Nat.lt_of_lt_of_le hi x.s.le))
  refine ⟨CopyR w.heap.size g o n h p m, fun k _ => k = w.heap.size, _, ⟨_, _, _, _, _, _, _, _, _, _, t1.kept (Ch.of_below (fun _ _ => False) hb) (fun _ _ h => h.elim)⟩, t2, ?_, fun k j hk => Nat.le_of_eq hk.symm, hR, fun k j hk hr => ?_⟩
  · exact ⟨a1, n, n, g, o, a2, m, m, h, p, ⟨hs, c0, c1, c2, c3, c4, fz, h1.below hb, h2.below hb, x.ok, fun j => .inl rfl, fun j => rfl, fun i hi => .inr (.inl ⟨rfl, i, hi, rfl⟩), fun i e1 e2 => by omega, fun i hi => .inr (.inr ⟨rfl, i, hi, rfl⟩), fun i e1 e2 => by omega, fun k j hk => .inl hk,
      fun k j hk => (hR k j hk).elim (fun _ => by
        rcases hk with rfl | ⟨rfl, i, hi, rfl⟩ | ⟨rfl, i, hi, rfl⟩
        · exact hs
        · exact Nat.lt_trans (h1.addr (by omega)).2 hs
        · exact Nat.lt_trans (h2.addr (by omega)).2 hs) (fun hr => Nat.lt_trans (x.rlt k j hr) hs),
      fun h0 => Nat.ne_of_lt (h1.addr h0).2, fun h0 => Nat.ne_of_lt (h2.addr h0).2, fun e1 e2 => x.qs (Nat.lt_of_lt_of_le e1 x.q.le) (Nat.lt_of_lt_of_le e2 x.s.le)⟩⟩
  · have hlt : k < w.heap.size := x.rlt k j (x.wr k j (t2 k j hk))
    rcases hr with rfl | ⟨rfl, i, hi, rfl⟩ | ⟨rfl, i, hi, rfl⟩
    · omega
    · rcases hk with e | ⟨-, i2, e1, e2, e3⟩ | ⟨e, i2, e1, e2, e3⟩
      · exact x.qb (by have := x.q.le; omega) e
      · omega
      · exact x.qs (by have := x.q.le; omega) (by omega) e
    · rcases hk with e | ⟨e, i2, e1, e2, e3⟩ | ⟨-, i2, e1, e2, e3⟩
      · exact x.sb (by have := x.s.le; omega) e
      · exact x.qs (by omega) (by have := x.s.le; omega) e.symm
      · omega
end
set_option maxRecDepth 100000 in
theorem copy_c (R W : Nat → Nat → Prop) (b : Nat) (U : Ur) (w : World) (hU : Hid (IsU R W w b U)) : Calls Tryz.prog 90 #[.pointer (some ⟨b, 0, none⟩)] w (RetCp R W b U w) := by
  obtain ⟨sa, n, c, g, o, ta, m, d, h, p, hA⟩ := hU.out
  have c0 := hA.c0; have c1 := hA.c1; have c2 := hA.c2; have c3 := hA.c3; have c4 := hA.c4
  have hb := hA.lt
  have hbn : ¬ b = w.heap.size := by omega
  have HA := Lib.hid hA
  clear hA
  go_enter Tryz.func90, Tryz.ntmps90
  go_wp2_with fail
  refine (room_c w _ sa n c g o U.q (Lib.hid HA.out.q)).mono ?_; rintro e w1 ⟨a1, rfl, h1, rfl⟩
  have H1 := Lib.hid h1; clear h1
  go_wp2_with fail
  refine (room_c w _ ta m d h p U.sent (Lib.hid HA.out.s)).mono ?_; rintro e w1 ⟨a2, rfl, h2, rfl⟩
  have H2 := Lib.hid h2; clear h2
  go_wp2_with fail
  go_ret
  have hx := HA.out.copied (w' := w.alloc (Obj.cells #[.slice a1 n n, .bool U.lost, .int .u64 (U.want : Nat), .int .u8 (U.scr : Nat), .slice a2 m m] 142)) H1.out H2.out (below_one _ _) (by rw [sz_alloc]; omega) (by rw [World.cell?_alloc_at _ _ _ _ rfl]; rfl) (by rw [World.cell?_alloc_at _ _ _ _ rfl]; rfl) (by rw [World.cell?_alloc_at _ _ _ _ rfl]; rfl) (by rw [World.cell?_alloc_at _ _ _ _ rfl]; rfl) (by rw [World.cell?_alloc_at _ _ _ _ rfl]; rfl) (fun j hj => by rw [World.frozen?_alloc_at _ _ _ _ rfl])
  obtain ⟨R', W', W0, i1, i2, i3, i4, i5, i6⟩ := hx
  exact ⟨_, R', W', W0, rfl, i1, i2, i3, i4, i5, i6, below_one _ _⟩
end Go.Proofs.YthhlcchofilimaaGreatDoor.U.T
namespace Go.Proofs.YthhlcchofilimaaGreatDoor.U.T
set_option linter.unusedVariables false
set_option linter.unusedSimpArgs false
set_option maxRecDepth 20000
set_option maxRecDepth 20000
open Go.ChangeShapes Go.WideShapes Go.ChangeAt Go.RowKit
theorem isU_self {R W : Nat → Nat → Prop} {w : World} {b : Nat} {U : Ur} (hU : IsU R W w b U) : IsU (Up R w w) (Up W w w) w b U := by
  obtain ⟨sa, n, c, g, o, ta, m, d, h, p, hA⟩ := hU
  exact hA.up w
theorem there_no (a : Nat) (z : Int) (h : thereB a z = false) : kd a z = 0 := by
  unfold thereB at h; unfold kd
  rw [if_neg]
  rintro ⟨h1, h2⟩
  rw [decide_eq_true h1, decide_eq_true h2] at h; cases h
theorem there_yes (a : Nat) (z : Int) (h : thereB a z = true) : z = 1 ∧ a < 8 := by
  unfold thereB at h
  simp at h
  exact ⟨h.2, h.1⟩
theorem kd_one (a : Nat) (h : a < 8) : kd a 1 = a + 1 := by unfold kd; rw [if_pos ⟨rfl, h⟩]
theorem read_no (R W : Nat → Nat → Prop) (b a : Nat) (z : Int) (U : Ur) (w : World) (hU : Hid (IsU R W w b U)) (hn : Hid (thereB a z = false)) : Calls Tryz.prog 138 #[.pointer (some ⟨b, 0, none⟩), .int .u64 a, .int .i64 z] w (RetA (.tuple #[.int .u64 0, .bool false]) b U R W w) := by
  go_enter Tryz.func138, Tryz.ntmps138
  go_wp2_with fail
  refine (there_c a z w).mono ?_; rintro e w1 ⟨rfl, h1⟩
  subst h1
  rw [hn.out]
  go_wp2_with fail
  go_ret2
  exact ⟨rfl, isU_self hU.out, Ch.refl _ _⟩
theorem read_0 (R W : Nat → Nat → Prop) (b : Nat) (U : Ur) (w : World) (hU : Hid (IsU R W w b U)) : Calls Tryz.prog 138 #[.pointer (some ⟨b, 0, none⟩), .int .u64 0, .int .i64 1] w (RetA (.tuple #[.int .u64 (valK 1 U : Nat), .bool true]) b (nextK 1 U) R W w) := by
  obtain ⟨sa, n, c, g, o, ta, m, d, h, p, hA⟩ := hU.out
  obtain ⟨x, hx⟩ : ∃ x, U.q.headD 0 = x := ⟨_, rfl⟩
  have x8 : x < 256 := by rw [← hx]; exact head_lt hA.ok
  have ex : IntKind.u64.wrap (x : Int) = x := by rw [IntKind.wrap_u64]; omega
  have HX : Hid (valK 1 U = x) := by show _ = _; rw [← hx]; rfl
  have HT : Hid (∀ w1, w1 = w → Calls Tryz.prog 140 #[.pointer (some ⟨b, 0, none⟩)] w1 (RetA (.int .u8 (x : Nat)) b (nextK 1 U) R W w1)) := fun w1 e => by subst e; rw [← hx]; exact take_c R W b U w1 hU
  clear hA hx
  go_enter Tryz.func138, Tryz.ntmps138
  go_wp2_with fail
  refine (there_c 0 1 w).mono ?_; rintro e w1 ⟨rfl, h1⟩
  replace h1 := h1.symm; subst h1
  rw [show thereB 0 1 = true from rfl]
  go_wp2_with fail
  refine (HT.out _ rfl).mono ?_; rintro e w2 ⟨rfl, h1, h2⟩
  go_wp2_with fail
  go_ret2
  exact ⟨by rw [HX.out]; rfl, h1, h2⟩
theorem read_1 (R W : Nat → Nat → Prop) (b : Nat) (U : Ur) (w : World) (hU : Hid (IsU R W w b U)) : Calls Tryz.prog 138 #[.pointer (some ⟨b, 0, none⟩), .int .u64 1, .int .i64 1] w (RetA (.tuple #[.int .u64 (valK 2 U : Nat), .bool true]) b (nextK 2 U) R W w) := by
  obtain ⟨sa, n, c, g, o, ta, m, d, h, p, hA⟩ := hU.out
  have c0 := hA.c2
  obtain ⟨x, hx⟩ : ∃ x, U.want = x := ⟨_, rfl⟩
  rw [hx] at c0
  have HX : Hid (valK 2 U = x) := by show _ = _; rw [← hx]; rfl
  clear hA hx
  go_enter Tryz.func138, Tryz.ntmps138
  go_wp2_with fail
  refine (there_c 1 1 w).mono ?_; rintro e w1 ⟨rfl, h1⟩
  replace h1 := h1.symm; subst h1
  rw [show thereB 1 1 = true from rfl]
  go_wp2_with fail
  go_ret2
  exact ⟨by rw [HX.out]; rfl, isU_self hU.out, Ch.refl _ _⟩
theorem read_2 (R W : Nat → Nat → Prop) (b : Nat) (U : Ur) (w : World) (hU : Hid (IsU R W w b U)) : Calls Tryz.prog 138 #[.pointer (some ⟨b, 0, none⟩), .int .u64 2, .int .i64 1] w (RetA (.tuple #[.int .u64 (valK 3 U : Nat), .bool true]) b (nextK 3 U) R W w) := by
  have HT : Hid (∀ w1, w1 = w → Calls Tryz.prog 141 #[.pointer (some ⟨b, 0, none⟩)] w1 (fun e w' => e = .returned (.int .u64 (valK 3 U : Nat)) ∧ w' = w1)) := fun w1 e => by subst e; exact cause_c R W b U w1 hU
  go_enter Tryz.func138, Tryz.ntmps138
  go_wp2_with fail
  refine (there_c 2 1 w).mono ?_; rintro e w1 ⟨rfl, h1⟩
  replace h1 := h1.symm; subst h1
  rw [show thereB 2 1 = true from rfl]
  go_wp2_with fail
  refine (HT.out _ rfl).mono ?_; rintro e w2 ⟨rfl, h1⟩
  subst h1
  go_wp2_with fail
  go_ret2
  exact ⟨rfl, isU_self hU.out, Ch.refl _ _⟩
theorem read_3 (R W : Nat → Nat → Prop) (b : Nat) (U : Ur) (w : World) (hU : Hid (IsU R W w b U)) : Calls Tryz.prog 138 #[.pointer (some ⟨b, 0, none⟩), .int .u64 3, .int .i64 1] w (RetA (.tuple #[.int .u64 (valK 4 U : Nat), .bool true]) b (nextK 4 U) R W w) := by
  go_enter Tryz.func138, Tryz.ntmps138
  go_wp2_with fail
  refine (there_c 3 1 w).mono ?_; rintro e w1 ⟨rfl, h1⟩
  replace h1 := h1.symm; subst h1
  rw [show thereB 3 1 = true from rfl]
  go_wp2_with fail
  go_ret2
  exact ⟨rfl, isU_self hU.out, Ch.refl _ _⟩
theorem read_4 (R W : Nat → Nat → Prop) (b : Nat) (U : Ur) (w : World) (hU : Hid (IsU R W w b U)) : Calls Tryz.prog 138 #[.pointer (some ⟨b, 0, none⟩), .int .u64 4, .int .i64 1] w (RetA (.tuple #[.int .u64 (valK 5 U : Nat), .bool true]) b (nextK 5 U) R W w) := by
  go_enter Tryz.func138, Tryz.ntmps138
  go_wp2_with fail
  refine (there_c 4 1 w).mono ?_; rintro e w1 ⟨rfl, h1⟩
  replace h1 := h1.symm; subst h1
  rw [show thereB 4 1 = true from rfl]
  go_wp2_with fail
  go_ret2
  exact ⟨rfl, isU_self hU.out, Ch.refl _ _⟩
theorem read_5 (R W : Nat → Nat → Prop) (b : Nat) (U : Ur) (w : World) (hU : Hid (IsU R W w b U)) : Calls Tryz.prog 138 #[.pointer (some ⟨b, 0, none⟩), .int .u64 5, .int .i64 1] w (RetA (.tuple #[.int .u64 (valK 6 U : Nat), .bool true]) b (nextK 6 U) R W w) := by
  have HT : Hid (∀ w1, w1 = w → Calls Tryz.prog 142 #[.pointer (some ⟨b, 0, none⟩)] w1 (RetA (.int .u64 (valK 6 U : Nat)) b (nextK 6 U) R W w1)) := fun w1 e => by subst e; exact state_c R W b U w1 hU
  go_enter Tryz.func138, Tryz.ntmps138
  go_wp2_with fail
  refine (there_c 5 1 w).mono ?_; rintro e w1 ⟨rfl, h1⟩
  replace h1 := h1.symm; subst h1
  rw [show thereB 5 1 = true from rfl]
  go_wp2_with fail
  refine (HT.out _ rfl).mono ?_; rintro e w2 ⟨rfl, h1, h2⟩
  go_wp2_with fail
  go_ret2
  exact ⟨rfl, h1, h2⟩
theorem read_6 (R W : Nat → Nat → Prop) (b : Nat) (U : Ur) (w : World) (hU : Hid (IsU R W w b U)) : Calls Tryz.prog 138 #[.pointer (some ⟨b, 0, none⟩), .int .u64 6, .int .i64 1] w (RetA (.tuple #[.int .u64 (valK 7 U : Nat), .bool true]) b (nextK 7 U) R W w) := by
  go_enter Tryz.func138, Tryz.ntmps138
  go_wp2_with fail
  refine (there_c 6 1 w).mono ?_; rintro e w1 ⟨rfl, h1⟩
  replace h1 := h1.symm; subst h1
  rw [show thereB 6 1 = true from rfl]
  go_wp2_with fail
  go_ret2
  exact ⟨rfl, isU_self hU.out, Ch.refl _ _⟩
theorem read_7 (R W : Nat → Nat → Prop) (b : Nat) (U : Ur) (w : World) (hU : Hid (IsU R W w b U)) : Calls Tryz.prog 138 #[.pointer (some ⟨b, 0, none⟩), .int .u64 7, .int .i64 1] w (RetA (.tuple #[.int .u64 (valK 8 U : Nat), .bool true]) b (nextK 8 U) R W w) := by
  obtain ⟨sa, n, c, g, o, ta, m, d, h, p, hA⟩ := hU.out
  have c0 := hA.c3
  obtain ⟨x, hx⟩ : ∃ x, U.scr = x := ⟨_, rfl⟩
  rw [hx] at c0
  have HX : Hid (valK 8 U = x) := by show _ = _; rw [← hx]; rfl
  have x8 : x < 256 := by rw [← hx]; exact hA.ok.scr
  have ex : IntKind.u64.wrap (x : Int) = x := by rw [IntKind.wrap_u64]; omega
  clear hA hx
  go_enter Tryz.func138, Tryz.ntmps138
  go_wp2_with fail
  refine (there_c 7 1 w).mono ?_; rintro e w1 ⟨rfl, h1⟩
  replace h1 := h1.symm; subst h1
  rw [show thereB 7 1 = true from rfl]
  go_wp2_with fail
  go_ret2
  exact ⟨by rw [HX.out]; rfl, isU_self hU.out, Ch.refl _ _⟩
theorem a8 {a : Nat} (h : a < 8) : a = 0 ∨ a = 1 ∨ a = 2 ∨ a = 3 ∨ a = 4 ∨ a = 5 ∨ a = 6 ∨ a = 7 := by omega
theorem read_c (R W : Nat → Nat → Prop) (b a : Nat) (z : Int) (U : Ur) (w : World) (hU : Hid (IsU R W w b U)) : Calls Tryz.prog 138 #[.pointer (some ⟨b, 0, none⟩), .int .u64 a, .int .i64 z] w (RetA (.tuple #[.int .u64 (valK (kd a z) U : Nat), .bool (okK (kd a z))]) b (nextK (kd a z) U) R W w) := by
  cases ht : thereB a z
  · rw [there_no a z ht]
    exact read_no R W b a z U w hU ht
  · obtain ⟨rfl, h8⟩ := there_yes a z ht
    rw [kd_one a h8]
    rcases a8 h8 with rfl | rfl | rfl | rfl | rfl | rfl | rfl | rfl
    · exact read_0 R W b U w hU
    · exact read_1 R W b U w hU
    · exact read_2 R W b U w hU
    · exact read_3 R W b U w hU
    · exact read_4 R W b U w hU
    · exact read_5 R W b U w hU
    · exact read_6 R W b U w hU
    · exact read_7 R W b U w hU
end Go.Proofs.YthhlcchofilimaaGreatDoor.U.T
