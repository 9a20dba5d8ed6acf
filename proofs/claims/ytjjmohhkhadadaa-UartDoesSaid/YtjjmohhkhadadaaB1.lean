/- New, there, Up, cause, state, take, Give. -/
import Derived.Test.YtjjmohhkhadadaaA2
namespace Go.Proofs.Ytjjmohhkhadadaa
open Go.ChangeShapes Go.WideShapes Go.ChangeAt Go.RowKit
set_option linter.unusedVariables false
set_option linter.unusedSimpArgs false
def RetA (v : Value) (b : Nat) (U : Ur) (R W : Nat → Nat → Prop) (w : World) (e : Ending) (w' : World) : Prop := e = .returned v ∧ IsU (Up R w w') (Up W w w') w' b U ∧ Ch W w w'
section
variable {R W T : Nat → Nat → Prop} {w w' : World} {b : Nat} {U : Ur} {sa : Option Addr} {n c g o : Nat} {ta : Option Addr} {m d h p : Nat}
theorem At.up (x : At R W w' b U sa n c g o ta m d h p) (w : World) : IsU (Up R w w') (Up W w w') w' b U :=
  ⟨_, _, _, _, _, _, _, _, _, _, x.mono (fun _ _ => .inl) (fun _ _ => .inl) (up_wr x _ _) (fun k j hk => hk.elim (x.rlt k j) (·.2))⟩
theorem up_set (R : Nat → Nat → Prop) (w w2 : World) (q : Addr) (v : Value) : Up R w (w2.setCell q v) = Up R w w2 := by unfold Up; simp only [sz_set]
theorem At.after0 (x : At R W w b U sa n c g o ta m d h p) {w2 : World} (hc : Ch (Spare g o n c) w w2) : w2.cell? ⟨b, 0, none⟩ = some (.slice sa n c) ∧ w2.frozen? ⟨b, 0, none⟩ = false :=
  ⟨(hc.cell b 0 x.lt (fun ⟨e, i, _, hi, _⟩ => x.qb (by omega) e.symm)).trans x.c0, (hc.frozen b 0 x.lt).trans (x.fz 0 (by decide))⟩
theorem At.after4 (x : At R W w b U sa n c g o ta m d h p) {w2 : World} (hc : Ch (Spare h p m d) w w2) : w2.cell? ⟨b, 4, none⟩ = some (.slice ta m d) ∧ w2.frozen? ⟨b, 4, none⟩ = false :=
  ⟨(hc.cell b 4 x.lt (fun ⟨e, i, _, hi, _⟩ => x.sb (by omega) e.symm)).trans x.c4, (hc.frozen b 4 x.lt).trans (x.fz 4 (by decide))⟩
theorem spare_w (x : At R W w b U sa n c g o ta m d h p) : ∀ i j, Spare g o n c i j → W i j := fun i j ⟨e, k, h1, h2, e2⟩ => by subst e e2; exact x.wq k h1 h2
theorem spare_s (x : At R W w b U sa n c g o ta m d h p) : ∀ i j, Spare h p m d i j → W i j := fun i j ⟨e, k, h1, h2, e2⟩ => by subst e e2; exact x.ws k h1 h2
end
theorem below_one (w : World) (o : Obj) : Below w.heap.size w (w.alloc o) := (Below.refl _ _).alloc (Nat.le_refl _) o
theorem mv_of {w w1 : World} {g o c g' o' c' : Nat} (h : Mv w1 g o c g' o' c') (hs : w.heap.size ≤ w1.heap.size) : Mv w g o c g' o' c' := h.imp id (Nat.le_trans hs)
theorem ch_one {T : Nat → Nat → Prop} {w w' : World} {ob : Obj} (h : Ch T (w.alloc ob) w') : Ch T w w' := (Ch.of_below T (below_one w ob)).trans h (fun _ _ h => .inl h)
def RetN (U : Ur) (W : World) (e : Ending) (w' : World) : Prop := ∃ b R Q, e = .returned (.pointer (some ⟨b, 0, none⟩)) ∧ IsU R Q w' b U ∧ (∀ k j, R k j → W.heap.size ≤ k) ∧ Below W.heap.size W w'
theorem new_c (w : World) : Calls Try.prog 8 #[] w (RetN U0 w) := by
  go_enter Try.func8, Try.ntmps8
  go_wp2_with fail
  go_ret
  refine ⟨_, fun k _ => k = w.heap.size, fun k _ => k = w.heap.size, rfl, ⟨none, 0, 0, 0, 0, none, 0, 0, 0, 0, ?_⟩, fun k j hk => by rw [hk]; exact Nat.le_refl _, below_one _ _⟩
  refine ⟨by rw [sz_alloc]; omega, ?_, ?_, ?_, ?_, ?_, fun j hj => by rw [World.frozen?_alloc_at _ _ _ _ rfl], slA_nil _ _ _ _, slA_nil _ _ _ _, okU0, fun j => rfl, fun j => rfl, fun i hi => by omega, fun i _ hi => by omega, fun i hi => by omega, fun i _ hi => by omega, fun _ _ h => h, fun k j hk => by rw [hk, sz_alloc]; omega, fun h => by omega, fun h => by omega, fun h => by omega⟩ <;> (rw [World.cell?_alloc_at _ _ _ _ rfl]; rfl)
def thereB (a : Nat) (z : Int) : Bool := decide (a < 8) && decide (z = 1)
theorem there_c (a : Nat) (z : Int) (w : World) : Calls Try.prog 23 #[.int .u64 a, .int .i64 z] w (fun e w' => e = .returned (.bool (thereB a z)) ∧ w' = w) := by
  go_enter Try.func23, Try.ntmps23
  by_cases ha : a < 8
  · have ha' : (a : Int) < 8 := by omega
    by_cases hz : z = 1
    · subst hz
      have HB : Hid (thereB a 1 = true) := by show _ = _; unfold thereB; rw [decide_eq_true ha]; rfl
      clear ha
      go_wp2_with fail
      go_ret
      exact ⟨by rw [HB.out]; rfl, rfl⟩
    · have hz' : (z == 1) = false := by simpa using hz
      have HB : Hid (thereB a z = false) := by show _ = _; unfold thereB; rw [decide_eq_false hz, Bool.and_false]
      clear ha
      go_wp2_with fail
      go_ret
      exact ⟨by rw [HB.out]; rfl, rfl⟩
  · have ha' : ¬ (a : Int) < 8 := by omega
    have HB : Hid (thereB a z = false) := by show _ = _; unfold thereB; rw [decide_eq_false ha, Bool.false_and]
    clear ha
    go_wp2_with fail
    go_ret
    exact ⟨by rw [HB.out]; rfl, rfl⟩
theorem up_c (R W : Nat → Nat → Prop) (b : Nat) (U : Ur) (w : World) (hU : Hid (IsU R W w b U)) : Calls Try.prog 18 #[.pointer (some ⟨b, 0, none⟩)] w (fun e w' => e = .returned (.bool (upF U)) ∧ w' = w) := by
  obtain ⟨sa, n, c, g, o, ta, m, d, h, p, hA⟩ := hU.out
  have c0 := hA.c0; have c2 := hA.c2
  have hl := hA.q.len
  have hw := hA.ok.want
  obtain ⟨x, hx⟩ : ∃ x, U.want = x := ⟨_, rfl⟩
  rw [hx] at c2 hw
  clear hA
  go_enter Try.func18, Try.ntmps18
  have : x = 0 ∨ x = 1 := by omega
  rcases this with rfl | rfl
  · have HB : Hid (upF U = false) := by show _ = _; unfold upF; rw [hx]; rfl
    clear hx hl hw
    go_wp2_with fail
    go_ret
    exact ⟨by rw [HB.out]; rfl, rfl⟩
  · by_cases h0 : n = 0
    · subst h0
      have HB : Hid (upF U = false) := by show _ = _; unfold upF; rw [hx, hl]; rfl
      clear hx hl hw
      go_wp2_with fail
      go_ret
      exact ⟨by rw [HB.out]; rfl, rfl⟩
    · have HB : Hid (upF U = true) := by show _ = _; unfold upF; rw [hx, hl, decide_eq_true (Nat.pos_of_ne_zero h0)]; rfl
      have h0' : (0 : Int) < n := by omega
      have HD : Hid (decide (0 < n) = true) := decide_eq_true (Nat.pos_of_ne_zero h0)
      clear hx hl hw h0
      go_wp2_with fail
      go_ret
      refine ⟨?_, rfl⟩
      show Ending.returned (.bool (decide (0 < n))) = _
      rw [HD.out, HB.out]
theorem cause_c (R W : Nat → Nat → Prop) (b : Nat) (U : Ur) (w : World) (hU : Hid (IsU R W w b U)) : Calls Try.prog 25 #[.pointer (some ⟨b, 0, none⟩)] w (fun e w' => e = .returned (.int .u64 ((bif upF U then 4 else 1 : Nat) : Nat)) ∧ w' = w) := by
  go_enter Try.func25, Try.ntmps25
  have hc := up_c R W b U w hU
  cases hx : upF U
  · rw [hx] at hc
    have HC := Lib.hid hc; clear hc hx
    go_wp2_with fail
    refine HC.out.mono ?_; rintro e w1 ⟨rfl, h1⟩
    subst h1
    go_wp2_with fail
    go_ret
    exact ⟨rfl, rfl⟩
  · rw [hx] at hc
    have HC := Lib.hid hc; clear hc hx
    go_wp2_with fail
    refine HC.out.mono ?_; rintro e w1 ⟨rfl, h1⟩
    subst h1
    go_wp2_with fail
    go_ret
    exact ⟨rfl, rfl⟩
theorem state_c (R W : Nat → Nat → Prop) (b : Nat) (U : Ur) (w : World) (hU : Hid (IsU R W w b U)) : Calls Try.prog 26 #[.pointer (some ⟨b, 0, none⟩)] w (RetA (.int .u64 (stF U : Nat)) b { U with lost := false } R W w) := by
  obtain ⟨sa, n, c, g, o, ta, m, d, h, p, hA⟩ := hU.out
  have c0 := hA.c0; have c1 := hA.c1; have f1 := hA.fz 1 (by decide)
  have hl := hA.q.len
  have hW := hA.wb 1
  have hS := Lib.hid (hA.cells 1 (by decide))
  have HL := Lib.hid (hA.lost false)
  have HC : Hid (Ch W w (w.setCell ⟨b, 1, none⟩ (.bool false))) := Ch.set W w b 1 _ hW hS.out
  obtain ⟨x, hx⟩ : ∃ x, U.lost = x := ⟨_, rfl⟩
  rw [hx] at c1
  clear hA hW
  go_enter Try.func26, Try.ntmps26
  by_cases h0 : n = 0
  · subst h0
    cases x
    · have HV : Hid (stF U = 96) := by show _ = _; unfold stF; rw [hx, hl]; rfl
      clear hx hl
      go_wp2_with fail
      go_ret
      exact ⟨by rw [HV.out]; rfl, HL.out.up w, HC.out⟩
    · have HV : Hid (stF U = 98) := by show _ = _; unfold stF; rw [hx, hl]; rfl
      clear hx hl
      go_wp2_with fail
      go_ret
      exact ⟨by rw [HV.out]; rfl, HL.out.up w, HC.out⟩
  · have h0' : (0 : Int) < n := by omega
    cases x
    · have HV : Hid (stF U = 97) := by show _ = _; unfold stF; rw [hx, hl, decide_eq_true (Nat.pos_of_ne_zero h0)]; rfl
      clear hx hl h0
      go_wp2_with fail
      go_ret
      exact ⟨by rw [HV.out]; rfl, HL.out.up w, HC.out⟩
    · have HV : Hid (stF U = 99) := by show _ = _; unfold stF; rw [hx, hl, decide_eq_true (Nat.pos_of_ne_zero h0)]; rfl
      clear hx hl h0
      go_wp2_with fail
      go_ret
      exact ⟨by rw [HV.out]; rfl, HL.out.up w, HC.out⟩
end Go.Proofs.Ytjjmohhkhadadaa
