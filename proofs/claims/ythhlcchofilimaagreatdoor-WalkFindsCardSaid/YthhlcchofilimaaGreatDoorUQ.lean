/- Taken from other texts: what is needed of them. -/
import Derived.Test.YthhlcchofilimaaGreatDoorUA
import Derived.Test.YthhlcchofilimaaGreatDoorUB
import Derived.Test.YthhlcchofilimaaGreatDoorUC
import Derived.Test.YthhlcchofilimaaGreatDoorUD
import Derived.Test.YthhlcchofilimaaGreatDoorUE
import Derived.Test.YthhlcchofilimaaGreatDoorUG
import Derived.Test.YthhlcchofilimaaGreatDoorUH
import Derived.Test.YthhlcchofilimaaGreatDoorUI
import Derived.Test.YthhlcchofilimaaGreatDoorUJ
import Derived.Test.YthhlcchofilimaaGreatDoorUL
import Derived.Test.YthhlcchofilimaaGreatDoorUM
import Derived.Test.YthhlcchofilimaaGreatDoorUO
import Derived.Test.YthhlcchofilimaaGreatDoorUP
namespace Go.Proofs.YthhlcchofilimaaGreatDoor.U
set_option linter.unusedVariables false
set_option linter.unusedSimpArgs false
set_option maxRecDepth 20000
open Go.ChangeShapes Go.WideShapes Go.ChangeAt Go.RowKit Go.Sort
open M (Fp Dj Cw Up Th Grp GrpAt GrpC Cpd jn exT)
set_option maxRecDepth 20000
def Bs0 (n : Nat) (X : Nat → Nat) (L : List Ev) : Bs := ⟨M.layI (fun _ => 0) n X, Dv0, L, -1⟩
def okNew (n : Nat) (L : List Ev) : Bool := decide (n ≤ 1048576) && okIn L
theorem layI_lt {F : Nat → Nat} (h : ∀ i, F i < 256) (n : Nat) (X : Nat → Nat) (hX : ∀ i, X i < 256) : ∀ i, M.layI F n X i < 256 := by
  intro i
  unfold M.layI
  split
  · unfold M.layF
    split
    · exact hX _
    · exact h i
  · exact h i
theorem grp_nil (R0 W0 : Fp) (w : World) : Grp R0 W0 w [] w :=
  ⟨fun _ _ _ => False, fun _ _ _ => False, ⟨fun i E h => by simp at h, fun i j h => absurd h (Nat.not_lt_zero _), fun i h => absurd h (Nat.not_lt_zero _), fun i h => absurd h (Nat.not_lt_zero _), Cw.refl _ _⟩⟩
theorem eEv_new {w' : World} {a : Option Addr} {n c g : Nat} {L : List Ev} (h : IsE w' a n c g 0 L) : (eEv (.slice a n c) L).P (fun k _ => k = g ∧ 0 < n) (fun _ _ => False) w' :=
  ⟨fun _ _ q => q, fun k j q => by rw [q.1]; exact (h.addr q.2).2, a, n, c, g, 0, rfl, h, fun i hi => ⟨rfl, by omega⟩⟩
def RetNew (ok : Bool) (n : Nat) (X : Nat → Nat) (L : List Ev) (w : World) (e : Ending) (w' : World) : Prop :=
  (ok = true → ∃ b R W, e = .returned (.tuple #[.pointer (some ⟨b, 0, none⟩), .bool true]) ∧ (eBus b (Bs0 n X L)).P R W w' ∧ ∀ k j, R k j → w.heap.size ≤ k) ∧ (ok = false → e = .returned (.tuple #[.pointer none, .bool false])) ∧ Below w.heap.size w w'
theorem own_below {T : Nat → Prop} {w0 w w' : World} (h : M.Own T w w') (hT : ∀ i, T i → w0.heap.size ≤ i) (hb : Below w0.heap.size w0 w) : Below w0.heap.size w0 w' :=
  (M.Cw.of_own (T := fun k _ => T k) h (fun _ _ => Iff.rfl)).below (fun k j q => hT k q) hb hb.size
theorem cell_h {w w' : World} {b o : Nat} {v : Value} (hb : b < w.heap.size) (c0 : w.cell? ⟨b, o, none⟩ = some v) (h : Below w.heap.size w w') : w'.cell? ⟨b, o, none⟩ = some v := (h.cell (p := ⟨b, o, none⟩) hb).trans c0
theorem new_c (ia : Option Addr) (ig io n ic : Nat) (X : Nat → Nat) (ea : Option Addr) (en ec eg eo : Nat) (L : List Ev) (pc s0 s1 s2 : Nat) (ca : Option Addr) (cn cc : Nat) (w : World) (hI : Hid (M.Byt w ia ig io n ic X)) (hE : Hid (IsE w ea en ec eg eo L)) (hf : Hid (en < 4398046511104)) :
    Calls Tryz.prog 5 #[.agg #[.slice ia n ic, .int .u64 pc, .slice ca cn cc, .slice ea en ec, .int .u64 s0, .int .u64 s1, .int .u64 s2]] w (RetNew (okNew n L) n X L w) := by
  go_enter Tryz.func5, Tryz.ntmps5
  go_wp2_with fail
  have hA1 : Below w.heap.size w (w.alloc (Obj.cells #[.slice ia n ic, .int .u64 pc, .slice ca cn cc, .slice ea en ec, .int .u64 s0, .int .u64 s1, .int .u64 s2] 36)) := below_one w _
  have k0 : (w.alloc (Obj.cells #[.slice ia n ic, .int .u64 pc, .slice ca cn cc, .slice ea en ec, .int .u64 s0, .int .u64 s1, .int .u64 s2] 36)).cell? ⟨w.heap.size, 0, none⟩ = some (.slice ia n ic) := by rw [World.cell?_alloc_at _ _ _ _ rfl]; rfl
  have k3 : (w.alloc (Obj.cells #[.slice ia n ic, .int .u64 pc, .slice ca cn cc, .slice ea en ec, .int .u64 s0, .int .u64 s1, .int .u64 s2] 36)).cell? ⟨w.heap.size, 3, none⟩ = some (.slice ea en ec) := by rw [World.cell?_alloc_at _ _ _ _ rfl]; rfl
  have hz : w.heap.size < (w.alloc (Obj.cells #[.slice ia n ic, .int .u64 pc, .slice ca cn cc, .slice ea en ec, .int .u64 s0, .int .u64 s1, .int .u64 s2] 36)).heap.size := by rw [sz_alloc]; omega
  generalize w.alloc (Obj.cells #[.slice ia n ic, .int .u64 pc, .slice ca cn cc, .slice ea en ec, .int .u64 s0, .int .u64 s1, .int .u64 s2] 36) = wA at *
  refine (M.new_s wA).mono ?_; rintro e w1 ⟨m, TT, rfl, hM, hT, hb1⟩
  have HM := Lib.hid hM; have HT := Lib.hid hT
  have HA1 := Lib.hid hA1
  have HB1 : Hid (Below w.heap.size w w1) := hA1.trans (hb1.mono hA1.size)
  have k01 := cell_h hz k0 hb1
  have k31 := cell_h hz k3 hb1
  have hz1 : w.heap.size < w1.heap.size := Nat.lt_of_lt_of_le hz hb1.size
  clear hM hT hb1 k0 k3 hA1
  have hByt := hI.out.below HB1.out
  go_wp2_with fail
  refine (M.lay_any TT m ig io n ic ia (fun _ => 0) X w1 HM (Lib.hid (fun i q => (HT.out i q).2)) (Lib.hid (fun h0 => ⟨(hByt.1 h0).1, (hByt.1 h0).2, fun hS => by have := (HT.out ig hS).1; have := (hI.out.1 h0).2; have := HA1.out.size; omega⟩)) (Lib.hid hByt.2.1) (Lib.hid hByt.2.2.1)).mono ?_
  rintro e w2 ⟨rfl, T2, hM2, hOw, hT2⟩
  have HB2 : Hid (Below w.heap.size w w2) := own_below hOw (fun i q => Nat.le_trans HA1.out.size (HT.out i q).1) HB1.out
  have k32 : w2.cell? ⟨w.heap.size, 3, none⟩ = some (.slice ea en ec) := ((M.Cw.of_own (T := fun k _ => TT k) hOw (fun _ _ => Iff.rfl)).cell w.heap.size 3 hz1 (fun q => by have := (HT.out _ q).1; omega)).trans k31
  have hz2 : w.heap.size < w2.heap.size := Nat.lt_of_lt_of_le hz1 hOw.size
  have HM2 := Lib.hid hM2
  have HT2 : Hid (∀ i, T2 i → w.heap.size ≤ i ∧ i < w2.heap.size) := fun i q => ⟨(hT2 i q).2.elim (fun q => Nat.le_trans HA1.out.size (HT.out i q).1) (fun q => Nat.le_trans HB1.out.size q), (hT2 i q).1⟩
  have HX := Lib.hid hI.out.2.2.2
  clear hM2 hOw hT2 hByt HM HT HA1 HB1 k01 k31 hz1
  have hmay := Lib.hid (mayCome_c ea en ec eg eo L w2 (Lib.hid (hE.out.below HB2.out)) hf)
  by_cases hn : n ≤ 1048576
  · have hd : decide (n ≤ 1048576) = true := decide_eq_true hn
    cases ho : okIn L
    · have HOK : Hid (okNew n L = false) := by show _ = _; unfold okNew; rw [hd, ho]; rfl
      rw [ho] at hmay
      clear ho hn
      rw [hd]
      clear hd
      go_wp2_with fail
      refine hmay.out.mono ?_; rintro e w3 ⟨rfl, hb3⟩
      have HB3 := Lib.hid (HB2.out.trans (hb3.mono HB2.out.size)); clear hb3
      go_wp2_with fail
      go_ret2
      exact ⟨fun h => (by rw [HOK.out] at h; cases h), fun _ => rfl, HB3.out⟩
    · have HOK : Hid (okNew n L = true) := by show _ = _; unfold okNew; rw [hd, ho]; rfl
      rw [ho] at hmay
      clear ho hn
      rw [hd]
      clear hd
      go_wp2_with fail
      refine hmay.out.mono ?_; rintro e w3 ⟨rfl, hb3⟩
      have HB3 := Lib.hid (HB2.out.trans (hb3.mono HB2.out.size))
      have k33 := cell_h hz2 k32 hb3
      have hz3 : w.heap.size < w3.heap.size := Nat.lt_of_lt_of_le hz2 hb3.size
      have HG0 : Hid (Grp (fun _ _ => False) (fun _ _ => False) w ([] ++ [eMb m (M.layI (fun _ => 0) n X)]) w3) := ((grp_nil _ _ w).push (E := eMb m (M.layI (fun _ => 0) n X)) HB2.out (R1 := fun k _ => T2 k) (W1 := fun k _ => T2 k) ⟨⟨rfl, T2, HM2.out, fun _ _ => Iff.rfl, fun k hk => (HT2.out k hk).2⟩, layI_lt (fun _ => by decide) n X HX.out⟩ (fun k j hk => (HT2.out k hk).1)).below hb3
      clear hb3 k32 hz2 hmay
      go_wp2_with fail
      go_region_held3 (fun w' => w'.cell? ⟨w.heap.size, 3, none⟩ = some (.slice ea en ec)) (exact cell_h hz3 k33 (by repeat (first | (with_reducible first | exact Below.refl _ _ | assumption | exact Nat.le_refl _ | refine Below.drew ?_ | refine Below.alloc ?_ ?_ _ | refine Below.setCell ?_ ?_ _ | refine le_alloc ?_ | refine le_set ?_ | refine le_drew ?_ | refine below_step (by assumption) ?_ ?_ | refine le_below (by assumption) ?_) | (dsimp only; omega)))) (first
        | (go_at_call 17; refine (first_g _ _ _ w _ (Lib.hid (HG0.out.below (by repeat (first | (with_reducible first | exact Below.refl _ _ | assumption | exact Nat.le_refl _ | refine Below.drew ?_ | refine Below.alloc ?_ ?_ _ | refine Below.setCell ?_ ?_ _ | refine le_alloc ?_ | refine le_set ?_ | refine le_drew ?_ | refine below_step (by assumption) ?_ ?_ | refine le_below (by assumption) ?_) | (dsimp only; omega)))))).mono ?_; rintro e w4 ⟨c', p', u', rfl, g4, hb4⟩; have G4 := Lib.hid g4; clear g4)
        | (go_at_call 18; refine (clone_c ea en ec eg eo L _ (Lib.hid (hE.out.below (HB3.out.trans ((show Below w3.heap.size w3 _ from (by repeat (first | (with_reducible first | exact Below.refl _ _ | assumption | exact Nat.le_refl _ | refine Below.drew ?_ | refine Below.alloc ?_ ?_ _ | refine Below.setCell ?_ ?_ _ | refine le_alloc ?_ | refine le_set ?_ | refine le_drew ?_ | refine below_step (by assumption) ?_ ?_ | refine le_below (by assumption) ?_) | (dsimp only; omega)))).mono HB3.out.size)))) (Lib.hid (Nat.le_of_lt hf.out))).mono ?_; rintro e w5 ⟨a', c5', g', rfl, i5, hg5, hb5⟩; have I5 := Lib.hid i5; have HG5 := Lib.hid hg5; clear i5 hg5))
      all_goals
        go_wp2_with fail
        go_ret2
        have G5 := (G4.out.push hb5 (eEv_new I5.out) (fun k j q => by rw [q.1]; exact HG5.out q.2)).push (below_one w5 (Obj.cells #[.pointer (some ⟨m, 0, none⟩), .pointer (some ⟨c', 0, none⟩), .pointer (some ⟨p', 0, none⟩), .pointer (some ⟨u', 0, none⟩), .bool false, .slice a' en c5', .int .i64 (-1)] 69)) (newB (m := m) (c := c') (p := p') (u := u') (one := false) (v := .slice a' en c5') (cyc := -1)) (fun k j hk => Nat.le_of_eq hk.symm)
        obtain ⟨R, W, h1, h2, h3⟩ := fold6 (A := eMb m (M.layI (fun _ => 0) n X)) (C := eC c' 0 18446744073709551615 0) (Q := eP p' P.S0) (U := eU u' T.U0) (E := eEv (.slice a' en c5') L) (N := jn [eBc w5.heap.size m (.slice a' en c5') (-1), eDv w5.heap.size 1 c' p' u' false]) G5
        exact ⟨fun _ => ⟨_, R, W, rfl, ⟨(m, c', p', u', .slice a' en c5'), regroup h1⟩, h2⟩, fun h => (by rw [HOK.out] at h; cases h), h3⟩
  · have hd : decide (n ≤ 1048576) = false := decide_eq_false hn
    have HOK : Hid (okNew n L = false) := by show _ = _; unfold okNew; rw [hd]; rfl
    clear hn
    rw [hd]
    clear hd
    go_wp2_with fail
    go_ret2
    exact ⟨fun h => (by rw [HOK.out] at h; cases h), fun _ => rfl, HB2.out⟩
end Go.Proofs.YthhlcchofilimaaGreatDoor.U
