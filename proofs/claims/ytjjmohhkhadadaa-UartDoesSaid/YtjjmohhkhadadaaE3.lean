/- The contract of ends. -/
import Derived.Test.YtjjmohhkhadadaaF1
import Derived.Deep.RegionWith
import Derived.Deep.LoopGhost
import Derived.Deep.CutBlock
import Derived.Deep.CutRange
namespace Go.Proofs.Ytjjmohhkhadadaa
open Go.ChangeShapes Go.WideShapes Go.ChangeAt Go.RowKit
set_option linter.unusedVariables false
set_option linter.unusedSimpArgs false
/-- A byte of a slice is written. -/
theorem All.putS {w0 w : World} {l : List Ent} (h : All w0 l w) (i : Nat) {g o n c : Nat} {L : List Nat} (hi : l[i]? = some (eS (.slice (some ⟨g, o, none⟩) n c) L)) (j y : Nat) (hj : j < n) : All w0 (l.set i (eS (.slice (some ⟨g, o, none⟩) n c) (L.set j y))) (w.setCell ⟨g, o + j, none⟩ (.int .u8 (y : Nat))) := by
  refine h.set i hi (fun R W ⟨e, a', n', c', g', o', h1, h2, h3, h4⟩ => ?_)
  injection h1 with e1 e2 e3
  subst e2 e3
  have hle := h2.le
  have hl := h2.len
  have ha := (h2.addr (by omega)).1
  rw [← e1] at ha
  injection ha with ha
  injection ha with e4 e5
  subst e4 e5
  have hs := (h2.there j (by omega)).1
  have hset : Ch W w (w.setCell ⟨g, o + j, none⟩ (.int .u8 (y : Nat))) := Ch.set W w g (o + j) _ (h3 j (by omega)) hs
  refine ⟨⟨by rw [e], _, _, _, g, o, rfl, ⟨by rw [List.length_set]; exact hl, hle, fun h0 => ⟨rfl, by rw [sz_set]; exact (h2.addr h0).2⟩, fun i hi => ?_, fun i hi => ⟨hset.there _ _ (h2.addr (by omega)).2 (h2.there i hi).1, by rw [World.frozen?_setCell]; exact (h2.there i hi).2⟩⟩, fun i hi => .inl (h3 i hi), fun k m hk => hk.elim (fun q => by rw [sz_set]; exact h4 k m q) (·.2)⟩, hset⟩
  by_cases ej : i = j
  · subst ej
    rw [cell_eq _ _ _ _ hs]
    rw [List.getD_eq_getElem?_getD, List.getElem?_set_self (by omega)]; rfl
  · rw [cell_ne _ _ _ _ _ (by omega), h2.cell i hi]
    rw [List.getD_eq_getElem?_getD, List.getD_eq_getElem?_getD, List.getElem?_set_ne (by omega)]
theorem All.addr (w0 w : World) {l : List Ent} (h : All w0 l w) (i : Nat) {a : Option Addr} {n c : Nat} {L : List Nat} (hi : l[i]? = some (eS (.slice a n c) L)) (hn : 0 < n) : ∃ g o, a = some ⟨g, o, none⟩ := by
  obtain ⟨a9, n9, c9, g9, o9, e9, s9⟩ := h.slice i hi
  injection e9 with e91 e92 e93
  subst e91 e92 e93
  exact ⟨g9, o9, (s9.addr (by have := s9.le; omega)).1⟩
theorem All.cellS {w0 w : World} {l : List Ent} (h : All w0 l w) (i : Nat) {g o n c : Nat} {L : List Nat} (hi : l[i]? = some (eS (.slice (some ⟨g, o, none⟩) n c) L)) (j : Nat) (hj : j < n) : w.cell? ⟨g, o + j, none⟩ = some (.int .u8 (L.getD j 0 : Nat)) ∧ w.frozen? ⟨g, o + j, none⟩ = false := by
  obtain ⟨a9, n9, c9, g9, o9, e9, s9⟩ := h.slice i hi
  injection e9 with e91 e92 e93
  subst e92 e93
  have hle := s9.le
  have e8 := (s9.addr (by omega)).1
  rw [← e91] at e8
  injection e8 with e8
  injection e8 with e81 e82
  subst e81 e82
  exact ⟨s9.cell j hj, (s9.there j (by omega)).2⟩
theorem All.lenS {w0 w : World} {l : List Ent} (h : All w0 l w) (i : Nat) {a : Option Addr} {n c : Nat} {L : List Nat} (hi : l[i]? = some (eS (.slice a n c) L)) : L.length = n := by
  obtain ⟨a9, n9, c9, g9, o9, e9, s9⟩ := h.slice i hi
  injection e9 with e91 e92 e93
  rw [e92]; exact s9.len
theorem pick2 {w0 w : World} {A B C : Ent} (h : All w0 [A, B, C] w) : All w0 [A, B] w := h.pick _ id (fun i E hi => by
    match i, hi with
    | 0, hi => exact hi
    | 1, hi => exact hi
    | n + 2, hi => simp at hi) (fun i j _ _ h => h)
set_option maxRecDepth 100000 in
set_option maxHeartbeats 8000000 in
theorem ends_c (w0 w : World) (m r N : Nat) (U : Ur) (hA : Hid (All w0 [eU m U, eR r N U] w)) (hN : Hid (N < 70368744177664)) (hL : Hid (U.sent.length < 70368744177663)) :
    Calls Try.prog 22 #[.pointer (some ⟨m, 0, none⟩), .pointer (some ⟨r, 0, none⟩)] w (fun e w' => e = .returned (.bool true) ∧ Below w0.heap.size w0 w') := by
  go_enter Try.func22, Try.ntmps22
  go_upto_region 1 with fail
  obtain ⟨wz, hwz⟩ : ∃ wz, wz = w := ⟨_, rfl⟩
  rw [← hwz] at hA ⊢; clear hwz
  have HZ := hA
  have HL : Hid (U.sent.length < 70368744177664) := by have := hL.out; show _ < _; omega
  obtain ⟨tu, htu⟩ : ∃ tu, upF U = tu := ⟨_, rfl⟩
  have UM : Hid (∀ w9, Below wz.heap.size wz w9 → Calls Try.prog 18 #[.pointer (some ⟨m, 0, none⟩)] w9 (fun e w' => e = .returned (.bool tu) ∧ w' = w9)) := fun w9 hb => by rw [← htu]; exact upA (HZ.out.below hb) 0 rfl
  have UR : Hid (∀ w9, Below wz.heap.size wz w9 → Calls Try.prog 19 #[.pointer (some ⟨r, 0, none⟩)] w9 (RetB tu w9)) := fun w9 hb => by rw [← htu]; exact uprA (HZ.out.below hb) 1 rfl
  clear htu
  obtain ⟨SB, hSB⟩ : ∃ SB, strB U.sent = SB := ⟨_, rfl⟩
  have CV : Hid (∀ w9 a n c g o, SlA w9 a n c g o U.sent → (convert 35 9 (.slice a n c)).run Try.prog w9 = .ok (.string SB) w9) := fun w9 a n c g o h => by rw [← hSB]; exact conv_b h
  have SM : Hid (∀ w9, Below wz.heap.size wz w9 → Calls Try.prog 20 #[.pointer (some ⟨m, 0, none⟩)] w9 (RetSl U.sent w9)) := fun w9 hb => sentA (HZ.out.below hb) 0 rfl HL
  have SR : Hid (∀ w9, Below wz.heap.size wz w9 → Calls Try.prog 21 #[.pointer (some ⟨r, 0, none⟩)] w9 (RetSl U.sent w9)) := fun w9 hb => sentrA (HZ.out.below hb) 1 rfl HL
  clear hSB
  go_upto_region 1 with fail
  go_cut [27] from 14 (fun s wx => s = .bool false ∧ Hid (Below wz.heap.size wz wx))
  case first =>
    go_region_with (first
      | (go_at_call 18; refine (UM.out _ ?_).mono ?_; exact below_drewN (Below.refl _ _) 1; rintro e w5 ⟨rfl, h5⟩; subst h5)
      | (go_at_call 19; refine (UR.out _ ?_).mono ?_; exact below_drewN (Below.refl _ _) 1; rintro e w5 ⟨rfl, hb⟩; have HB5 := Lib.hid ((below_drewN (Below.refl wz.heap.size wz) 1).trans hb); clear hb)
      | (go_at_call 20; refine (SM.out _ ?_).mono ?_; exact HB5.out; rintro e w6 ⟨a1, n1, c1, g1, rfl, s1, s2, hb⟩; have cv6 := CV.out _ _ _ _ _ _ s1; have HS1 := Lib.hid s1; have HB6 := Lib.hid (HB5.out.trans (hb.mono HB5.out.size)); clear s1 s2 hb)
      | (go_at_call 21; refine (SR.out _ ?_).mono ?_; exact HB6.out; rintro e w7 ⟨a2, n2, c2, g2, rfl, s1, s2, hb⟩; have cv7 := CV.out _ _ _ _ _ _ s1; have cv67 := CV.out _ _ _ _ _ _ (HS1.out.below hb); have HB7 := Lib.hid (HB6.out.trans (hb.mono HB6.out.size)); clear s1 s2 hb)
      )
    all_goals
      go_wp2_with fail
      go_meet
      case rel => exact ⟨rfl, HB7⟩
  case rest =>
    obtain ⟨rfl, HB⟩ := hcut
    have HA := Lib.hid (HZ.out.below HB.out)
    clear UM UR SM SR CV HL HZ hA
    go_wp2_with fail
    go_loopw [5] (fun iv wr => ∃ (i : Nat) (U : Ur), i ≤ 18 ∧ iv = .int .i64 i ∧ Hid (All w0 [eU m U, eR r N U] wr) ∧ Hid (U.sent.length < 70368744177663)) (fun iv _ => 18 - (intOf iv).toNat)
    case atStart => exact ⟨0, U, Nat.zero_le _, rfl, HA, hL⟩
    case round =>
      clear HA hL
      clear U
      obtain ⟨i, U, hi, rfl, HA, hL⟩ := hrel
      by_cases hlt : i < 18
      · have hlt' : (i : Int) < 18 := by omega
        have HI := Lib.hid hlt
        go_wp2_with fail
        go_loopw [6] (fun kv wr => ∃ (k : Nat) (U : Ur), k ≤ 9 ∧ kv = .int .u64 k ∧ Hid (All w0 [eU m U, eR r N U] wr) ∧ Hid (U.sent.length < 70368744177663)) (fun kv _ => 9 - (intOf kv).toNat)
        case atStart => exact ⟨0, U, Nat.zero_le _, rfl, HA, hL⟩
        case round =>
          clear HA hL
          clear U
          obtain ⟨k, U, hk, rfl, HA, hL⟩ := hrel
          by_cases hkt : k < 9
          · have hkt' : (k : Int) < 9 := by omega
            obtain ⟨kk, hkk⟩ : ∃ kk, (k * 5 + i) % 9 = kk := ⟨_, rfl⟩
            have ew1 : IntKind.u64.wrap ((k : Int) * 5) = (k : Int) * 5 := by rw [IntKind.wrap_u64]; omega
            have ew2 : IntKind.u64.wrap (i : Int) = i := by rw [IntKind.wrap_u64]; omega
            have ew3 : IntKind.u64.wrap ((k : Int) * 5 + (i : Int)) = (k : Int) * 5 + (i : Int) := by rw [IntKind.wrap_u64]; omega
            have em : ((k : Int) * 5 + (i : Int)) % 9 = (kk : Nat) := by omega
            have em2 : ((k : Int) * 5 + (i : Int)).tmod 9 = (kk : Nat) := by rw [Int.tmod_eq_emod_of_nonneg (by omega)]; exact em
            clear hkk
            obtain ⟨x, hx⟩ : ∃ x, valK (kd kk 1) U = x := ⟨_, rfl⟩
            obtain ⟨t, ht⟩ : ∃ t, okK (kd kk 1) = t := ⟨_, rfl⟩
            have RA := fun w9 (h : All w0 [eU m U, eR r N U] w9) => readA h 0 rfl kk 1
            have RB := fun w9 (h : All w0 [eU m (nextK (kd kk 1) U), eR r N U] w9) => readrA h 1 rfl kk 1 hN
            rw [hx, ht] at RA RB
            have HRA := Lib.hid RA; have HRB := Lib.hid RB
            clear RA RB hx ht
            go_wp2_with fail
            refine (HRA.out _ HA.out).mono ?_; rintro e w5 ⟨rfl, h⟩
            have HA1 : Hid (All w0 [eU m (nextK (kd kk 1) U), eR r N U] w5) := h; clear h
            go_wp2_with fail
            refine (HRB.out _ HA1.out).mono ?_; rintro e w6 ⟨rfl, h⟩
            have HA6 : Hid (All w0 [eU m (nextK (kd kk 1) U), eR r N (nextK (kd kk 1) U)] w6) := h; clear h
            go_wp2_with fail
            go_roundw
            case rel => exact ⟨k + 1, nextK (kd kk 1) U, by omega, by go_num, HA6, by show _ < _; rw [next_sent]; exact hL.out⟩
            case measure => simp [intOf]; omega
          · obtain rfl : k = 9 := by omega
            go_wp2_with fail
            go_roundw
            case rel => exact ⟨i + 1, U, by omega, by go_num, HA, hL⟩
            case measure => simp [intOf]; omega
      · obtain rfl : i = 18 := by omega
        have HL : Hid (U.sent.length < 70368744177664) := by have := hL.out; show _ < _; omega
        go_wp2_with fail
        refine (sentA HA.out 0 rfl HL).mono ?_; rintro e w2 ⟨la, ln, lc, lg, rfl, s1, s2, hb⟩
        have HL2 : Hid (ln < 70368744177664) := by show _ < _; rw [← s1.len]; exact HL.out
        have HS : Hid (All w0 [eU m U, eR r N U, eS (.slice la ln lc) U.sent] w2) := HA.out.newS hb s1 s2
        clear HA s1 s2 hb
        go_wp2_with fail
        go_loopw [13] (fun jv wr => ∃ (j : Nat) (L : List Nat), j ≤ ln ∧ jv = .int .i64 j ∧ Hid (All w0 [eU m U, eR r N U, eS (.slice la ln lc) L] wr)) (fun jv _ => ln - (intOf jv).toNat)
        case atStart => exact ⟨0, _, Nat.zero_le _, rfl, HS⟩
        case round =>
          clear HS
          obtain ⟨j, L, hj, rfl, HS⟩ := hrel
          have j46 : (ln : Int) < 70368744177664 := by have := HL2.out; omega
          by_cases hjt : j < ln
          · have hjt' : (j : Int) < ln := by omega
            obtain ⟨g, o, rfl⟩ := All.addr _ _ HS.out 2 rfl (by omega)
            obtain ⟨cx, fx⟩ := HS.out.cellS 2 rfl j hjt
            obtain ⟨x, hx⟩ : ∃ x, L.getD j 0 = x := ⟨_, rfl⟩
            rw [hx] at cx
            clear hx
            obtain ⟨y, hy⟩ : ∃ y, (x + 1) % 256 = y := ⟨_, rfl⟩
            have ey : IntKind.u8.wrap ((x : Int) + 1) = y := by rw [← hy]; simp [IntKind.wrap, IntKind.bits, IntKind.signed]
            have ey2 : ((x : Int) + 1) % 256 = y := by rw [← hy]; omega
            clear hy
            have HS2 := Lib.hid (HS.out.putS 2 rfl j y hjt)
            go_wp2_with fail
            go_roundw
            case rel => exact ⟨j + 1, _, by omega, by go_num, HS2⟩
            case measure => simp [intOf]; omega
          · obtain rfl : j = ln := by omega
            go_wp2_with (at_builtin; refine all_append rfl _ _ rfl (HS.out.below (below_one wr _)) 2 rfl rfl HL2.out 7 wr.heap.size rfl (by rw [World.cell?_alloc_at _ _ _ _ rfl]; rfl) ?_; intro la2 lc2 w4 q1 q2; have HS3 := Lib.hid q1; clear q1 q2)
            have HZ : Hid (All w0 [eU m U, eR r N U] w4) := pick2 HS3.out
            obtain ⟨wz, hwz⟩ : ∃ wz, wz = w4 := ⟨_, rfl⟩
            rw [← hwz] at HZ ⊢; clear hwz
            clear HS HS3
            obtain ⟨SB, hSB⟩ : ∃ SB, strB U.sent = SB := ⟨_, rfl⟩
            have CV : Hid (∀ w9 a n c g o, SlA w9 a n c g o U.sent → (convert 35 9 (.slice a n c)).run Try.prog w9 = .ok (.string SB) w9) := fun w9 a n c g o h => by rw [← hSB]; exact conv_b h
            have SM : Hid (∀ w9, Below wz.heap.size wz w9 → Calls Try.prog 20 #[.pointer (some ⟨m, 0, none⟩)] w9 (RetSl U.sent w9)) := fun w9 hb => sentA (HZ.out.below hb) 0 rfl HL
            have SR : Hid (∀ w9, Below wz.heap.size wz w9 → Calls Try.prog 21 #[.pointer (some ⟨r, 0, none⟩)] w9 (RetSl U.sent w9)) := fun w9 hb => sentrA (HZ.out.below hb) 1 rfl HL
            clear hSB
            go_region_with (first
                | (go_at_call 20; refine (SM.out _ ?_).mono ?_; exact below_drewN (Below.refl _ _) 1; rintro e w6 ⟨a1, n1, c1, g1, rfl, s1, s2, hb⟩; have cv6 := CV.out _ _ _ _ _ _ s1; have HS1 := Lib.hid s1; have HB6 := Lib.hid ((below_drewN (Below.refl wz.heap.size wz) 1).trans hb); clear s1 s2 hb)
                | (go_at_call 21; refine (SR.out _ ?_).mono ?_; exact HB6.out; rintro e w7 ⟨a2, n2, c2, g2, rfl, s1, s2, hb⟩; have cv7 := CV.out _ _ _ _ _ _ s1; have cv67 := CV.out _ _ _ _ _ _ (HS1.out.below hb); have HB7 := Lib.hid (HB6.out.trans (hb.mono HB6.out.size)); clear s1 s2 hb)
                )
            all_goals
              go_wp2_with fail
              go_ret
              exact ⟨rfl, (HZ.out.below HB7.out).out⟩
end Go.Proofs.Ytjjmohhkhadadaa
