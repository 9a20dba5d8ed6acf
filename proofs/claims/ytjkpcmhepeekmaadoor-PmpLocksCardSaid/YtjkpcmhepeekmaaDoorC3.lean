/- The walk of PmpLocks. -/
import Derived.Test.YtjkpcmhepeekmaaDoorC1
import Derived.Test.YtjkpcmhepeekmaaDoorM2
import Derived.Test.YtjkpcmhepeekmaaDoorQH
import Derived.Deep.LoopGhost
import Derived.Deep.RegionWith
import Derived.Deep.Cut
import Derived.Deep.CutRange
import Derived.Deep.DeepCutAuto
import Derived.Deep.CutBlock
namespace Go.Proofs.YtjkpcmhepeekmaaDoor
open Go.ChangeShapes Go.WideShapes Go.ChangeAt Go.RowKit Go.Sort
set_option linter.unusedVariables false
set_option linter.unusedSimpArgs false
/-- A setting that is locked now. -/
def orL (x : Nat) : Nat := bif Nat.blt x 128 then x + 128 else x
theorem or128 (c : Nat) (hc : c < 256) : bits .or .u8 (c : Int) 128 = ((orL c : Nat) : Int) := u8_all (p := fun c => bits .or .u8 (c : Int) 128 = ((orL c : Nat) : Int)) (by decide +kernel) c hc
theorem orL_lock (c : Nat) : lockB (orL c) = true := by
  unfold lockB orL
  rw [decide_eq_true_eq]
  cases h : Nat.blt c 128 with
  | true => show 128 ≤ c + 128; omega
  | false =>
    have : ¬ Nat.blt c 128 = true := by rw [h]; decide
    rw [Nat.blt_eq] at this
    show 128 ≤ c; omega
theorem orL_lt (c : Nat) (h : c < 256) : orL c < 256 := u8_all (p := fun c => orL c < 256) (by decide +kernel) c h
/-- The words that came in. -/
def Vs (W : World) (p : Option Addr) (b o n : Nat) (V : Nat → Nat) : Prop := (0 < n → p = some ⟨b, o, none⟩ ∧ b < W.heap.size) ∧ (∀ i, i < n → W.cell? ⟨b, o + i, none⟩ = some (.int .u64 (V i : Nat))) ∧ (∀ i, V i < 18446744073709551616) ∧ n ≤ 9223372036854775807
theorem Vs.below {W w : World} {p : Option Addr} {b o n : Nat} {V : Nat → Nat} (h : Vs W p b o n V) (hb : Below W.heap.size W w) : Vs w p b o n V := by
  obtain ⟨h1, h2, h3, h4⟩ := h
  exact ⟨fun hn => ⟨(h1 hn).1, Nat.lt_of_lt_of_le (h1 hn).2 hb.size⟩, fun i hi => by
    have hn : 0 < n := by omega
    rw [hb.cell (p := ⟨b, o + i, none⟩) (h1 hn).2]; exact h2 i hi, h3, h4⟩
/-- What is known ahead of the loop: the settings with the lock, the addresses. -/
def Hav2 (w : World) (c a : Nat → Nat) (wx : World) : Prop := Row wx w.heap.size 22 (u8s c) ∧ Row wx (w.heap.size + 1) 24 (u64s a) ∧ Below w.heap.size w wx ∧ w.heap.size + 2 ≤ wx.heap.size ∧ G wx
theorem hav2_start {w : World} (h : G w) (c a : Nat → Nat) : Hav2 w c a (boxed w c a) := ⟨boxed_c w c a, boxed_a w c a, boxed_below w c a, by rw [boxed_size]; exact Nat.le_refl _, boxed_g h c a⟩
theorem Hav2.below {w : World} {c a : Nat → Nat} {w1 w2 : World} {B : Nat} (h : Hav2 w c a w1) (hb : Below B w1 w2) (hB : w.heap.size + 2 ≤ B) (hG : 1 ≤ B) : Hav2 w c a w2 := by
  obtain ⟨h1, h2, h3, h4, h5⟩ := h
  exact ⟨h1.below hb (by omega), h2.below hb (by omega), below_step hb h3 (by omega), Nat.le_trans h4 hb.size, g_below h5 hb hG⟩
theorem Hav2.next {w : World} {c a : Nat → Nat} {w1 w2 : World} (h : Hav2 w c a w1) (hb : Below w1.heap.size w1 w2) : Hav2 w c a w2 := h.below hb h.2.2.2.1 h.2.2.2.2.1

theorem adr_any (c0 a0 f h : Nat → Nat) (N v : Nat) (hN : N < 8) (hL : lockB (c0 N) = true) (hf : Hid (OkC f)) (hh : Hid (OkA h)) (hv : Hid (v < 18446744073709551616)) (hk : KeptN c0 a0 f h N) :
    ∃ h', Hid (OkA h') ∧ Hid (KeptN c0 a0 f h' N) ∧ Hid (∀ u, Calls Tryd.prog 15 #[.agg (u8s f), .agg (u64s h), .int .i64 (v / 1152921504606846976 : Nat), .int .u64 v] u (RetA (u64s h') u)) := by
  by_cases h8 : v / 1152921504606846976 < 8
  · refine ⟨adrF f h (v / 1152921504606846976) v, fun k => ?_, kept_adr hN hL hk, fun u => Address_c f h _ v h8 hf hh hv u⟩
    unfold adrF
    cases (k == v / 1152921504606846976 && !heldB f (v / 1152921504606846976))
    · exact hh.out k
    · exact Nat.lt_trans (adr_lt v) (by decide)
  · exact ⟨h, hh, hk, fun u => Address_no f h _ v (by show ¬ _; omega) u⟩
theorem cfg_ok {f : Nat → Nat} {v : Nat} (hf : Hid (OkC f)) : Hid (OkC (cfgF f v)) := fun k => by
  unfold cfgF
  cases (lockB (f k) || oddB (byteF v k))
  · show cleanF (byteF v k) < 256
    have : byteF v k < 256 := Nat.mod_lt _ (by decide)
    unfold cleanF; omega
  · exact hf.out k
def pickN (n : Int) : Nat := bif decide (n < 0) || decide (8 ≤ n) then 0 else n.toNat
theorem pickN_lt (n : Int) : pickN n < 8 := by
  unfold pickN
  by_cases h : n < 0
  · simp [h]
  · by_cases h2 : 8 ≤ n
    · simp [h2]
    · simp [h, h2]; omega
set_option maxRecDepth 100000 in
set_option maxHeartbeats 1000000 in
theorem locks_core (c a V : Nat → Nat) (p : Option Addr) (vb vo len cap : Nat) (n : Int) (mode kind : Int) (x : Nat) (size : Int) (hc : Hid (OkC c)) (ha : Hid (OkA a)) (hx : Hid (x < 18446744073709551616)) (w : World) (hV : Hid (Vs w p vb vo len V)) (hG : Hid (G w)) :
    Calls Tryd.prog 7 #[.agg (u8s c), .agg (u64s a), .slice p len cap, .int .i64 n, .int .i64 mode, .int .i64 kind, .int .u64 x, .int .i64 size] w (RetB true w) := by
  have HV := Lib.hid (hav2_start hG.out c a)
  go_enter Tryd.func7, Tryd.ntmps7
  go_wp2_with fail
  refine (fixed_c _ HV.out.2.2.2.2).mono ?_; rintro e w1 ⟨rfl, hb⟩
  replace HV := Lib.hid (HV.out.next hb)
  clear hb
  go_upto_region 3 with fail
  go_cut [33] (fun s wx => s = .bool (decide (n < 0) || decide (8 ≤ n)) ∧ wx = w1)
  case first =>
    by_cases h : n < 0
    · go_wp2_with fail
      go_meet
      case rel => exact ⟨by simp [h], rfl⟩
    · have h' : decide (n < 0) = false := decide_eq_false h
      go_wp2_with fail
      go_meet
      case rel => exact ⟨by have : decide (n < 0) = false := decide_eq_false (by omega); rw [this]; rfl, rfl⟩
  case rest =>
    obtain ⟨rfl, rfl⟩ := hcut
    have HN : Hid (pickN n = bif decide (n < 0) || decide (8 ≤ n) then 0 else n.toNat) := rfl
    have HNN : Hid ((decide (n < 0) || decide (8 ≤ n)) = false → 0 ≤ n) := fun h => by simp at h; omega
    have hN8 := pickN_lt n
    generalize pickN n = N at *
    generalize (decide (n < 0) || decide (8 ≤ n)) = t at *
    go_upto_if 33 with fail
    go_cut [3] (fun s wx => s = .int .i64 N ∧ wx = wc)
    case first =>
      cases t
      · have hn := HNN.out rfl
        have e : n = N := by rw [HN.out]; show n = (n.toNat : Int); omega
        go_wp2_with fail
        go_meet
        case rel => exact ⟨by first | rfl | rw [e], rfl⟩
      · have e : N = 0 := HN.out
        go_wp2_with fail
        go_meet
        case rel => exact ⟨by first | rfl | (rw [e]; rfl), rfl⟩
    case rest =>
      obtain ⟨rfl, rfl⟩ := hcut
      clear HN HNN
      have n8 : (N : Int) < 8 := by omega
      have n0 : ((N : Nat) : Int).toNat = N := by omega
      obtain ⟨c0, ec0⟩ : ∃ c0, c0 = setN c N (orL (c N)) := ⟨_, rfl⟩
      have OC0 : Hid (OkC c0) := fun j => by
        rw [ec0]; unfold setN
        cases j == N
        · exact hc.out j
        · exact orL_lt _ (hc.out N)
      have hL : Hid (lockB (c0 N) = true) := by
        show _ = _
        rw [ec0]; unfold setN
        rw [show (N == N) = true by simp]; exact orL_lock _
      have cn := HV.out.1.cell N
      rw [u8s_at c N hN8] at cn
      have fn := HV.out.1.fz N
      have o1 := or128 (c N) (hc.out N)
      have hb : Below w.heap.size w (wc.setCell ⟨w.heap.size, N, none⟩ (.int .u8 (orL (c N) : Nat))) := Below.setCell HV.out.2.2.1 (Nat.le_refl _) _
      have R1 := HV.out.1.set N (.int .u8 (orL (c N) : Nat))
      rw [u8s_set c N _ hN8, ← ec0] at R1
      have V1 : Hid (Hav2 w c0 a (wc.setCell ⟨w.heap.size, N, none⟩ (.int .u8 (orL (c N) : Nat)))) := by
        have h4 := HV.out.2.2.2
        have hg := hG.out.1
        exact ⟨R1, HV.out.2.1.set_ne (by omega) _ _, hb, by rw [sz_set]; exact h4.1, g_below h4.2 (B := w.heap.size) (Below.setCell (p := ⟨w.heap.size, N, none⟩) (Below.refl _ _) (Nat.le_refl _) _) hg⟩
      clear R1 hb HV ec0
      have HRg := Lib.hid (fun v hv => Range_c c0 a N hN8 OC0 ha v hv)
      obtain ⟨A, eA⟩ : ∃ A, A = rA c0 a N := ⟨_, rfl⟩
      obtain ⟨B, eB⟩ : ∃ B, B = rB c0 a N := ⟨_, rfl⟩
      obtain ⟨K, eK⟩ : ∃ K, K = rOk c0 a N := ⟨_, rfl⟩
      rw [← eA, ← eB, ← eK] at HRg
      have HE := Lib.hid (And.intro eA (And.intro eB eK))
      clear eA eB eK
      go_upto_region 6 with fail
      clear cn fn o1
      generalize wc.setCell ⟨w.heap.size, N, none⟩ (.int .u8 (orL (c N) : Nat)) = wd at *
      go_wp2_with (first
        | (refine wpList_load_row rfl 22 _ rfl w.heap.size rfl 22 (u8s c0) (0, 0) _ V1.out.1 Tryd.underlying22 rfl (info8c _) ?_)
        | (refine wpList_load_row rfl 24 _ rfl (w.heap.size + 1) rfl 24 (u64s a) (0, 0) _ V1.out.2.1 Tryd.underlying24 rfl (info8a _) ?_))
      refine (HRg.out _ V1.out.2.2.2.2).mono ?_; rintro e w2 ⟨rfl, hb⟩
      have HV := Lib.hid (V1.out.next hb)
      clear V1 hb HRg
      have HV2S : Hid (w.heap.size + 2 ≤ w2.heap.size) := HV.out.2.2.2.1
      have hsz : ((w2.alloc (Obj.cells #[.int .u8 0, .int .u8 0, .int .u8 0, .int .u8 0, .int .u8 0, .int .u8 0, .int .u8 0, .int .u8 0] 22)).setRow w2.heap.size (u8s c0)).heap.size = w2.heap.size + 1 := by rw [sz_setRow, sz_alloc]
      have HVA := Lib.hid ((row_old HV.out.2.1 (Obj.cells #[.int .u8 0, .int .u8 0, .int .u8 0, .int .u8 0, .int .u8 0, .int .u8 0, .int .u8 0, .int .u8 0] 22)).setRow_ne (b' := w2.heap.size) (by have := HV.out.2.2.2.1; omega) (u8s c0))
      have HVZ : Hid (Row ((((w2.alloc (Obj.cells #[.int .u8 0, .int .u8 0, .int .u8 0, .int .u8 0, .int .u8 0, .int .u8 0, .int .u8 0, .int .u8 0] 22)).setRow w2.heap.size (u8s c0))).alloc (Obj.cells #[.int .u64 0, .int .u64 0, .int .u64 0, .int .u64 0, .int .u64 0, .int .u64 0, .int .u64 0, .int .u64 0] 24)) (w2.heap.size + 1) 24 (u64s (fun _ => 0))) := by
        have := row_new ((w2.alloc (Obj.cells #[.int .u8 0, .int .u8 0, .int .u8 0, .int .u8 0, .int .u8 0, .int .u8 0, .int .u8 0, .int .u8 0] 22)).setRow w2.heap.size (u8s c0)) (u64s (fun _ => 0)) 24
        rw [hsz] at this; exact this
      go_wp2_with (first
        | (refine wpList_load_row rfl 22 _ rfl (w.heap.size) rfl 22 (u8s c0) (0, 0) _ HV.out.1 Tryd.underlying22 rfl (info8c _) ?_)
        | (refine wpList_load_row rfl 24 _ rfl (w.heap.size + 1) rfl 24 (u64s a) (0, 0) _ HVA.out Tryd.underlying24 rfl (info8a _) ?_)
        | (refine wpList_store_row rfl 22 _ _ rfl w2.heap.size (u8s c0) rfl rfl 22 (u8s (fun _ => 0)) (row_new _ _ _) (info8c _) rfl (one8c _) ?_)
        | (refine wpList_store_row rfl 24 _ _ rfl (w2.heap.size + 1) (u64s a) rfl rfl 24 (u64s (fun _ => 0)) HVZ.out (info8a _) rfl (one8a _) ?_))
      clear hsz HVA
      have HC : Hid (Row ((((w2.alloc (Obj.cells #[.int .u8 0, .int .u8 0, .int .u8 0, .int .u8 0, .int .u8 0, .int .u8 0, .int .u8 0, .int .u8 0] 22)).setRow w2.heap.size (u8s c0)).alloc (Obj.cells #[.int .u64 0, .int .u64 0, .int .u64 0, .int .u64 0, .int .u64 0, .int .u64 0, .int .u64 0, .int .u64 0] 24)).setRow (w2.heap.size + 1) (u64s a)) w2.heap.size 22 (u8s c0)) := (row_old ((row_new _ _ _).setRow _) _).setRow_ne (by omega) _
      have HD : Hid (Row ((((w2.alloc (Obj.cells #[.int .u8 0, .int .u8 0, .int .u8 0, .int .u8 0, .int .u8 0, .int .u8 0, .int .u8 0, .int .u8 0] 22)).setRow w2.heap.size (u8s c0)).alloc (Obj.cells #[.int .u64 0, .int .u64 0, .int .u64 0, .int .u64 0, .int .u64 0, .int .u64 0, .int .u64 0, .int .u64 0] 24)).setRow (w2.heap.size + 1) (u64s a)) (w2.heap.size + 1) 24 (u64s a)) := HVZ.out.setRow _
      have hbx : Below w2.heap.size w2 ((((w2.alloc (Obj.cells #[.int .u8 0, .int .u8 0, .int .u8 0, .int .u8 0, .int .u8 0, .int .u8 0, .int .u8 0, .int .u8 0] 22)).setRow w2.heap.size (u8s c0)).alloc (Obj.cells #[.int .u64 0, .int .u64 0, .int .u64 0, .int .u64 0, .int .u64 0, .int .u64 0, .int .u64 0, .int .u64 0] 24)).setRow (w2.heap.size + 1) (u64s a)) := below_setRow (Below.alloc (below_setRow (Below.alloc (Below.refl _ _) (Nat.le_refl _) _) (Nat.le_refl _) _) (by rw [sz_setRow, sz_alloc]; exact Nat.le_succ _) _) (Nat.le_succ _) _
      replace HV := Lib.hid (HV.out.next hbx)
      have HSX : Hid (w2.heap.size + 2 ≤ ((((w2.alloc (Obj.cells #[.int .u8 0, .int .u8 0, .int .u8 0, .int .u8 0, .int .u8 0, .int .u8 0, .int .u8 0, .int .u8 0] 22)).setRow w2.heap.size (u8s c0)).alloc (Obj.cells #[.int .u64 0, .int .u64 0, .int .u64 0, .int .u64 0, .int .u64 0, .int .u64 0, .int .u64 0, .int .u64 0] 24)).setRow (w2.heap.size + 1) (u64s a)).heap.size) := by show _ ≤ _; rw [sz_setRow, sz_alloc, sz_setRow, sz_alloc]; exact Nat.le_refl _
      clear hbx HVZ
      generalize ((((w2.alloc (Obj.cells #[.int .u8 0, .int .u8 0, .int .u8 0, .int .u8 0, .int .u8 0, .int .u8 0, .int .u8 0, .int .u8 0] 22)).setRow w2.heap.size (u8s c0)).alloc (Obj.cells #[.int .u64 0, .int .u64 0, .int .u64 0, .int .u64 0, .int .u64 0, .int .u64 0, .int .u64 0, .int .u64 0] 24)).setRow (w2.heap.size + 1) (u64s a)) = w3 at *
      have hlen := hV.out.2.2.2
      have len1 : (len : Int) ≤ 9223372036854775807 := by omega
      clear hlen
      go_loopg [22] len (fun g i wr => ∃ (k : Nat) (f h : Nat → Nat), k + g = len ∧ i = .int .i64 k ∧ Hid (Hav2 w c0 a wr) ∧ Hid (Row wr w2.heap.size 22 (u8s f)) ∧ Hid (Row wr (w2.heap.size + 1) 24 (u64s h)) ∧ Hid (OkC f) ∧ Hid (OkA h) ∧ Hid (KeptN c0 a f h N) ∧ Hid (w2.heap.size + 2 ≤ wr.heap.size))
      case atStart => exact ⟨0, c0, a, by omega, rfl, HV, HC, HD, OC0, ha, kept_refl _ _ _, HSX⟩
      case round =>
        obtain ⟨k, f, h, hk, rfl, HV, HC, HD, OF, OH, HK, HSX⟩ := hrel
        cases gk with
        | zero =>
          obtain rfl : k = len := by omega
          have HR2 := Lib.hid (fun v hv => Range_c f h N hN8 OF OH v hv)
          obtain ⟨e1, e2, e3⟩ := kept_r HK.out
          rw [e1, e2, e3, ← HE.out.1, ← HE.out.2.1, ← HE.out.2.2] at HR2
          have fN : f N = c0 N := HK.out.1
          clear e1 e2 e3 hk
          go_wp2_with (first
            | (refine wpList_load_row rfl 22 _ rfl w2.heap.size rfl 22 (u8s f) (0, 0) _ HC.out Tryd.underlying22 rfl (info8c _) ?_)
            | (refine wpList_load_row rfl 24 _ rfl (w2.heap.size + 1) rfl 24 (u64s h) (0, 0) _ HD.out Tryd.underlying24 rfl (info8a _) ?_))
          refine (HR2.out _ HV.out.2.2.2.2).mono ?_; rintro e w4 ⟨rfl, hb⟩
          replace HC := Lib.hid (HC.out.below hb (by have := HSX.out; omega))
          replace HD := Lib.hid (HD.out.below hb (by have := HSX.out; omega))
          replace HSX : Hid (w2.heap.size + 2 ≤ w4.heap.size) := Nat.le_trans HSX.out hb.size
          replace HV := Lib.hid (HV.out.next hb)
          clear hb HR2
          go_wp2_with fail
          have cf := HC.out.cell N
          rw [u8s_at f N hN8, fN] at cf
          have cc := HV.out.1.cell N
          rw [u8s_at c0 N hN8] at cc
          have K1 := cell_regrown cf
          have K2 := cell_regrown cc
          refine wp_region_quiet_below (by kernel_rfl) (by kernel_rfl) ?_
          repeat (go_big_quiet_step (fail))
          refine wpQuiet_nil ?_
          intro _ hw'
          obtain ⟨⟨dq, osq⟩, hw''⟩ := hw'
          subst hw''
          have hb := below_regrown w4 dq osq
          replace HC := Lib.hid (HC.out.below hb (by have := HSX.out; omega))
          replace HD := Lib.hid (HD.out.below hb (by have := HSX.out; omega))
          replace HSX : Hid (w2.heap.size + 2 ≤ (grow (redrawn w4 dq) osq).heap.size) := Nat.le_trans HSX.out hb.size
          replace HV := Lib.hid (HV.out.next hb)
          generalize grow (redrawn w4 dq) osq = w5 at *
          clear K1 K2 cf cc hb
          have hA := HE.out.1
          have hB2 := HE.out.2.1
          have hK2 := HE.out.2.2
          clear HE
          by_cases z : N = 0
          case neg =>
            have z1 : (N : Int) > 0 := by omega
            clear hA hB2 hK2
            go_wp2_with fail
            go_ret
            exact retB_mk rfl HV.out.2.2.1
          case pos =>
          subst z
          have CH : Hid (K = true → A ≤ x → x ≤ B → chkB f h mode kind x size = chkB c0 a mode kind x size) := fun hk h1 h2 => kept_chk HK.out (by rw [← hK2]; exact hk) (by rw [← hA]; exact h1) (by rw [← hB2]; exact h2)
          clear hA hB2 hK2
          cases K with
          | false =>
            go_wp2_with fail
            go_ret
            exact retB_mk rfl HV.out.2.2.1
          | true =>
            by_cases s1 : size < 1
            · skip
              go_wp2_with fail
              go_ret
              exact retB_mk rfl HV.out.2.2.1
            · by_cases s8 : size > 8
              · skip
                go_wp2_with fail
                go_ret
                exact retB_mk rfl HV.out.2.2.1
              · by_cases x1 : x < A
                · have x1' : (x : Int) < A := by omega
                  go_wp2_with fail
                  go_ret
                  exact retB_mk rfl HV.out.2.2.1
                · have x1' : ¬ ((x : Int) < A) := by omega
                  have x1'' : A ≤ x := by omega
                  by_cases x2 : B < x
                  · have x2' : (x : Int) > B := by omega
                    go_wp2_with fail
                    go_ret
                    exact retB_mk rfl HV.out.2.2.1
                  · have x2' : ¬ ((x : Int) > B) := by omega
                    have x2'' : x ≤ B := by omega
                    have ch := CH.out rfl x1'' x2''
                    have HC1 := Lib.hid (fun v hv => Check_c f h mode kind x size OF OH hx v hv)
                    have HC2 := Lib.hid (fun v hv => Check_c c0 a mode kind x size OC0 ha hx v hv)
                    rw [ch] at HC1
                    obtain ⟨R, eR⟩ : ∃ R, R = chkB c0 a mode kind x size := ⟨_, rfl⟩
                    rw [← eR] at HC1 HC2
                    clear eR ch CH
                    have q1 : ∀ dd os, Calls Tryd.prog 11 #[.agg (u8s f), .agg (u64s h), .int .i64 mode, .int .i64 kind, .int .u64 x, .int .i64 size] (grow (redrawn w5 dd) os) fun e w'' => e = .returned (.bool R) ∧ ∃ p : Regrown, w'' = grow (redrawn w5 p.d) p.os := fun dd os => q_b (HC1.out _ (g_regrown HV.out.2.2.2.2 dd os))
                    have q2 : ∀ dd os, Calls Tryd.prog 11 #[.agg (u8s c0), .agg (u64s a), .int .i64 mode, .int .i64 kind, .int .u64 x, .int .i64 size] (grow (redrawn w5 dd) os) fun e w'' => e = .returned (.bool R) ∧ ∃ p : Regrown, w'' = grow (redrawn w5 p.d) p.os := fun dd os => q_b (HC2.out _ (g_regrown HV.out.2.2.2.2 dd os))
                    go_wp2_with fail
                    refine wp_region_quiet_below (by kernel_rfl) (by kernel_rfl) ?_
                    repeat (first
                      | go_big_quiet_skip
                      | (go_big_quiet_want; first
                          | (refine quiet_load_row 22 _ rfl (w2.heap.size) rfl 22 (u8s f) _ HC.out Tryd.underlying22 rfl (info8c _) ?_; simp only [Act.put, List.setIfInBounds_toArray, List.set_cons_succ, List.set_cons_zero]; go_big_quiet_on)
                          | (refine quiet_load_row 24 _ rfl (w2.heap.size + 1) rfl 24 (u64s h) _ HD.out Tryd.underlying24 rfl (info8a _) ?_; simp only [Act.put, List.setIfInBounds_toArray, List.set_cons_succ, List.set_cons_zero]; go_big_quiet_on)
                          | (refine quiet_load_row 22 _ rfl (w.heap.size) rfl 22 (u8s c0) _ HV.out.1 Tryd.underlying22 rfl (info8c _) ?_; simp only [Act.put, List.setIfInBounds_toArray, List.set_cons_succ, List.set_cons_zero]; go_big_quiet_on)
                          | (refine quiet_load_row 24 _ rfl (w.heap.size + 1) rfl 24 (u64s a) _ HV.out.2.1 Tryd.underlying24 rfl (info8a _) ?_; simp only [Act.put, List.setIfInBounds_toArray, List.set_cons_succ, List.set_cons_zero]; go_big_quiet_on)
                          | (go_big_quiet_op; first | go_big_quiet_on | go_big_quiet_call ((first | (go_at_call_of 11 (Value.agg (u8s f)); exact q1 _ _) | (go_at_call_of 11 (Value.agg (u8s c0)); exact q2 _ _))))))
                    refine wpQuiet_nil ?_
                    intro _ hw'
                    obtain ⟨⟨dq, osq⟩, hw''⟩ := hw'
                    subst hw''
                    have hb := below_regrown w5 dq osq
                    replace HV := Lib.hid (HV.out.next hb)
                    generalize grow (redrawn w5 dq) osq = w6 at hb HV ⊢
                    clear q1 q2 hb HC HD HSX
                    go_wp2_with fail
                    go_ret
                    exact retB_mk (by cases R <;> rfl) HV.out.2.2.1
        | succ g =>
          have hlt : (k : Int) < len := by omega
          have k0 : ((k : Nat) : Int).toNat = k := by omega
          have hk1 : k + 1 + g = len := by omega
          have hVw := hV.out.below HV.out.2.2.1
          obtain ⟨rfl, hvb⟩ := hV.out.1 (by omega)
          have vc := hVw.2.1 k (by omega)
          have HVl := Lib.hid (hV.out.2.2.1 k)
          obtain ⟨v, ev⟩ : ∃ v, v = V k := ⟨_, rfl⟩
          rw [← ev] at vc HVl
          have HS := Lib.hid HV2S.out
          by_cases h3 : k % 3 = 0
          · have t3 : ((k : Int) % 3 == 0) = true := by rw [beq_iff_eq]; omega
            have t3' : ((k : Int).tmod 3 == 0) = true := by rw [Int.tmod_eq_emod_of_nonneg (by omega)]; exact t3
            have HCf := Lib.hid (fun u => Config_c f v OF HVl u)
            have OF2 := cfg_ok (v := v) OF
            have HK2 := Lib.hid (kept_cfg (v := v) hL.out HK.out)
            obtain ⟨f2, ef⟩ : ∃ f2, f2 = cfgF f v := ⟨_, rfl⟩
            rw [← ef] at HCf OF2 HK2
            clear ev ef hVw hvb h3 hk
            have q1 : ∀ dd os, Calls Tryd.prog 13 #[.agg (u8s f), .int .u64 v] (grow (redrawn wr dd) os) fun e w'' => e = .returned (.agg (u8s f2)) ∧ ∃ p : Regrown, w'' = grow (redrawn wr p.d) p.os := fun dd os => q_a (HCf.out _)
            have K1 := cell_regrown vc
            go_wp2_with fail
            refine wp_region_below_head 6 1 #[true, true, true, true, true, true, false] (by kernel_rfl) (by kernel_rfl) rfl ?_
            simp only [List.take_succ_cons, List.take_zero]
            iterate 6 (first
              | go_big_quiet_skip
              | (go_big_quiet_want; first
                  | (refine quiet_load_row 22 _ rfl (w2.heap.size) rfl 22 (u8s f) _ HC.out Tryd.underlying22 rfl (info8c _) ?_; simp only [Act.put, List.setIfInBounds_toArray, List.set_cons_succ, List.set_cons_zero]; go_big_quiet_on)
                  | (go_big_quiet_op; first | go_big_quiet_on | go_big_quiet_call ((go_at_call 13; exact q1 _ _)))))
            refine wpQuiet_nil ?_
            intro _ hw'
            obtain ⟨⟨dq, osq⟩, hw''⟩ := hw'
            subst hw''
            have hb := below_regrown wr dq osq
            have HV5 := Lib.hid (HV.out.next hb)
            have HC5 := Lib.hid (HC.out.below hb (by have := HSX.out; omega))
            have HD5 := Lib.hid (HD.out.below hb (by have := HSX.out; omega))
            have HS5 : Hid (w2.heap.size + 2 ≤ (grow (redrawn wr dq) osq).heap.size) := Nat.le_trans HSX.out hb.size
            generalize grow (redrawn wr dq) osq = w5 at *
            clear q1 K1 hb HV HC HD HSX vc
            have HC6 := Lib.hid (HC5.out.setRow (u8s f2))
            have HD6 := Lib.hid (HD5.out.setRow_ne (b' := w2.heap.size) (by omega) (u8s f2))
            have HV6 := Lib.hid (HV5.out.below (below_setRow (Below.refl w2.heap.size w5) (Nat.le_refl _) (u8s f2)) (by have := HV2S.out; omega) (by have := HV2S.out; omega))
            have HS6 : Hid (w2.heap.size + 2 ≤ (w5.setRow w2.heap.size (u8s f2)).heap.size) := by show _ ≤ _; rw [sz_setRow]; exact HS5.out
            refine wpAny_ready (rs := [6]) (by decide +kernel) (by simp) ?_
            refine AllReady.cons rfl (fun K hK => ?_) AllReady.nil
            rw [if_pos (by rfl)]
            refine wp_store_row 22 _ _ rfl w2.heap.size (u8s f2) rfl rfl 22 (u8s f) HC5.out (info8c _) rfl (one8c _) ?_
            refine hK _ _ ?_
            refine wpAny_done (by decide +kernel) ?_ _
            clear HV5 HC5 HD5 HS5
            go_wp2_with fail
            go_roundg g
            case measure => omega
            case rel => exact ⟨k + 1, f2, h, hk1, by go_num, HV6, HC6, HD6, OF2, OH, HK2, HS6⟩
          · have t3 : ((k : Int) % 3 == 0) = false := by rw [beq_eq_false_iff_ne]; omega
            have t3' : ((k : Int).tmod 3 == 0) = false := by rw [Int.tmod_eq_emod_of_nonneg (by omega)]; exact t3
            obtain ⟨h2, OH2, HK2, HAd⟩ := adr_any c0 a f h N v hN8 hL.out OF OH HVl HK.out
            have hv0 := HVl.out
            have v1 : (v : Int) / 1152921504606846976 = ((v / 1152921504606846976 : Nat) : Int) := by omega
            obtain ⟨i, hi⟩ : ∃ i, i = v / 1152921504606846976 := ⟨_, rfl⟩
            rw [← hi] at v1 HAd
            have i16 : i < 16 := by omega
            have v2 : wrap64 (i : Int) = (i : Int) := by rw [IntWalk.wrap64_in _ ⟨by omega, by omega⟩]
            clear ev hVw hvb h3 hk hv0 hi i16
            have q1 : ∀ dd os, Calls Tryd.prog 15 #[.agg (u8s f), .agg (u64s h), .int .i64 i, .int .u64 v] (grow (redrawn wr dd) os) fun e w'' => e = .returned (.agg (u64s h2)) ∧ ∃ p : Regrown, w'' = grow (redrawn wr p.d) p.os := fun dd os => q_a (HAd.out _)
            have K1 := cell_regrown vc
            go_wp2_with fail
            refine wp_region_below_head 13 1 #[true, true, true, true, true, true, true, true, true, true, true, true, true, false] (by kernel_rfl) (by kernel_rfl) rfl ?_
            simp only [List.take_succ_cons, List.take_zero]
            iterate 13 (first
              | go_big_quiet_skip
              | (go_big_quiet_want; first
                  | (refine quiet_load_row 22 _ rfl (w2.heap.size) rfl 22 (u8s f) _ HC.out Tryd.underlying22 rfl (info8c _) ?_; simp only [Act.put, List.setIfInBounds_toArray, List.set_cons_succ, List.set_cons_zero]; go_big_quiet_on)
                  | (refine quiet_load_row 24 _ rfl (w2.heap.size + 1) rfl 24 (u64s h) _ HD.out Tryd.underlying24 rfl (info8a _) ?_; simp only [Act.put, List.setIfInBounds_toArray, List.set_cons_succ, List.set_cons_zero]; go_big_quiet_on)
                  | (go_big_quiet_op; first | go_big_quiet_on | go_big_quiet_call ((go_at_call 15; exact q1 _ _)))))
            refine wpQuiet_nil ?_
            intro _ hw'
            obtain ⟨⟨dq, osq⟩, hw''⟩ := hw'
            subst hw''
            have hb := below_regrown wr dq osq
            have HV5 := Lib.hid (HV.out.next hb)
            have HC5 := Lib.hid (HC.out.below hb (by have := HSX.out; omega))
            have HD5 := Lib.hid (HD.out.below hb (by have := HSX.out; omega))
            have HS5 : Hid (w2.heap.size + 2 ≤ (grow (redrawn wr dq) osq).heap.size) := Nat.le_trans HSX.out hb.size
            generalize grow (redrawn wr dq) osq = w5 at *
            clear q1 K1 hb HV HC HD HSX vc
            have HC6 := Lib.hid (HC5.out.setRow_ne (b' := w2.heap.size + 1) (by omega) (u64s h2))
            have HD6 := Lib.hid (HD5.out.setRow (u64s h2))
            have HV6 := Lib.hid (HV5.out.below (below_setRow (Below.refl (w2.heap.size + 1) w5) (Nat.le_refl _) (u64s h2)) (by have := HV2S.out; omega) (by have := HV2S.out; omega))
            have HS6 : Hid (w2.heap.size + 2 ≤ (w5.setRow (w2.heap.size + 1) (u64s h2)).heap.size) := by show _ ≤ _; rw [sz_setRow]; exact HS5.out
            refine wpAny_ready (rs := [13]) (by decide +kernel) (by simp) ?_
            refine AllReady.cons rfl (fun K hK => ?_) AllReady.nil
            rw [if_pos (by rfl)]
            refine wp_store_row 24 _ _ rfl (w2.heap.size + 1) (u64s h2) rfl rfl 24 (u64s h) HD5.out (info8a _) rfl (one8a _) ?_
            refine hK _ _ ?_
            refine wpAny_done (by decide +kernel) ?_ _
            clear HV5 HC5 HD5 HS5
            go_wp2_with fail
            go_roundg g
            case measure => omega
            case rel => exact ⟨k + 1, f, h2, hk1, by go_num, HV6, HC6, HD6, OF, OH2, HK2, HS6⟩
end Go.Proofs.YtjkpcmhepeekmaaDoor
