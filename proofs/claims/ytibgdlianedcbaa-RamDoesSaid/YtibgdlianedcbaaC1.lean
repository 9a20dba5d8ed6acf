/- The walk of RamKeeps. -/
import Derived.Test.YtibgdlianedcbaaN3
import Derived.Laws.Bits64b
namespace Go.Proofs.Ytibgdlianedcbaa
open Go.Maps Go.WideMaps Go.ChangeShapes Go.WideShapes Go.ChangeAt Go.RowKit
set_option linter.unusedVariables false
set_option linter.unusedSimpArgs false
/-- A row of steps in memory: four numbers and a slice each. -/
def Steps (w : World) (b o n : Nat) (K Z : Nat → Int) (A V : Nat → Nat) (X : Nat → Option Addr) (XL XC : Nat → Nat) : Prop := ∀ i, i < n →
  w.cell? ⟨b, o + i * 5, none⟩ = some (.int .i64 (K i)) ∧ w.cell? ⟨b, o + i * 5 + 1, none⟩ = some (.int .u64 (A i : Nat)) ∧ w.cell? ⟨b, o + i * 5 + 2, none⟩ = some (.int .i64 (Z i)) ∧ w.cell? ⟨b, o + i * 5 + 3, none⟩ = some (.int .u64 (V i : Nat)) ∧ w.cell? ⟨b, o + i * 5 + 4, none⟩ = some (.slice (X i) (XL i) (XC i)) ∧
  A i < 18446744073709551616 ∧ V i < 18446744073709551616
theorem steps_below {w w' : World} {b o n : Nat} {K Z : Nat → Int} {A V : Nat → Nat} {X : Nat → Option Addr} {XL XC : Nat → Nat} (h : Steps w b o n K Z A V X XL XC) (hb : b < w.heap.size) (hB : Below w.heap.size w w') : Steps w' b o n K Z A V X XL XC := by
  intro i hi
  obtain ⟨c0, c1, c2, c3, c4, r⟩ := h i hi
  exact ⟨by rw [hB.cell (p := ⟨b, o + i * 5, none⟩) hb]; exact c0, by rw [hB.cell (p := ⟨b, o + i * 5 + 1, none⟩) hb]; exact c1, by rw [hB.cell (p := ⟨b, o + i * 5 + 2, none⟩) hb]; exact c2, by rw [hB.cell (p := ⟨b, o + i * 5 + 3, none⟩) hb]; exact c3, by rw [hB.cell (p := ⟨b, o + i * 5 + 4, none⟩) hb]; exact c4, r⟩
theorem read_a (m a : Nat) (A : Int) (sz : Int) (F : Nat → Nat) (w : World) (hM : Hid (Mem w m F)) (hA : Hid (A = a ∧ a < 18446744073709551616)) (hF : Hid (∀ i, F i < 256)) :
    Calls Try.prog 14 #[.pointer (some ⟨m, 0, none⟩), .int .u64 A, .int .i64 sz] w (RetR (readV F a sz) (hasV a sz) w) := by
  rw [hA.out.1]; exact read_c m a sz F w hM hA.out.2 hF
theorem write_a (S : Nat → Prop) (m a v : Nat) (sz : Int) (F : Nat → Nat) (w : World) (hM : Hid (MemS S w m F)) (hSb : Hid (∀ i, S i → i < w.heap.size)) (ha : Hid (a < 18446744073709551616)) (hv : Hid (v < 18446744073709551616)) (ok : Bool) (hok : Hid (hasV a sz = ok)) (G : Nat → Nat) (hG : Hid (wrF F a sz v = G)) :
    Calls Try.prog 12 #[.pointer (some ⟨m, 0, none⟩), .int .u64 a, .int .i64 sz, .int .u64 v] w (RetWr S m ok G w) :=
  (write_c S m a v sz F w hM hSb ha hv).mono (fun _ _ h => retWr_to hok.out hG.out h)
theorem pow8 (d : Nat) : (2 : Nat) ^ (8 * d) = 256 ^ d := by rw [Nat.pow_mul]
theorem shr_byte (v d : Nat) : IntKind.u8.wrap ((v : Int) / 2 ^ (8 * d)) = ((v / 256 ^ d % 256 : Nat) : Int) := by
  have e : (2 : Int) ^ (8 * d) = ((256 ^ d : Nat) : Int) := by rw [← pow8]; simp
  rw [e, ← Int.natCast_ediv]
  simp [IntKind.wrap, IntKind.bits, IntKind.signed]
theorem shr_mod (v d : Nat) : (v : Int) / 2 ^ (8 * d) % 256 = ((v / 256 ^ d % 256 : Nat) : Int) := by
  have e : (2 : Int) ^ (8 * d) = ((256 ^ d : Nat) : Int) := by rw [← pow8]; simp
  rw [e, ← Int.natCast_ediv]; simp
theorem and_byte (v d : Nat) (hv : v < 18446744073709551616) : bits .and .u64 ((v : Int) / 2 ^ (8 * d)) 255 = ((v / 256 ^ d % 256 : Nat) : Int) := by
  have e : (2 : Int) ^ (8 * d) = ((256 ^ d : Nat) : Int) := by rw [← pow8]; simp
  rw [e, ← Int.natCast_ediv]
  have h := bits_and_u64_nat (v / 256 ^ d) 255 (Nat.lt_of_le_of_lt (Nat.div_le_self _ _) hv) (by decide)
  rw [show v / 256 ^ d &&& 255 = v / 256 ^ d % 256 from Nat.and_two_pow_sub_one_eq_mod (v / 256 ^ d) 8] at h
  exact h
set_option maxRecDepth 100000 in
set_option maxHeartbeats 8000000 in
theorem keeps_core (w : World) (sa : Option Addr) (b o n cap y0 : Nat) (K Z : Nat → Int) (A V : Nat → Nat) (X : Nat → Option Addr) (XL XC : Nat → Nat) (hS : Hid (Steps w b o n K Z A V X XL XC)) (hsa : Hid (0 < n → sa = some ⟨b, o, none⟩ ∧ b < w.heap.size)) (hn : Hid (n ≤ 9223372036854775807)) (hy0 : Hid (y0 < 18446744073709551616)) :
    Calls Try.prog 4 #[.slice sa n cap, .int .u64 y0] w (RetB true w) := by
  obtain ⟨r, hr⟩ : ∃ r, y0 % 1048576 = r := ⟨_, rfl⟩
  have er : (y0 : Int) % 1048576 = (r : Int) := by omega
  have er' : (y0 : Int).tmod 1048576 = (r : Int) := by rw [Int.tmod_eq_emod_of_nonneg (by omega)]; exact er
  have r20 : (r : Int) < 1048576 := by omega
  obtain ⟨y, hy⟩ : ∃ y, 2147483648 + r = y := ⟨_, rfl⟩
  have ey : (2147483648 : Int) + (r : Int) = (y : Int) := by omega
  have HY : Hid (2147483648 ≤ y ∧ y < 2148532224) := by show _ ∧ _; omega
  clear hr hy
  go_enter Try.func4, Try.ntmps4
  go_wp2_with fail
  refine (fixed_c w).mono ?_; rintro e w1 ⟨rfl, hb1⟩
  have HB1 := Lib.hid hb1; clear hb1
  go_wp2_with fail
  refine (new_s w1).mono ?_; rintro e w2 ⟨m, S, rfl, hM, hSS, hb⟩
  have HM := Lib.hid hM
  have HT : Hid (∀ i, S i → w.heap.size ≤ i ∧ i < w2.heap.size) := fun i hi => ⟨Nat.le_trans HB1.out.size (hSS i hi).1, (hSS i hi).2⟩
  have HB := Lib.hid (HB1.out.trans (hb.mono HB1.out.size)); clear hb hM hSS HB1
  clear er er' r20
  go_wp2_with fail
  go_loopw [6, 7] (fun wv iv wr => ∃ (k : Nat) (F : Nat → Nat) (S : Nat → Prop), k ≤ n ∧ iv = .int .i64 k ∧ wv = .int .u8 (F y : Nat) ∧ Hid (MemS S wr m F) ∧ Hid (∀ i, S i → w.heap.size ≤ i ∧ i < wr.heap.size) ∧ Hid (∀ i, F i < 256) ∧ Hid (Below w.heap.size w wr)) (fun _ iv _ => n - (intOf iv).toNat)
  case atStart => exact ⟨0, fun _ => 0, S, Nat.zero_le _, rfl, rfl, HM, HT, fun _ => by show 0 < 256; decide, HB⟩
  case round =>
    clear HM HT HB
    obtain ⟨k, F, S, hk, rfl, rfl, HM, HT, HF, HB⟩ := hrel
    by_cases hlt : k < n
    · have hlt' : (k : Int) < n := by omega
      obtain ⟨rfl, hbl⟩ := hsa.out (by omega)
      obtain ⟨c0, c1, c2, c3, c4, lx, lv⟩ := (steps_below hS.out hbl HB.out) k hlt
      clear hbl
      obtain ⟨xk, hxk⟩ : ∃ x, K k = x := ⟨_, rfl⟩
      obtain ⟨xa, hxa⟩ : ∃ x, A k = x := ⟨_, rfl⟩
      obtain ⟨xz, hxz⟩ : ∃ x, Z k = x := ⟨_, rfl⟩
      obtain ⟨xv, hxv⟩ : ∃ x, V k = x := ⟨_, rfl⟩
      obtain ⟨xx, hxx⟩ : ∃ x, X k = x := ⟨_, rfl⟩
      obtain ⟨xl, hxl⟩ : ∃ x, XL k = x := ⟨_, rfl⟩
      obtain ⟨xc, hxc⟩ : ∃ x, XC k = x := ⟨_, rfl⟩
      rw [hxk] at c0; rw [hxa] at c1 lx; rw [hxz] at c2; rw [hxv] at c3 lv; rw [hxx, hxl, hxc] at c4
      clear hxk hxa hxz hxv hxx hxl hxc
      have LX := Lib.hid lx; have LV := Lib.hid lv
      clear lx lv
      have kk1 : IntKind.i64.wrap ((k : Int) + 1) = (k : Int) + 1 := by have := hn.out; exact IntWalk.i64_in _ (by omega)
      go_wp2_with fail
      have hbA : Below wr.heap.size wr (wr.alloc (Obj.cells #[.int .i64 xk, .int .u64 xa, .int .i64 xz, .int .u64 xv, .slice xx xl xc] 32)) := Below.alloc (Below.refl _ _) (Nat.le_refl _) _
      have HMa : Hid (MemS S (wr.alloc (Obj.cells #[.int .i64 xk, .int .u64 xa, .int .i64 xz, .int .u64 xv, .slice xx xl xc] 32)) m F) := HM.out.below hbA
      have HSa : Hid (∀ i, S i → i < (wr.alloc (Obj.cells #[.int .i64 xk, .int .u64 xa, .int .i64 xz, .int .u64 xv, .slice xx xl xc] 32)).heap.size) := fun i hi => by rw [sz_alloc]; have := (HT.out i hi).2; omega
      have HBa : Hid (Below w.heap.size w (wr.alloc (Obj.cells #[.int .i64 xk, .int .u64 xa, .int .i64 xz, .int .u64 xv, .slice xx xl xc] 32))) := HB.out.trans (hbA.mono HB.out.size)
      obtain ⟨ok, hok⟩ : ∃ ok, hasV xa xz = ok := ⟨_, rfl⟩
      obtain ⟨G, hG⟩ : ∃ G, wrF F xa xz xv = G := ⟨_, rfl⟩
      have HOK := Lib.hid hok; have HG := Lib.hid hG
      have HF2 : Hid (∀ i, G i < 256) := by rw [← hG]; exact wrF_lt HF.out _ _ _
      clear hok hG hbA
      refine (write_a S m xa xv xz F _ HMa HSa LX LV ok HOK G HG).mono ?_; rintro e w3 ⟨rfl, S3, hM3, ho3, hS3⟩
      have hns : ¬ S wr.heap.size := fun h => by have := (HT.out _ h).2; omega
      have hblk := ho3.block wr.heap.size (by rw [sz_alloc]; omega) hns
      have y1 : w3.cell? ⟨wr.heap.size, 1, none⟩ = some (.int .u64 xa) := by rw [World.cell?_of_block (w := (wr.alloc (Obj.cells #[.int .i64 xk, .int .u64 xa, .int .i64 xz, .int .u64 xv, .slice xx xl xc] 32))) (a := ⟨wr.heap.size, 1, none⟩) hblk, World.cell?_alloc_at _ _ _ _ rfl]; rfl
      have y2 : w3.cell? ⟨wr.heap.size, 2, none⟩ = some (.int .i64 xz) := by rw [World.cell?_of_block (w := (wr.alloc (Obj.cells #[.int .i64 xk, .int .u64 xa, .int .i64 xz, .int .u64 xv, .slice xx xl xc] 32))) (a := ⟨wr.heap.size, 2, none⟩) hblk, World.cell?_alloc_at _ _ _ _ rfl]; rfl
      have y3 : w3.cell? ⟨wr.heap.size, 3, none⟩ = some (.int .u64 xv) := by rw [World.cell?_of_block (w := (wr.alloc (Obj.cells #[.int .i64 xk, .int .u64 xa, .int .i64 xz, .int .u64 xv, .slice xx xl xc] 32))) (a := ⟨wr.heap.size, 3, none⟩) hblk, World.cell?_alloc_at _ _ _ _ rfl]; rfl
      have HM3 := Lib.hid hM3
      have HT3 : Hid (∀ i, S3 i → w.heap.size ≤ i ∧ i < w3.heap.size) := fun i hi => ⟨(hS3 i hi).2.elim (fun q => (HT.out i q).1) (fun q => by rw [sz_alloc] at q; have := HB.out.size; omega), (hS3 i hi).1⟩
      have HB3 : Hid (Below w.heap.size w w3) := below_own HBa.out ho3 (fun i hi => (HT.out i hi).1) HBa.out.size
      clear hns hblk hM3 ho3 hS3
      cases ok
      · have HE : Hid (G y = F y) := by show _ = _; rw [← HG.out, wrF_no _ _ _ _ HOK.out]
        go_wp2_with fail
        go_roundw
        case rel => exact ⟨k + 1, G, S3, by omega, by go_num, by rw [HE.out], HM3, HT3, HF2, HB3⟩
        case measure => simp [intOf]; omega
      · obtain ⟨nn, hnn, hn4⟩ : ∃ nn : Nat, xz = nn ∧ (nn = 1 ∨ nn = 2 ∨ nn = 4 ∨ nn = 8) := by
          have h := HOK.out
          unfold hasV at h
          have := (of_decide_eq_true h).1
          exact ⟨xz.toNat, by omega, by omega⟩
        subst hnn
        have HN4 := Lib.hid hn4
        have n8 : (nn : Int) ≤ 8 := by omega
        have n0 : (0 : Int) ≤ nn := by omega
        clear hn4
        by_cases c1 : xa ≤ y
        · have c1' : (xa : Int) ≤ y := by omega
          obtain ⟨d, hd⟩ : ∃ d, y = xa + d := ⟨y - xa, by omega⟩
          have ed : (y : Int) - (xa : Int) = (d : Int) := by omega
          have edw : IntKind.u64.wrap ((y : Int) - (xa : Int)) = (d : Int) := by rw [ed, IntKind.wrap_u64]; have := HY.out; omega
          have dw : IntKind.u64.wrap (d : Int) = (d : Int) := by rw [IntKind.wrap_u64]; have := HY.out; omega
          have HD := Lib.hid hd
          clear hd
          by_cases c2 : d < nn
          · have c2' : (d : Int) < nn := by omega
            have d7 : (d : Int) ≤ 7 := by omega
            have HE : Hid ((xv : Int) / 2 ^ (8 * d) % 256 = ((G y : Nat) : Int)) := by
              show _ = _
              rw [shr_mod, ← HG.out, wrF_in F xa nn xv y HOK.out (by have := HD.out; omega) (by have := HD.out; omega), show y - xa = d by have := HD.out; omega]
            have HC2 : Hid (xa ≤ y) := c1
            clear c1
            go_wp2_with fail
            try rw [HE.out]
            go_roundw
            case rel => exact ⟨k + 1, G, S3, by omega, by go_num, by first | rfl | rw [HE.out], HM3, HT3, HF2, HB3⟩
            case measure => simp [intOf]; omega
          · have c2' : ¬ (d : Int) < nn := by omega
            have HE : Hid (G y = F y) := by show _ = _; rw [← HG.out, wrF_out F xa nn xv y (by have := HD.out; omega)]
            have HC2 : Hid (xa ≤ y) := c1
            clear c1
            go_wp2_with fail
            go_roundw
            case rel => exact ⟨k + 1, G, S3, by omega, by go_num, by rw [HE.out], HM3, HT3, HF2, HB3⟩
            case measure => simp [intOf]; omega
        · have c1' : ¬ (xa : Int) ≤ y := by omega
          have HE : Hid (G y = F y) := by show _ = _; rw [← HG.out, wrF_out F xa nn xv y (by omega)]
          go_wp2_with fail
          go_roundw
          case rel => exact ⟨k + 1, G, S3, by omega, by go_num, by rw [HE.out], HM3, HT3, HF2, HB3⟩
          case measure => simp [intOf]; omega
    · have hlt' : ¬ (k : Int) < n := by omega
      have H1 : Hid (hasV y 1 = true) := by
        show _ = _
        rw [show (1 : Int) = ((1 : Nat) : Int) from rfl, has_iff y 1 (by omega)]
        exact decide_eq_true (by have := HY.out; omega)
      have H8 : Hid (hasV y 8 = decide (y ≤ 2148532216)) := by
        show _ = _
        rw [show (8 : Int) = ((8 : Nat) : Int) from rfl, has_iff y 8 (by omega)]
        exact decide_eq_decide.2 (by have := HY.out; omega)
      obtain ⟨f, hf⟩ : ∃ f, F y = f := ⟨_, rfl⟩
      have f8 : (f : Int) < 256 := by have := HF.out y; omega
      have HFf := Lib.hid hf
      rw [hf]
      have ef : IntKind.u64.wrap (f : Int) = (f : Int) := by rw [IntKind.wrap_u64]; omega
      clear hf
      go_wp2_with fail
      refine ((read_a m y y 1 F wr (Lib.hid HM.out.mem) (by show _ = _ ∧ _; exact ⟨rfl, by have := HY.out; omega⟩) HF).mono (fun _ _ h => retR_to (x' := f) (ok' := true) (by rw [read1 F y H1.out, HFf.out]) H1.out h)).mono ?_; rintro e w3 ⟨rfl, hb⟩
      replace HM := Lib.hid (HM.out.below hb)
      replace HB := Lib.hid (HB.out.trans (hb.mono HB.out.size)); clear hb
      go_wp2_with fail
      obtain ⟨v, hv⟩ : ∃ v, readV F y 8 = v := ⟨_, rfl⟩
      have HV := Lib.hid hv
      have HVl : Hid (v < 18446744073709551616) := by rw [← hv]; exact readV_lt HF.out _ _
      clear hv
      cases h8 : decide (y ≤ 2148532216)
      · have HL := Lib.hid h8
        have hgt : (2148532216 : Int) < y := by have := of_decide_eq_false h8; omega
        clear h8
        refine ((read_a m y y 8 F w3 (Lib.hid HM.out.mem) (by show _ = _ ∧ _; exact ⟨rfl, by have := HY.out; omega⟩) HF).mono (fun _ _ h => retR_to (x' := v) (ok' := false) HV.out (H8.out.trans HL.out) h)).mono ?_; rintro e w4 ⟨rfl, hb⟩
        replace HB := Lib.hid (HB.out.trans (hb.mono HB.out.size)); clear hb
        go_wp2_with fail
        go_ret
        exact retB_mk rfl HB.out
      · have HL := Lib.hid h8
        have hle : y ≤ 2148532216 := of_decide_eq_true h8
        have hle' : (y : Int) ≤ 2148532216 := by omega
        have HLE := Lib.hid hle
        have HH8 : Hid (hasV y 8 = true) := H8.out.trans h8
        clear h8 hle
        refine ((read_a m y y 8 F w3 (Lib.hid HM.out.mem) (by show _ = _ ∧ _; exact ⟨rfl, by have := HY.out; omega⟩) HF).mono (fun _ _ h => retR_to (x' := v) (ok' := true) HV.out (H8.out.trans HL.out) h)).mono ?_; rintro e w4 ⟨rfl, hb⟩
        replace HM := Lib.hid (HM.out.below hb)
        replace HB := Lib.hid (HB.out.trans (hb.mono HB.out.size)); clear hb
        go_wp2_with fail
        go_loopw [14] (fun iv wx => ∃ i : Nat, i ≤ 8 ∧ iv = .int .i64 i ∧ Hid (MemS S wx m F ∧ Below w.heap.size w wx)) (fun iv _ => 8 - (intOf iv).toNat)
        case atStart => exact ⟨0, by omega, rfl, HM.out, HB.out⟩
        case round =>
          clear HM HB
          obtain ⟨i, hi, rfl, HX⟩ := hrel
          by_cases hi8 : i < 8
          · have hi8' : (i : Int) < 8 := by omega
            have HI := Lib.hid hi8
            obtain ⟨q, hq⟩ : ∃ q, F (y + i) = q := ⟨_, rfl⟩
            have HQ := Lib.hid hq
            have H1i : Hid (hasV (y + i) 1 = true) := by
              show _ = _
              rw [show (1 : Int) = ((1 : Nat) : Int) from rfl, has_iff (y + i) 1 (by omega)]
              exact decide_eq_true (by have := HY.out; have := HLE.out; omega)
            have eb : bits .and .u64 ((v : Int) / 2 ^ (8 * i)) 255 = (q : Int) := by
              rw [and_byte v i HVl.out, ← HV.out, read8_byte F HF.out y i HH8.out hi8, hq]
            clear hq
            go_wp2_with fail
            refine ((read_a m (y + i) _ 1 F wr (Lib.hid HX.out.1.mem) (by show _ = _ ∧ _; exact ⟨by first | rfl | omega, by have := HY.out; have := HI.out; omega⟩) HF).mono (fun _ _ h => retR_to (x' := q) (ok' := true) (by rw [read1 F (y + i) H1i.out, HQ.out]) H1i.out h)).mono ?_; rintro e w5 ⟨rfl, hb⟩
            have HX5 : Hid (MemS S w5 m F ∧ Below w.heap.size w w5) := ⟨HX.out.1.below hb, HX.out.2.trans (hb.mono HX.out.2.size)⟩
            clear hb
            go_wp2_with fail
            go_roundw
            case rel => exact ⟨i + 1, by omega, by go_num, HX5⟩
            case measure => simp [intOf]; omega
          · obtain rfl : i = 8 := by omega
            go_wp2_with fail
            refine ((read_a m (y + 4) _ 4 F wr (Lib.hid HX.out.1.mem) (by show _ = _ ∧ _; exact ⟨by first | rfl | omega, by have := HY.out; omega⟩) HF).mono (fun _ _ h => retR_to (x' := v / 4294967296) (ok' := true) (by rw [read8_high F HF.out y HH8.out, HV.out]) (by
              rw [show (4 : Int) = ((4 : Nat) : Int) from rfl, has_iff (y + 4) 4 (by omega)]
              exact decide_eq_true (by have := HY.out; have := HLE.out; omega)) h)).mono ?_; rintro e w5 ⟨rfl, hb⟩
            have HB5 : Hid (Below w.heap.size w w5) := HX.out.2.trans (hb.mono HX.out.2.size)
            clear hb
            go_wp2_with fail
            go_ret
            exact retB_mk (by first | rfl | simp) HB5.out
end Go.Proofs.Ytibgdlianedcbaa
