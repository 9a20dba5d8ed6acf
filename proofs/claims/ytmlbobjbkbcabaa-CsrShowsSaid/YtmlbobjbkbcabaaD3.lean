/- The walk of CsrLegal. -/
import Derived.Test.YtmlbobjbkbcabaaD2
import Derived.Test.YtmlbobjbkbcabaaD0
namespace Go.Proofs.Ytmlbobjbkbcabaa
open Go.ChangeShapes Go.WideShapes Go.ChangeAt Go.RowKit Go.Sort P
set_option linter.unusedVariables false
set_option linter.unusedSimpArgs false
/-- A row is stored; of the world behind, what is to be kept. -/
theorem wpList_store_rowP {P : Program} {ops : Array Oper} {rest : List Oper} {o : Oper} {a : Act} {w : World} {Q : Exit → Act → World → Prop} (p : World → Prop) (hgd : o.guard = none) (ty : TypeId) (x y : Operand) (ho : o.op = .store ty x y)
    (g : Nat) (cells : Array Value) (hx : a.eval x = .pointer (some ⟨g, 0, none⟩)) (hy : a.eval y = .agg cells)
    (t : TypeId) (old : Array Value) (hg : w.heap[g]? = some (.cells old t (0, 0))) (hi : (P.info? ty).map (·.size) = some cells.size)
    (hold : old.size = cells.size) (h1 : cells.all (·.oneCell') = true) (hp : p (w.setRow g cells))
    (h : ∀ w', p w' → wpList P ops Q rest (a.put o.dst undef) w') : wpList P ops Q (o :: rest) a w := wpList_store_row hgd ty x y ho g cells hx hy t old hg hi hold h1 (h _ hp)
/-- What is known behind 'c := held(l)'. -/
def Had (w : World) (cb : Nat) (S : Nat → Nat) (wx : World) : Prop := Row wx cb 26 (cs S) ∧ Below w.heap.size w wx ∧ w.heap.size ≤ cb ∧ cb < wx.heap.size
theorem had_start {w w2 : World} (S : Nat → Nat) (hb : Below w.heap.size w w2) : Had w w2.heap.size S ((w2.alloc (Obj.cells (cs Z38) 26)).setRow w2.heap.size (cs S)) :=
  ⟨(row_new _ _ _).setRow _, below_setRow (hb.alloc hb.size _) hb.size _, hb.size, by rw [sz_setRow, sz_alloc]; omega⟩
theorem Had.below {w : World} {cb : Nat} {S : Nat → Nat} {w1 w2 : World} (h : Had w cb S w1) (hb : Below w1.heap.size w1 w2) : Had w cb S w2 := by
  obtain ⟨h1, h2, h3, h4⟩ := h
  exact ⟨h1.below hb h4, below_step hb h2 h2.size, h3, Nat.lt_of_lt_of_le h4 hb.size⟩
theorem Had.u {w : World} {cb : Nat} {S : Nat → Nat} {wx : World} (h : Had w cb S wx) (k : Nat) (hk : isU k) : wx.cell? ⟨cb, k, none⟩ = some (.int .u64 (S k : Nat)) := by rw [h.1.cell k]; exact cs_u S k hk
set_option maxRecDepth 100000 in
set_option maxHeartbeats 1000000 in
theorem legal_core (p : Option Addr) (b o N cap : Nat) (K : Nat → Int) (V : Nat → Nat) (w : World) (h : Hid (Lays w p b o N K V)) : Calls Try.prog 7 #[.slice p N cap] w (RetB true w) := by
  go_enter Try.func7, Try.ntmps7
  go_wp2_with fail
  refine (awake_c _).mono ?_; rintro e w1 ⟨rfl, hb⟩
  have HB : Hid (Below w.heap.size w w1) := hb
  clear hb
  go_wp2_with fail
  refine (held_c p b o N cap K V w1 (h.out.below HB.out)).mono ?_; rintro e w2 ⟨S, HL, rfl, hb⟩
  replace HB := Lib.hid (below_step hb HB.out HB.out.size)
  clear hb h
  go_upto_region 4 with (refine wpList_store_rowP (Had w w2.heap.size S) rfl 26 _ _ rfl w2.heap.size (cs S) rfl rfl 26 (cs Z38) (row_new _ _ _) (infoS _) rfl (oneS _) (had_start S HB.out) ?_; rintro wd HD; replace HD := Lib.hid HD)
  generalize w2.heap.size = cb at HD ⊢
  clear HB w2
  have c0 := HD.out.u 0 (by unfold isU; decide)
  obtain ⟨t1, t2, t3, t4⟩ := leg_status HL.out
  have ux := HL.out.ok.u 0 (by decide)
  obtain ⟨x, ex⟩ : ∃ x, x = S 0 := ⟨_, rfl⟩
  rw [← ex] at c0 t1 t2 t3 t4 ux
  clear ex
  have e1 := u_and (x / 2048) 3 (by omega) (by decide)
  have e2 := u_and (x / 4294967296) 15 (by omega) (by decide)
  have e3 := u_and (x / 8192) 3 (by omega) (by decide)
  have e4 := u_andNot x 9223372079812737450 ux (by decide)
  rw [t2] at e2
  rw [show 18446744073709551615 - 9223372079812737450 = 9223371993896814165 from rfl, t4] at e4
  have d1 : ((x / 2048 : Nat) : Int) = (x : Int) / 2048 := by omega
  have d2 : ((x / 4294967296 : Nat) : Int) = (x : Int) / 4294967296 := by omega
  have d3 : ((x / 8192 : Nat) : Int) = (x : Int) / 8192 := by omega
  rw [d1] at e1; rw [d2] at e2; rw [d3] at e3
  replace e1 : (bits .and .u64 ((x : Int) / 2048) 3 == 2) = false := by rw [beq_eq_false_iff_ne]; intro q; exact t1 (by have := e1.symm.trans q; omega)
  replace e2 : bits .and .u64 ((x : Int) / 4294967296) 15 = 10 := e2
  replace e4 : bits .andNot .u64 (x : Int) 9223372079812737450 = 0 := e4
  go_upto_region 5 with fail
  go_cut [36] (fun s wx => s = .bool false ∧ wx = wd)
  case first =>
    clear t1 t2 t4 d1 d2 d3
    rcases t3 with ⟨q1, q2⟩ | ⟨q1, q2⟩
    · rw [q2] at e3
      replace e3 : bits .and .u64 ((x : Int) / 8192) 3 = 3 := e3
      have q1' : (x : Int) / 9223372036854775808 = 1 := by omega
      clear q1 q2
      go_wp2_with fail
      go_meet
      case rel => exact ⟨rfl, rfl⟩
    · replace e3 : (bits .and .u64 ((x : Int) / 8192) 3 == 3) = false := by rw [beq_eq_false_iff_ne]; intro q; exact q2 (by have := e3.symm.trans q; omega)
      have q1' : ((x : Int) / 9223372036854775808 == 1) = false := by rw [beq_eq_false_iff_ne]; omega
      clear q1 q2
      go_wp2_with fail
      go_meet
      case rel => exact ⟨rfl, rfl⟩
  case rest =>
    obtain ⟨rfl, rfl⟩ := hcut
    clear t1 t2 t3 t4 d1 d2 d3 e1 e2 e3 e4 c0 ux
    have l1 := low_of HL.out 1 2 (by decide) (by decide +kernel)
    have l14 := low_of HL.out 14 2 (by decide) (by decide +kernel)
    have l6 := low_of HL.out 6 1 (by decide) (by decide +kernel)
    have l15 := low_of HL.out 15 1 (by decide) (by decide +kernel)
    have l4 := low_of HL.out 4 18446744073709548885 (by decide) (by decide +kernel)
    have l5 := low_of HL.out 5 18446744073709551069 (by decide) (by decide +kernel)
    have l3 := low_of HL.out 3 18446744073709551069 (by decide) (by decide +kernel)
    have l2 := low_of HL.out 2 2048 (by decide) (by decide +kernel)
    have g21 := le_of HL.out 21 (by decide)
    have g10 := le_of HL.out 10 (by decide)
    have g19 := le_of HL.out 19 (by decide)
    have u : ∀ k, k < 22 → S k < 18446744073709551616 := fun k hk => HL.out.ok.u k (by omega)
    have b1 := u_and (S 1) 2 (u 1 (by decide)) (by decide)
    have b14 := u_and (S 14) 2 (u 14 (by decide)) (by decide)
    have b6 := u_and (S 6) 1 (u 6 (by decide)) (by decide)
    have b15 := u_and (S 15) 1 (u 15 (by decide)) (by decide)
    have b4 := u_andNot (S 4) 2730 (u 4 (by decide)) (by decide)
    have b5 := u_andNot (S 5) 546 (u 5 (by decide)) (by decide)
    have b3 := u_andNot (S 3) 546 (u 3 (by decide)) (by decide)
    have b2 := u_and (S 2 / 2048) 1 (by have := u 2 (by decide); omega) (by decide)
    rw [l1] at b1; rw [l14] at b14; rw [l6] at b6; rw [l15] at b15
    rw [show 18446744073709551615 - 2730 = 18446744073709548885 from rfl, l4] at b4
    rw [show 18446744073709551615 - 546 = 18446744073709551069 from rfl, l5] at b5
    rw [show 18446744073709551615 - 546 = 18446744073709551069 from rfl, l3] at b3
    have s2 := shr_and (S 2) 11 1
    rw [show (2 : Nat) ^ 11 = 2048 by decide, Nat.one_mul, l2] at s2
    rw [s2, show ((S 2 / 2048 : Nat) : Int) = (S 2 : Int) / 2048 by omega] at b2
    replace b1 : bits .and .u64 (S 1 : Int) 2 = 0 := b1
    replace b14 : bits .and .u64 (S 14 : Int) 2 = 0 := b14
    replace b6 : bits .and .u64 (S 6 : Int) 1 = 0 := b6
    replace b15 : bits .and .u64 (S 15 : Int) 1 = 0 := b15
    replace b4 : bits .andNot .u64 (S 4 : Int) 2730 = 0 := b4
    replace b5 : bits .andNot .u64 (S 5 : Int) 546 = 0 := b5
    replace b3 : bits .andNot .u64 (S 3 : Int) 546 = 0 := b3
    replace b2 : bits .and .u64 ((S 2 : Int) / 2048) 1 = 0 := b2
    have k21 : ¬ (S 21 : Int) > 255 := by have : S 21 ≤ 255 := g21; omega
    have k10 : ¬ (S 10 : Int) > 7 := by have : S 10 ≤ 7 := g10; omega
    have k19 : ¬ (S 19 : Int) > 7 := by have : S 19 ≤ 7 := g19; omega
    have hSat := Lib.hid HL.out.sat
    clear l1 l14 l6 l15 l4 l5 l3 l2 g21 g10 g19 u s2
    have c1 := HD.out.u 1 (by unfold isU; decide)
    have c2 := HD.out.u 2 (by unfold isU; decide)
    have c3 := HD.out.u 3 (by unfold isU; decide)
    have c4 := HD.out.u 4 (by unfold isU; decide)
    have c5 := HD.out.u 5 (by unfold isU; decide)
    have c6 := HD.out.u 6 (by unfold isU; decide)
    have c10 := HD.out.u 10 (by unfold isU; decide)
    have c14 := HD.out.u 14 (by unfold isU; decide)
    have c15 := HD.out.u 15 (by unfold isU; decide)
    have c19 := HD.out.u 19 (by unfold isU; decide)
    have c21 := HD.out.u 21 (by unfold isU; decide)
    go_upto_region 9 with fail
    clear c1 c2 c3 c4 c5 c6 c10 c14 c15 c19 c21 b1 b14 b6 b15 b4 b5 b3 b2 k21 k10 k19
    go_upto_region 10 with fail
    go_loopw [99] (fun iv wr => ∃ (k : Nat), k ≤ 8 ∧ iv = .int .i64 k ∧ Hid (Had w cb S wr)) (fun iv _ => 8 - (intOf iv).toNat)
    case atStart => exact ⟨0, by decide, rfl, HD⟩
    case round =>
      clear HD
      obtain ⟨k, hk, rfl, HD⟩ := hrel
      by_cases hlt : k < 8
      · have kk : (k : Int) < 8 := by omega
        have kk0 : (0 : Int) ≤ k := by omega
        have kk1 : IntKind.i64.wrap ((k : Int) + 1) = (k : Int) + 1 := IntWalk.i64_in _ (by omega)
        have cc := HD.out.1.cell (22 + k)
        rw [cs_b S k hlt] at cc
        have ca := HD.out.u (30 + k) (by unfold isU; omega)
        have hc := HL.out.ok.c k
        obtain ⟨g1, g2⟩ := cfg_bits (HL.out.cf k hlt) hc
        have ha := HL.out.ad k hlt
        rw [show adO S k = S (30 + k) by unfold adO; rw [Nat.mod_eq_of_lt hlt]] at ha
        obtain ⟨c, ec⟩ : ∃ c, c = cfO S k := ⟨_, rfl⟩
        obtain ⟨a, ea⟩ : ∃ a, a = S (30 + k) := ⟨_, rfl⟩
        rw [← ec] at cc g1 g2
        rw [← ea] at ca ha
        replace g2 : (bits .and .u8 (c : Int) 3 == 2) = false := by rw [beq_eq_false_iff_ne]; exact g2
        have a1 : (a : Int) / 18014398509481984 = 0 := by omega
        clear hc ha ec ea
        go_wp2_with fail
        exact ⟨⟨k + 1, hlt, rfl, HD⟩, by show 8 - ((k : Int) + 1).toNat < 8 - ((k : Int)).toNat; omega⟩
      · obtain rfl : k = 8 := by omega
        have c20 := HD.out.u 20 (by unfold isU; decide)
        obtain ⟨y, ey⟩ : ∃ y, y = S 20 := ⟨_, rfl⟩
        rw [← ey] at c20 hSat
        rcases hSat.out with q | q
        · have y0 : (y : Int) / 1152921504606846976 = 0 := by omega
          clear q hSat ey
          go_wp2_with fail
          go_ret
          exact retB_mk rfl HD.out.2.1
        · have y0 : (y : Int) / 1152921504606846976 = 8 := by omega
          clear q hSat ey
          go_wp2_with fail
          go_ret
          exact retB_mk rfl HD.out.2.1
end Go.Proofs.Ytmlbobjbkbcabaa
