/- The walk of UartOrders. -/
import Derived.Test.YtjjmohhkhadadaaF1
import Derived.Deep.RegionWith
import Derived.Deep.LoopGhost
import Derived.Deep.CutBlock
import Derived.Deep.CutRange
namespace Go.Proofs.Ytjjmohhkhadadaa
open Go.ChangeShapes Go.WideShapes Go.ChangeAt Go.RowKit
set_option linter.unusedVariables false
set_option linter.unusedSimpArgs false
/-- A row of steps in memory: four numbers each. -/
def Steps (w : World) (b o n : Nat) (K Z : Nat → Int) (A V : Nat → Nat) : Prop := ∀ i, i < n →
  w.cell? ⟨b, o + i * 4, none⟩ = some (.int .i64 (K i)) ∧ w.cell? ⟨b, o + i * 4 + 1, none⟩ = some (.int .u64 (A i : Nat)) ∧ w.cell? ⟨b, o + i * 4 + 2, none⟩ = some (.int .i64 (Z i)) ∧ w.cell? ⟨b, o + i * 4 + 3, none⟩ = some (.int .u64 (V i : Nat)) ∧
  A i < 18446744073709551616 ∧ V i < 18446744073709551616
theorem steps_below {w w' : World} {b o n : Nat} {K Z : Nat → Int} {A V : Nat → Nat} (h : Steps w b o n K Z A V) (hb : b < w.heap.size) (hB : Below w.heap.size w w') : Steps w' b o n K Z A V := by
  intro i hi
  obtain ⟨c0, c1, c2, c3, r⟩ := h i hi
  exact ⟨by rw [hB.cell (p := ⟨b, o + i * 4, none⟩) hb]; exact c0, by rw [hB.cell (p := ⟨b, o + i * 4 + 1, none⟩) hb]; exact c1, by rw [hB.cell (p := ⟨b, o + i * 4 + 2, none⟩) hb]; exact c2, by rw [hB.cell (p := ⟨b, o + i * 4 + 3, none⟩) hb]; exact c3, r⟩
/-- What stands at a round's head. -/
def Ord (w0 : World) (b k : Nat) (U : Ur) (qv sv : Value) (w : World) : Prop := All w0 [eU b U, eS qv U.q, eS sv U.sent] w ∧ U.want = 0 ∧ U.sent.length ≤ k
theorem want_up {U : Ur} (h : U.want = 0) : upF U = false := by unfold upF; rw [h]; rfl
theorem pick3 {w0 w : World} {A B C D : Ent} (h : All w0 [A, B, C, D] w) : All w0 [A, B, C] w := h.pick _ id (fun i E hi => by
    match i, hi with
    | 0, hi => exact hi
    | 1, hi => exact hi
    | 2, hi => exact hi
    | n + 3, hi => simp at hi) (fun i j _ _ h => h)
set_option maxRecDepth 100000 in
set_option maxHeartbeats 8000000 in
theorem orders_core (w : World) (b0 o0 N cap : Nat) (sa : Option Addr) (K Z : Nat → Int) (A V : Nat → Nat) (hS : Hid (Steps w b0 o0 N K Z A V)) (hsa : Hid (0 < N → sa = some ⟨b0, o0, none⟩ ∧ b0 < w.heap.size)) (hN : Hid (N < 4398046511104)) :
    Calls Try.prog 4 #[.slice sa N cap] w (RetB true w) := by
  go_enter Try.func4, Try.ntmps4
  go_wp2_with fail
  refine (fixed_c w).mono ?_; rintro e w1 ⟨rfl, hb1⟩
  have HB := Lib.hid hb1; clear hb1
  go_wp2_with fail
  refine (newA (all_nil HB.out)).mono ?_; rintro e w2 ⟨b, rfl, h⟩
  have h1 : All w [eU b U0, eS (.slice (some ⟨w2.heap.size, 0, none⟩) 0 0) []] (w2.alloc (Obj.cells #[] 5)) := h.newS (below_one w2 _) (slA_nil _ _ w2.heap.size 0) (fun h => absurd h (Nat.lt_irrefl _))
  have h2 : All w [eU b U0, eS (.slice (some ⟨w2.heap.size, 0, none⟩) 0 0) [], eS (.slice (some ⟨w2.heap.size + 1, 0, none⟩) 0 0) []] ((w2.alloc (Obj.cells #[] 5)).alloc (Obj.cells #[] 5)) := h1.newS (below_one _ _) (slA_nil _ _ (w2.heap.size + 1) 0) (fun h => absurd h (Nat.lt_irrefl _))
  have HO : Hid (Ord w b 0 U0 (.slice (some ⟨w2.heap.size, 0, none⟩) 0 0) (.slice (some ⟨w2.heap.size + 1, 0, none⟩) 0 0) ((w2.alloc (Obj.cells #[] 5)).alloc (Obj.cells #[] 5))) := ⟨h2, rfl, Nat.le_refl _⟩
  clear h h1 h2 HB
  go_wp2_with fail
  go_loopg [4, 5, 6, 7] N (fun gh qv sv lv iv wr => ∃ (k qn qc tn tc : Nat) (qa ta : Option Addr) (U : Ur), k + gh = N ∧ iv = .int .i64 k ∧ qv = .slice qa qn qc ∧ sv = .slice ta tn tc ∧ lv = .bool U.lost ∧ Hid (Ord w b k U (.slice qa qn qc) (.slice ta tn tc) wr))
  case atStart => exact ⟨0, 0, 0, 0, 0, _, _, U0, Nat.zero_add _, rfl, rfl, rfl, rfl, HO⟩
  case round =>
    clear HO
    obtain ⟨k, qn, qc, tn, tc, qa, ta, U, hk, rfl, rfl, rfl, rfl, HO⟩ := hrel
    cases gk with
    | succ r =>
      have hlt : k < N := by omega
      have hlt' : (k : Int) < N := by omega
      obtain ⟨rfl, hbl⟩ := hsa.out (by omega)
      obtain ⟨y0, y1, y2, y3, lx, lv⟩ := (steps_below hS.out hbl HO.out.1.out) k hlt
      obtain ⟨xk, hxk⟩ : ∃ x, K k = x := ⟨_, rfl⟩
      obtain ⟨xa, hxa⟩ : ∃ x, A k = x := ⟨_, rfl⟩
      obtain ⟨xz, hxz⟩ : ∃ x, Z k = x := ⟨_, rfl⟩
      obtain ⟨xv, hxv⟩ : ∃ x, V k = x := ⟨_, rfl⟩
      rw [hxk] at y0; rw [hxa] at y1 lx; rw [hxz] at y2; rw [hxv] at y3 lv
      clear hxk hxa hxz hxv lx hbl
      replace lv : Hid (xv < 18446744073709551616) := lv
      have kk1 : IntKind.i64.wrap ((k : Int) + 1) = (k : Int) + 1 := by have := hN.out; exact IntWalk.i64_in _ (by omega)
      obtain ⟨y, hy⟩ : ∃ y, xv % 256 = y := ⟨_, rfl⟩
      have ey : IntKind.u8.wrap (xv : Int) = y := by rw [← hy]; simp [IntKind.wrap, IntKind.bits, IntKind.signed]
      have ey2 : (xv : Int) % 256 = y := by rw [← hy]; omega
      have Y8 : Hid (y < 256) := by show _ < _; omega
      have HY := Lib.hid hy
      clear hy
      have HT : Hid (tn = U.sent.length ∧ tn ≤ k) := by
        obtain ⟨a9, n9, c9, g9, o9, e9, s9⟩ := HO.out.1.slice 2 rfl
        injection e9 with e91 e92 e93
        have := s9.len
        have := HO.out.2.2
        exact ⟨by omega, by omega⟩
      have HQ : Hid (qn = U.q.length ∧ qn ≤ 16) := by
        obtain ⟨a9, n9, c9, g9, o9, e9, s9⟩ := HO.out.1.slice 1 rfl
        injection e9 with e91 e92 e93
        have := s9.len
        obtain ⟨R9, W9, sa9, n8, c8, g8, o8, ta8, m8, d8, h8, p8, x9⟩ := HO.out.1.get 0 rfl
        have := x9.ok.len
        exact ⟨by omega, by omega⟩
      have HW : Hid (U.want = 0) := HO.out.2.1
      have T46 : tn < 70368744177664 := by have := HT.out; have := hN.out; omega
      have HL : Hid (U.sent.length < 70368744177664) := by have := HT.out; show _ < _; omega
      go_upto_region 11 with fail
      rename_i K1 k1
      clear y0 y1 y2 y3
      have HX : Hid (All w [eU b U, eS (.slice qa qn qc) U.q, eS (.slice ta tn tc) U.sent, eX wr.heap.size xk xz xa xv] (wr.alloc (Obj.cells #[.int .i64 xk, .int .u64 xa, .int .i64 xz, .int .u64 xv] 30))) := HO.out.1.newX xk xz xa xv _
      clear HO
      generalize (wr.alloc (Obj.cells #[Value.int .i64 xk, Value.int .u64 xa, Value.int .i64 xz, Value.int .u64 xv] 30)) = wx at *
      generalize wr.heap.size = X at *
      obtain ⟨hxs, x0, x1, x2, x3⟩ := HX.out.isX 3 rfl
      go_upto_block 2 with fail
      have HO9 : Hid (k < N) := hlt
      go_cut [4, 5, 6] from 20 to 112 (fun qv sv lv wx => ∃ (qn qc tn tc : Nat) (qa ta : Option Addr) (U : Ur), qv = .slice qa qn qc ∧ sv = .slice ta tn tc ∧ lv = .bool U.lost ∧ Hid (Ord w b (k + 1) U (.slice qa qn qc) (.slice ta tn tc) wx))
      case first =>
        by_cases e0 : xk = 0
        · subst e0
          go_wp2_with fail
          refine (writeA (v := xv) HX.out 0 rfl 0 1 lv HL).mono ?_; rintro e w3 ⟨rfl, h⟩
          rw [show okK (kd 0 1) = true from by decide]
          replace HX : Hid (All w [eU b { U with sent := U.sent ++ [y] }, eS (.slice qa qn qc) U.q, eS (.slice ta tn tc) U.sent, eX X 0 xz xa xv] w3) := by
            have h2 : All w [eU b { U with sent := U.sent ++ [xv % 256] }, eS (.slice qa qn qc) U.q, eS (.slice ta tn tc) U.sent, eX X 0 xz xa xv] w3 := h
            rw [HY.out] at h2; exact h2
          clear h hxs x0 x1 x2 x3
          go_wp2_with (at_builtin; refine all_append rfl _ _ rfl (HX.out.below (below_one w3 _)) 2 rfl rfl T46 y w3.heap.size rfl (by rw [World.cell?_alloc_at _ _ _ _ rfl]; rfl) ?_; intro ta2 tc2 w4 q1 q2; have HX2 := Lib.hid q1; clear q1 q2)
          have HM : Hid (Ord w b (k + 1) { U with sent := U.sent ++ [y] } (.slice qa qn qc) (.slice ta2 (tn + 1) tc2) w4) := ⟨pick3 HX2.out, HW.out, by have := HT.out; have := HO9.out; show (U.sent ++ [y]).length ≤ k + 1; rw [List.length_append]; show U.sent.length + 1 ≤ k + 1; omega⟩
          go_meet
          case rel => exact ⟨_, _, _, _, _, _, { U with sent := U.sent ++ [y] }, rfl, rfl, rfl, HM⟩
        · by_cases e1 : xk = 1
          · subst e1
            clear e0
            by_cases q0 : qn = 0
            · obtain rfl : qn = 0 := q0
              have HV : Hid (valK (kd 0 1) U = 0) := head_nil (by have := HQ.out; omega)
              have HU2 : Hid (nextK (kd 0 1) U = U) := tail_nil (by have := HQ.out; omega)
              go_wp2_with fail
              refine (readA HX.out 0 rfl 0 1).mono ?_; rintro e w3 ⟨rfl, h⟩
              rw [HV.out, show okK (kd 0 1) = true from by decide]
              have HM : Hid (Ord w b (k + 1) U (.slice qa 0 qc) (.slice ta tn tc) w3) := by
                have h2 : All w [eU b (nextK (kd 0 1) U), eS (.slice qa 0 qc) U.q, eS (.slice ta tn tc) U.sent, eX X 1 xz xa xv] w3 := h
                rw [HU2.out] at h2
                exact ⟨pick3 h2, HW.out, by have := HT.out; have := HO9.out; omega⟩
              clear h hxs x0 x1 x2 x3
              go_wp2_with fail
              go_meet
              case rel => exact ⟨_, _, _, _, _, _, U, rfl, rfl, rfl, HM⟩
            · have HCL : Hid (qn ≤ qc) := by
                obtain ⟨a9, n9, c9, g9, o9, e9, s9⟩ := HX.out.slice 1 rfl
                injection e9 with e91 e92 e93
                have := s9.le
                show _ ≤ _
                omega
              by_cases hqc : qc = 1
              · obtain rfl : qn = 1 := by have := HCL.out; omega
                have q0' : (0 : Int) < ((1 : Nat) : Int) := by omega
                have q0d : decide (0 < 1) = true := decide_eq_true (by omega)
                subst hqc
                obtain ⟨x8, hx8⟩ : ∃ x8, U.q.headD 0 = x8 := ⟨_, rfl⟩
                have HV : Hid (valK (kd 0 1) U = x8) := by show U.q.headD 0 = x8; exact hx8
                have HE : Hid (x8 < 256) := by
                  obtain ⟨R9, W9, sa9, n8, c8, g8, o8, ta8, m8, d8, h8, p8, x9⟩ := HX.out.get 0 rfl
                  show _ < _; rw [← hx8]; exact head_lt x9.ok
                have ex8 : IntKind.u64.wrap (x8 : Int) = x8 := by rw [IntKind.wrap_u64]; have := HE.out; omega
                have HC8 : Hid (∀ w9 l9, All w (l9 ++ []) w9 → True) := fun _ _ _ => trivial
                obtain ⟨g9, o9, rfl⟩ : ∃ g9 o9, qa = some ⟨g9, o9, none⟩ := by
                  obtain ⟨a9, n9, c9, g9, o9, e9, s9⟩ := HX.out.slice 1 rfl
                  injection e9 with e91 e92 e93
                  subst e91 e92 e93
                  exact ⟨g9, o9, (s9.addr (by omega)).1⟩
                go_wp2_with fail
                refine (readA HX.out 0 rfl 0 1).mono ?_; rintro e w3 ⟨rfl, h⟩
                rw [HV.out, show okK (kd 0 1) = true from by decide]
                replace HX : Hid (All w [eU b { U with q := U.q.tail }, eS (.slice (some ⟨g9, o9, none⟩) (1) 1) U.q, eS (.slice ta tn tc) U.sent, eX X 1 xz xa xv] w3) := h
                clear h hxs x0 x1 x2 x3
                have cq : w3.cell? ⟨g9, o9, none⟩ = some (.int .u8 (x8 : Nat)) := by
                  obtain ⟨a9, n9, c9, g8, o8, e9, s9⟩ := HX.out.slice 1 rfl
                  injection e9 with e91 e92 e93
                  subst e92 e93
                  have e8 := (s9.addr (by omega)).1
                  rw [← e91] at e8
                  injection e8 with e8
                  injection e8 with e81 e82
                  subst e81 e82
                  have := s9.cell 0 (by omega)
                  rw [show U.q.getD 0 0 = x8 by rw [← hx8]; cases U.q <;> rfl] at this
                  exact this
                clear hx8
                have HM : Hid (Ord w b (k + 1) { U with q := U.q.tail } (.slice (some ⟨g9, o9, none⟩) 0 0) (.slice ta tn tc) w3) := ⟨pick3 (HX.out.cutS 1 rfl), HW.out, by have := HT.out; have := HO9.out; show U.sent.length ≤ k + 1; omega⟩
                go_wp2_with fail
                go_meet
                case rel => exact ⟨_, _, _, _, _, _, { U with q := U.q.tail }, rfl, rfl, rfl, HM⟩
              · have hqc2 : 2 ≤ qc := by have := HCL.out; omega
                clear hqc
                obtain ⟨qn, rfl⟩ : ∃ q, qn = q + 1 := ⟨qn - 1, by omega⟩
                have q0' : (0 : Int) < ((qn + 1 : Nat) : Int) := by omega
                have q0d : decide (0 < qn + 1) = true := decide_eq_true (by omega)
                obtain ⟨qc, rfl⟩ : ∃ q, qc = q + 2 := ⟨qc - 2, by omega⟩
                obtain ⟨x8, hx8⟩ : ∃ x8, U.q.headD 0 = x8 := ⟨_, rfl⟩
                have HV : Hid (valK (kd 0 1) U = x8) := by show U.q.headD 0 = x8; exact hx8
                have HE : Hid (x8 < 256) := by
                  obtain ⟨R9, W9, sa9, n8, c8, g8, o8, ta8, m8, d8, h8, p8, x9⟩ := HX.out.get 0 rfl
                  show _ < _; rw [← hx8]; exact head_lt x9.ok
                have ex8 : IntKind.u64.wrap (x8 : Int) = x8 := by rw [IntKind.wrap_u64]; have := HE.out; omega
                have HC8 : Hid (∀ w9 l9, All w (l9 ++ []) w9 → True) := fun _ _ _ => trivial
                obtain ⟨g9, o9, rfl⟩ : ∃ g9 o9, qa = some ⟨g9, o9, none⟩ := by
                  obtain ⟨a9, n9, c9, g9, o9, e9, s9⟩ := HX.out.slice 1 rfl
                  injection e9 with e91 e92 e93
                  subst e91 e92 e93
                  exact ⟨g9, o9, (s9.addr (by omega)).1⟩
                go_wp2_with fail
                refine (readA HX.out 0 rfl 0 1).mono ?_; rintro e w3 ⟨rfl, h⟩
                rw [HV.out, show okK (kd 0 1) = true from by decide]
                replace HX : Hid (All w [eU b { U with q := U.q.tail }, eS (.slice (some ⟨g9, o9, none⟩) (qn + 1) (qc + 2)) U.q, eS (.slice ta tn tc) U.sent, eX X 1 xz xa xv] w3) := h
                clear h hxs x0 x1 x2 x3
                have cq : w3.cell? ⟨g9, o9, none⟩ = some (.int .u8 (x8 : Nat)) := by
                  obtain ⟨a9, n9, c9, g8, o8, e9, s9⟩ := HX.out.slice 1 rfl
                  injection e9 with e91 e92 e93
                  subst e92 e93
                  have e8 := (s9.addr (by omega)).1
                  rw [← e91] at e8
                  injection e8 with e8
                  injection e8 with e81 e82
                  subst e81 e82
                  have := s9.cell 0 (by omega)
                  rw [show U.q.getD 0 0 = x8 by rw [← hx8]; cases U.q <;> rfl] at this
                  exact this
                clear hx8
                have HM : Hid (Ord w b (k + 1) { U with q := U.q.tail } (.slice (some ⟨g9, o9 + 1, none⟩) qn (qc + 1)) (.slice ta tn tc) w3) := ⟨pick3 (HX.out.cutS 1 rfl), HW.out, by have := HT.out; have := HO9.out; show U.sent.length ≤ k + 1; omega⟩
                go_wp2_with fail
                go_meet
                case rel => exact ⟨_, _, _, _, _, _, { U with q := U.q.tail }, rfl, rfl, rfl, HM⟩
          · by_cases e2 : xk = 2
            · subst e2
              clear e0 e1
              by_cases q0 : qn = 0
              · cases hlo : U.lost
                · have HV : Hid (valK (kd 5 1) U = 96) := by show stF U = _; unfold stF; rw [hlo, decide_eq_false (by have := HQ.out; omega : ¬ 0 < U.q.length)]; rfl
                  obtain rfl : qn = 0 := q0
                  have b1 : bits .and .u64 96 1 = 0 := by decide
                  have b2 : bits .and .u64 96 2 = 0 := by decide
                  try rw [hlo]
                  try clear q0
                  go_wp2_with fail
                  refine (readA HX.out 0 rfl 5 1).mono ?_; rintro e w3 ⟨rfl, h⟩
                  rw [HV.out, show okK (kd 5 1) = true from by decide]
                  have HM : Hid (Ord w b (k + 1) { U with lost := false } (.slice qa 0 qc) (.slice ta tn tc) w3) := by
                    have h2 : All w [eU b { U with lost := false }, eS (.slice qa 0 qc) U.q, eS (.slice ta tn tc) U.sent, eX X 2 xz xa xv] w3 := h
                    exact ⟨pick3 h2, HW.out, by have := HT.out; have := HO9.out; show U.sent.length ≤ k + 1; omega⟩
                  clear h hxs x0 x1 x2 x3
                  go_wp2_with fail
                  go_meet
                  case rel => exact ⟨_, _, _, _, _, _, { U with lost := false }, rfl, rfl, rfl, HM⟩
                · have HV : Hid (valK (kd 5 1) U = 98) := by show stF U = _; unfold stF; rw [hlo, decide_eq_false (by have := HQ.out; omega : ¬ 0 < U.q.length)]; rfl
                  obtain rfl : qn = 0 := q0
                  have b1 : bits .and .u64 98 1 = 0 := by decide
                  have b2 : bits .and .u64 98 2 = 2 := by decide
                  try rw [hlo]
                  try clear q0
                  go_wp2_with fail
                  refine (readA HX.out 0 rfl 5 1).mono ?_; rintro e w3 ⟨rfl, h⟩
                  rw [HV.out, show okK (kd 5 1) = true from by decide]
                  have HM : Hid (Ord w b (k + 1) { U with lost := false } (.slice qa 0 qc) (.slice ta tn tc) w3) := by
                    have h2 : All w [eU b { U with lost := false }, eS (.slice qa 0 qc) U.q, eS (.slice ta tn tc) U.sent, eX X 2 xz xa xv] w3 := h
                    exact ⟨pick3 h2, HW.out, by have := HT.out; have := HO9.out; show U.sent.length ≤ k + 1; omega⟩
                  clear h hxs x0 x1 x2 x3
                  go_wp2_with fail
                  go_meet
                  case rel => exact ⟨_, _, _, _, _, _, { U with lost := false }, rfl, rfl, rfl, HM⟩
              · cases hlo : U.lost
                · have HV : Hid (valK (kd 5 1) U = 97) := by show stF U = _; unfold stF; rw [hlo, decide_eq_true (by have := HQ.out; omega : 0 < U.q.length)]; rfl
                  have q0' : (0 : Int) < (qn : Int) := by omega
                  have q0d : decide (0 < qn) = true := decide_eq_true (by omega)
                  have q0e : decide ((0 : Int) < (qn : Int)) = true := decide_eq_true (by omega)
                  have b1 : bits .and .u64 97 1 = 1 := by decide
                  have b2 : bits .and .u64 97 2 = 0 := by decide
                  try rw [hlo]
                  try clear q0
                  go_wp2_with fail
                  refine (readA HX.out 0 rfl 5 1).mono ?_; rintro e w3 ⟨rfl, h⟩
                  rw [HV.out, show okK (kd 5 1) = true from by decide]
                  have HM : Hid (Ord w b (k + 1) { U with lost := false } (.slice qa qn qc) (.slice ta tn tc) w3) := by
                    have h2 : All w [eU b { U with lost := false }, eS (.slice qa qn qc) U.q, eS (.slice ta tn tc) U.sent, eX X 2 xz xa xv] w3 := h
                    exact ⟨pick3 h2, HW.out, by have := HT.out; have := HO9.out; show U.sent.length ≤ k + 1; omega⟩
                  clear h hxs x0 x1 x2 x3
                  go_wp2_with fail
                  go_meet
                  case rel => exact ⟨_, _, _, _, _, _, { U with lost := false }, rfl, rfl, rfl, HM⟩
                · have HV : Hid (valK (kd 5 1) U = 99) := by show stF U = _; unfold stF; rw [hlo, decide_eq_true (by have := HQ.out; omega : 0 < U.q.length)]; rfl
                  have q0' : (0 : Int) < (qn : Int) := by omega
                  have q0d : decide (0 < qn) = true := decide_eq_true (by omega)
                  have q0e : decide ((0 : Int) < (qn : Int)) = true := decide_eq_true (by omega)
                  have b1 : bits .and .u64 99 1 = 1 := by decide
                  have b2 : bits .and .u64 99 2 = 2 := by decide
                  try rw [hlo]
                  try clear q0
                  go_wp2_with fail
                  refine (readA HX.out 0 rfl 5 1).mono ?_; rintro e w3 ⟨rfl, h⟩
                  rw [HV.out, show okK (kd 5 1) = true from by decide]
                  have HM : Hid (Ord w b (k + 1) { U with lost := false } (.slice qa qn qc) (.slice ta tn tc) w3) := by
                    have h2 : All w [eU b { U with lost := false }, eS (.slice qa qn qc) U.q, eS (.slice ta tn tc) U.sent, eX X 2 xz xa xv] w3 := h
                    exact ⟨pick3 h2, HW.out, by have := HT.out; have := HO9.out; show U.sent.length ≤ k + 1; omega⟩
                  clear h hxs x0 x1 x2 x3
                  go_wp2_with fail
                  go_meet
                  case rel => exact ⟨_, _, _, _, _, _, { U with lost := false }, rfl, rfl, rfl, HM⟩
            · have e0' : (xk == 0) = false := by simpa using e0
              have e1' : (xk == 1) = false := by simpa using e1
              have e2' : (xk == 2) = false := by simpa using e2
              clear e0 e1 e2
              by_cases q0 : qn < 16
              · have q16 : (qn : Int) < 16 := by omega
                have q16d : decide (qn < 16) = true := decide_eq_true q0
                have HG : Hid (giveF U y = { U with q := U.q ++ [y] }) := by show _ = _; unfold giveF; rw [if_neg (by have := HQ.out; omega)]
                have Q46 : qn < 70368744177664 := by omega
                go_wp2_with fail
                refine (giveA HX.out 0 rfl Y8).mono ?_; rintro e w3 ⟨rfl, h⟩
                replace HX : Hid (All w [eU b { U with q := U.q ++ [y] }, eS (.slice qa qn qc) U.q, eS (.slice ta tn tc) U.sent, eX X xk xz xa xv] w3) := by
                  have h2 : All w [eU b (giveF U y), eS (.slice qa qn qc) U.q, eS (.slice ta tn tc) U.sent, eX X xk xz xa xv] w3 := h
                  rw [HG.out] at h2; exact h2
                clear h hxs x0 x1 x2 x3
                go_wp2_with (at_builtin; refine all_append rfl _ _ rfl (HX.out.below (below_one w3 _)) 1 rfl rfl Q46 y w3.heap.size rfl (by rw [World.cell?_alloc_at _ _ _ _ rfl]; rfl) ?_; intro qa2 qc2 w4 q1 q2; have HX2 := Lib.hid q1; clear q1 q2)
                have HM : Hid (Ord w b (k + 1) { U with q := U.q ++ [y] } (.slice qa2 (qn + 1) qc2) (.slice ta tn tc) w4) := ⟨pick3 HX2.out, HW.out, by have := HT.out; have := HO9.out; show U.sent.length ≤ k + 1; omega⟩
                go_meet
                case rel => exact ⟨_, _, _, _, _, _, { U with q := U.q ++ [y] }, rfl, rfl, rfl, HM⟩
              · obtain rfl : qn = 16 := by have := HQ.out; omega
                have HG : Hid (giveF U y = { U with lost := true }) := by show _ = _; unfold giveF; rw [if_pos (by have := HQ.out; omega)]
                go_wp2_with fail
                refine (giveA HX.out 0 rfl Y8).mono ?_; rintro e w3 ⟨rfl, h⟩
                have HM : Hid (Ord w b (k + 1) { U with lost := true } (.slice qa 16 qc) (.slice ta tn tc) w3) := by
                  have h2 : All w [eU b (giveF U y), eS (.slice qa 16 qc) U.q, eS (.slice ta tn tc) U.sent, eX X xk xz xa xv] w3 := h
                  rw [HG.out] at h2
                  exact ⟨pick3 h2, HW.out, by have := HT.out; have := HO9.out; show U.sent.length ≤ k + 1; omega⟩
                clear h hxs x0 x1 x2 x3
                go_wp2_with fail
                go_meet
                case rel => exact ⟨_, _, _, _, _, _, { U with lost := true }, rfl, rfl, rfl, HM⟩
      case rest =>
        clear HX HT HQ HW HL HY Y8 T46
        clear hxs x0 x1 x2 x3
        obtain ⟨qn, qc, tn, tc, qa, ta, U, rfl, rfl, rfl, HM⟩ := hcut
        have HW : Hid (upF U = false) := want_up HM.out.2.1
        have HL : Hid (U.sent.length < 70368744177664) := by have := HM.out.2.2; have := HO9.out; have := hN.out; show _ < _; omega
        obtain ⟨SB, hSB⟩ : ∃ SB, strB U.sent = SB := ⟨_, rfl⟩
        have CV : Hid (∀ w9 a n c g o, SlA w9 a n c g o U.sent → (convert 35 9 (.slice a n c)).run Try.prog w9 = .ok (.string SB) w9) := fun w9 a n c g o h => by rw [← hSB]; exact conv_b h
        have CS : Hid (∀ w9, Below wc.heap.size wc w9 → (convert 35 9 (.slice ta tn tc)).run Try.prog w9 = .ok (.string SB) w9) := fun w9 hb => by
          obtain ⟨a9, n9, c9, g9, o9, e9, s9⟩ := HM.out.1.slice 2 rfl
          injection e9 with e91 e92 e93
          subst e91 e92 e93
          exact CV.out w9 _ _ _ _ _ (s9.below hb)
        have UP : Hid (∀ w9, Below wc.heap.size wc w9 → Calls Try.prog 18 #[.pointer (some ⟨b, 0, none⟩)] w9 (fun e w' => e = .returned (.bool false) ∧ w' = w9)) := fun w9 hb => by rw [← HW.out]; exact upA (HM.out.1.below hb) 0 rfl
        have SN : Hid (∀ w9, Below wc.heap.size wc w9 → Calls Try.prog 20 #[.pointer (some ⟨b, 0, none⟩)] w9 (RetSl U.sent w9)) := fun w9 hb => sentA (HM.out.1.below hb) 0 rfl HL
        clear hSB
        have cs0 := CS.out wc.drew (below_drewN (Below.refl _ _) 1)
        go_wp2_with fail
        go_region_with (first
          | (go_at_call 18; refine (UP.out _ ?_).mono ?_; exact below_drewN (Below.refl _ _) 1; rintro e w5 ⟨rfl, h5⟩; subst h5)
          | (go_at_call 20; refine (SN.out _ ?_).mono ?_; exact below_drewN (Below.refl _ _) 1; rintro e w6 ⟨a1, n1, c1, g1, rfl, s1, s2, hb6⟩; have cv6 := CV.out _ _ _ _ _ _ s1; have HB6 := Lib.hid ((below_drewN (Below.refl wc.heap.size wc) 1).trans hb6); have cs6 := CS.out _ HB6.out; clear s1 s2 hb6))
        all_goals
          go_wp2_with fail
          go_roundg r
          case measure => omega
          case rel => exact ⟨k + 1, qn, qc, tn, tc, qa, ta, U, by omega, by go_num, rfl, rfl, rfl, Lib.hid ⟨HM.out.1.below HB6.out, HM.out.2⟩⟩
    | zero =>
      obtain rfl : k = N := by omega
      have HQ : Hid (qn = U.q.length) := by
        obtain ⟨a9, n9, c9, g9, o9, e9, s9⟩ := HO.out.1.slice 1 rfl
        injection e9 with e91 e92 e93
        have := s9.len
        show _ = _
        omega
      have HL : Hid (U.sent.length < 70368744177664) := by have := HO.out.2.2; have := hN.out; show _ < _; omega
      have HA := Lib.hid HO.out.1
      clear HO
      by_cases q0 : qn = 0
      · subst q0
        have HV : Hid (upF { U with want := 1 } = false) := by show ((1 == 1) && decide (0 < U.q.length)) = false; rw [decide_eq_false (by have := HQ.out; omega)]; rfl
        go_wp2_with fail
        refine (writeA (v := 1) HA.out 0 rfl 1 1 (by show _ < _; decide) HL).mono ?_; rintro e w3 ⟨rfl, h⟩
        replace HA : Hid (All w [eU b { U with want := 1 }, eS (.slice qa 0 qc) U.q, eS (.slice ta tn tc) U.sent] w3) := h; clear h
        rw [show okK (kd 1 1) = true from by decide]
        go_wp2_with fail
        refine (upA HA.out 0 rfl).mono ?_; rintro e w4 ⟨rfl, h⟩
        subst h
        rw [HV.out]
        go_wp2_with fail
        go_ret
        exact retB_mk rfl HA.out.out
      · have HV : Hid (upF { U with want := 1 } = true) := by show ((1 == 1) && decide (0 < U.q.length)) = true; rw [decide_eq_true (by have := HQ.out; omega)]; rfl
        have q0' : (0 : Int) < (qn : Int) := by omega
        have q0d : decide (0 < qn) = true := decide_eq_true (by omega)
        have q0e : decide ((0 : Int) < (qn : Int)) = true := decide_eq_true (by omega)
        go_wp2_with fail
        refine (writeA (v := 1) HA.out 0 rfl 1 1 (by show _ < _; decide) HL).mono ?_; rintro e w3 ⟨rfl, h⟩
        replace HA : Hid (All w [eU b { U with want := 1 }, eS (.slice qa qn qc) U.q, eS (.slice ta tn tc) U.sent] w3) := h; clear h
        rw [show okK (kd 1 1) = true from by decide]
        go_wp2_with fail
        refine (upA HA.out 0 rfl).mono ?_; rintro e w4 ⟨rfl, h⟩
        subst h
        rw [HV.out]
        go_wp2_with fail
        go_ret
        exact retB_mk (by first | rfl | simp [q0d]) HA.out.out
end Go.Proofs.Ytjjmohhkhadadaa
