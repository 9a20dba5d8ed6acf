/- The walk of ClintDoes. -/
import Derived.Test.YtilfeanampomjaaB7
import Derived.Deep.Cut
namespace Go.Proofs.Ytilfeanampomjaa
open Go.ChangeShapes Go.WideShapes Go.ChangeAt Go.RowKit
set_option linter.unusedVariables false
set_option linter.unusedSimpArgs false
/-- A row of steps in memory: four numbers each. -/
def Steps (w : World) (b o n : Nat) (K Z : Nat → Int) (A V : Nat → Nat) : Prop := ∀ i, i < n →
  w.cell? ⟨b, o + i * 4, none⟩ = some (.int .i64 (K i)) ∧ w.cell? ⟨b, o + i * 4 + 1, none⟩ = some (.int .u64 (A i : Nat)) ∧ w.cell? ⟨b, o + i * 4 + 2, none⟩ = some (.int .i64 (Z i)) ∧ w.cell? ⟨b, o + i * 4 + 3, none⟩ = some (.int .u64 (V i : Nat)) ∧
  A i < 18446744073709551616 ∧ V i < 18446744073709551616 ∧ (Lit.int .i64 (Z i)).wf = true
/-- One step as the round holds it. -/
def IsX (w : World) (b : Nat) (k z : Int) (x v : Nat) : Prop := b < w.heap.size ∧
  w.cell? ⟨b, 0, none⟩ = some (.int .i64 k) ∧ w.cell? ⟨b, 1, none⟩ = some (.int .u64 x) ∧ w.cell? ⟨b, 2, none⟩ = some (.int .i64 z) ∧ w.cell? ⟨b, 3, none⟩ = some (.int .u64 v)
theorem IsX.kept {w w' : World} {b x v : Nat} {k z : Int} {r : Option Nat} (h : IsX w b k z x v) (hg : w.grownBy w' r) (hne : some b ≠ r) : IsX w' b k z x v := by
  obtain ⟨h0, c0, c1, c2, c3⟩ := h
  have hb := hg.block b h0 hne
  refine ⟨Nat.lt_of_lt_of_le h0 hg.size, ?_, ?_, ?_, ?_⟩
  · rw [World.cell?_of_block (w := w) (a := ⟨b, 0, none⟩) hb]; exact c0
  · rw [World.cell?_of_block (w := w) (a := ⟨b, 1, none⟩) hb]; exact c1
  · rw [World.cell?_of_block (w := w) (a := ⟨b, 2, none⟩) hb]; exact c2
  · rw [World.cell?_of_block (w := w) (a := ⟨b, 3, none⟩) hb]; exact c3
theorem IsX.below {w w' : World} {b x v : Nat} {k z : Int} (h : IsX w b k z x v) (hb : Below w.heap.size w w') : IsX w' b k z x v := h.kept (grown_below hb) (by simp)
theorem isX_new (w : World) (k z : Int) (x v : Nat) (t : TypeId) : IsX (w.alloc (Obj.cells #[.int .i64 k, .int .u64 x, .int .i64 z, .int .u64 v] t)) w.heap.size k z x v := by
  refine ⟨by simp, ?_, ?_, ?_, ?_⟩ <;> (rw [World.cell?_alloc_at _ _ _ _ rfl]; rfl)
theorem steps_below {w w' : World} {b o n : Nat} {K Z : Nat → Int} {A V : Nat → Nat} (h : Steps w b o n K Z A V) (hb : b < w.heap.size) (hB : Below w.heap.size w w') : Steps w' b o n K Z A V := by
  intro i hi
  obtain ⟨c0, c1, c2, c3, r⟩ := h i hi
  exact ⟨by rw [hB.cell (p := ⟨b, o + i * 4, none⟩) hb]; exact c0, by rw [hB.cell (p := ⟨b, o + i * 4 + 1, none⟩) hb]; exact c1, by rw [hB.cell (p := ⟨b, o + i * 4 + 2, none⟩) hb]; exact c2, by rw [hB.cell (p := ⟨b, o + i * 4 + 3, none⟩) hb]; exact c3, r⟩
theorem below_one (w : World) (o : Obj) : Below w.heap.size w (w.alloc o) := (Below.refl _ _).alloc (Nat.le_refl _) o
set_option maxRecDepth 100000 in
set_option maxHeartbeats 4000000 in
theorem does_core (w : World) (b o n cap : Nat) (K Z : Nat → Int) (A V : Nat → Nat) (hS : Steps w b o n K Z A V) (hn : b < w.heap.size ∧ n ≤ 9223372036854775807) :
    Calls Try.prog 3 #[.slice (some ⟨b, o, none⟩) n cap] w (RetB true w) := by
  have HS := Lib.hid hS; clear hS
  have HN := Lib.hid hn; clear hn
  go_enter Try.func3, Try.ntmps3
  go_wp2_with fail
  refine (fixed_c _).mono ?_; rintro e0 v1 ⟨rfl, bq⟩
  have HB := Lib.hid bq; clear bq
  go_wp2_with fail
  refine (new_c _).mono ?_; rintro e0 v2 ⟨m0, rfl, g2, h2, bq⟩
  have GM : Hid (w.heap.size ≤ m0) := Nat.le_trans HB.out.size g2
  have HM := Lib.hid h2; clear h2 g2
  replace HB := Lib.hid (HB.out.trans (bq.mono HB.out.size)); clear bq
  go_wp2_with fail
  refine (newr_c _).mono ?_; rintro e0 v3 ⟨r0, rfl, g2, h2, bq⟩
  have GR : Hid (w.heap.size ≤ r0) := Nat.le_trans HB.out.size g2
  have NR : Hid (m0 ≠ r0) := by have := HM.out.1; show _ ≠ _; omega
  replace HM := Lib.hid (HM.out.below bq)
  have HR := Lib.hid h2; clear h2 g2
  replace HB := Lib.hid (HB.out.trans (bq.mono HB.out.size)); clear bq
  go_wp2_with fail
  go_loopw [3, 4, 5] (fun mv rv i wr => ∃ k m r s a t : Nat, k ≤ n ∧ i = .int .i64 k ∧ mv = .pointer (some ⟨m, 0, none⟩) ∧ rv = .pointer (some ⟨r, 0, none⟩) ∧ Hid (IsC wr m s a t) ∧ Hid (IsC wr r s t a) ∧ Hid (w.heap.size ≤ m) ∧ Hid (w.heap.size ≤ r) ∧ Hid (m ≠ r) ∧ Hid (s < 2) ∧ Hid (a < 18446744073709551616) ∧ Hid (t < 18446744073709551616) ∧ Hid (Below w.heap.size w wr)) (fun _ _ i _ => n - (intOf i).toNat)
  case atStart => exact ⟨0, m0, r0, 0, 18446744073709551615, 0, Nat.zero_le _, rfl, rfl, rfl, HM, HR, GM, GR, NR, (by show _ < _; decide), (by show _ < _; decide), (by show _ < _; decide), HB⟩
  case round =>
    clear HM HR GM GR NR HB
    obtain ⟨k, m, r, s, a, t, hk, rfl, rfl, rfl, HM, HR, GHM, GHR, NR, ls, la, lt, HB⟩ := hrel
    by_cases hd : k < n
    · obtain ⟨y0, y1, y2, y3, lx, lv, lz⟩ := (steps_below HS.out HN.out.1 HB.out) k hd
      obtain ⟨xk, hxk⟩ : ∃ x, K k = x := ⟨_, rfl⟩
      obtain ⟨xa, hxa⟩ : ∃ x, A k = x := ⟨_, rfl⟩
      obtain ⟨xz, hxz⟩ : ∃ x, Z k = x := ⟨_, rfl⟩
      obtain ⟨xv, hxv⟩ : ∃ x, V k = x := ⟨_, rfl⟩
      rw [hxk] at y0; rw [hxa] at y1 lx; rw [hxz] at y2 lz; rw [hxv] at y3 lv
      clear hxk hxa hxz hxv
      replace lx := Lib.hid lx; replace lv := Lib.hid lv; replace lz := Lib.hid lz
      have kk1 : IntKind.i64.wrap ((k : Int) + 1) = (k : Int) + 1 := by have := HN.out.2; exact IntWalk.i64_in _ (by omega)
      go_upto_region 9 with fail
      rename_i K1 k1
      clear y0 y1 y2 y3
      obtain ⟨X, hX⟩ : ∃ X, wr.heap.size = X := ⟨_, rfl⟩
      have HX := Lib.hid (isX_new wr xk xz xa xv 30)
      have NX : Hid (X ≠ m) := by have := HM.out.1; show _ ≠ _; omega
      have NY : Hid (X ≠ r) := by have := HR.out.1; show _ ≠ _; omega
      have NM : Hid (m ≠ r) := NR
      have bx := below_one wr (Obj.cells #[.int .i64 xk, .int .u64 xa, .int .i64 xz, .int .u64 xv] 30)
      replace HM := Lib.hid (HM.out.below bx); replace HR := Lib.hid (HR.out.below bx)
      replace HB := Lib.hid (HB.out.trans (bx.mono HB.out.size)); clear bx
      rw [hX] at HX
      generalize (wr.alloc (Obj.cells #[Value.int .i64 xk, Value.int .u64 xa, Value.int .i64 xz, Value.int .u64 xv] 30)) = wx at *
      generalize wr.heap.size = X0 at *
      subst hX
      obtain ⟨hxs, x0, x1, x2, x3⟩ := HX.out
      by_cases e0 : xk = 0
      · subst e0
        obtain ⟨kk, hkk⟩ : ∃ kk, kd xa xz = kk := ⟨_, rfl⟩
        have WM := fun u h => write_c u m s a t h ls.out la.out lt.out xv lv.out xa xz lx.out lz.out
        have WR := fun u h => writer_c u r s a t h ls.out la lt xv lv xa xz
        rw [hkk] at WM WR
        obtain ⟨ok, hok⟩ : ∃ ok, decide (kk ≠ 0) = ok := ⟨_, rfl⟩
        rw [hok] at WM WR; clear hok hkk
        replace WM := Lib.hid WM; replace WR := Lib.hid WR
        go_wp2_with fail
        refine (WM.out _ HM.out).mono ?_; rintro e0 v1 ⟨rfl, h1, hg⟩
        clear hxs x0 x1 x2 x3
        replace HR := Lib.hid (HR.out.kept hg (by have := NR.out; simp; omega))
        replace HX := Lib.hid (HX.out.kept hg (by have := NX.out; simp; omega))
        replace HM : Hid (IsC v1 m (wrS kk s xv) (wrA kk a xv) (wrT kk t xv)) := h1; clear h1
        replace HB := Lib.hid (HB.out.grown hg HB.out.size (fun k hk => by cases hk; exact GHM.out)); clear hg
        obtain ⟨hxs, x0, x1, x2, x3⟩ := HX.out
        go_wp2_with fail
        refine (WR.out _ HR.out).mono ?_; rintro e0 v2 ⟨rfl, h1, hg⟩
        clear hxs x0 x1 x2 x3
        replace HM := Lib.hid (HM.out.kept hg (by have := NM.out; simp; omega))
        replace HX := Lib.hid (HX.out.kept hg (by have := NY.out; simp; omega))
        replace HR : Hid (IsC v2 r (wrS kk s xv) (wrT kk t xv) (wrA kk a xv)) := h1; clear h1
        replace HB := Lib.hid (HB.out.grown hg HB.out.size (fun k hk => by cases hk; exact GHR.out)); clear hg
        obtain ⟨hxs, x0, x1, x2, x3⟩ := HX.out
        cases ok
        · go_wp2_with fail
          go_roundw
          case rel => exact ⟨k + 1, m, r, _, _, _, by omega, by first | rfl | (congr 1; omega) | (congr 1; simp), rfl, rfl, HM, HR, GHM, GHR, NR, Lib.hid (wrS_lt kk s xv ls.out), Lib.hid (wrA_lt kk a xv la.out lv.out), Lib.hid (wrT_lt kk t xv lt.out lv.out), HB⟩
          case measure => first | (simp [intOf]; done) | (simp [intOf]; omega)
        · go_wp2_with fail
          go_roundw
          case rel => exact ⟨k + 1, m, r, _, _, _, by omega, by first | rfl | (congr 1; omega) | (congr 1; simp), rfl, rfl, HM, HR, GHM, GHR, NR, Lib.hid (wrS_lt kk s xv ls.out), Lib.hid (wrA_lt kk a xv la.out lv.out), Lib.hid (wrT_lt kk t xv lt.out lv.out), HB⟩
          case measure => first | (simp [intOf]; done) | (simp [intOf]; omega)
      by_cases e1 : xk = 1
      · subst e1
        clear e0
        obtain ⟨kk, hkk⟩ : ∃ kk, kd xa xz = kk := ⟨_, rfl⟩
        have WM := fun u h => read_c u m s a t h ls.out la.out lt.out xa xz lx.out lz.out
        have WR := fun u h => readr_c u r s a t h la lt xa xz
        rw [hkk] at WM WR
        obtain ⟨ok, hok⟩ : ∃ ok, decide (kk ≠ 0) = ok := ⟨_, rfl⟩
        obtain ⟨nn, hnn⟩ : ∃ nn, rdK kk s a t = nn := ⟨_, rfl⟩
        rw [hok, hnn] at WM WR; clear hok hkk hnn
        replace WM := Lib.hid WM; replace WR := Lib.hid WR
        go_wp2_with fail
        refine (WM.out _ HM.out).mono ?_; rintro e0 v1 ⟨rfl, bq⟩
        clear hxs x0 x1 x2 x3
        replace HM := Lib.hid (HM.out.below bq)
        replace HR := Lib.hid (HR.out.below bq)
        replace HX := Lib.hid (HX.out.below bq)
        replace HB := Lib.hid (HB.out.trans (bq.mono HB.out.size)); clear bq
        obtain ⟨hxs, x0, x1, x2, x3⟩ := HX.out
        go_wp2_with fail
        refine (WR.out _ HR.out).mono ?_; rintro e0 v2 ⟨rfl, bq⟩
        clear hxs x0 x1 x2 x3
        replace HM := Lib.hid (HM.out.below bq)
        replace HR := Lib.hid (HR.out.below bq)
        replace HX := Lib.hid (HX.out.below bq)
        replace HB := Lib.hid (HB.out.trans (bq.mono HB.out.size)); clear bq
        obtain ⟨hxs, x0, x1, x2, x3⟩ := HX.out
        cases ok
        · go_wp2_with fail
          go_roundw
          case rel => exact ⟨k + 1, m, r, s, a, t, by omega, by first | rfl | (congr 1; omega) | (congr 1; simp), rfl, rfl, HM, HR, GHM, GHR, NR, ls, la, lt, HB⟩
          case measure => first | (simp [intOf]; done) | (simp [intOf]; omega)
        · go_wp2_with fail
          go_roundw
          case rel => exact ⟨k + 1, m, r, s, a, t, by omega, by first | rfl | (congr 1; omega) | (congr 1; simp), rfl, rfl, HM, HR, GHM, GHR, NR, ls, la, lt, HB⟩
          case measure => first | (simp [intOf]; done) | (simp [intOf]; omega)
      by_cases e2 : xk = 2
      · subst e2
        clear e0
        clear e1
        go_wp2_with fail
        refine (copy_c _ m s a t HM.out).mono ?_; rintro e0 v1 ⟨m2, rfl, g2, h2, bq⟩
        clear hxs x0 x1 x2 x3
        have Gm2 : Hid (w.heap.size ≤ m2) := Nat.le_trans HB.out.size g2
        have N1 : Hid (m2 ≠ m) := by have := HM.out.1; show _ ≠ _; omega
        have N2 : Hid (m2 ≠ r) := by have := HR.out.1; show _ ≠ _; omega
        have N3 : Hid (X0 ≠ m2) := by have := HX.out.1; show _ ≠ _; omega
        replace HM := Lib.hid (HM.out.below bq)
        replace HR := Lib.hid (HR.out.below bq)
        replace HX := Lib.hid (HX.out.below bq)
        have H2 := Lib.hid h2; clear h2 g2
        replace HB := Lib.hid (HB.out.trans (bq.mono HB.out.size)); clear bq
        obtain ⟨hxs, x0, x1, x2, x3⟩ := HX.out
        go_wp2_with fail
        refine (copyr_c _ r s a t HR.out).mono ?_; rintro e0 v2 ⟨r2, rfl, g2, h2, bq⟩
        clear hxs x0 x1 x2 x3
        have Gr2 : Hid (w.heap.size ≤ r2) := Nat.le_trans HB.out.size g2
        have N4 : Hid (m2 ≠ r2) := by have := H2.out.1; show _ ≠ _; omega
        have N5 : Hid (r2 ≠ m) := by have := HM.out.1; show _ ≠ _; omega
        replace HM := Lib.hid (HM.out.below bq)
        replace H2 := Lib.hid (H2.out.below bq)
        replace HX := Lib.hid (HX.out.below bq)
        have H3 := Lib.hid h2; clear h2 g2 HR
        replace HB := Lib.hid (HB.out.trans (bq.mono HB.out.size)); clear bq
        obtain ⟨hxs, x0, x1, x2, x3⟩ := HX.out
        go_wp2_with fail
        refine (write_c _ m s a t HM.out ls.out la.out lt.out xv lv.out xa xz lx.out lz.out).mono ?_; rintro e0 v3 ⟨rfl, h1, hg⟩
        clear hxs x0 x1 x2 x3
        replace H2 := Lib.hid (H2.out.kept hg (by have := N1.out; simp; omega))
        replace H3 := Lib.hid (H3.out.kept hg (by have := N5.out; simp; omega))
        replace HX := Lib.hid (HX.out.kept hg (by have := NX.out; simp; omega))
        replace HM : Hid (IsC v3 m (wrS (kd xa xz) s xv) (wrA (kd xa xz) a xv) (wrT (kd xa xz) t xv)) := h1; clear h1
        replace HB := Lib.hid (HB.out.grown hg HB.out.size (fun k hk => by cases hk; exact GHM.out)); clear hg
        obtain ⟨hxs, x0, x1, x2, x3⟩ := HX.out
        go_wp2_with fail
        refine (read_c _ m _ _ _ HM.out (wrS_lt _ s xv ls.out) (wrA_lt _ a xv la.out lv.out) (wrT_lt _ t xv lt.out lv.out) xa xz lx.out lz.out).mono ?_; rintro e0 v4 ⟨rfl, bq⟩
        clear hxs x0 x1 x2 x3
        replace HM := Lib.hid (HM.out.below bq)
        replace H2 := Lib.hid (H2.out.below bq)
        replace H3 := Lib.hid (H3.out.below bq)
        replace HX := Lib.hid (HX.out.below bq)
        replace HB := Lib.hid (HB.out.trans (bq.mono HB.out.size)); clear bq
        obtain ⟨hxs, x0, x1, x2, x3⟩ := HX.out
        go_wp2_with fail
        refine (tick_c _ m _ _ _ HM.out (wrT_lt _ t xv lt.out lv.out)).mono ?_; rintro e0 v5 ⟨rfl, h1, hg⟩
        clear hxs x0 x1 x2 x3
        replace H2 := Lib.hid (H2.out.kept hg (by have := N1.out; simp; omega))
        replace H3 := Lib.hid (H3.out.kept hg (by have := N5.out; simp; omega))
        replace HX := Lib.hid (HX.out.kept hg (by have := NX.out; simp; omega))
        replace HM : Hid (IsC v5 m (wrS (kd xa xz) s xv) (wrA (kd xa xz) a xv) ((wrT (kd xa xz) t xv + 1) % 18446744073709551616)) := h1; clear h1
        replace HB := Lib.hid (HB.out.grown hg HB.out.size (fun k hk => by cases hk; exact GHM.out)); clear hg
        obtain ⟨hxs, x0, x1, x2, x3⟩ := HX.out
        go_wp2_with fail
        go_roundw
        case rel => exact ⟨k + 1, m2, r2, s, a, t, by omega, by first | rfl | (congr 1; omega) | (congr 1; simp), rfl, rfl, H2, H3, Gm2, Gr2, N4, ls, la, lt, HB⟩
        case measure => first | (simp [intOf]; done) | (simp [intOf]; omega)
      by_cases e3 : xk = 3
      · subst e3
        clear e0
        clear e1
        clear e2
        go_wp2_with fail
        refine (tick_c _ m s a t HM.out lt.out).mono ?_; rintro e0 v1 ⟨rfl, h1, hg⟩
        clear hxs x0 x1 x2 x3
        replace HR := Lib.hid (HR.out.kept hg (by have := NR.out; simp; omega))
        replace HX := Lib.hid (HX.out.kept hg (by have := NX.out; simp; omega))
        replace HM : Hid (IsC v1 m s a ((t + 1) % 18446744073709551616)) := h1; clear h1
        replace HB := Lib.hid (HB.out.grown hg HB.out.size (fun k hk => by cases hk; exact GHM.out)); clear hg
        obtain ⟨hxs, x0, x1, x2, x3⟩ := HX.out
        go_wp2_with fail
        refine (tickr_c _ r s a t HR.out lt).mono ?_; rintro e0 v2 ⟨rfl, h1, hg⟩
        clear hxs x0 x1 x2 x3
        replace HM := Lib.hid (HM.out.kept hg (by have := NM.out; simp; omega))
        replace HX := Lib.hid (HX.out.kept hg (by have := NY.out; simp; omega))
        replace HR : Hid (IsC v2 r s ((t + 1) % 18446744073709551616) a) := h1; clear h1
        replace HB := Lib.hid (HB.out.grown hg HB.out.size (fun k hk => by cases hk; exact GHR.out)); clear hg
        obtain ⟨hxs, x0, x1, x2, x3⟩ := HX.out
        go_wp2_with fail
        go_roundw
        case rel => exact ⟨k + 1, m, r, s, a, _, by omega, by first | rfl | (congr 1; omega) | (congr 1; simp), rfl, rfl, HM, HR, GHM, GHR, NR, ls, la, Lib.hid (Nat.mod_lt _ (by decide)), HB⟩
        case measure => first | (simp [intOf]; done) | (simp [intOf]; omega)
      have d0 : (xk == 0) = false := by rw [beq_eq_false_iff_ne]; exact e0
      have f0 : decide (xk = 0) = false := decide_eq_false e0
      have d1 : (xk == 1) = false := by rw [beq_eq_false_iff_ne]; exact e1
      have f1 : decide (xk = 1) = false := decide_eq_false e1
      have d2 : (xk == 2) = false := by rw [beq_eq_false_iff_ne]; exact e2
      have f2 : decide (xk = 2) = false := decide_eq_false e2
      have d3 : (xk == 3) = false := by rw [beq_eq_false_iff_ne]; exact e3
      have f3 : decide (xk = 3) = false := decide_eq_false e3
      obtain ⟨p, hp⟩ : ∃ p, penV s a t = p := ⟨_, rfl⟩
      go_upto_region 10 with fail
      rename_i K0 k0
      have PM : Hid (∀ n, Calls Try.prog 19 #[.pointer (some ⟨m, 0, none⟩)] (wx.drewN n) (fun e w' => e = .returned (.int .u64 (p : Nat)) ∧ ∃ k, w' = (wx.drewN n).drewN k)) := fun n => hp ▸ pend_q _ m s a t (HM.out.drewN n) ls.out
      have PR : Hid (∀ n, Calls Try.prog 20 #[.pointer (some ⟨r, 0, none⟩)] (wx.drewN n) (fun e w' => e = .returned (.int .u64 (p : Nat)) ∧ ∃ k, w' = (wx.drewN n).drewN k)) := fun n => hp ▸ pendr_q _ r s a t (HR.out.drewN n) ls.out
      clear hp
      obtain ⟨h0, c0, c1, c2, f0', f1', f2'⟩ := HR.out
      go_quiet (first | (go_at_call 21; exact Calls.quiet_of_same (time_q _ m s a t (HM.out.drewN _))) | (go_at_call 19; exact Calls.quiet_of (PM.out _)) | (go_at_call 20; exact Calls.quiet_of (PR.out _)))
      refine k0 _ _ ?_
      go_wp2_with fail
      go_roundw
      case rel => exact ⟨k + 1, m, r, s, a, t, by omega, by first | rfl | (congr 1; omega) | (congr 1; simp), rfl, rfl, HM, HR, GHM, GHR, NR, ls, la, lt, Lib.hid (below_drewN HB.out _)⟩
      case measure => first | (simp [intOf]; done) | (simp [intOf]; omega)
    · obtain rfl : n = k := by omega
      go_wp2_with fail
      refine (ends_c _ m r s a t HM HR ls la lt).mono ?_; rintro e0 v1 ⟨rfl, bq⟩
      replace HB := Lib.hid (HB.out.trans (bq.mono HB.out.size))
      go_wp2_with fail
      go_ret
      exact retB_mk rfl HB.out
end Go.Proofs.Ytilfeanampomjaa
