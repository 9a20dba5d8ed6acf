/- The document's memory: what it is; New, Has, Byte. The document's Has, Byte, put. The document's put. -/
import Derived.Test.YtibgdlianedcbaaX1
namespace Go.Proofs.Ytibgdlianedcbaa
open Go.ChangeShapes Go.WideShapes Go.ChangeAt Go.RowKit
set_option linter.unusedVariables false
set_option linter.unusedSimpArgs false
/-- A place within the RAM. -/
def atP (k i : Nat) : Nat := 2147483648 + 4096 * k + i
/-- The document's memory in a block: 256 pages, each empty or of 4096 bytes. -/
structure Rm (R : Fp) (w : World) (r : Nat) (F : Nat → Nat) (pb : Nat) (A : Nat → Option Addr) (n c g : Nat → Nat) : Prop where
  lt : r < w.heap.size
  c0 : w.cell? ⟨r, 0, none⟩ = some (.slice (some ⟨pb, 0, none⟩) 256 256)
  f0 : w.frozen? ⟨r, 0, none⟩ = false
  pl : pb < w.heap.size
  pc : ∀ k, k < 256 → w.cell? ⟨pb, k, none⟩ = some (.slice (A k) (n k) (c k)) ∧ w.frozen? ⟨pb, k, none⟩ = false
  pg : ∀ k, k < 256 → (n k = 0 ∧ ∀ i, i < 4096 → F (atP k i) = 0) ∨ (n k = 4096 ∧ 4096 ≤ c k ∧ A k = some ⟨g k, 0, none⟩ ∧ PageIs w (g k) (fun i => F (atP k i)))
  f8 : ∀ x, F x < 256
  rr : ∀ j, R r j
  rp : ∀ j, R pb j
  rg : ∀ k j, k < 256 → n k = 4096 → R (g k) j
  rlt : ∀ k j, R k j → k < w.heap.size
  pr : pb ≠ r
  gr : ∀ k, k < 256 → n k = 4096 → g k ≠ r ∧ g k ≠ pb
  gg : ∀ k l, k < 256 → l < 256 → k ≠ l → n k = 4096 → n l = 4096 → g k ≠ g l
def IsRm (R : Fp) (w : World) (r : Nat) (F : Nat → Nat) : Prop := ∃ pb A n c g, Rm R w r F pb A n c g
section
variable {R T R2 : Fp} {w w' : World} {r : Nat} {F : Nat → Nat} {pb : Nat} {A : Nat → Option Addr} {n c g : Nat → Nat}
theorem page_ch {p : Nat} {f : Nat → Nat} (h : PageIs w p f) (hc : Ch T w w') (hn : ∀ j, ¬ T p j) : PageIs w' p f :=
  ⟨Nat.lt_of_lt_of_le h.1 hc.size, fun i hi => ⟨(hc.cell p i h.1 (hn i)).trans (h.2 i hi).1, (hc.frozen p i h.1).trans (h.2 i hi).2⟩⟩
theorem Rm.kept (x : Rm R w r F pb A n c g) (hc : Ch T w w') (hd : Dj T R) : Rm R w' r F pb A n c g :=
  { x with
    lt := Nat.lt_of_lt_of_le x.lt hc.size
    c0 := (hc.cell r 0 x.lt (fun ht => hd _ _ ht (x.rr 0))).trans x.c0
    f0 := (hc.frozen r 0 x.lt).trans x.f0
    pl := Nat.lt_of_lt_of_le x.pl hc.size
    pc := fun k hk => ⟨(hc.cell pb k x.pl (fun ht => hd _ _ ht (x.rp k))).trans (x.pc k hk).1, (hc.frozen pb k x.pl).trans (x.pc k hk).2⟩
    pg := fun k hk => (x.pg k hk).imp id (fun ⟨h1, h2, h3, h4⟩ => ⟨h1, h2, h3, page_ch h4 hc (fun j ht => hd _ _ ht (x.rg k j hk h1))⟩)
    rlt := fun k j hk => Nat.lt_of_lt_of_le (x.rlt k j hk) hc.size }
theorem Rm.mono (x : Rm R w r F pb A n c g) (hR : ∀ k j, R k j → R2 k j) (hlt : ∀ k j, R2 k j → k < w.heap.size) : Rm R2 w r F pb A n c g :=
  { x with rr := fun j => hR _ _ (x.rr j), rp := fun j => hR _ _ (x.rp j), rg := fun k j hk hn => hR _ _ (x.rg k j hk hn), rlt := hlt }
theorem Rm.up (x : Rm R w' r F pb A n c g) (w : World) : Rm (Up R w w') w' r F pb A n c g := x.mono (fun _ _ => .inl) (fun k j hk => hk.elim (x.rlt k j) (·.2))
end
theorem info22 : (Try.prog.info? 22).map (fun i => (i.size, i.bytes, i.zero)) = some (1, 24, some (.slice none 0 0)) := by kernel_rfl
theorem inf22' : ∃ i, Try.prog.info? 22 = some i ∧ i.size = 1 ∧ i.bytes = 24 ∧ i.zero = some (.slice none 0 0) := by
  have h := info22
  cases hi : Try.prog.info? 22 with
  | none => rw [hi] at h; exact absurd h (by simp)
  | some i =>
    rw [hi] at h
    simp only [Option.map_some, Option.some.injEq, Prod.mk.injEq] at h
    exact ⟨i, rfl, h.1, h.2.1, h.2.2⟩
theorem made_get (v : Value) (hv : v.cells = #[v]) (n j : Nat) (hj : j < n) : (madeCells v.cells n)[j]? = some v := by
  simp [madeCells, hv, hj, Nat.mod_one]
/-- make of 256 pages. -/
theorem make_pages {ops : Array Oper} {rest : List Oper} {o : Oper} {a : Act} {w : World} {Q : Exit → Act → World → Prop} (hgd : o.guard = none) (l c : Operand)
    (ho : o.op = .makeSlice 50 l c) (hl : a.eval l = .int .i64 256) (hc : a.eval c = .int .i64 256)
    (h : wpList Try.prog ops Q rest (a.put o.dst (.slice (some ⟨w.heap.size, 0, none⟩) 256 256)) (w.alloc (.cells (madeCells (Value.slice none 0 0).cells 256) 22))) : wpList Try.prog ops Q (o :: rest) a w := by
  obtain ⟨i, hi, h1, h2, h3⟩ := inf22'
  refine wpList_plain hgd fun K hK => ?_
  have hr := run_make (P := Try.prog) w 50 22 i (.slice none 0 0) Try.underlying50 hi h3 .i64 .i64 256 256 (by omega) (by omega) (by rw [h2]; omega) (by omega)
  rw [h1] at hr
  have hr' : (Instr.makeSlice 50 (.int .i64 256) (.int .i64 256)).run Try.prog w = .ok (.slice (some ⟨w.heap.size, 0, none⟩) 256 256) (w.alloc (.cells (madeCells (Value.slice none 0 0).cells 256) 22)) := hr
  unfold Oper.wp
  simp only [execOp, ho, hl, hc, Sem.run_bind, hr', Result.andThen_ok, Sem.run_pure]
  exact hK _ _ h
def RetNr (F : Nat → Nat) (W : World) (e : Ending) (w' : World) : Prop := ∃ r R pb A c g, e = .returned (.pointer (some ⟨r, 0, none⟩)) ∧ Rm R w' r F pb A (fun _ => 0) c g ∧ (∀ k j, R k j → W.heap.size ≤ k) ∧ Below W.heap.size W w'
theorem newr_c (w : World) : Calls Try.prog 9 #[] w (RetNr (fun _ => 0) w) := by
  go_enter Try.func9, Try.ntmps9
  go_wp2_with (refine make_pages rfl _ _ rfl rfl rfl ?_)
  go_ret
  have hz : ∀ k, k < 256 → ((w.alloc (.cells (madeCells (Value.slice none 0 0).cells 256) 22)).alloc (.cells #[.slice (some ⟨w.heap.size, 0, none⟩) 256 256] 52)).cell? ⟨w.heap.size, k, none⟩ = some (.slice none 0 0) := fun k hk => by
    rw [(below_one (w.alloc (.cells (madeCells (Value.slice none 0 0).cells 256) 22)) _).cell (p := ⟨w.heap.size, k, none⟩) (by show w.heap.size < _; rw [sz_alloc]; omega), World.cell?_alloc_new]
    exact made_get (.slice none 0 0) rfl 256 k hk
  have hf : ∀ k, ((w.alloc (.cells (madeCells (Value.slice none 0 0).cells 256) 22)).alloc (.cells #[.slice (some ⟨w.heap.size, 0, none⟩) 256 256] 52)).frozen? ⟨w.heap.size, k, none⟩ = false := fun k => by
    rw [(below_one (w.alloc (.cells (madeCells (Value.slice none 0 0).cells 256) 22)) _).frozen (p := ⟨w.heap.size, k, none⟩) (by show w.heap.size < _; rw [sz_alloc]; omega), World.frozen?_alloc_at _ _ _ _ rfl]
  refine ⟨w.heap.size + 1, fun k _ => k = w.heap.size ∨ k = w.heap.size + 1, w.heap.size, fun _ => none, fun _ => 0, fun _ => 0, rfl, ?_, fun k j hk => by rcases hk with rfl | rfl <;> omega, (below_one _ _).trans ((below_one _ _).mono (by rw [sz_alloc]; omega))⟩
  exact ⟨by rw [sz_alloc, sz_alloc]; omega, by rw [World.cell?_alloc_at _ _ _ _ (sz_alloc _ _).symm]; rfl, by rw [World.frozen?_alloc_at _ _ _ _ (sz_alloc _ _).symm], by rw [sz_alloc, sz_alloc]; omega, fun k hk => ⟨hz k hk, hf k⟩, fun k hk => .inl ⟨rfl, fun _ _ => rfl⟩, fun _ => (by decide : (0 : Nat) < 256), fun _ => .inr rfl, fun _ => .inl rfl, fun k j _ h => absurd h (by decide), fun k j hk => by rw [sz_alloc, sz_alloc]; rcases hk with rfl | rfl <;> omega, by omega, fun k _ h => absurd h (by decide), fun k l _ _ _ h => absurd h (by decide)⟩
end Go.Proofs.Ytibgdlianedcbaa
namespace Go.Proofs.Ytibgdlianedcbaa
open Go.ChangeShapes Go.WideShapes Go.ChangeAt Go.RowKit
set_option linter.unusedVariables false
theorem hasr_1 (m : Value) (a : Nat) (ha : Hid (a < 18446744073709551616)) (w : World) : Calls Try.prog 17 #[m, .int .u64 a, .int .i64 1] w (RetB (hasV a 1) w) := by
  have HV : Hid (hasV a 1 = decide (2147483648 ≤ a ∧ (a : Int) - 2147483648 + 1 ≤ 1048576)) := hasV_yes a 1 (by decide)
  by_cases h1 : 2147483648 ≤ a
  · by_cases h2 : a < 2148532224
    · have d1 : decide ((2147483648 : Int) ≤ a) = true := decide_eq_true (by omega)
      have d2 : decide ((a : Int) < 2148532224) = true := decide_eq_true (by omega)
      have d1' : decide (2147483648 ≤ a) = true := decide_eq_true h1
      have d2' : decide (a < 2148532224) = true := decide_eq_true h2
      obtain ⟨t, ht⟩ : ∃ t, a + 1 = t := ⟨_, rfl⟩
      have et : IntKind.u64.wrap ((a : Int) + 1) = (t : Int) := by rw [IntKind.wrap_u64]; omega
      by_cases h3 : t ≤ 2148532224
      · have d3 : decide ((t : Int) ≤ 2148532224) = true := decide_eq_true (by omega)
        have d3' : decide (t ≤ 2148532224) = true := decide_eq_true h3
        have HB : Hid (hasV a 1 = true) := by show _ = _; rw [HV.out]; exact decide_eq_true (by omega)
        clear h1 h2 h3 ht
        go_enter Try.func17, Try.ntmps17
        go_wp2_with fail
        go_ret
        exact retB_mk (by rw [HB.out]) (Below.refl _ _)
      · have d3 : decide ((t : Int) ≤ 2148532224) = false := decide_eq_false (by omega)
        have d3' : decide (t ≤ 2148532224) = false := decide_eq_false h3
        have HB : Hid (hasV a 1 = false) := by show _ = _; rw [HV.out]; exact decide_eq_false (by omega)
        clear h1 h2 h3 ht
        go_enter Try.func17, Try.ntmps17
        go_wp2_with fail
        go_ret
        exact retB_mk (by rw [HB.out]) (Below.refl _ _)
    · have d1 : decide ((2147483648 : Int) ≤ a) = true := decide_eq_true (by omega)
      have d2 : decide ((a : Int) < 2148532224) = false := decide_eq_false (by omega)
      have d1' : decide (2147483648 ≤ a) = true := decide_eq_true h1
      have d2' : decide (a < 2148532224) = false := decide_eq_false h2
      have HB : Hid (hasV a 1 = false) := by show _ = _; rw [HV.out]; exact decide_eq_false (by omega)
      clear h1 h2
      go_enter Try.func17, Try.ntmps17
      go_wp2_with fail
      go_ret
      exact retB_mk (by rw [HB.out]) (Below.refl _ _)
  · have d1 : decide ((2147483648 : Int) ≤ a) = false := decide_eq_false (by omega)
    have d1' : decide (2147483648 ≤ a) = false := decide_eq_false h1
    have HB : Hid (hasV a 1 = false) := by show _ = _; rw [HV.out]; exact decide_eq_false (by omega)
    clear h1
    go_enter Try.func17, Try.ntmps17
    go_wp2_with fail
    go_ret
    exact retB_mk (by rw [HB.out]) (Below.refl _ _)
theorem hasr_2 (m : Value) (a : Nat) (ha : Hid (a < 18446744073709551616)) (w : World) : Calls Try.prog 17 #[m, .int .u64 a, .int .i64 2] w (RetB (hasV a 2) w) := by
  have HV : Hid (hasV a 2 = decide (2147483648 ≤ a ∧ (a : Int) - 2147483648 + 2 ≤ 1048576)) := hasV_yes a 2 (by decide)
  by_cases h1 : 2147483648 ≤ a
  · by_cases h2 : a < 2148532224
    · have d1 : decide ((2147483648 : Int) ≤ a) = true := decide_eq_true (by omega)
      have d2 : decide ((a : Int) < 2148532224) = true := decide_eq_true (by omega)
      have d1' : decide (2147483648 ≤ a) = true := decide_eq_true h1
      have d2' : decide (a < 2148532224) = true := decide_eq_true h2
      obtain ⟨t, ht⟩ : ∃ t, a + 2 = t := ⟨_, rfl⟩
      have et : IntKind.u64.wrap ((a : Int) + 2) = (t : Int) := by rw [IntKind.wrap_u64]; omega
      by_cases h3 : t ≤ 2148532224
      · have d3 : decide ((t : Int) ≤ 2148532224) = true := decide_eq_true (by omega)
        have d3' : decide (t ≤ 2148532224) = true := decide_eq_true h3
        have HB : Hid (hasV a 2 = true) := by show _ = _; rw [HV.out]; exact decide_eq_true (by omega)
        clear h1 h2 h3 ht
        go_enter Try.func17, Try.ntmps17
        go_wp2_with fail
        go_ret
        exact retB_mk (by rw [HB.out]) (Below.refl _ _)
      · have d3 : decide ((t : Int) ≤ 2148532224) = false := decide_eq_false (by omega)
        have d3' : decide (t ≤ 2148532224) = false := decide_eq_false h3
        have HB : Hid (hasV a 2 = false) := by show _ = _; rw [HV.out]; exact decide_eq_false (by omega)
        clear h1 h2 h3 ht
        go_enter Try.func17, Try.ntmps17
        go_wp2_with fail
        go_ret
        exact retB_mk (by rw [HB.out]) (Below.refl _ _)
    · have d1 : decide ((2147483648 : Int) ≤ a) = true := decide_eq_true (by omega)
      have d2 : decide ((a : Int) < 2148532224) = false := decide_eq_false (by omega)
      have d1' : decide (2147483648 ≤ a) = true := decide_eq_true h1
      have d2' : decide (a < 2148532224) = false := decide_eq_false h2
      have HB : Hid (hasV a 2 = false) := by show _ = _; rw [HV.out]; exact decide_eq_false (by omega)
      clear h1 h2
      go_enter Try.func17, Try.ntmps17
      go_wp2_with fail
      go_ret
      exact retB_mk (by rw [HB.out]) (Below.refl _ _)
  · have d1 : decide ((2147483648 : Int) ≤ a) = false := decide_eq_false (by omega)
    have d1' : decide (2147483648 ≤ a) = false := decide_eq_false h1
    have HB : Hid (hasV a 2 = false) := by show _ = _; rw [HV.out]; exact decide_eq_false (by omega)
    clear h1
    go_enter Try.func17, Try.ntmps17
    go_wp2_with fail
    go_ret
    exact retB_mk (by rw [HB.out]) (Below.refl _ _)
theorem hasr_4 (m : Value) (a : Nat) (ha : Hid (a < 18446744073709551616)) (w : World) : Calls Try.prog 17 #[m, .int .u64 a, .int .i64 4] w (RetB (hasV a 4) w) := by
  have HV : Hid (hasV a 4 = decide (2147483648 ≤ a ∧ (a : Int) - 2147483648 + 4 ≤ 1048576)) := hasV_yes a 4 (by decide)
  by_cases h1 : 2147483648 ≤ a
  · by_cases h2 : a < 2148532224
    · have d1 : decide ((2147483648 : Int) ≤ a) = true := decide_eq_true (by omega)
      have d2 : decide ((a : Int) < 2148532224) = true := decide_eq_true (by omega)
      have d1' : decide (2147483648 ≤ a) = true := decide_eq_true h1
      have d2' : decide (a < 2148532224) = true := decide_eq_true h2
      obtain ⟨t, ht⟩ : ∃ t, a + 4 = t := ⟨_, rfl⟩
      have et : IntKind.u64.wrap ((a : Int) + 4) = (t : Int) := by rw [IntKind.wrap_u64]; omega
      by_cases h3 : t ≤ 2148532224
      · have d3 : decide ((t : Int) ≤ 2148532224) = true := decide_eq_true (by omega)
        have d3' : decide (t ≤ 2148532224) = true := decide_eq_true h3
        have HB : Hid (hasV a 4 = true) := by show _ = _; rw [HV.out]; exact decide_eq_true (by omega)
        clear h1 h2 h3 ht
        go_enter Try.func17, Try.ntmps17
        go_wp2_with fail
        go_ret
        exact retB_mk (by rw [HB.out]) (Below.refl _ _)
      · have d3 : decide ((t : Int) ≤ 2148532224) = false := decide_eq_false (by omega)
        have d3' : decide (t ≤ 2148532224) = false := decide_eq_false h3
        have HB : Hid (hasV a 4 = false) := by show _ = _; rw [HV.out]; exact decide_eq_false (by omega)
        clear h1 h2 h3 ht
        go_enter Try.func17, Try.ntmps17
        go_wp2_with fail
        go_ret
        exact retB_mk (by rw [HB.out]) (Below.refl _ _)
    · have d1 : decide ((2147483648 : Int) ≤ a) = true := decide_eq_true (by omega)
      have d2 : decide ((a : Int) < 2148532224) = false := decide_eq_false (by omega)
      have d1' : decide (2147483648 ≤ a) = true := decide_eq_true h1
      have d2' : decide (a < 2148532224) = false := decide_eq_false h2
      have HB : Hid (hasV a 4 = false) := by show _ = _; rw [HV.out]; exact decide_eq_false (by omega)
      clear h1 h2
      go_enter Try.func17, Try.ntmps17
      go_wp2_with fail
      go_ret
      exact retB_mk (by rw [HB.out]) (Below.refl _ _)
  · have d1 : decide ((2147483648 : Int) ≤ a) = false := decide_eq_false (by omega)
    have d1' : decide (2147483648 ≤ a) = false := decide_eq_false h1
    have HB : Hid (hasV a 4 = false) := by show _ = _; rw [HV.out]; exact decide_eq_false (by omega)
    clear h1
    go_enter Try.func17, Try.ntmps17
    go_wp2_with fail
    go_ret
    exact retB_mk (by rw [HB.out]) (Below.refl _ _)
theorem hasr_8 (m : Value) (a : Nat) (ha : Hid (a < 18446744073709551616)) (w : World) : Calls Try.prog 17 #[m, .int .u64 a, .int .i64 8] w (RetB (hasV a 8) w) := by
  have HV : Hid (hasV a 8 = decide (2147483648 ≤ a ∧ (a : Int) - 2147483648 + 8 ≤ 1048576)) := hasV_yes a 8 (by decide)
  by_cases h1 : 2147483648 ≤ a
  · by_cases h2 : a < 2148532224
    · have d1 : decide ((2147483648 : Int) ≤ a) = true := decide_eq_true (by omega)
      have d2 : decide ((a : Int) < 2148532224) = true := decide_eq_true (by omega)
      have d1' : decide (2147483648 ≤ a) = true := decide_eq_true h1
      have d2' : decide (a < 2148532224) = true := decide_eq_true h2
      obtain ⟨t, ht⟩ : ∃ t, a + 8 = t := ⟨_, rfl⟩
      have et : IntKind.u64.wrap ((a : Int) + 8) = (t : Int) := by rw [IntKind.wrap_u64]; omega
      by_cases h3 : t ≤ 2148532224
      · have d3 : decide ((t : Int) ≤ 2148532224) = true := decide_eq_true (by omega)
        have d3' : decide (t ≤ 2148532224) = true := decide_eq_true h3
        have HB : Hid (hasV a 8 = true) := by show _ = _; rw [HV.out]; exact decide_eq_true (by omega)
        clear h1 h2 h3 ht
        go_enter Try.func17, Try.ntmps17
        go_wp2_with fail
        go_ret
        exact retB_mk (by rw [HB.out]) (Below.refl _ _)
      · have d3 : decide ((t : Int) ≤ 2148532224) = false := decide_eq_false (by omega)
        have d3' : decide (t ≤ 2148532224) = false := decide_eq_false h3
        have HB : Hid (hasV a 8 = false) := by show _ = _; rw [HV.out]; exact decide_eq_false (by omega)
        clear h1 h2 h3 ht
        go_enter Try.func17, Try.ntmps17
        go_wp2_with fail
        go_ret
        exact retB_mk (by rw [HB.out]) (Below.refl _ _)
    · have d1 : decide ((2147483648 : Int) ≤ a) = true := decide_eq_true (by omega)
      have d2 : decide ((a : Int) < 2148532224) = false := decide_eq_false (by omega)
      have d1' : decide (2147483648 ≤ a) = true := decide_eq_true h1
      have d2' : decide (a < 2148532224) = false := decide_eq_false h2
      have HB : Hid (hasV a 8 = false) := by show _ = _; rw [HV.out]; exact decide_eq_false (by omega)
      clear h1 h2
      go_enter Try.func17, Try.ntmps17
      go_wp2_with fail
      go_ret
      exact retB_mk (by rw [HB.out]) (Below.refl _ _)
  · have d1 : decide ((2147483648 : Int) ≤ a) = false := decide_eq_false (by omega)
    have d1' : decide (2147483648 ≤ a) = false := decide_eq_false h1
    have HB : Hid (hasV a 8 = false) := by show _ = _; rw [HV.out]; exact decide_eq_false (by omega)
    clear h1
    go_enter Try.func17, Try.ntmps17
    go_wp2_with fail
    go_ret
    exact retB_mk (by rw [HB.out]) (Below.refl _ _)
set_option maxRecDepth 100000 in
theorem hasr_no (m : Value) (a : Nat) (z : Int) (h1 : (z == 1) = false) (h2 : (z == 2) = false) (h4 : (z == 4) = false) (h8 : (z == 8) = false) (w : World) : Calls Try.prog 17 #[m, .int .u64 a, .int .i64 z] w (RetB (hasV a z) w) := by
  have HV : Hid (hasV a z = false) := hasV_no a z (by simp at h1 h2 h4 h8; omega)
  have n1 : (z != 1) = true := by simp [bne, h1]
  have n2 : (z != 2) = true := by simp [bne, h2]
  have n4 : (z != 4) = true := by simp [bne, h4]
  have n8 : (z != 8) = true := by simp [bne, h8]
  go_enter Try.func17, Try.ntmps17
  go_wp2_with fail
  go_ret
  exact retB_mk (by rw [HV.out]) (Below.refl _ _)
theorem hasr_c (m : Value) (a : Nat) (z : Int) (ha : Hid (a < 18446744073709551616)) (w : World) : Calls Try.prog 17 #[m, .int .u64 a, .int .i64 z] w (RetB (hasV a z) w) := by
  by_cases e1 : z = 1
  · subst e1; exact hasr_1 m a ha w
  · by_cases e2 : z = 2
    · subst e2; exact hasr_2 m a ha w
    · by_cases e4 : z = 4
      · subst e4; exact hasr_4 m a ha w
      · by_cases e8 : z = 8
        · subst e8; exact hasr_8 m a ha w
        · exact hasr_no m a z (by simpa using e1) (by simpa using e2) (by simpa using e4) (by simpa using e8) w
set_option maxRecDepth 100000 in
theorem byter_c (R : Fp) (r k i a : Nat) (F : Nat → Nat) (w : World) (hM : Hid (IsRm R w r F)) (hk : Hid (k < 256)) (hi : Hid (i < 4096)) (ha : Hid (a = atP k i)) : Calls Try.prog 28 #[.pointer (some ⟨r, 0, none⟩), .int .u64 a] w (fun e w' => e = .returned (.int .u8 (F a : Nat)) ∧ w' = w) := by
  obtain ⟨pb, A, n, c, g, x⟩ := hM.out
  have c0 := x.c0
  have c1 := (x.pc k hk.out).1
  obtain ⟨d, hd⟩ : ∃ d, 4096 * k + i = d := ⟨_, rfl⟩
  have e1 : (a : Int) - 2147483648 = (d : Nat) := by have := ha.out; unfold atP at this; omega
  have e2 : IntKind.u64.wrap ((a : Int) - 2147483648) = (d : Nat) := by rw [e1, IntKind.wrap_u64]; have := hk.out; have := hi.out; omega
  have e3 : (d : Int) / 4096 = (k : Nat) := by have := hi.out; omega
  have e4 : (d : Int).tdiv 4096 = (k : Nat) := by rw [Int.tdiv_eq_ediv_of_nonneg (by omega)]; exact e3
  have e5 : (d : Int) % 4096 = (i : Nat) := by have := hi.out; omega
  have e6 : (d : Int).tmod 4096 = (i : Nat) := by rw [Int.tmod_eq_emod_of_nonneg (by omega)]; exact e5
  have k256 : (k : Int) < 256 := by have := hk.out; omega
  have i4096 : (i : Int) < 4096 := by have := hi.out; omega
  clear hd
  rcases x.pg k hk.out with ⟨hn, hz⟩ | ⟨hn, hc, hA, hP⟩
  · rw [hn] at c1
    have HV : Hid (F a = 0) := by show _ = _; rw [ha.out]; exact hz i hi.out
    clear x hn hz
    go_enter Try.func28, Try.ntmps28
    go_wp2_with fail
    go_ret
    exact ⟨by rw [HV.out]; rfl, rfl⟩
  · rw [hn, hA] at c1
    have cx : w.cell? ⟨g k, i, none⟩ = some (.int .u8 (F a : Nat)) := by rw [ha.out]; exact (hP.2 i hi.out).1
    obtain ⟨y, hy⟩ : ∃ y, F a = y := ⟨_, rfl⟩
    rw [hy] at cx ⊢
    clear x hn hA hP hc hy
    go_enter Try.func28, Try.ntmps28
    go_wp2_with fail
    go_ret
    exact ⟨rfl, rfl⟩
def RetPt (r : Nat) (F : Nat → Nat) (R : Fp) (w : World) (e : Ending) (w' : World) : Prop := e = .returned (.tuple #[]) ∧ IsRm (Up R w w') w' r F ∧ Ch R w w'
def putF (F : Nat → Nat) (a y : Nat) : Nat → Nat := fun x => if x = a then y else F x
section
variable {R : Fp} {w w' : World} {r : Nat} {F : Nat → Nat} {pb : Nat} {A : Nat → Option Addr} {n c g : Nat → Nat}
theorem atP_inj {k i l j : Nat} (hi : i < 4096) (hj : j < 4096) : atP k i = atP l j ↔ k = l ∧ i = j := by unfold atP; omega
/-- A byte is written into a page that is there. -/
theorem Rm.put (x : Rm R w r F pb A n c g) {k i y : Nat} (hk : k < 256) (hi : i < 4096) (hn : n k = 4096) (hy : y < 256) :
    Rm R (w.setCell ⟨g k, i, none⟩ (.int .u8 (y : Nat))) r (putF F (atP k i) y) pb A n c g ∧ Ch R w (w.setCell ⟨g k, i, none⟩ (.int .u8 (y : Nat))) := by
  have hP : PageIs w (g k) (fun i => F (atP k i)) := by
    rcases x.pg k hk with ⟨h0, -⟩ | ⟨-, -, -, h⟩
    · omega
    · exact h
  have hs : (w.cell? ⟨g k, i, none⟩).isSome = true := by rw [(hP.2 i hi).1]; rfl
  have hc : Ch (fun a _ => a = g k) w (w.setCell ⟨g k, i, none⟩ (.int .u8 (y : Nat))) := Ch.set _ _ _ _ _ rfl hs
  have g1 := (x.gr k hk hn).1
  have g2 := (x.gr k hk hn).2
  refine ⟨?_, hc.mono (fun a j e => by rw [e]; exact x.rg k j hk hn)⟩
  exact { x with
    lt := by rw [sz_set]; exact x.lt
    c0 := (hc.cell r 0 x.lt (fun e => g1 e.symm)).trans x.c0
    f0 := (hc.frozen r 0 x.lt).trans x.f0
    pl := by rw [sz_set]; exact x.pl
    pc := fun l hl => ⟨(hc.cell pb l x.pl (fun e => g2 e.symm)).trans (x.pc l hl).1, (hc.frozen pb l x.pl).trans (x.pc l hl).2⟩
    pg := fun l hl => by
      by_cases e : l = k
      · subst e
        rcases x.pg l hl with ⟨h0, -⟩ | ⟨h1, h2, h3, -⟩
        · omega
        · refine .inr ⟨h1, h2, h3, by rw [sz_set]; exact hP.1, fun j hj => ⟨?_, by rw [World.frozen?_setCell]; exact (hP.2 j hj).2⟩⟩
          by_cases ej : j = i
          · subst ej
            rw [cell_eq _ _ _ _ hs]
            show _ = some (Value.int .u8 ((putF F (atP l j) y (atP l j) : Nat) : Int))
            unfold putF; rw [if_pos rfl]
          · rw [cell_ne _ _ _ _ _ (fun e => ej e.symm), (hP.2 j hj).1]
            show _ = some (Value.int .u8 ((putF F (atP l i) y (atP l j) : Nat) : Int))
            unfold putF; rw [if_neg (fun e => ej ((atP_inj hj hi).1 e).2)]
      · have same : ∀ j, j < 4096 → putF F (atP k i) y (atP l j) = F (atP l j) := fun j hj => by unfold putF; rw [if_neg (fun q => e ((atP_inj hj hi).1 q).1)]
        rcases x.pg l hl with ⟨h0, h1⟩ | ⟨h1, h2, h3, h4⟩
        · exact .inl ⟨h0, fun j hj => by rw [same j hj]; exact h1 j hj⟩
        · refine .inr ⟨h1, h2, h3, by rw [sz_set]; exact h4.1, fun j hj => ?_⟩
          show _ = some (Value.int .u8 ((putF F (atP k i) y (atP l j) : Nat) : Int)) ∧ _
          rw [same j hj, hc.cell (g l) j h4.1 (x.gg l k hl hk e h1 hn), hc.frozen (g l) j h4.1]
          exact h4.2 j hj
    f8 := fun z => by unfold putF; split; exact hy; exact x.f8 z
    rlt := fun l j hl => by rw [sz_set]; exact x.rlt l j hl }
def setN {α : Type} (f : Nat → α) (k : Nat) (v : α) : Nat → α := fun l => if l = k then v else f l
theorem setN_eq {α : Type} (f : Nat → α) (k : Nat) (v : α) : setN f k v k = v := by unfold setN; rw [if_pos rfl]
theorem setN_ne {α : Type} (f : Nat → α) (k l : Nat) (v : α) (h : l ≠ k) : setN f k v l = f l := by unfold setN; rw [if_neg h]
/-- A new page is named. -/
theorem Rm.page (x : Rm R w r F pb A n c g) {k p cp : Nat} (hb : Below w.heap.size w w') (hk : k < 256) (hn : n k = 0) (hp : w.heap.size ≤ p) (hP : PageIs w' p (fun _ => 0)) (hc : 4096 ≤ cp) :
    Rm (Up R w w') (w'.setCell ⟨pb, k, none⟩ (.slice (some ⟨p, 0, none⟩) 4096 cp)) r F pb (setN A k (some ⟨p, 0, none⟩)) (setN n k 4096) (setN c k cp) (setN g k p) ∧ Ch R w (w'.setCell ⟨pb, k, none⟩ (.slice (some ⟨p, 0, none⟩) 4096 cp)) := by
  have y := (x.kept (Ch.of_below (fun _ _ => False) hb) (fun _ _ h => h.elim)).up w
  have hs : (w'.cell? ⟨pb, k, none⟩).isSome = true := by rw [(y.pc k hk).1]; rfl
  have hset : Ch (fun a _ => a = pb) w' (w'.setCell ⟨pb, k, none⟩ (.slice (some ⟨p, 0, none⟩) 4096 cp)) := Ch.set _ _ _ _ _ rfl hs
  have hz : ∀ i, i < 4096 → F (atP k i) = 0 := by
    rcases x.pg k hk with ⟨-, h⟩ | ⟨h, -⟩
    · exact h
    · omega
  have pr := y.pr
  have hpl : p < w'.heap.size := hP.1
  have nlt : ∀ l, l < 256 → n l = 4096 → g l < w.heap.size := fun l hl h => x.rlt (g l) 0 (x.rg l 0 hl h)
  refine ⟨?_, (Ch.of_below R hb).trans ((hset.mono (T2 := R) (fun a j e => by rw [e]; exact x.rp j))) (fun _ _ h => .inl h)⟩
  exact
  { lt := by rw [sz_set]; exact y.lt
    c0 := (hset.cell r 0 y.lt (fun e => pr e.symm)).trans y.c0
    f0 := (hset.frozen r 0 y.lt).trans y.f0
    pl := by rw [sz_set]; exact y.pl
    pc := fun l hl => by
      refine ⟨?_, by rw [World.frozen?_setCell]; exact (y.pc l hl).2⟩
      by_cases e : l = k
      · subst e; rw [cell_eq _ _ _ _ hs, setN_eq, setN_eq, setN_eq]
      · rw [cell_ne _ _ _ _ _ (fun q => e q.symm), setN_ne _ _ _ _ e, setN_ne _ _ _ _ e, setN_ne _ _ _ _ e]; exact (y.pc l hl).1
    pg := fun l hl => by
      by_cases e : l = k
      · subst e
        refine .inr ⟨setN_eq _ _ _, by rw [setN_eq]; exact hc, by rw [setN_eq, setN_eq], ?_⟩
        rw [setN_eq]
        refine page_ch ⟨hP.1, fun j hj => ?_⟩ hset (fun j q => by have := x.pl; omega)
        show _ = some (Value.int .u8 ((F (atP l j) : Nat) : Int)) ∧ _
        rw [hz j hj]; exact hP.2 j hj
      · rcases y.pg l hl with h | ⟨h1, h2, h3, h4⟩
        · exact .inl (by rw [setN_ne _ _ _ _ e]; exact h)
        · refine .inr ⟨by rw [setN_ne _ _ _ _ e]; exact h1, by rw [setN_ne _ _ _ _ e]; exact h2, by rw [setN_ne _ _ _ _ e, setN_ne _ _ _ _ e]; exact h3, ?_⟩
          rw [setN_ne _ _ _ _ e]
          exact page_ch h4 hset (fun j q => (y.gr l hl h1).2 q)
    f8 := y.f8
    rr := y.rr
    rp := y.rp
    rg := fun l j hl hn2 => by
      by_cases e : l = k
      · subst e; rw [setN_eq]; exact .inr ⟨hp, hpl⟩
      · rw [setN_ne _ _ _ _ e] at hn2 ⊢; exact y.rg l j hl hn2
    rlt := fun l j hl => by rw [sz_set]; exact y.rlt l j hl
    pr := y.pr
    gr := fun l hl hn2 => by
      by_cases e : l = k
      · subst e; rw [setN_eq]; have := x.lt; have := x.pl; exact ⟨by omega, by omega⟩
      · rw [setN_ne _ _ _ _ e] at hn2 ⊢; exact y.gr l hl hn2
    gg := fun l m hl hm hne hn1 hn2 => by
      by_cases e : l = k
      · subst e
        have e2 : ¬ m = l := fun q => hne q.symm
        rw [setN_ne _ _ _ _ e2] at hn2
        rw [setN_eq, setN_ne _ _ _ _ e2]
        have := nlt m hm hn2; omega
      · rw [setN_ne _ _ _ _ e] at hn1 ⊢
        by_cases e2 : m = k
        · subst e2; rw [setN_eq]; have := nlt l hl hn1; omega
        · rw [setN_ne _ _ _ _ e2] at hn2 ⊢; exact y.gg l m hl hm hne hn1 hn2 }
end
end Go.Proofs.Ytibgdlianedcbaa
namespace Go.Proofs.Ytibgdlianedcbaa
open Go.ChangeShapes Go.WideShapes Go.ChangeAt Go.RowKit
set_option linter.unusedVariables false
theorem Rm.upTo {R : Fp} {w wa w4 : World} {r : Nat} {F : Nat → Nat} {pb : Nat} {A : Nat → Option Addr} {n c g : Nat → Nat} (x : Rm (Up R w wa) w4 r F pb A n c g) (h : wa.heap.size ≤ w4.heap.size) : IsRm (Up R w w4) w4 r F :=
  ⟨pb, A, n, c, g, x.mono (fun k j hk => hk.imp id (fun q => ⟨q.1, Nat.lt_of_lt_of_le q.2 h⟩)) (fun k j hk => hk.elim (fun q => x.rlt k j (.inl q)) (·.2))⟩
theorem make_page : ∃ ZP : Array Value, (∀ w, (Instr.makeSlice 22 (.int .i64 4096) (.int .i64 4096)).run Try.prog w = .ok (.slice (some ⟨w.heap.size, 0, none⟩) 4096 4096) (w.alloc (.cells ZP 5))) ∧ ∀ j, j < 4096 → ZP[j]? = some (.int .u8 0) := by
  obtain ⟨i, hi, h1, h2, h3⟩ := inf8'
  refine ⟨madeCells (Value.int .u8 0).cells 4096, fun w => ?_, fun j hj => made_get (.int .u8 0) rfl 4096 j hj⟩
  have hr := run_make (P := Try.prog) w 22 5 i (.int .u8 0) Try.underlying22 hi h3 .i64 .i64 4096 4096 (by omega) (by omega) (by rw [h2]; omega) (by omega)
  rw [h1] at hr
  exact hr
theorem page_made (w : World) (ZP : Array Value) (h : ∀ j, j < 4096 → ZP[j]? = some (.int .u8 0)) (t : TypeId) : PageIs (w.alloc (.cells ZP t)) w.heap.size (fun _ => 0) :=
  ⟨by rw [sz_alloc]; omega, fun i hi => ⟨by rw [World.cell?_alloc_new]; exact h i hi, by rw [World.frozen?_alloc_at _ _ _ _ rfl]⟩⟩
set_option maxRecDepth 100000 in
set_option maxHeartbeats 4000000 in
theorem putr_c (R : Fp) (r k i a y : Nat) (F : Nat → Nat) (w : World) (hM : Hid (IsRm R w r F)) (hk : Hid (k < 256)) (hi : Hid (i < 4096)) (ha : Hid (a = atP k i)) (hy : Hid (y < 256)) : Calls Try.prog 26 #[.pointer (some ⟨r, 0, none⟩), .int .u64 a, .int .u8 y] w (RetPt r (putF F a y) R w) := by
  obtain ⟨pb, A, n, c, g, x⟩ := hM.out
  have c0 := x.c0
  have c1 := (x.pc k hk.out).1
  have f1 := (x.pc k hk.out).2
  obtain ⟨d, hd⟩ : ∃ d, 4096 * k + i = d := ⟨_, rfl⟩
  have e1 : (a : Int) - 2147483648 = (d : Nat) := by have := ha.out; unfold atP at this; omega
  have e2 : IntKind.u64.wrap ((a : Int) - 2147483648) = (d : Nat) := by rw [e1, IntKind.wrap_u64]; have := hk.out; have := hi.out; omega
  have e3 : (d : Int) / 4096 = (k : Nat) := by have := hi.out; omega
  have e4 : (d : Int).tdiv 4096 = (k : Nat) := by rw [Int.tdiv_eq_ediv_of_nonneg (by omega)]; exact e3
  have e5 : (d : Int) % 4096 = (i : Nat) := by have := hi.out; omega
  have e6 : (d : Int).tmod 4096 = (i : Nat) := by rw [Int.tmod_eq_emod_of_nonneg (by omega)]; exact e5
  have k256 : (k : Int) < 256 := by have := hk.out; omega
  have i4096 : (i : Int) < 4096 := by have := hi.out; omega
  clear hd
  rcases x.pg k hk.out with ⟨hn, hz⟩ | ⟨hn, hc, hA, hP⟩
  · rw [hn] at c1
    have HX := Lib.hid x
    have HN := Lib.hid hn
    clear x hn hz
    go_enter Try.func26, Try.ntmps26
    have hpn : ¬ pb = w.heap.size := by have := HX.out.pl; omega
    have hrn : ¬ r = w.heap.size := by have := HX.out.lt; omega
    obtain ⟨ZP, hmk, hZP⟩ := make_page
    have HZ := Lib.hid hZP
    clear hZP
    have k0 : (w.alloc (Obj.cells ZP 5)).cell? ⟨pb, k, none⟩ = some (.slice (A k) 0 (c k)) := ((below_one w _).cell (p := ⟨pb, k, none⟩) HX.out.pl).trans c1
    have k1 : (w.alloc (Obj.cells ZP 5)).frozen? ⟨pb, k, none⟩ = false := ((below_one w _).frozen (p := ⟨pb, k, none⟩) HX.out.pl).trans f1
    have k2 : (w.alloc (Obj.cells ZP 5)).cell? ⟨r, 0, none⟩ = some (.slice (some ⟨pb, 0, none⟩) 256 256) := ((below_one w _).cell (p := ⟨r, 0, none⟩) HX.out.lt).trans c0
    have HPR : Hid (pb ≠ r) := HX.out.pr
    go_wp2_with fail
    go_region_held3 (fun w' => w'.cell? ⟨r, 0, none⟩ = some (.slice (some ⟨pb, 0, none⟩) 256 256)) (first | exact c0 | exact (World.cell?_setCell_other _ _ _ _ (fun q => by injection q with q1 q2; exact HPR.out q1)).trans k2 | go_keep) (fail)
    have hp := HX.out.page (cp := 4096) (below_one w (Obj.cells ZP 5)) hk.out HN.out (Nat.le_refl _) (page_made w ZP HZ.out 5) (Nat.le_refl _)
    have hb := below_drewN (Below.refl ((w.alloc (Obj.cells ZP 5)).setCell ⟨pb, k, none⟩ (.slice (some ⟨w.heap.size, 0, none⟩) 4096 4096)).heap.size ((w.alloc (Obj.cells ZP 5)).setCell ⟨pb, k, none⟩ (.slice (some ⟨w.heap.size, 0, none⟩) 4096 4096))) 1
    have hx3 := Lib.hid (hp.1.kept (Ch.of_below (fun _ _ => False) hb) (fun _ _ h => h.elim))
    have hc3 := Lib.hid (hp.2.trans (Ch.of_below R hb) (fun _ _ h => .inl h))
    have hz3 : Hid ((w.alloc (Obj.cells ZP 5)).heap.size ≤ (((w.alloc (Obj.cells ZP 5)).setCell ⟨pb, k, none⟩ (.slice (some ⟨w.heap.size, 0, none⟩) 4096 4096)).drewN 1).heap.size) := by show _ ≤ _; rw [sz_drewN, sz_set]; exact Nat.le_refl _
    clear hp hb c0 c1 f1 k0 k1 k2 hmk
    have hw9 : ((w.alloc (Obj.cells ZP 5)).setCell ⟨pb, k, none⟩ (.slice (some ⟨w.heap.size, 0, none⟩) 4096 4096)).drew = ((w.alloc (Obj.cells ZP 5)).setCell ⟨pb, k, none⟩ (.slice (some ⟨w.heap.size, 0, none⟩) 4096 4096)).drewN 1 := rfl
    rw [hw9]; clear hw9
    generalize ((w.alloc (Obj.cells ZP 5)).setCell ⟨pb, k, none⟩ (.slice (some ⟨w.heap.size, 0, none⟩) 4096 4096)).drewN 1 = w3 at hx3 hc3 hz3 ⊢
    have c0 := hx3.out.c0
    have c1 := (hx3.out.pc k hk.out).1
    rw [setN_eq, setN_eq, setN_eq] at c1
    have hput := hx3.out.put (i := i) (y := y) hk.out hi.out (setN_eq _ _ _) hy.out
    rw [setN_eq] at hput
    rw [← ha.out] at hput
    have HPut := Lib.hid hput
    have hP9 : PageIs w3 w.heap.size (fun j => F (atP k j)) := by
      rcases hx3.out.pg k hk.out with ⟨h0, -⟩ | ⟨-, -, -, h⟩
      · rw [setN_eq] at h0; omega
      · rw [setN_eq] at h; exact h
    have cx := (hP9.2 i hi.out).1
    have fx := (hP9.2 i hi.out).2
    clear hput hP9
    go_wp2_with fail
    go_end0
    refine ⟨rfl, HPut.out.1.upTo (by rw [sz_set]; exact hz3.out), hc3.out.trans HPut.out.2 (fun a j h => h.imp id (·.1))⟩
  · rw [hn, hA] at c1
    have HX := Lib.hid x
    have cx := (hP.2 i hi.out).1
    have fx := (hP.2 i hi.out).2
    have HPut := Lib.hid (x.put hk.out hi.out hn hy.out)
    clear x hn hA hP hc f1
    go_enter Try.func26, Try.ntmps26
    go_wp2_with fail
    go_end0
    have h1 := HPut.out.1
    rw [← ha.out] at h1
    exact ⟨rfl, ⟨_, _, _, _, _, h1.up w⟩, HPut.out.2⟩
end Go.Proofs.Ytibgdlianedcbaa
