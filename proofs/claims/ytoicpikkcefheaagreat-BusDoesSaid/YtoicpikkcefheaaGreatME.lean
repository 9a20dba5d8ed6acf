/- Taken from other texts: what is needed of them. -/
import Derived.Test.YtoicpikkcefheaaGreatMA
import Derived.Test.YtoicpikkcefheaaGreatMB
import Derived.Test.YtoicpikkcefheaaGreatMD
namespace Go.Proofs.YtoicpikkcefheaaGreat.M
set_option linter.unusedVariables false
set_option linter.unusedSimpArgs false
set_option maxRecDepth 20000
open Go.ChangeShapes Go.WideShapes Go.ChangeAt Go.RowKit
/-- A place within the RAM. -/
def atP (k i : Nat) : Nat := 2147483648 + 4096 * k + i
/-- The document's memory in a block: 256 pages, each empty or of 4096 bytes. -/
structure Rm (R : Fp) (w : World) (r : Nat) (F : Nat → Nat) (pb : Nat) (A : Nat → Option Addr) (n c g : Nat → Nat) : Prop where
  lt : r < w.heap.size
  c0 : w.cell? ⟨r, 0, none⟩ = some (.slice (some ⟨pb, 0, none⟩) 256 256)
  f0 : w.frozen? ⟨r, 0, none⟩ = false
  pl : pb < w.heap.size
  pc : ∀ k, k < 256 → w.cell? ⟨pb, k, none⟩ = some (.slice (A k) (n k) (c k)) ∧ w.frozen? ⟨pb, k, none⟩ = false
  pg : ∀ k, k < 256 → (n k = 0 ∧ ∀ i, i < 4096 → F (atP k i) = 0) ∨ (n k = 4096 ∧ 4096 ≤ c k ∧ A k = some ⟨g k, 0, none⟩ ∧ PageIs w (g k) (fun i => F (atP k i)))
  f8 : ∀ x, F x < 256
  rr : ∀ j, R r j
  rp : ∀ j, R pb j
  rg : ∀ k j, k < 256 → n k = 4096 → R (g k) j
  rlt : ∀ k j, R k j → k < w.heap.size
  pr : pb ≠ r
  gr : ∀ k, k < 256 → n k = 4096 → g k ≠ r ∧ g k ≠ pb
  gg : ∀ k l, k < 256 → l < 256 → k ≠ l → n k = 4096 → n l = 4096 → g k ≠ g l
def IsRm (R : Fp) (w : World) (r : Nat) (F : Nat → Nat) : Prop := ∃ pb A n c g, Rm R w r F pb A n c g
section
variable {R T R2 : Fp} {w w' : World} {r : Nat} {F : Nat → Nat} {pb : Nat} {A : Nat → Option Addr} {n c g : Nat → Nat}
theorem page_ch {p : Nat} {f : Nat → Nat} (h : PageIs w p f) (hc : Ch T w w') (hn : ∀ j, ¬ T p j) : PageIs w' p f :=
  ⟨Nat.lt_of_lt_of_le h.1 hc.size, fun i hi => ⟨(hc.cell p i h.1 (hn i)).trans (h.2 i hi).1, (hc.frozen p i h.1).trans (h.2 i hi).2⟩⟩
theorem Rm.kept (x : Rm R w r F pb A n c g) (hc : Ch T w w') (hd : Dj T R) : Rm R w' r F pb A n c g :=
  { x with
    lt := Nat.lt_of_lt_of_le x.lt hc.size
    c0 := (hc.cell r 0 x.lt (fun ht => hd _ _ ht (x.rr 0))).trans x.c0
    f0 := (hc.frozen r 0 x.lt).trans x.f0
    pl := Nat.lt_of_lt_of_le x.pl hc.size
    pc := fun k hk => ⟨(hc.cell pb k x.pl (fun ht => hd _ _ ht (x.rp k))).trans (x.pc k hk).1, (hc.frozen pb k x.pl).trans (x.pc k hk).2⟩
    pg := fun k hk => (x.pg k hk).imp id (fun ⟨h1, h2, h3, h4⟩ => ⟨h1, h2, h3, page_ch h4 hc (fun j ht => hd _ _ ht (x.rg k j hk h1))⟩)
    rlt := fun k j hk => Nat.lt_of_lt_of_le (x.rlt k j hk) hc.size }
theorem Rm.mono (x : Rm R w r F pb A n c g) (hR : ∀ k j, R k j → R2 k j) (hlt : ∀ k j, R2 k j → k < w.heap.size) : Rm R2 w r F pb A n c g :=
  { x with rr := fun j => hR _ _ (x.rr j), rp := fun j => hR _ _ (x.rp j), rg := fun k j hk hn => hR _ _ (x.rg k j hk hn), rlt := hlt }
theorem Rm.up (x : Rm R w' r F pb A n c g) (w : World) : Rm (Up R w w') w' r F pb A n c g := x.mono (fun _ _ => .inl) (fun k j hk => hk.elim (x.rlt k j) (·.2))
end
theorem info22 : (Tryz.prog.info? 22).map (fun i => (i.size, i.bytes, i.zero)) = some (1, 24, some (.slice none 0 0)) := by kernel_rfl
theorem inf22' : ∃ i, Tryz.prog.info? 22 = some i ∧ i.size = 1 ∧ i.bytes = 24 ∧ i.zero = some (.slice none 0 0) := by
  have h := info22
  cases hi : Tryz.prog.info? 22 with
  | none => rw [hi] at h; exact absurd h (by simp)
  | some i =>
    rw [hi] at h
    simp only [Option.map_some, Option.some.injEq, Prod.mk.injEq] at h
    exact ⟨i, rfl, h.1, h.2.1, h.2.2⟩
theorem made_get (v : Value) (hv : v.cells = #[v]) (n j : Nat) (hj : j < n) : (madeCells v.cells n)[j]? = some v := by
  simp [madeCells, hv, hj, Nat.mod_one]
/-- make of 256 pages. -/
theorem make_pages {ops : Array Oper} {rest : List Oper} {o : Oper} {a : Act} {w : World} {Q : Exit → Act → World → Prop} (hgd : o.guard = none) (l c : Operand)
    (ho : o.op = .makeSlice 90 l c) (hl : a.eval l = .int .i64 256) (hc : a.eval c = .int .i64 256)
    (h : wpList Tryz.prog ops Q rest (a.put o.dst (.slice (some ⟨w.heap.size, 0, none⟩) 256 256)) (w.alloc (.cells (madeCells (Value.slice none 0 0).cells 256) 22))) : wpList Tryz.prog ops Q (o :: rest) a w := by
  obtain ⟨i, hi, h1, h2, h3⟩ := inf22'
  refine wpList_plain hgd fun K hK => ?_
  have hr := run_make (P := Tryz.prog) w 90 22 i (.slice none 0 0) Tryz.underlying90 hi h3 .i64 .i64 256 256 (by omega) (by omega) (by rw [h2]; omega) (by omega)
  rw [h1] at hr
  have hr' : (Instr.makeSlice 90 (.int .i64 256) (.int .i64 256)).run Tryz.prog w = .ok (.slice (some ⟨w.heap.size, 0, none⟩) 256 256) (w.alloc (.cells (madeCells (Value.slice none 0 0).cells 256) 22)) := hr
  unfold Oper.wp
  simp only [execOp, ho, hl, hc, Sem.run_bind, hr', Result.andThen_ok, Sem.run_pure]
  exact hK _ _ h
def RetNr (F : Nat → Nat) (W : World) (e : Ending) (w' : World) : Prop := ∃ r R pb A c g, e = .returned (.pointer (some ⟨r, 0, none⟩)) ∧ Rm R w' r F pb A (fun _ => 0) c g ∧ (∀ k j, R k j → W.heap.size ≤ k) ∧ Below W.heap.size W w'
theorem newr_c (w : World) : Calls Tryz.prog 30 #[] w (RetNr (fun _ => 0) w) := by
  go_enter Tryz.func30, Tryz.ntmps30
  go_wp2_with (refine make_pages rfl _ _ rfl rfl rfl ?_)
  go_ret
  have hz : ∀ k, k < 256 → ((w.alloc (.cells (madeCells (Value.slice none 0 0).cells 256) 22)).alloc (.cells #[.slice (some ⟨w.heap.size, 0, none⟩) 256 256] 92)).cell? ⟨w.heap.size, k, none⟩ = some (.slice none 0 0) := fun k hk => by
    rw [(below_one (w.alloc (.cells (madeCells (Value.slice none 0 0).cells 256) 22)) _).cell (p := ⟨w.heap.size, k, none⟩) (by show w.heap.size < _; rw [sz_alloc]; omega), World.cell?_alloc_new]
    exact made_get (.slice none 0 0) rfl 256 k hk
  have hf : ∀ k, ((w.alloc (.cells (madeCells (Value.slice none 0 0).cells 256) 22)).alloc (.cells #[.slice (some ⟨w.heap.size, 0, none⟩) 256 256] 92)).frozen? ⟨w.heap.size, k, none⟩ = false := fun k => by
    rw [(below_one (w.alloc (.cells (madeCells (Value.slice none 0 0).cells 256) 22)) _).frozen (p := ⟨w.heap.size, k, none⟩) (by show w.heap.size < _; rw [sz_alloc]; omega), World.frozen?_alloc_at _ _ _ _ rfl]
  refine ⟨w.heap.size + 1, fun k _ => k = w.heap.size ∨ k = w.heap.size + 1, w.heap.size, fun _ => none, fun _ => 0, fun _ => 0, rfl, ?_, fun k j hk => by rcases hk with rfl | rfl <;> omega, (below_one _ _).trans ((below_one _ _).mono (by rw [sz_alloc]; omega))⟩
  exact ⟨by rw [sz_alloc, sz_alloc]; omega, by rw [World.cell?_alloc_at _ _ _ _ (sz_alloc _ _).symm]; rfl, by rw [World.frozen?_alloc_at _ _ _ _ (sz_alloc _ _).symm], by rw [sz_alloc, sz_alloc]; omega, fun k hk => ⟨hz k hk, hf k⟩, fun k hk => .inl ⟨rfl, fun _ _ => rfl⟩, fun _ => (by decide : (0 : Nat) < 256), fun _ => .inr rfl, fun _ => .inl rfl, fun k j _ h => absurd h (by decide), fun k j hk => by rw [sz_alloc, sz_alloc]; rcases hk with rfl | rfl <;> omega, by omega, fun k _ h => absurd h (by decide), fun k l _ _ _ h => absurd h (by decide)⟩
end Go.Proofs.YtoicpikkcefheaaGreat.M
namespace Go.Proofs.YtoicpikkcefheaaGreat.M
set_option linter.unusedVariables false
set_option linter.unusedSimpArgs false
set_option maxRecDepth 20000
open Go.ChangeShapes Go.WideShapes Go.ChangeAt Go.RowKit
theorem hasr_1 (m : Value) (a : Nat) (ha : Hid (a < 18446744073709551616)) (w : World) : Calls Tryz.prog 60 #[m, .int .u64 a, .int .i64 1] w (RetB (hasV a 1) w) := by
  have HV : Hid (hasV a 1 = decide (2147483648 ≤ a ∧ (a : Int) - 2147483648 + 1 ≤ 1048576)) := hasV_yes a 1 (by decide)
  by_cases h1 : 2147483648 ≤ a
  · by_cases h2 : a < 2148532224
    · have d1 : decide ((2147483648 : Int) ≤ a) = true := decide_eq_true (by omega)
      have d2 : decide ((a : Int) < 2148532224) = true := decide_eq_true (by omega)
      have d1' : decide (2147483648 ≤ a) = true := decide_eq_true h1
      have d2' : decide (a < 2148532224) = true := decide_eq_true h2
      obtain ⟨t, ht⟩ : ∃ t, a + 1 = t := ⟨_, rfl⟩
      have et : IntKind.u64.wrap ((a : Int) + 1) = (t : Int) := by rw [IntKind.wrap_u64]; omega
      by_cases h3 : t ≤ 2148532224
      · have d3 : decide ((t : Int) ≤ 2148532224) = true := decide_eq_true (by omega)
        have d3' : decide (t ≤ 2148532224) = true := decide_eq_true h3
        have HB : Hid (hasV a 1 = true) := by show _ = _; rw [HV.out]; exact decide_eq_true (by omega)
        clear h1 h2 h3 ht
        go_enter Tryz.func60, Tryz.ntmps60
        go_wp2_with fail
        go_ret
        exact retB_mk (by rw [HB.out]) (Below.refl _ _)
      · have d3 : decide ((t : Int) ≤ 2148532224) = false := decide_eq_false (by omega)
        have d3' : decide (t ≤ 2148532224) = false := decide_eq_false h3
        have HB : Hid (hasV a 1 = false) := by show _ = _; rw [HV.out]; exact decide_eq_false (by omega)
        clear h1 h2 h3 ht
        go_enter Tryz.func60, Tryz.ntmps60
        go_wp2_with fail
        go_ret
        exact retB_mk (by rw [HB.out]) (Below.refl _ _)
    · have d1 : decide ((2147483648 : Int) ≤ a) = true := decide_eq_true (by omega)
      have d2 : decide ((a : Int) < 2148532224) = false := decide_eq_false (by omega)
      have d1' : decide (2147483648 ≤ a) = true := decide_eq_true h1
      have d2' : decide (a < 2148532224) = false := decide_eq_false h2
      have HB : Hid (hasV a 1 = false) := by show _ = _; rw [HV.out]; exact decide_eq_false (by omega)
      clear h1 h2
      go_enter Tryz.func60, Tryz.ntmps60
      go_wp2_with fail
      go_ret
      exact retB_mk (by rw [HB.out]) (Below.refl _ _)
  · have d1 : decide ((2147483648 : Int) ≤ a) = false := decide_eq_false (by omega)
    have d1' : decide (2147483648 ≤ a) = false := decide_eq_false h1
    have HB : Hid (hasV a 1 = false) := by show _ = _; rw [HV.out]; exact decide_eq_false (by omega)
    clear h1
    go_enter Tryz.func60, Tryz.ntmps60
    go_wp2_with fail
    go_ret
    exact retB_mk (by rw [HB.out]) (Below.refl _ _)
theorem hasr_2 (m : Value) (a : Nat) (ha : Hid (a < 18446744073709551616)) (w : World) : Calls Tryz.prog 60 #[m, .int .u64 a, .int .i64 2] w (RetB (hasV a 2) w) := by
  have HV : Hid (hasV a 2 = decide (2147483648 ≤ a ∧ (a : Int) - 2147483648 + 2 ≤ 1048576)) := hasV_yes a 2 (by decide)
  by_cases h1 : 2147483648 ≤ a
  · by_cases h2 : a < 2148532224
    · have d1 : decide ((2147483648 : Int) ≤ a) = true := decide_eq_true (by omega)
      have d2 : decide ((a : Int) < 2148532224) = true := decide_eq_true (by omega)
      have d1' : decide (2147483648 ≤ a) = true := decide_eq_true h1
      have d2' : decide (a < 2148532224) = true := decide_eq_true h2
      obtain ⟨t, ht⟩ : ∃ t, a + 2 = t := ⟨_, rfl⟩
      have et : IntKind.u64.wrap ((a : Int) + 2) = (t : Int) := by rw [IntKind.wrap_u64]; omega
      by_cases h3 : t ≤ 2148532224
      · have d3 : decide ((t : Int) ≤ 2148532224) = true := decide_eq_true (by omega)
        have d3' : decide (t ≤ 2148532224) = true := decide_eq_true h3
        have HB : Hid (hasV a 2 = true) := by show _ = _; rw [HV.out]; exact decide_eq_true (by omega)
        clear h1 h2 h3 ht
        go_enter Tryz.func60, Tryz.ntmps60
        go_wp2_with fail
        go_ret
        exact retB_mk (by rw [HB.out]) (Below.refl _ _)
      · have d3 : decide ((t : Int) ≤ 2148532224) = false := decide_eq_false (by omega)
        have d3' : decide (t ≤ 2148532224) = false := decide_eq_false h3
        have HB : Hid (hasV a 2 = false) := by show _ = _; rw [HV.out]; exact decide_eq_false (by omega)
        clear h1 h2 h3 ht
        go_enter Tryz.func60, Tryz.ntmps60
        go_wp2_with fail
        go_ret
        exact retB_mk (by rw [HB.out]) (Below.refl _ _)
    · have d1 : decide ((2147483648 : Int) ≤ a) = true := decide_eq_true (by omega)
      have d2 : decide ((a : Int) < 2148532224) = false := decide_eq_false (by omega)
      have d1' : decide (2147483648 ≤ a) = true := decide_eq_true h1
      have d2' : decide (a < 2148532224) = false := decide_eq_false h2
      have HB : Hid (hasV a 2 = false) := by show _ = _; rw [HV.out]; exact decide_eq_false (by omega)
      clear h1 h2
      go_enter Tryz.func60, Tryz.ntmps60
      go_wp2_with fail
      go_ret
      exact retB_mk (by rw [HB.out]) (Below.refl _ _)
  · have d1 : decide ((2147483648 : Int) ≤ a) = false := decide_eq_false (by omega)
    have d1' : decide (2147483648 ≤ a) = false := decide_eq_false h1
    have HB : Hid (hasV a 2 = false) := by show _ = _; rw [HV.out]; exact decide_eq_false (by omega)
    clear h1
    go_enter Tryz.func60, Tryz.ntmps60
    go_wp2_with fail
    go_ret
    exact retB_mk (by rw [HB.out]) (Below.refl _ _)
theorem hasr_4 (m : Value) (a : Nat) (ha : Hid (a < 18446744073709551616)) (w : World) : Calls Tryz.prog 60 #[m, .int .u64 a, .int .i64 4] w (RetB (hasV a 4) w) := by
  have HV : Hid (hasV a 4 = decide (2147483648 ≤ a ∧ (a : Int) - 2147483648 + 4 ≤ 1048576)) := hasV_yes a 4 (by decide)
  by_cases h1 : 2147483648 ≤ a
  · by_cases h2 : a < 2148532224
    · have d1 : decide ((2147483648 : Int) ≤ a) = true := decide_eq_true (by omega)
      have d2 : decide ((a : Int) < 2148532224) = true := decide_eq_true (by omega)
      have d1' : decide (2147483648 ≤ a) = true := decide_eq_true h1
      have d2' : decide (a < 2148532224) = true := decide_eq_true h2
      obtain ⟨t, ht⟩ : ∃ t, a + 4 = t := ⟨_, rfl⟩
      have et : IntKind.u64.wrap ((a : Int) + 4) = (t : Int) := by rw [IntKind.wrap_u64]; omega
      by_cases h3 : t ≤ 2148532224
      · have d3 : decide ((t : Int) ≤ 2148532224) = true := decide_eq_true (by omega)
        have d3' : decide (t ≤ 2148532224) = true := decide_eq_true h3
        have HB : Hid (hasV a 4 = true) := by show _ = _; rw [HV.out]; exact decide_eq_true (by omega)
        clear h1 h2 h3 ht
        go_enter Tryz.func60, Tryz.ntmps60
        go_wp2_with fail
        go_ret
        exact retB_mk (by rw [HB.out]) (Below.refl _ _)
      · have d3 : decide ((t : Int) ≤ 2148532224) = false := decide_eq_false (by omega)
        have d3' : decide (t ≤ 2148532224) = false := decide_eq_false h3
        have HB : Hid (hasV a 4 = false) := by show _ = _; rw [HV.out]; exact decide_eq_false (by omega)
        clear h1 h2 h3 ht
        go_enter Tryz.func60, Tryz.ntmps60
        go_wp2_with fail
        go_ret
        exact retB_mk (by rw [HB.out]) (Below.refl _ _)
    · have d1 : decide ((2147483648 : Int) ≤ a) = true := decide_eq_true (by omega)
      have d2 : decide ((a : Int) < 2148532224) = false := decide_eq_false (by omega)
      have d1' : decide (2147483648 ≤ a) = true := decide_eq_true h1
      have d2' : decide (a < 2148532224) = false := decide_eq_false h2
      have HB : Hid (hasV a 4 = false) := by show _ = _; rw [HV.out]; exact decide_eq_false (by omega)
      clear h1 h2
      go_enter Tryz.func60, Tryz.ntmps60
      go_wp2_with fail
      go_ret
      exact retB_mk (by rw [HB.out]) (Below.refl _ _)
  · have d1 : decide ((2147483648 : Int) ≤ a) = false := decide_eq_false (by omega)
    have d1' : decide (2147483648 ≤ a) = false := decide_eq_false h1
    have HB : Hid (hasV a 4 = false) := by show _ = _; rw [HV.out]; exact decide_eq_false (by omega)
    clear h1
    go_enter Tryz.func60, Tryz.ntmps60
    go_wp2_with fail
    go_ret
    exact retB_mk (by rw [HB.out]) (Below.refl _ _)
theorem hasr_8 (m : Value) (a : Nat) (ha : Hid (a < 18446744073709551616)) (w : World) : Calls Tryz.prog 60 #[m, .int .u64 a, .int .i64 8] w (RetB (hasV a 8) w) := by
  have HV : Hid (hasV a 8 = decide (2147483648 ≤ a ∧ (a : Int) - 2147483648 + 8 ≤ 1048576)) := hasV_yes a 8 (by decide)
  by_cases h1 : 2147483648 ≤ a
  · by_cases h2 : a < 2148532224
    · have d1 : decide ((2147483648 : Int) ≤ a) = true := decide_eq_true (by omega)
      have d2 : decide ((a : Int) < 2148532224) = true := decide_eq_true (by omega)
      have d1' : decide (2147483648 ≤ a) = true := decide_eq_true h1
      have d2' : decide (a < 2148532224) = true := decide_eq_true h2
      obtain ⟨t, ht⟩ : ∃ t, a + 8 = t := ⟨_, rfl⟩
      have et : IntKind.u64.wrap ((a : Int) + 8) = (t : Int) := by rw [IntKind.wrap_u64]; omega
      by_cases h3 : t ≤ 2148532224
      · have d3 : decide ((t : Int) ≤ 2148532224) = true := decide_eq_true (by omega)
        have d3' : decide (t ≤ 2148532224) = true := decide_eq_true h3
        have HB : Hid (hasV a 8 = true) := by show _ = _; rw [HV.out]; exact decide_eq_true (by omega)
        clear h1 h2 h3 ht
        go_enter Tryz.func60, Tryz.ntmps60
        go_wp2_with fail
        go_ret
        exact retB_mk (by rw [HB.out]) (Below.refl _ _)
      · have d3 : decide ((t : Int) ≤ 2148532224) = false := decide_eq_false (by omega)
        have d3' : decide (t ≤ 2148532224) = false := decide_eq_false h3
        have HB : Hid (hasV a 8 = false) := by show _ = _; rw [HV.out]; exact decide_eq_false (by omega)
        clear h1 h2 h3 ht
        go_enter Tryz.func60, Tryz.ntmps60
        go_wp2_with fail
        go_ret
        exact retB_mk (by rw [HB.out]) (Below.refl _ _)
    · have d1 : decide ((2147483648 : Int) ≤ a) = true := decide_eq_true (by omega)
      have d2 : decide ((a : Int) < 2148532224) = false := decide_eq_false (by omega)
      have d1' : decide (2147483648 ≤ a) = true := decide_eq_true h1
      have d2' : decide (a < 2148532224) = false := decide_eq_false h2
      have HB : Hid (hasV a 8 = false) := by show _ = _; rw [HV.out]; exact decide_eq_false (by omega)
      clear h1 h2
      go_enter Tryz.func60, Tryz.ntmps60
      go_wp2_with fail
      go_ret
      exact retB_mk (by rw [HB.out]) (Below.refl _ _)
  · have d1 : decide ((2147483648 : Int) ≤ a) = false := decide_eq_false (by omega)
    have d1' : decide (2147483648 ≤ a) = false := decide_eq_false h1
    have HB : Hid (hasV a 8 = false) := by show _ = _; rw [HV.out]; exact decide_eq_false (by omega)
    clear h1
    go_enter Tryz.func60, Tryz.ntmps60
    go_wp2_with fail
    go_ret
    exact retB_mk (by rw [HB.out]) (Below.refl _ _)
set_option maxRecDepth 100000 in
theorem hasr_no (m : Value) (a : Nat) (z : Int) (h1 : (z == 1) = false) (h2 : (z == 2) = false) (h4 : (z == 4) = false) (h8 : (z == 8) = false) (w : World) : Calls Tryz.prog 60 #[m, .int .u64 a, .int .i64 z] w (RetB (hasV a z) w) := by
  have HV : Hid (hasV a z = false) := hasV_no a z (by simp at h1 h2 h4 h8; omega)
  have n1 : (z != 1) = true := by simp [bne, h1]
  have n2 : (z != 2) = true := by simp [bne, h2]
  have n4 : (z != 4) = true := by simp [bne, h4]
  have n8 : (z != 8) = true := by simp [bne, h8]
  go_enter Tryz.func60, Tryz.ntmps60
  go_wp2_with fail
  go_ret
  exact retB_mk (by rw [HV.out]) (Below.refl _ _)
theorem hasr_c (m : Value) (a : Nat) (z : Int) (ha : Hid (a < 18446744073709551616)) (w : World) : Calls Tryz.prog 60 #[m, .int .u64 a, .int .i64 z] w (RetB (hasV a z) w) := by
  by_cases e1 : z = 1
  · subst e1; exact hasr_1 m a ha w
  · by_cases e2 : z = 2
    · subst e2; exact hasr_2 m a ha w
    · by_cases e4 : z = 4
      · subst e4; exact hasr_4 m a ha w
      · by_cases e8 : z = 8
        · subst e8; exact hasr_8 m a ha w
        · exact hasr_no m a z (by simpa using e1) (by simpa using e2) (by simpa using e4) (by simpa using e8) w
set_option maxRecDepth 100000 in
theorem byter_c (R : Fp) (r k i a : Nat) (F : Nat → Nat) (w : World) (hM : Hid (IsRm R w r F)) (hk : Hid (k < 256)) (hi : Hid (i < 4096)) (ha : Hid (a = atP k i)) : Calls Tryz.prog 83 #[.pointer (some ⟨r, 0, none⟩), .int .u64 a] w (fun e w' => e = .returned (.int .u8 (F a : Nat)) ∧ w' = w) := by
  obtain ⟨pb, A, n, c, g, x⟩ := hM.out
  have c0 := x.c0
  have c1 := (x.pc k hk.out).1
  obtain ⟨d, hd⟩ : ∃ d, 4096 * k + i = d := ⟨_, rfl⟩
  have e1 : (a : Int) - 2147483648 = (d : Nat) := by have := ha.out; unfold atP at this; omega
  have e2 : IntKind.u64.wrap ((a : Int) - 2147483648) = (d : Nat) := by rw [e1, IntKind.wrap_u64]; have := hk.out; have := hi.out; omega
  have e3 : (d : Int) / 4096 = (k : Nat) := by have := hi.out; omega
  have e4 : (d : Int).tdiv 4096 = (k : Nat) := by rw [Int.tdiv_eq_ediv_of_nonneg (by omega)]; exact e3
  have e5 : (d : Int) % 4096 = (i : Nat) := by have := hi.out; omega
  have e6 : (d : Int).tmod 4096 = (i : Nat) := by rw [Int.tmod_eq_emod_of_nonneg (by omega)]; exact e5
  have k256 : (k : Int) < 256 := by have := hk.out; omega
  have i4096 : (i : Int) < 4096 := by have := hi.out; omega
  clear hd
  rcases x.pg k hk.out with ⟨hn, hz⟩ | ⟨hn, hc, hA, hP⟩
  · rw [hn] at c1
    have HV : Hid (F a = 0) := by show _ = _; rw [ha.out]; exact hz i hi.out
    clear x hn hz
    go_enter Tryz.func83, Tryz.ntmps83
    go_wp2_with fail
    go_ret
    exact ⟨by rw [HV.out]; rfl, rfl⟩
  · rw [hn, hA] at c1
    have cx : w.cell? ⟨g k, i, none⟩ = some (.int .u8 (F a : Nat)) := by rw [ha.out]; exact (hP.2 i hi.out).1
    obtain ⟨y, hy⟩ : ∃ y, F a = y := ⟨_, rfl⟩
    rw [hy] at cx ⊢
    clear x hn hA hP hc hy
    go_enter Tryz.func83, Tryz.ntmps83
    go_wp2_with fail
    go_ret
    exact ⟨rfl, rfl⟩
def RetPt (r : Nat) (F : Nat → Nat) (R : Fp) (w : World) (e : Ending) (w' : World) : Prop := e = .returned (.tuple #[]) ∧ IsRm (Up R w w') w' r F ∧ Ch R w w'
def putF (F : Nat → Nat) (a y : Nat) : Nat → Nat := fun x => if x = a then y else F x
section
variable {R : Fp} {w w' : World} {r : Nat} {F : Nat → Nat} {pb : Nat} {A : Nat → Option Addr} {n c g : Nat → Nat}
theorem atP_inj {k i l j : Nat} (hi : i < 4096) (hj : j < 4096) : atP k i = atP l j ↔ k = l ∧ i = j := by unfold atP; omega
/-- A byte is written into a page that is there. -/
theorem Rm.put (x : Rm R w r F pb A n c g) {k i y : Nat} (hk : k < 256) (hi : i < 4096) (hn : n k = 4096) (hy : y < 256) :
    Rm R (w.setCell ⟨g k, i, none⟩ (.int .u8 (y : Nat))) r (putF F (atP k i) y) pb A n c g ∧ Ch R w (w.setCell ⟨g k, i, none⟩ (.int .u8 (y : Nat))) := by
  have hP : PageIs w (g k) (fun i => F (atP k i)) := by
    rcases x.pg k hk with ⟨h0, -⟩ | ⟨-, -, -, h⟩
    · omega
    · exact h
  have hs : (w.cell? ⟨g k, i, none⟩).isSome = true := by rw [(hP.2 i hi).1]; rfl
  have hc : Ch (fun a _ => a = g k) w (w.setCell ⟨g k, i, none⟩ (.int .u8 (y : Nat))) := Ch.set _ _ _ _ _ rfl hs
  have g1 := (x.gr k hk hn).1
  have g2 := (x.gr k hk hn).2
  refine ⟨?_, hc.mono (fun a j e => by rw [e]; exact x.rg k j hk hn)⟩
  exact { x with
    lt := by rw [sz_set]; exact x.lt
    c0 := (hc.cell r 0 x.lt (fun e => g1 e.symm)).trans x.c0
    f0 := (hc.frozen r 0 x.lt).trans x.f0
    pl := by rw [sz_set]; exact x.pl
    pc := fun l hl => ⟨(hc.cell pb l x.pl (fun e => g2 e.symm)).trans (x.pc l hl).1, (hc.frozen pb l x.pl).trans (x.pc l hl).2⟩
    pg := fun l hl => by
      by_cases e : l = k
      · subst e
        rcases x.pg l hl with ⟨h0, -⟩ | ⟨h1, h2, h3, -⟩
        · omega
        · refine .inr ⟨h1, h2, h3, by rw [sz_set]; exact hP.1, fun j hj => ⟨?_, by rw [World.frozen?_setCell]; exact (hP.2 j hj).2⟩⟩
          by_cases ej : j = i
          · subst ej
            rw [cell_eq _ _ _ _ hs]
            show _ = some (Value.int .u8 ((putF F (atP l j) y (atP l j) : Nat) : Int))
            unfold putF; rw [if_pos rfl]
          · rw [cell_ne _ _ _ _ _ (fun e => ej e.symm), (hP.2 j hj).1]
            show _ = some (Value.int .u8 ((putF F (atP l i) y (atP l j) : Nat) : Int))
            unfold putF; rw [if_neg (fun e => ej ((atP_inj hj hi).1 e).2)]
      · have same : ∀ j, j < 4096 → putF F (atP k i) y (atP l j) = F (atP l j) := fun j hj => by unfold putF; rw [if_neg (fun q => e ((atP_inj hj hi).1 q).1)]
        rcases x.pg l hl with ⟨h0, h1⟩ | ⟨h1, h2, h3, h4⟩
        · exact .inl ⟨h0, fun j hj => by rw [same j hj]; exact h1 j hj⟩
        · refine .inr ⟨h1, h2, h3, by rw [sz_set]; exact h4.1, fun j hj => ?_⟩
          show _ = some (Value.int .u8 ((putF F (atP k i) y (atP l j) : Nat) : Int)) ∧ _
          rw [same j hj, hc.cell (g l) j h4.1 (x.gg l k hl hk e h1 hn), hc.frozen (g l) j h4.1]
          exact h4.2 j hj
    f8 := fun z => by unfold putF; split; exact hy; exact x.f8 z
    rlt := fun l j hl => by rw [sz_set]; exact x.rlt l j hl }
def setN {α : Type} (f : Nat → α) (k : Nat) (v : α) : Nat → α := fun l => if l = k then v else f l
theorem setN_eq {α : Type} (f : Nat → α) (k : Nat) (v : α) : setN f k v k = v := by unfold setN; rw [if_pos rfl]
theorem setN_ne {α : Type} (f : Nat → α) (k l : Nat) (v : α) (h : l ≠ k) : setN f k v l = f l := by unfold setN; rw [if_neg h]
/-- A new page is named. -/
theorem Rm.page (x : Rm R w r F pb A n c g) {k p cp : Nat} (hb : Below w.heap.size w w') (hk : k < 256) (hn : n k = 0) (hp : w.heap.size ≤ p) (hP : PageIs w' p (fun _ => 0)) (hc : 4096 ≤ cp) :
    Rm (Up R w w') (w'.setCell ⟨pb, k, none⟩ (.slice (some ⟨p, 0, none⟩) 4096 cp)) r F pb (setN A k (some ⟨p, 0, none⟩)) (setN n k 4096) (setN c k cp) (setN g k p) ∧ Ch R w (w'.setCell ⟨pb, k, none⟩ (.slice (some ⟨p, 0, none⟩) 4096 cp)) := by
  have y := (x.kept (Ch.of_below (fun _ _ => False) hb) (fun _ _ h => h.elim)).up w
  have hs : (w'.cell? ⟨pb, k, none⟩).isSome = true := by rw [(y.pc k hk).1]; rfl
  have hset : Ch (fun a _ => a = pb) w' (w'.setCell ⟨pb, k, none⟩ (.slice (some ⟨p, 0, none⟩) 4096 cp)) := Ch.set _ _ _ _ _ rfl hs
  have hz : ∀ i, i < 4096 → F (atP k i) = 0 := by
    rcases x.pg k hk with ⟨-, h⟩ | ⟨h, -⟩
    · exact h
    · omega
  have pr := y.pr
  have hpl : p < w'.heap.size := hP.1
  have nlt : ∀ l, l < 256 → n l = 4096 → g l < w.heap.size := fun l hl h => x.rlt (g l) 0 (x.rg l 0 hl h)
  refine ⟨?_, (Ch.of_below R hb).trans ((hset.mono (T2 := R) (fun a j e => by rw [e]; exact x.rp j))) (fun _ _ h => .inl h)⟩
  exact
  { lt := by rw [sz_set]; exact y.lt
    c0 := (hset.cell r 0 y.lt (fun e => pr e.symm)).trans y.c0
    f0 := (hset.frozen r 0 y.lt).trans y.f0
    pl := by rw [sz_set]; exact y.pl
    pc := fun l hl => by
      refine ⟨?_, by rw [World.frozen?_setCell]; exact (y.pc l hl).2⟩
      by_cases e : l = k
      · subst e; rw [cell_eq _ _ _ _ hs, setN_eq, setN_eq, setN_eq]
      · rw [cell_ne _ _ _ _ _ (fun q => e q.symm), setN_ne _ _ _ _ e, setN_ne _ _ _ _ e, setN_ne _ _ _ _ e]; exact (y.pc l hl).1
    pg := fun l hl => by
      by_cases e : l = k
      · subst e
        refine .inr ⟨setN_eq _ _ _, by rw [setN_eq]; exact hc, by rw [setN_eq, setN_eq], ?_⟩
        rw [setN_eq]
        refine page_ch ⟨hP.1, fun j hj => ?_⟩ hset (fun j q => by have := x.pl; omega)
        show _ = some (Value.int .u8 ((F (atP l j) : Nat) : Int)) ∧ _
        rw [hz j hj]; exact hP.2 j hj
      · rcases y.pg l hl with h | ⟨h1, h2, h3, h4⟩
        · exact .inl (by rw [setN_ne _ _ _ _ e]; exact h)
        · refine .inr ⟨by rw [setN_ne _ _ _ _ e]; exact h1, by rw [setN_ne _ _ _ _ e]; exact h2, by rw [setN_ne _ _ _ _ e, setN_ne _ _ _ _ e]; exact h3, ?_⟩
          rw [setN_ne _ _ _ _ e]
          exact page_ch h4 hset (fun j q => (y.gr l hl h1).2 q)
    f8 := y.f8
    rr := y.rr
    rp := y.rp
    rg := fun l j hl hn2 => by
      by_cases e : l = k
      · subst e; rw [setN_eq]; exact .inr ⟨hp, hpl⟩
      · rw [setN_ne _ _ _ _ e] at hn2 ⊢; exact y.rg l j hl hn2
    rlt := fun l j hl => by rw [sz_set]; exact y.rlt l j hl
    pr := y.pr
    gr := fun l hl hn2 => by
      by_cases e : l = k
      · subst e; rw [setN_eq]; have := x.lt; have := x.pl; exact ⟨by omega, by omega⟩
      · rw [setN_ne _ _ _ _ e] at hn2 ⊢; exact y.gr l hl hn2
    gg := fun l m hl hm hne hn1 hn2 => by
      by_cases e : l = k
      · subst e
        have e2 : ¬ m = l := fun q => hne q.symm
        rw [setN_ne _ _ _ _ e2] at hn2
        rw [setN_eq, setN_ne _ _ _ _ e2]
        have := nlt m hm hn2; omega
      · rw [setN_ne _ _ _ _ e] at hn1 ⊢
        by_cases e2 : m = k
        · subst e2; rw [setN_eq]; have := nlt l hl hn1; omega
        · rw [setN_ne _ _ _ _ e2] at hn2 ⊢; exact y.gg l m hl hm hne hn1 hn2 }
end
end Go.Proofs.YtoicpikkcefheaaGreat.M
namespace Go.Proofs.YtoicpikkcefheaaGreat.M
set_option linter.unusedVariables false
set_option linter.unusedSimpArgs false
set_option maxRecDepth 20000
open Go.ChangeShapes Go.WideShapes Go.ChangeAt Go.RowKit
theorem Rm.upTo {R : Fp} {w wa w4 : World} {r : Nat} {F : Nat → Nat} {pb : Nat} {A : Nat → Option Addr} {n c g : Nat → Nat} (x : Rm (Up R w wa) w4 r F pb A n c g) (h : wa.heap.size ≤ w4.heap.size) : IsRm (Up R w w4) w4 r F :=
  ⟨pb, A, n, c, g, x.mono (fun k j hk => hk.imp id (fun q => ⟨q.1, Nat.lt_of_lt_of_le q.2 h⟩)) (fun k j hk => hk.elim (fun q => x.rlt k j (.inl q)) (·.2))⟩
theorem make_page : ∃ ZP : Array Value, (∀ w, (Instr.makeSlice 22 (.int .i64 4096) (.int .i64 4096)).run Tryz.prog w = .ok (.slice (some ⟨w.heap.size, 0, none⟩) 4096 4096) (w.alloc (.cells ZP 5))) ∧ ∀ j, j < 4096 → ZP[j]? = some (.int .u8 0) := by
  obtain ⟨i, hi, h1, h2, h3⟩ := inf8'
  refine ⟨madeCells (Value.int .u8 0).cells 4096, fun w => ?_, fun j hj => made_get (.int .u8 0) rfl 4096 j hj⟩
  have hr := run_make (P := Tryz.prog) w 22 5 i (.int .u8 0) Tryz.underlying22 hi h3 .i64 .i64 4096 4096 (by omega) (by omega) (by rw [h2]; omega) (by omega)
  rw [h1] at hr
  exact hr
theorem page_made (w : World) (ZP : Array Value) (h : ∀ j, j < 4096 → ZP[j]? = some (.int .u8 0)) (t : TypeId) : PageIs (w.alloc (.cells ZP t)) w.heap.size (fun _ => 0) :=
  ⟨by rw [sz_alloc]; omega, fun i hi => ⟨by rw [World.cell?_alloc_new]; exact h i hi, by rw [World.frozen?_alloc_at _ _ _ _ rfl]⟩⟩
set_option maxRecDepth 100000 in
set_option maxHeartbeats 4000000 in
theorem putr_c (R : Fp) (r k i a y : Nat) (F : Nat → Nat) (w : World) (hM : Hid (IsRm R w r F)) (hk : Hid (k < 256)) (hi : Hid (i < 4096)) (ha : Hid (a = atP k i)) (hy : Hid (y < 256)) : Calls Tryz.prog 74 #[.pointer (some ⟨r, 0, none⟩), .int .u64 a, .int .u8 y] w (RetPt r (putF F a y) R w) := by
  obtain ⟨pb, A, n, c, g, x⟩ := hM.out
  have c0 := x.c0
  have c1 := (x.pc k hk.out).1
  have f1 := (x.pc k hk.out).2
  obtain ⟨d, hd⟩ : ∃ d, 4096 * k + i = d := ⟨_, rfl⟩
  have e1 : (a : Int) - 2147483648 = (d : Nat) := by have := ha.out; unfold atP at this; omega
  have e2 : IntKind.u64.wrap ((a : Int) - 2147483648) = (d : Nat) := by rw [e1, IntKind.wrap_u64]; have := hk.out; have := hi.out; omega
  have e3 : (d : Int) / 4096 = (k : Nat) := by have := hi.out; omega
  have e4 : (d : Int).tdiv 4096 = (k : Nat) := by rw [Int.tdiv_eq_ediv_of_nonneg (by omega)]; exact e3
  have e5 : (d : Int) % 4096 = (i : Nat) := by have := hi.out; omega
  have e6 : (d : Int).tmod 4096 = (i : Nat) := by rw [Int.tmod_eq_emod_of_nonneg (by omega)]; exact e5
  have k256 : (k : Int) < 256 := by have := hk.out; omega
  have i4096 : (i : Int) < 4096 := by have := hi.out; omega
  clear hd
  rcases x.pg k hk.out with ⟨hn, hz⟩ | ⟨hn, hc, hA, hP⟩
  · rw [hn] at c1
    have HX := Lib.hid x
    have HN := Lib.hid hn
    clear x hn hz
    go_enter Tryz.func74, Tryz.ntmps74
    have hpn : ¬ pb = w.heap.size := by have := HX.out.pl; omega
    have hrn : ¬ r = w.heap.size := by have := HX.out.lt; omega
    obtain ⟨ZP, hmk, hZP⟩ := make_page
    have HZ := Lib.hid hZP
    clear hZP
    have k0 : (w.alloc (Obj.cells ZP 5)).cell? ⟨pb, k, none⟩ = some (.slice (A k) 0 (c k)) := ((below_one w _).cell (p := ⟨pb, k, none⟩) HX.out.pl).trans c1
    have k1 : (w.alloc (Obj.cells ZP 5)).frozen? ⟨pb, k, none⟩ = false := ((below_one w _).frozen (p := ⟨pb, k, none⟩) HX.out.pl).trans f1
    have k2 : (w.alloc (Obj.cells ZP 5)).cell? ⟨r, 0, none⟩ = some (.slice (some ⟨pb, 0, none⟩) 256 256) := ((below_one w _).cell (p := ⟨r, 0, none⟩) HX.out.lt).trans c0
    have HPR : Hid (pb ≠ r) := HX.out.pr
    go_wp2_with fail
    go_region_held3 (fun w' => w'.cell? ⟨r, 0, none⟩ = some (.slice (some ⟨pb, 0, none⟩) 256 256)) (first | exact c0 | exact (World.cell?_setCell_other _ _ _ _ (fun q => by injection q with q1 q2; exact HPR.out q1)).trans k2 | go_keep) (fail)
    have hp := HX.out.page (cp := 4096) (below_one w (Obj.cells ZP 5)) hk.out HN.out (Nat.le_refl _) (page_made w ZP HZ.out 5) (Nat.le_refl _)
    have hb := below_drewN (Below.refl ((w.alloc (Obj.cells ZP 5)).setCell ⟨pb, k, none⟩ (.slice (some ⟨w.heap.size, 0, none⟩) 4096 4096)).heap.size ((w.alloc (Obj.cells ZP 5)).setCell ⟨pb, k, none⟩ (.slice (some ⟨w.heap.size, 0, none⟩) 4096 4096))) 1
    have hx3 := Lib.hid (hp.1.kept (Ch.of_below (fun _ _ => False) hb) (fun _ _ h => h.elim))
    have hc3 := Lib.hid (hp.2.trans (Ch.of_below R hb) (fun _ _ h => .inl h))
    have hz3 : Hid ((w.alloc (Obj.cells ZP 5)).heap.size ≤ (((w.alloc (Obj.cells ZP 5)).setCell ⟨pb, k, none⟩ (.slice (some ⟨w.heap.size, 0, none⟩) 4096 4096)).drewN 1).heap.size) := by show _ ≤ _; rw [sz_drewN, sz_set]; exact Nat.le_refl _
    clear hp hb c0 c1 f1 k0 k1 k2 hmk
    have hw9 : ((w.alloc (Obj.cells ZP 5)).setCell ⟨pb, k, none⟩ (.slice (some ⟨w.heap.size, 0, none⟩) 4096 4096)).drew = ((w.alloc (Obj.cells ZP 5)).setCell ⟨pb, k, none⟩ (.slice (some ⟨w.heap.size, 0, none⟩) 4096 4096)).drewN 1 := rfl
    rw [hw9]; clear hw9
    generalize ((w.alloc (Obj.cells ZP 5)).setCell ⟨pb, k, none⟩ (.slice (some ⟨w.heap.size, 0, none⟩) 4096 4096)).drewN 1 = w3 at hx3 hc3 hz3 ⊢
    have c0 := hx3.out.c0
    have c1 := (hx3.out.pc k hk.out).1
    rw [setN_eq, setN_eq, setN_eq] at c1
    have hput := hx3.out.put (i := i) (y := y) hk.out hi.out (setN_eq _ _ _) hy.out
    rw [setN_eq] at hput
    rw [← ha.out] at hput
    have HPut := Lib.hid hput
    have hP9 : PageIs w3 w.heap.size (fun j => F (atP k j)) := by
      rcases hx3.out.pg k hk.out with ⟨h0, -⟩ | ⟨-, -, -, h⟩
      · rw [setN_eq] at h0; omega
      · rw [setN_eq] at h; exact h
    have cx := (hP9.2 i hi.out).1
    have fx := (hP9.2 i hi.out).2
    clear hput hP9
    go_wp2_with fail
    go_end0
    refine ⟨rfl, HPut.out.1.upTo (by rw [sz_set]; exact hz3.out), hc3.out.trans HPut.out.2 (fun a j h => h.imp id (·.1))⟩
  · rw [hn, hA] at c1
    have HX := Lib.hid x
    have cx := (hP.2 i hi.out).1
    have fx := (hP.2 i hi.out).2
    have HPut := Lib.hid (x.put hk.out hi.out hn hy.out)
    clear x hn hA hP hc f1
    go_enter Tryz.func74, Tryz.ntmps74
    go_wp2_with fail
    go_end0
    have h1 := HPut.out.1
    rw [← ha.out] at h1
    exact ⟨rfl, ⟨_, _, _, _, _, h1.up w⟩, HPut.out.2⟩
end Go.Proofs.YtoicpikkcefheaaGreat.M
namespace Go.Proofs.YtoicpikkcefheaaGreat.M
set_option linter.unusedVariables false
set_option linter.unusedSimpArgs false
set_option maxRecDepth 20000
open Go.ChangeShapes Go.WideShapes Go.ChangeAt Go.RowKit
def RetL (ok : Bool) (r : Nat) (F : Nat → Nat) (R : Fp) (w : World) (e : Ending) (w' : World) : Prop := e = .returned (.bool ok) ∧ IsRm (Up R w w') w' r F ∧ Ch R w w'
section
variable {R : Fp} {w w1 w2 : World} {r : Nat} {F : Nat → Nat}
theorem IsRm.flat (h : IsRm (Up (Up R w w1) w1 w2) w2 r F) (h1 : w.heap.size ≤ w1.heap.size) (h2 : w1.heap.size ≤ w2.heap.size) : IsRm (Up R w w2) w2 r F := by
  obtain ⟨pb, A, n, c, g, x⟩ := h
  refine ⟨pb, A, n, c, g, x.mono (fun k j hk => ?_) (fun k j hk => ?_)⟩
  · rcases hk with (hk | hk) | hk
    · exact .inl hk
    · exact .inr ⟨hk.1, Nat.lt_of_lt_of_le hk.2 h2⟩
    · exact .inr ⟨Nat.le_trans h1 hk.1, hk.2⟩
  · rcases hk with hk | hk
    · exact x.rlt k j (.inl (.inl hk))
    · exact hk.2
theorem ch_flat (h : Ch R w w1) (k : Ch (Up R w w1) w1 w2) : Ch R w w2 := h.trans k (fun _ _ q => q.imp id (·.1))
theorem IsRm.start (h : IsRm R w r F) : IsRm (Up R w w) w r F := by
  obtain ⟨pb, A, n, c, g, x⟩ := h
  exact ⟨pb, A, n, c, g, x.up w⟩
theorem IsRm.kept {T : Fp} (h : IsRm R w r F) (hc : Ch T w w1) (hd : Dj T R) : IsRm R w1 r F := by
  obtain ⟨pb, A, n, c, g, x⟩ := h
  exact ⟨pb, A, n, c, g, x.kept hc hd⟩
theorem IsRm.below (h : IsRm R w r F) (hb : Below w.heap.size w w1) : IsRm (Up R w w1) w1 r F := by
  obtain ⟨pb, A, n, c, g, x⟩ := h
  exact ⟨pb, A, n, c, g, (x.kept (Ch.of_below (fun _ _ => False) hb) (fun _ _ h => h.elim)).up w⟩
theorem IsRm.f8 (h : IsRm R w r F) : ∀ x, F x < 256 := by
  obtain ⟨pb, A, n, c, g, x⟩ := h
  exact x.f8
end
theorem lay_put (F : Nat → Nat) (a i : Nat) (X : Nat → Nat) : putF (layF F a i X) (a + i) (X i) = layF F a (i + 1) X := by
  funext x
  unfold putF layF
  by_cases e : x = a + i
  · rw [if_pos e, if_pos (by omega), e, Nat.add_sub_cancel_left]
  · rw [if_neg e]
    by_cases h : a ≤ x ∧ x < a + i
    · rw [if_pos h, if_pos (by omega)]
    · rw [if_neg h, if_neg (by omega)]
theorem at_split (a : Nat) (h1 : 2147483648 ≤ a) (h2 : a < 2148532224) : a = atP ((a - 2147483648) / 4096) ((a - 2147483648) % 4096) ∧ (a - 2147483648) / 4096 < 256 ∧ (a - 2147483648) % 4096 < 4096 := by
  unfold atP; omega
theorem put_at (R : Fp) (r a y : Nat) (F : Nat → Nat) (w : World) (hM : Hid (IsRm R w r F)) (ha : Hid (2147483648 ≤ a ∧ a < 2148532224)) (hy : Hid (y < 256)) : Calls Tryz.prog 74 #[.pointer (some ⟨r, 0, none⟩), .int .u64 a, .int .u8 y] w (RetPt r (putF F a y) R w) :=
  have h := at_split a ha.out.1 ha.out.2
  putr_c R r _ _ a y F w hM h.2.1 h.2.2 h.1 hy
theorem byte_at (R : Fp) (r a : Nat) (F : Nat → Nat) (w : World) (hM : Hid (IsRm R w r F)) (ha : Hid (2147483648 ≤ a ∧ a < 2148532224)) : Calls Tryz.prog 83 #[.pointer (some ⟨r, 0, none⟩), .int .u64 a] w (fun e w' => e = .returned (.int .u8 (F a : Nat)) ∧ w' = w) :=
  have h := at_split a ha.out.1 ha.out.2
  byter_c R r _ _ a F w hM h.2.1 h.2.2 h.1
theorem layr_big (m n c : Nat) (a : Option Addr) (w : World) (hn : (1048576 : Int) < n) : Calls Tryz.prog 34 #[.pointer (some ⟨m, 0, none⟩), .slice a n c] w (fun e w' => e = .returned (.bool false) ∧ w' = w) := by
  go_enter Tryz.func34, Tryz.ntmps34
  go_wp2_with fail
  go_ret
  exact ⟨rfl, rfl⟩
set_option maxRecDepth 100000 in
set_option maxHeartbeats 4000000 in
theorem layr_c (R : Fp) (r g o n c : Nat) (sa : Option Addr) (F X : Nat → Nat) (w : World) (hM : Hid (IsRm R w r F)) (hsa : Hid (0 < n → sa = some ⟨g, o, none⟩ ∧ g < w.heap.size ∧ ∀ j, ¬ R g j)) (hn : Hid (n ≤ 1048576)) (hX : Hid (∀ i, X i < 256)) (hr : Hid (∀ i, i < n → w.cell? ⟨g, o + i, none⟩ = some (.int .u8 (X i : Nat)))) :
    Calls Tryz.prog 34 #[.pointer (some ⟨r, 0, none⟩), .slice sa n c] w (RetL true r (layF F 2147483648 n X) R w) := by
  have d0 : decide ((1048576 : Int) < n) = false := decide_eq_false (by have := hn.out; omega)
  have d0' : decide (1048576 < n) = false := decide_eq_false (by have := hn.out; omega)
  have d1 : ¬ (1048576 : Int) < n := by have := hn.out; omega
  go_enter Tryz.func34, Tryz.ntmps34
  go_wp2_with fail
  go_loopw [5] (fun iv wr => ∃ i : Nat, i ≤ n ∧ iv = .int .i64 i ∧ Hid (IsRm (Up R w wr) wr r (layF F 2147483648 i X)) ∧ Hid (Ch R w wr)) (fun iv _ => n - (intOf iv).toNat)
  case atStart => exact ⟨0, Nat.zero_le _, rfl, by rw [layF_zero]; exact hM.out.start, Ch.refl _ _⟩
  case round =>
    obtain ⟨i, hi, rfl, HM, HC⟩ := hrel
    by_cases hlt : i < n
    · have hlt' : (i : Int) < n := by omega
      obtain ⟨rfl, hg, hd⟩ := hsa.out (by omega)
      have cx : wr.cell? ⟨g, o + i, none⟩ = some (.int .u8 (X i : Nat)) := (HC.out.cell g (o + i) hg (hd _)).trans (hr.out i hlt)
      obtain ⟨x, hx⟩ : ∃ x, X i = x := ⟨_, rfl⟩
      rw [hx] at cx
      have X8 : Hid (x < 256) := by show _ < _; rw [← hx]; exact hX.out i
      have HP : Hid (putF (layF F 2147483648 i X) (2147483648 + i) x = layF F 2147483648 (i + 1) X) := by show _ = _; rw [← hx]; exact lay_put F 2147483648 i X
      have HI : Hid (2147483648 ≤ 2147483648 + i ∧ 2147483648 + i < 2148532224) := by have := hn.out; show _ ∧ _; omega
      have ew : IntKind.u64.wrap (i : Int) = i := by rw [IntKind.wrap_u64]; have := hn.out; omega
      have ew2 : IntKind.u64.wrap (2147483648 + (i : Int)) = ((2147483648 + i : Nat) : Int) := by rw [IntKind.wrap_u64]; have := hn.out; omega
      have kk1 : IntKind.i64.wrap ((i : Int) + 1) = (i : Int) + 1 := IntWalk.i64_in _ (by have := hn.out; omega)
      obtain ⟨t, ht⟩ : ∃ t, 2147483648 + i = t := ⟨_, rfl⟩
      rw [ht] at HP HI ew2
      clear hx hg hd ht d1
      go_wp2_with fail
      refine (put_at _ r t x _ wr HM HI X8).mono ?_; rintro e w2 ⟨rfl, h1, h2⟩
      rw [HP.out] at h1
      have HM2 := Lib.hid (h1.flat HC.out.size h2.size)
      have HC2 := Lib.hid (ch_flat HC.out h2)
      clear h1 h2
      go_wp2_with fail
      go_roundw
      case rel => exact ⟨i + 1, by omega, by go_num, HM2, HC2⟩
      case measure => simp [intOf]; omega
    · obtain rfl : i = n := by omega
      go_wp2_with fail
      go_ret
      exact ⟨rfl, HM.out, HC.out⟩
theorem add8 (R : Nat → Nat) (hR : ∀ i, R i < 256) (i : Nat) (hi : i < 8) (x : Nat) (hx : x = R i) : IntKind.u64.wrap (((numR R i : Nat) : Int) + IntKind.u64.wrap ((x : Int) * 2 ^ (8 * i))) = ((numR R (i + 1) : Nat) : Int) := by
  subst hx
  have e : (2 : Int) ^ (8 * i) = ((256 ^ i : Nat) : Int) := by rw [← pow8]; simp
  have hp : 256 ^ i ≤ 72057594037927936 := Nat.le_trans (Nat.pow_le_pow_right (by decide) (show i ≤ 7 by omega)) (by decide)
  have hrp : R i * 256 ^ i ≤ 255 * 256 ^ i := Nat.mul_le_mul_right _ (by have := hR i; omega)
  have hl := numR_lt R hR i
  have w2 : IntKind.u64.wrap ((R i : Int) * ((256 ^ i : Nat) : Int)) = ((R i * 256 ^ i : Nat) : Int) := by
    rw [← Int.natCast_mul, IntKind.wrap_u64]
    omega
  rw [e, w2, IntKind.wrap_u64]
  show _ = ((numR R i + R i * 256 ^ i : Nat) : Int)
  omega
theorem wr_round (F : Nat → Nat) (a i v : Nat) : putF (layF F a i (byteV v)) (a + i) (v / 256 ^ i % 256) = layF F a (i + 1) (byteV v) := lay_put F a i (byteV v)
set_option maxRecDepth 100000 in
set_option maxHeartbeats 4000000 in
theorem writer_y (R : Fp) (r a n v : Nat) (F : Nat → Nat) (w : World) (hM : Hid (IsRm R w r F)) (hn : Hid (n = 1 ∨ n = 2 ∨ n = 4 ∨ n = 8)) (ha : Hid (2147483648 ≤ a ∧ a + n ≤ 2148532224)) (hv : Hid (hasV a n = true)) :
    Calls Tryz.prog 37 #[.pointer (some ⟨r, 0, none⟩), .int .u64 a, .int .i64 n, .int .u64 v] w (RetL true r (layF F a n (byteV v)) R w) := by
  have n8 : (n : Int) ≤ 8 := by have := hn.out; omega
  have HH : Hid (Calls Tryz.prog 60 #[.pointer (some ⟨r, 0, none⟩), .int .u64 a, .int .i64 n] w (RetB true w)) := by rw [← hv.out]; exact hasr_c _ a n (by have := ha.out; show _ < _; omega) w
  go_enter Tryz.func37, Tryz.ntmps37
  go_wp2_with fail
  refine HH.out.mono ?_; rintro e w1 ⟨rfl, hb⟩
  have HM0 : Hid (IsRm (Up R w w1) w1 r F) := hM.out.below hb
  have HC0 : Hid (Ch R w w1) := Ch.of_below R hb
  clear hb
  go_wp2_with fail
  go_loopw [10] (fun iv wr => ∃ i : Nat, i ≤ n ∧ iv = .int .i64 i ∧ Hid (IsRm (Up R w wr) wr r (layF F a i (byteV v))) ∧ Hid (Ch R w wr)) (fun iv _ => n - (intOf iv).toNat)
  case atStart => exact ⟨0, Nat.zero_le _, rfl, by rw [layF_zero]; exact HM0.out, HC0⟩
  case round =>
    clear HM0 HC0
    obtain ⟨i, hi, rfl, HM, HC⟩ := hrel
    by_cases hlt : i < n
    · have hlt' : (i : Int) < n := by omega
      have i8 : (i : Int) < 8 := by omega
      obtain ⟨t, ht⟩ : ∃ t, a + i = t := ⟨_, rfl⟩
      have ew : IntKind.u64.wrap (i : Int) = i := by rw [IntKind.wrap_u64]; omega
      have ew2 : IntKind.u64.wrap ((a : Int) + (i : Int)) = (t : Nat) := by rw [IntKind.wrap_u64]; have := ha.out; omega
      have ew3 : IntKind.i64.wrap (8 * (i : Int)) = 8 * (i : Int) := IntWalk.i64_in _ (by omega)
      have kk1 : IntKind.i64.wrap ((i : Int) + 1) = (i : Int) + 1 := IntWalk.i64_in _ (by omega)
      obtain ⟨y, hy⟩ : ∃ y, v / 256 ^ i % 256 = y := ⟨_, rfl⟩
      have HY : Hid ((v : Int) / 2 ^ (8 * i) % 256 = (y : Nat)) := by show _ = _; rw [shr_mod, hy]
      have Y8 : Hid (y < 256) := by show _ < _; rw [← hy]; exact Nat.mod_lt _ (by decide)
      have HP : Hid (putF (layF F a i (byteV v)) t y = layF F a (i + 1) (byteV v)) := by show _ = _; rw [← ht, ← hy]; exact wr_round F a i v
      have HI : Hid (2147483648 ≤ t ∧ t < 2148532224) := by have := ha.out; show _ ∧ _; omega
      clear ht hy
      go_wp2_with fail
      rw [HY.out]
      refine (put_at _ r t y _ wr HM HI Y8).mono ?_; rintro e w2 ⟨rfl, h1, h2⟩
      rw [HP.out] at h1
      have HM2 := Lib.hid (h1.flat HC.out.size h2.size)
      have HC2 := Lib.hid (ch_flat HC.out h2)
      clear h1 h2
      go_wp2_with fail
      go_roundw
      case rel => exact ⟨i + 1, by omega, by go_num, HM2, HC2⟩
      case measure => simp [intOf]; omega
    · obtain rfl : i = n := by omega
      go_wp2_with fail
      go_ret
      exact ⟨rfl, HM.out, HC.out⟩
theorem writer_n (R : Fp) (r a v : Nat) (z : Int) (F : Nat → Nat) (w : World) (hM : Hid (IsRm R w r F)) (ha : Hid (a < 18446744073709551616)) (hv : Hid (hasV a z = false)) :
    Calls Tryz.prog 37 #[.pointer (some ⟨r, 0, none⟩), .int .u64 a, .int .i64 z, .int .u64 v] w (RetL false r F R w) := by
  have HH : Hid (Calls Tryz.prog 60 #[.pointer (some ⟨r, 0, none⟩), .int .u64 a, .int .i64 z] w (RetB false w)) := by rw [← hv.out]; exact hasr_c _ a z ha w
  go_enter Tryz.func37, Tryz.ntmps37
  go_wp2_with fail
  refine HH.out.mono ?_; rintro e w1 ⟨rfl, hb⟩
  have HB := Lib.hid hb; clear hb
  go_wp2_with fail
  go_ret
  exact ⟨rfl, hM.out.below HB.out, Ch.of_below R HB.out⟩
theorem writer_c (R : Fp) (r a v : Nat) (z : Int) (F : Nat → Nat) (w : World) (hM : Hid (IsRm R w r F)) (ha : Hid (a < 18446744073709551616)) :
    Calls Tryz.prog 37 #[.pointer (some ⟨r, 0, none⟩), .int .u64 a, .int .i64 z, .int .u64 v] w (RetL (hasV a z) r (wrF F a z v) R w) := by
  cases hv : hasV a z
  · have : wrF F a z v = F := by unfold wrF; rw [if_neg (by rw [hv]; decide)]
    rw [this]
    exact writer_n R r a v z F w hM ha hv
  · have h := hv
    unfold hasV at h
    have h := of_decide_eq_true h
    obtain ⟨n, rfl⟩ : ∃ n : Nat, z = n := ⟨z.toNat, by omega⟩
    have : wrF F a n v = layF F a n (byteV v) := by unfold wrF; rw [if_pos hv]; rfl
    rw [this]
    exact writer_y R r a n v F w hM (by show _ ∨ _; omega) (by show _ ∧ _; omega) hv
set_option maxRecDepth 100000 in
set_option maxHeartbeats 4000000 in
theorem readr_y (R : Fp) (r a n : Nat) (F : Nat → Nat) (w : World) (hM : Hid (IsRm R w r F)) (hn : Hid (n = 1 ∨ n = 2 ∨ n = 4 ∨ n = 8)) (ha : Hid (2147483648 ≤ a ∧ a + n ≤ 2148532224)) (hv : Hid (hasV a n = true)) :
    Calls Tryz.prog 45 #[.pointer (some ⟨r, 0, none⟩), .int .u64 a, .int .i64 n] w (RetR (numR (fun i => F (a + i)) n) true w) := by
  have n8 : (n : Int) ≤ 8 := by have := hn.out; omega
  have HH : Hid (Calls Tryz.prog 60 #[.pointer (some ⟨r, 0, none⟩), .int .u64 a, .int .i64 n] w (RetB true w)) := by rw [← hv.out]; exact hasr_c _ a n (by have := ha.out; show _ < _; omega) w
  have HF : Hid (∀ i, (fun i => F (a + i)) i < 256) := fun i => hM.out.f8 (a + i)
  go_enter Tryz.func45, Tryz.ntmps45
  go_wp2_with fail
  refine HH.out.mono ?_; rintro e w1 ⟨rfl, hb⟩
  have HB := Lib.hid hb; clear hb
  have HM : Hid (IsRm (Up R w w1) w1 r F) := hM.out.below HB.out
  go_wp2_with fail
  go_loopw [9, 10] (fun vv iv wr => ∃ i : Nat, i ≤ n ∧ iv = .int .i64 i ∧ vv = .int .u64 (numR (fun i => F (a + i)) i : Nat) ∧ wr = w1) (fun _ iv _ => n - (intOf iv).toNat)
  case atStart => exact ⟨0, Nat.zero_le _, rfl, rfl, rfl⟩
  case round =>
    obtain ⟨i, hi, rfl, rfl, rfl⟩ := hrel
    by_cases hlt : i < n
    · have hlt' : (i : Int) < n := by omega
      have i8 : (i : Int) < 8 := by omega
      obtain ⟨t, ht⟩ : ∃ t, a + i = t := ⟨_, rfl⟩
      have ew : IntKind.u64.wrap (i : Int) = i := by rw [IntKind.wrap_u64]; omega
      have ew2 : IntKind.u64.wrap ((a : Int) + (i : Int)) = (t : Nat) := by rw [IntKind.wrap_u64]; have := ha.out; omega
      have ew3 : IntKind.i64.wrap (8 * (i : Int)) = 8 * (i : Int) := IntWalk.i64_in _ (by omega)
      have kk1 : IntKind.i64.wrap ((i : Int) + 1) = (i : Int) + 1 := IntWalk.i64_in _ (by omega)
      have HI : Hid (2147483648 ≤ t ∧ t < 2148532224) := by have := ha.out; show _ ∧ _; omega
      obtain ⟨x, hx⟩ : ∃ x, F t = x := ⟨_, rfl⟩
      have X8 : x < 256 := by rw [← hx]; exact hM.out.f8 t
      have ex : IntKind.u64.wrap (x : Int) = x := by rw [IntKind.wrap_u64]; omega
      have HX := Lib.hid hx
      have H8 := Lib.hid X8
      have HT := Lib.hid ht
      clear hx X8 ht
      go_wp2_with fail
      refine (byte_at _ r t F wr HM HI).mono ?_; rintro e w2 ⟨rfl, h1⟩
      subst h1
      rw [HX.out]
      have HA8 : Hid (IntKind.u64.wrap (((numR (fun i => F (a + i)) i : Nat) : Int) + IntKind.u64.wrap ((x : Int) * 2 ^ (8 * i))) = ((numR (fun i => F (a + i)) (i + 1) : Nat) : Int)) := add8 _ HF.out i (by omega) x (by show x = F (a + i); rw [HT.out]; exact HX.out.symm)
      go_wp2_with fail
      rw [HA8.out]
      go_roundw
      case rel => exact ⟨i + 1, by omega, by go_num, rfl, trivial⟩
      case measure => simp [intOf]; omega
    · obtain rfl : i = n := by omega
      go_wp2_with fail
      go_ret2
      exact ⟨rfl, HB.out⟩
theorem readr_n (R : Fp) (r a : Nat) (z : Int) (F : Nat → Nat) (w : World) (ha : Hid (a < 18446744073709551616)) (hv : Hid (hasV a z = false)) :
    Calls Tryz.prog 45 #[.pointer (some ⟨r, 0, none⟩), .int .u64 a, .int .i64 z] w (RetR 0 false w) := by
  have HH : Hid (Calls Tryz.prog 60 #[.pointer (some ⟨r, 0, none⟩), .int .u64 a, .int .i64 z] w (RetB false w)) := by rw [← hv.out]; exact hasr_c _ a z ha w
  go_enter Tryz.func45, Tryz.ntmps45
  go_wp2_with fail
  refine HH.out.mono ?_; rintro e w1 ⟨rfl, hb⟩
  have HB := Lib.hid hb; clear hb
  go_wp2_with fail
  go_ret2
  exact ⟨rfl, HB.out⟩
theorem readr_c (R : Fp) (r a : Nat) (z : Int) (F : Nat → Nat) (w : World) (hM : Hid (IsRm R w r F)) (ha : Hid (a < 18446744073709551616)) :
    Calls Tryz.prog 45 #[.pointer (some ⟨r, 0, none⟩), .int .u64 a, .int .i64 z] w (RetR (readV F a z) (hasV a z) w) := by
  cases hv : hasV a z
  · have : readV F a z = 0 := by unfold readV; rw [hv]; rfl
    rw [this]
    exact readr_n R r a z F w ha hv
  · have h := hv
    unfold hasV at h
    have h := of_decide_eq_true h
    obtain ⟨n, rfl⟩ : ∃ n : Nat, z = n := ⟨z.toNat, by omega⟩
    have hn : n = 1 ∨ n = 2 ∨ n = 4 ∨ n = 8 := by omega
    have : readV F a n = numR (fun i => F (a + i)) n := by
      unfold readV
      rw [if_pos hv, show ((n : Nat) : Int).toNat = n from rfl]
      have h8 := numR_zero (rB F a n) n (8 - n) (fun i hi => by unfold rB; rw [if_neg (by omega)])
      rw [show n + (8 - n) = 8 by omega] at h8
      rw [h8]
      exact numR_congr n (fun i hi => by unfold rB; rw [if_pos hi])
    rw [this]
    exact readr_y R r a n F w hM hn (by show _ ∧ _; omega) hv
end Go.Proofs.YtoicpikkcefheaaGreat.M
