/- The walks of TrapQuiet. -/
import Derived.Test.YteeifdmnagbjeaaDoorC1
namespace Go.Proofs.YteeifdmnagbjeaaDoor
open Go.ChangeShapes Go.WideShapes Go.ChangeAt Go.RowKit Go.Sort Y
set_option linter.unusedVariables false
set_option linter.unusedSimpArgs false

/-- What a rank holds. -/
theorem lay_val (b r : Nat) : ∀ n, layN zF 0 b n r ≠ 0 → ∃ j, j < n ∧ layN zF 0 b n r = 9223372036854775808 + ordN j ∧ b.testBit (ordN j) = true
  | 0, h => absurd rfl h
  | n + 1, h => by
    have ih := lay_val b r n
    cases hb : b.testBit (ordN n) with
    | false =>
      have e : layN zF 0 b (n + 1) r = layN zF 0 b n r := by simp only [layN, hb, cond_false]
      rw [e] at h ⊢
      obtain ⟨j, hj, h1, h2⟩ := ih h
      exact ⟨j, by omega, h1, h2⟩
    | true =>
      have e : layN zF 0 b (n + 1) r = bif r == 0 + n then 9223372036854775808 + ordN n else layN zF 0 b n r := by simp only [layN, hb, cond_true]; rfl
      rw [e] at h ⊢
      cases hr : (r == 0 + n) with
      | true => exact ⟨n, by omega, rfl, hb⟩
      | false =>
        rw [hr] at h
        obtain ⟨j, hj, h1, h2⟩ := ih h
        exact ⟨j, by omega, h1, h2⟩
theorem ord_lt (k : Nat) : ordN k < 64 := by
  unfold ordN
  cases k == 0 <;> cases k == 1 <;> cases k == 2 <;> cases k == 3 <;> cases k == 4 <;> decide
/-- What Pending tells of registers that S stands in: nothing, or one that is not delegated. -/
def QuietP (D3 v : Nat) (b : Bool) : Prop := (b = false ∧ v = 0) ∨ (b = true ∧ ∃ n, n < 64 ∧ v = 9223372036854775808 + n ∧ D3.testBit n = false)
theorem quiet_first (x D3 v : Nat) (b : Bool) (hd : D3 < 18446744073709551616) (h : firstP (layN zF 0 (x &&& (18446744073709551615 - D3)) 6) v b) : QuietP D3 v b := by
  rcases h with ⟨rfl, rfl, _⟩ | ⟨rfl, r, _, rfl, h, _⟩
  · exact Or.inl ⟨rfl, rfl⟩
  · obtain ⟨j, _, h1, h2⟩ := lay_val _ r 6 h
    refine Or.inr ⟨rfl, ordN j, ord_lt j, h1, ?_⟩
    rw [Nat.testBit_and, not_bit D3 _ hd (ord_lt j)] at h2
    cases hb : D3.testBit (ordN j)
    · rfl
    · rw [hb] at h2; simp at h2
theorem and63 (n : Nat) (hn : n < 64) : bits .and .u64 ((9223372036854775808 + n : Nat) : Int) 63 = (n : Int) := by
  rw [show (63 : Int) = ((63 : Nat) : Int) from rfl, u_and (9223372036854775808 + n) 63 (by omega) (by decide)]
  have : (9223372036854775808 + n) &&& 63 = n := by
    rw [show (63 : Nat) = 2 ^ 6 - 1 from rfl, Nat.and_two_pow_sub_one_eq_mod]; omega
  rw [this]
theorem bit_nought (v n : Nat) (hv : v < 18446744073709551616) (h : v.testBit n = false) : (bits .and .u64 ((v : Int) / 2 ^ n) 1 == 0) = true := by
  have := bit_val0 v n hv
  rw [h] at this
  rw [bne, Bool.not_eq_false'] at this; exact this
set_option maxRecDepth 100000 in
set_option maxHeartbeats 1000000 in
theorem quietS_0 (S : Nat → Nat) (m : Int) (pc c v l : Nat) (hS : Hid (OkS S)) (hp : Hid (pc < 18446744073709551616)) (hc : Hid (c < 18446744073709551616)) (hv : Hid (v < 18446744073709551616)) (hl : Hid (l < 18446744073709551616)) (ht : tkI m = 0) (hd : delB S c = true) (w : World) (hG : Hid (G w)) :
    Calls Tryd.prog 6 #[.agg (cs S), .int .i64 m, .int .u64 pc, .int .u64 c, .int .u64 v, .int .u64 l] w (RetB true w) := by
  obtain ⟨D, hD⟩ : ∃ D, toS S 0 pc c v = D := ⟨_, rfl⟩
  have OD : Hid (OkS D) := by show OkS _; rw [← hD]; exact toS_ok hS.out 0 pc c v (Or.inl rfl) hc.out hv.out
  have D0 : D 0 = eS (S 0) 0 := by rw [← hD]; rfl
  have HE : Hid (∀ u, Calls Tryd.prog 9 #[.agg (cs S), .int .i64 m, .int .u64 pc, .int .u64 c, .int .u64 v] u (RetE D 1 (vecN (S 14) c) u)) := fun u => by
    have := enterS_0 S m pc c v hS hp hc hv ht hd u
    rw [hD] at this; exact this
  have HP : Hid (∀ u, Hid (G u) → Calls Tryd.prog 13 #[.agg (cs D), .int .i64 1, .int .u64 l] u (fun e w' => ∃ v b, e = .returned (.tuple #[.int .u64 (v : Nat), .bool b]) ∧ QuietP (D 3) v b ∧ Below u.heap.size u w')) := fun u hu => by
    have m3 : Hid (∀ x, Calls Tryd.prog 26 #[.int .u64 (D 0 : Nat), .int .i64 1, .int .i64 3] x (RetB true x)) := fun x => may_1_3 (D 0) (OD.out.u 0 (by decide)) x
    have m1 : Hid (∀ x, Calls Tryd.prog 26 #[.int .u64 (D 0 : Nat), .int .i64 1, .int .i64 1] x (RetB false x)) := fun x => by
      have := may_1_1 (D 0) (OD.out.u 0 (by decide)) x
      rw [show mayI (D 0) 1 1 = (D 0).testBit 1 from rfl, D0, eS_off (S 0) 0 (Or.inl rfl)] at this
      rw [D0]; exact this
    refine (pending_true_false D 1 1 l OD hl rfl m3 m1 u hu).mono ?_
    rintro e w' ⟨v9, b9, rfl, hf, hb⟩
    exact ⟨v9, b9, rfl, quiet_first _ (D 3) v9 b9 (OD.out.u 3 (by decide)) hf, hb⟩
  have d3 := Lib.hid (OD.out.u 3 (by decide))
  clear hD D0 OD hS hp hc hv hl ht hd
  generalize vecN (S 14) c = at0 at HE
  go_enter Tryd.func6, Tryd.ntmps6
  go_wp2_with fail
  refine (awake_c _ (g_alloc hG.out _)).mono ?_; rintro e w1 ⟨rfl, hb⟩
  have HB : Hid (Below w.heap.size w w1) := below_step hb ((Below.refl w.heap.size w).alloc (Nat.le_refl _) _) (by rw [sz_alloc]; omega)
  have RC : Hid (Row w1 w.heap.size 26 (cs S)) := (row_new w (cs S) 26).below hb (by rw [sz_alloc]; exact Nat.lt_succ_self _)
  have HG : Hid (G w1) := g_below (g_alloc hG.out _) hb (by rw [sz_alloc]; omega)
  clear hb hG
  go_wp2_with (refine wpList_load_row rfl 26 _ rfl w.heap.size rfl 26 (cs S) (0, 0) _ RC.out Tryd.underlying26 rfl (infoS _) ?_)
  refine (HE.out _).mono ?_; rintro e w2 ⟨rfl, hb⟩
  replace HB := Lib.hid (below_step hb HB.out HB.out.size)
  replace HG := Lib.hid (g_below HG.out hb (g_lt HG.out))
  clear hb HE RC
  have RD : Hid (Row ((w2.alloc (Obj.cells (cs Z38) 26)).setRow w2.heap.size (cs D)) w2.heap.size 26 (cs D)) := (row_new _ _ _).setRow _
  have hz : ((w2.alloc (Obj.cells (cs Z38) 26)).setRow w2.heap.size (cs D)).heap.size = w2.heap.size + 1 := by rw [sz_setRow, sz_alloc]
  replace HB : Hid (Below w.heap.size w ((w2.alloc (Obj.cells (cs Z38) 26)).setRow w2.heap.size (cs D))) := below_setRow (HB.out.alloc HB.out.size _) HB.out.size _
  replace HG : Hid (G ((w2.alloc (Obj.cells (cs Z38) 26)).setRow w2.heap.size (cs D))) := g_setRow (g_alloc HG.out _) _ (by have := g_lt HG.out; omega) _
  have HZ := Lib.hid hz
  clear hz
  go_wp2_with (first | (refine wpList_store_row rfl 26 _ _ rfl w2.heap.size (cs D) rfl rfl 26 (cs Z38) (row_new _ _ _) (infoS _) rfl (oneS _) ?_) | (refine wpList_load_row rfl 26 _ rfl w2.heap.size rfl 26 (cs D) (0, 0) _ RD.out Tryd.underlying26 rfl (infoS _) ?_))
  refine (HP.out ((w2.alloc (Obj.cells (cs Z38) 26)).setRow w2.heap.size (cs D)) HG).mono ?_; rintro e w3 ⟨v9, b9, rfl, hq, hb⟩
  replace HB := Lib.hid (below_step hb HB.out HB.out.size)
  have k3 : w3.cell? ⟨w2.heap.size, 3, none⟩ = some (.int .u64 (D 3 : Nat)) := ((RD.out.below hb (by rw [HZ.out]; exact Nat.lt_succ_self _)).cell 3).trans rfl
  clear hb HP HG RD HZ
  rcases hq with ⟨rfl, rfl⟩ | ⟨rfl, n, hn, hv9, h0⟩
  · go_wp2_with fail
    go_ret
    exact retB_mk rfl HB.out
  · have a1 : bits .and .u64 ((v9 : Nat) : Int) 63 = (n : Int) := by rw [hv9]; exact and63 n hn
    have a2 := bit_nought (D 3) n d3.out h0
    clear h0 d3 hv9
    go_wp2_with fail
    go_ret
    exact retB_mk rfl HB.out
set_option maxRecDepth 100000 in
set_option maxHeartbeats 1000000 in
theorem quietS_1 (S : Nat → Nat) (m : Int) (pc c v l : Nat) (hS : Hid (OkS S)) (hp : Hid (pc < 18446744073709551616)) (hc : Hid (c < 18446744073709551616)) (hv : Hid (v < 18446744073709551616)) (hl : Hid (l < 18446744073709551616)) (ht : tkI m = 1) (hd : delB S c = true) (w : World) (hG : Hid (G w)) :
    Calls Tryd.prog 6 #[.agg (cs S), .int .i64 m, .int .u64 pc, .int .u64 c, .int .u64 v, .int .u64 l] w (RetB true w) := by
  obtain ⟨D, hD⟩ : ∃ D, toS S 1 pc c v = D := ⟨_, rfl⟩
  have OD : Hid (OkS D) := by show OkS _; rw [← hD]; exact toS_ok hS.out 1 pc c v (Or.inr rfl) hc.out hv.out
  have D0 : D 0 = eS (S 0) 1 := by rw [← hD]; rfl
  have HE : Hid (∀ u, Calls Tryd.prog 9 #[.agg (cs S), .int .i64 m, .int .u64 pc, .int .u64 c, .int .u64 v] u (RetE D 1 (vecN (S 14) c) u)) := fun u => by
    have := enterS_1 S m pc c v hS hp hc hv ht hd u
    rw [hD] at this; exact this
  have HP : Hid (∀ u, Hid (G u) → Calls Tryd.prog 13 #[.agg (cs D), .int .i64 1, .int .u64 l] u (fun e w' => ∃ v b, e = .returned (.tuple #[.int .u64 (v : Nat), .bool b]) ∧ QuietP (D 3) v b ∧ Below u.heap.size u w')) := fun u hu => by
    have m3 : Hid (∀ x, Calls Tryd.prog 26 #[.int .u64 (D 0 : Nat), .int .i64 1, .int .i64 3] x (RetB true x)) := fun x => may_1_3 (D 0) (OD.out.u 0 (by decide)) x
    have m1 : Hid (∀ x, Calls Tryd.prog 26 #[.int .u64 (D 0 : Nat), .int .i64 1, .int .i64 1] x (RetB false x)) := fun x => by
      have := may_1_1 (D 0) (OD.out.u 0 (by decide)) x
      rw [show mayI (D 0) 1 1 = (D 0).testBit 1 from rfl, D0, eS_off (S 0) 1 (Or.inr rfl)] at this
      rw [D0]; exact this
    refine (pending_true_false D 1 1 l OD hl rfl m3 m1 u hu).mono ?_
    rintro e w' ⟨v9, b9, rfl, hf, hb⟩
    exact ⟨v9, b9, rfl, quiet_first _ (D 3) v9 b9 (OD.out.u 3 (by decide)) hf, hb⟩
  have d3 := Lib.hid (OD.out.u 3 (by decide))
  clear hD D0 OD hS hp hc hv hl ht hd
  generalize vecN (S 14) c = at0 at HE
  go_enter Tryd.func6, Tryd.ntmps6
  go_wp2_with fail
  refine (awake_c _ (g_alloc hG.out _)).mono ?_; rintro e w1 ⟨rfl, hb⟩
  have HB : Hid (Below w.heap.size w w1) := below_step hb ((Below.refl w.heap.size w).alloc (Nat.le_refl _) _) (by rw [sz_alloc]; omega)
  have RC : Hid (Row w1 w.heap.size 26 (cs S)) := (row_new w (cs S) 26).below hb (by rw [sz_alloc]; exact Nat.lt_succ_self _)
  have HG : Hid (G w1) := g_below (g_alloc hG.out _) hb (by rw [sz_alloc]; omega)
  clear hb hG
  go_wp2_with (refine wpList_load_row rfl 26 _ rfl w.heap.size rfl 26 (cs S) (0, 0) _ RC.out Tryd.underlying26 rfl (infoS _) ?_)
  refine (HE.out _).mono ?_; rintro e w2 ⟨rfl, hb⟩
  replace HB := Lib.hid (below_step hb HB.out HB.out.size)
  replace HG := Lib.hid (g_below HG.out hb (g_lt HG.out))
  clear hb HE RC
  have RD : Hid (Row ((w2.alloc (Obj.cells (cs Z38) 26)).setRow w2.heap.size (cs D)) w2.heap.size 26 (cs D)) := (row_new _ _ _).setRow _
  have hz : ((w2.alloc (Obj.cells (cs Z38) 26)).setRow w2.heap.size (cs D)).heap.size = w2.heap.size + 1 := by rw [sz_setRow, sz_alloc]
  replace HB : Hid (Below w.heap.size w ((w2.alloc (Obj.cells (cs Z38) 26)).setRow w2.heap.size (cs D))) := below_setRow (HB.out.alloc HB.out.size _) HB.out.size _
  replace HG : Hid (G ((w2.alloc (Obj.cells (cs Z38) 26)).setRow w2.heap.size (cs D))) := g_setRow (g_alloc HG.out _) _ (by have := g_lt HG.out; omega) _
  have HZ := Lib.hid hz
  clear hz
  go_wp2_with (first | (refine wpList_store_row rfl 26 _ _ rfl w2.heap.size (cs D) rfl rfl 26 (cs Z38) (row_new _ _ _) (infoS _) rfl (oneS _) ?_) | (refine wpList_load_row rfl 26 _ rfl w2.heap.size rfl 26 (cs D) (0, 0) _ RD.out Tryd.underlying26 rfl (infoS _) ?_))
  refine (HP.out ((w2.alloc (Obj.cells (cs Z38) 26)).setRow w2.heap.size (cs D)) HG).mono ?_; rintro e w3 ⟨v9, b9, rfl, hq, hb⟩
  replace HB := Lib.hid (below_step hb HB.out HB.out.size)
  have k3 : w3.cell? ⟨w2.heap.size, 3, none⟩ = some (.int .u64 (D 3 : Nat)) := ((RD.out.below hb (by rw [HZ.out]; exact Nat.lt_succ_self _)).cell 3).trans rfl
  clear hb HP HG RD HZ
  rcases hq with ⟨rfl, rfl⟩ | ⟨rfl, n, hn, hv9, h0⟩
  · go_wp2_with fail
    go_ret
    exact retB_mk rfl HB.out
  · have a1 : bits .and .u64 ((v9 : Nat) : Int) 63 = (n : Int) := by rw [hv9]; exact and63 n hn
    have a2 := bit_nought (D 3) n d3.out h0
    clear h0 d3 hv9
    go_wp2_with fail
    go_ret
    exact retB_mk rfl HB.out
set_option maxRecDepth 100000 in
set_option maxHeartbeats 1000000 in
theorem quietM_0 (S : Nat → Nat) (m : Int) (pc c v l : Nat) (hS : Hid (OkS S)) (hp : Hid (pc < 18446744073709551616)) (hc : Hid (c < 18446744073709551616)) (hv : Hid (v < 18446744073709551616)) (hl : Hid (l < 18446744073709551616)) (ht : tkI m = 0) (hd : delB S c = false) (w : World) (hG : Hid (G w)) :
    Calls Tryd.prog 6 #[.agg (cs S), .int .i64 m, .int .u64 pc, .int .u64 c, .int .u64 v, .int .u64 l] w (RetB true w) := by
  obtain ⟨D, hD⟩ : ∃ D, toM S 0 pc c v = D := ⟨_, rfl⟩
  have OD : Hid (OkS D) := by show OkS _; rw [← hD]; exact toM_ok hS.out 0 pc c v (Or.inl rfl) hc.out hv.out
  have D0 : D 0 = eM (S 0) 0 := by rw [← hD]; rfl
  have HE : Hid (∀ u, Calls Tryd.prog 9 #[.agg (cs S), .int .i64 m, .int .u64 pc, .int .u64 c, .int .u64 v] u (RetE D 3 (vecN (S 1) c) u)) := fun u => by
    have := enterM_0 S m pc c v hS hp hc hv ht hd u
    rw [hD] at this; exact this
  have HP : Hid (∀ u, Hid (G u) → Calls Tryd.prog 13 #[.agg (cs D), .int .i64 3, .int .u64 l] u (fun e w' => e = .returned (.tuple #[.int .u64 0, .bool false]) ∧ Below u.heap.size u w')) := fun u hu => by
    have m3 : Hid (∀ x, Calls Tryd.prog 26 #[.int .u64 (D 0 : Nat), .int .i64 3, .int .i64 3] x (RetB false x)) := fun x => by
      have := may_3_3 (D 0) (OD.out.u 0 (by decide)) x
      rw [show mayI (D 0) 3 3 = (D 0).testBit 3 from rfl, D0, eM_off (S 0) 0 (Or.inl rfl)] at this
      rw [D0]; exact this
    have m1 : Hid (∀ x, Calls Tryd.prog 26 #[.int .u64 (D 0 : Nat), .int .i64 3, .int .i64 1] x (RetB false x)) := fun x => may_3_1 (D 0) (OD.out.u 0 (by decide)) x
    refine (pending_false_false D 3 3 l OD hl rfl m3 m1 u hu).mono ?_
    rintro e w' ⟨v9, b9, rfl, hf, hb⟩
    rcases hf with ⟨rfl, rfl, _⟩ | ⟨_, r, _, _, h, _⟩
    · exact ⟨rfl, hb⟩
    · exact absurd rfl h
  clear hD D0 OD hS hp hc hv hl ht hd
  generalize vecN (S 1) c = at0 at HE
  go_enter Tryd.func6, Tryd.ntmps6
  go_wp2_with fail
  refine (awake_c _ (g_alloc hG.out _)).mono ?_; rintro e w1 ⟨rfl, hb⟩
  have HB : Hid (Below w.heap.size w w1) := below_step hb ((Below.refl w.heap.size w).alloc (Nat.le_refl _) _) (by rw [sz_alloc]; omega)
  have RC : Hid (Row w1 w.heap.size 26 (cs S)) := (row_new w (cs S) 26).below hb (by rw [sz_alloc]; exact Nat.lt_succ_self _)
  have HG : Hid (G w1) := g_below (g_alloc hG.out _) hb (by rw [sz_alloc]; omega)
  clear hb hG
  go_wp2_with (refine wpList_load_row rfl 26 _ rfl w.heap.size rfl 26 (cs S) (0, 0) _ RC.out Tryd.underlying26 rfl (infoS _) ?_)
  refine (HE.out _).mono ?_; rintro e w2 ⟨rfl, hb⟩
  replace HB := Lib.hid (below_step hb HB.out HB.out.size)
  replace HG := Lib.hid (g_below HG.out hb (g_lt HG.out))
  clear hb HE RC
  have RD : Hid (Row ((w2.alloc (Obj.cells (cs Z38) 26)).setRow w2.heap.size (cs D)) w2.heap.size 26 (cs D)) := (row_new _ _ _).setRow _
  have hz : ((w2.alloc (Obj.cells (cs Z38) 26)).setRow w2.heap.size (cs D)).heap.size = w2.heap.size + 1 := by rw [sz_setRow, sz_alloc]
  replace HB : Hid (Below w.heap.size w ((w2.alloc (Obj.cells (cs Z38) 26)).setRow w2.heap.size (cs D))) := below_setRow (HB.out.alloc HB.out.size _) HB.out.size _
  replace HG : Hid (G ((w2.alloc (Obj.cells (cs Z38) 26)).setRow w2.heap.size (cs D))) := g_setRow (g_alloc HG.out _) _ (by have := g_lt HG.out; omega) _
  have HZ := Lib.hid hz
  clear hz
  go_wp2_with (first | (refine wpList_store_row rfl 26 _ _ rfl w2.heap.size (cs D) rfl rfl 26 (cs Z38) (row_new _ _ _) (infoS _) rfl (oneS _) ?_) | (refine wpList_load_row rfl 26 _ rfl w2.heap.size rfl 26 (cs D) (0, 0) _ RD.out Tryd.underlying26 rfl (infoS _) ?_))
  refine (HP.out ((w2.alloc (Obj.cells (cs Z38) 26)).setRow w2.heap.size (cs D)) HG).mono ?_; rintro e w3 ⟨rfl, hb⟩
  replace HB := Lib.hid (below_step hb HB.out HB.out.size)
  clear hb HP HG RD HZ
  go_wp2_with fail
  go_ret
  exact retB_mk rfl HB.out
set_option maxRecDepth 100000 in
set_option maxHeartbeats 1000000 in
theorem quietM_1 (S : Nat → Nat) (m : Int) (pc c v l : Nat) (hS : Hid (OkS S)) (hp : Hid (pc < 18446744073709551616)) (hc : Hid (c < 18446744073709551616)) (hv : Hid (v < 18446744073709551616)) (hl : Hid (l < 18446744073709551616)) (ht : tkI m = 1) (hd : delB S c = false) (w : World) (hG : Hid (G w)) :
    Calls Tryd.prog 6 #[.agg (cs S), .int .i64 m, .int .u64 pc, .int .u64 c, .int .u64 v, .int .u64 l] w (RetB true w) := by
  obtain ⟨D, hD⟩ : ∃ D, toM S 1 pc c v = D := ⟨_, rfl⟩
  have OD : Hid (OkS D) := by show OkS _; rw [← hD]; exact toM_ok hS.out 1 pc c v (Or.inr (Or.inl rfl)) hc.out hv.out
  have D0 : D 0 = eM (S 0) 1 := by rw [← hD]; rfl
  have HE : Hid (∀ u, Calls Tryd.prog 9 #[.agg (cs S), .int .i64 m, .int .u64 pc, .int .u64 c, .int .u64 v] u (RetE D 3 (vecN (S 1) c) u)) := fun u => by
    have := enterM_1 S m pc c v hS hp hc hv ht hd u
    rw [hD] at this; exact this
  have HP : Hid (∀ u, Hid (G u) → Calls Tryd.prog 13 #[.agg (cs D), .int .i64 3, .int .u64 l] u (fun e w' => e = .returned (.tuple #[.int .u64 0, .bool false]) ∧ Below u.heap.size u w')) := fun u hu => by
    have m3 : Hid (∀ x, Calls Tryd.prog 26 #[.int .u64 (D 0 : Nat), .int .i64 3, .int .i64 3] x (RetB false x)) := fun x => by
      have := may_3_3 (D 0) (OD.out.u 0 (by decide)) x
      rw [show mayI (D 0) 3 3 = (D 0).testBit 3 from rfl, D0, eM_off (S 0) 1 (Or.inr (Or.inl rfl))] at this
      rw [D0]; exact this
    have m1 : Hid (∀ x, Calls Tryd.prog 26 #[.int .u64 (D 0 : Nat), .int .i64 3, .int .i64 1] x (RetB false x)) := fun x => may_3_1 (D 0) (OD.out.u 0 (by decide)) x
    refine (pending_false_false D 3 3 l OD hl rfl m3 m1 u hu).mono ?_
    rintro e w' ⟨v9, b9, rfl, hf, hb⟩
    rcases hf with ⟨rfl, rfl, _⟩ | ⟨_, r, _, _, h, _⟩
    · exact ⟨rfl, hb⟩
    · exact absurd rfl h
  clear hD D0 OD hS hp hc hv hl ht hd
  generalize vecN (S 1) c = at0 at HE
  go_enter Tryd.func6, Tryd.ntmps6
  go_wp2_with fail
  refine (awake_c _ (g_alloc hG.out _)).mono ?_; rintro e w1 ⟨rfl, hb⟩
  have HB : Hid (Below w.heap.size w w1) := below_step hb ((Below.refl w.heap.size w).alloc (Nat.le_refl _) _) (by rw [sz_alloc]; omega)
  have RC : Hid (Row w1 w.heap.size 26 (cs S)) := (row_new w (cs S) 26).below hb (by rw [sz_alloc]; exact Nat.lt_succ_self _)
  have HG : Hid (G w1) := g_below (g_alloc hG.out _) hb (by rw [sz_alloc]; omega)
  clear hb hG
  go_wp2_with (refine wpList_load_row rfl 26 _ rfl w.heap.size rfl 26 (cs S) (0, 0) _ RC.out Tryd.underlying26 rfl (infoS _) ?_)
  refine (HE.out _).mono ?_; rintro e w2 ⟨rfl, hb⟩
  replace HB := Lib.hid (below_step hb HB.out HB.out.size)
  replace HG := Lib.hid (g_below HG.out hb (g_lt HG.out))
  clear hb HE RC
  have RD : Hid (Row ((w2.alloc (Obj.cells (cs Z38) 26)).setRow w2.heap.size (cs D)) w2.heap.size 26 (cs D)) := (row_new _ _ _).setRow _
  have hz : ((w2.alloc (Obj.cells (cs Z38) 26)).setRow w2.heap.size (cs D)).heap.size = w2.heap.size + 1 := by rw [sz_setRow, sz_alloc]
  replace HB : Hid (Below w.heap.size w ((w2.alloc (Obj.cells (cs Z38) 26)).setRow w2.heap.size (cs D))) := below_setRow (HB.out.alloc HB.out.size _) HB.out.size _
  replace HG : Hid (G ((w2.alloc (Obj.cells (cs Z38) 26)).setRow w2.heap.size (cs D))) := g_setRow (g_alloc HG.out _) _ (by have := g_lt HG.out; omega) _
  have HZ := Lib.hid hz
  clear hz
  go_wp2_with (first | (refine wpList_store_row rfl 26 _ _ rfl w2.heap.size (cs D) rfl rfl 26 (cs Z38) (row_new _ _ _) (infoS _) rfl (oneS _) ?_) | (refine wpList_load_row rfl 26 _ rfl w2.heap.size rfl 26 (cs D) (0, 0) _ RD.out Tryd.underlying26 rfl (infoS _) ?_))
  refine (HP.out ((w2.alloc (Obj.cells (cs Z38) 26)).setRow w2.heap.size (cs D)) HG).mono ?_; rintro e w3 ⟨rfl, hb⟩
  replace HB := Lib.hid (below_step hb HB.out HB.out.size)
  clear hb HP HG RD HZ
  go_wp2_with fail
  go_ret
  exact retB_mk rfl HB.out
set_option maxRecDepth 100000 in
set_option maxHeartbeats 1000000 in
theorem quietM_3 (S : Nat → Nat) (m : Int) (pc c v l : Nat) (hS : Hid (OkS S)) (hp : Hid (pc < 18446744073709551616)) (hc : Hid (c < 18446744073709551616)) (hv : Hid (v < 18446744073709551616)) (hl : Hid (l < 18446744073709551616)) (ht : tkI m = 3) (w : World) (hG : Hid (G w)) :
    Calls Tryd.prog 6 #[.agg (cs S), .int .i64 m, .int .u64 pc, .int .u64 c, .int .u64 v, .int .u64 l] w (RetB true w) := by
  obtain ⟨D, hD⟩ : ∃ D, toM S 3 pc c v = D := ⟨_, rfl⟩
  have OD : Hid (OkS D) := by show OkS _; rw [← hD]; exact toM_ok hS.out 3 pc c v (Or.inr (Or.inr rfl)) hc.out hv.out
  have D0 : D 0 = eM (S 0) 3 := by rw [← hD]; rfl
  have HE : Hid (∀ u, Calls Tryd.prog 9 #[.agg (cs S), .int .i64 m, .int .u64 pc, .int .u64 c, .int .u64 v] u (RetE D 3 (vecN (S 1) c) u)) := fun u => by
    have := enterM_3 S m pc c v hS hp hc hv ht u
    rw [hD] at this; exact this
  have HP : Hid (∀ u, Hid (G u) → Calls Tryd.prog 13 #[.agg (cs D), .int .i64 3, .int .u64 l] u (fun e w' => e = .returned (.tuple #[.int .u64 0, .bool false]) ∧ Below u.heap.size u w')) := fun u hu => by
    have m3 : Hid (∀ x, Calls Tryd.prog 26 #[.int .u64 (D 0 : Nat), .int .i64 3, .int .i64 3] x (RetB false x)) := fun x => by
      have := may_3_3 (D 0) (OD.out.u 0 (by decide)) x
      rw [show mayI (D 0) 3 3 = (D 0).testBit 3 from rfl, D0, eM_off (S 0) 3 (Or.inr (Or.inr rfl))] at this
      rw [D0]; exact this
    have m1 : Hid (∀ x, Calls Tryd.prog 26 #[.int .u64 (D 0 : Nat), .int .i64 3, .int .i64 1] x (RetB false x)) := fun x => may_3_1 (D 0) (OD.out.u 0 (by decide)) x
    refine (pending_false_false D 3 3 l OD hl rfl m3 m1 u hu).mono ?_
    rintro e w' ⟨v9, b9, rfl, hf, hb⟩
    rcases hf with ⟨rfl, rfl, _⟩ | ⟨_, r, _, _, h, _⟩
    · exact ⟨rfl, hb⟩
    · exact absurd rfl h
  clear hD D0 OD hS hp hc hv hl ht
  generalize vecN (S 1) c = at0 at HE
  go_enter Tryd.func6, Tryd.ntmps6
  go_wp2_with fail
  refine (awake_c _ (g_alloc hG.out _)).mono ?_; rintro e w1 ⟨rfl, hb⟩
  have HB : Hid (Below w.heap.size w w1) := below_step hb ((Below.refl w.heap.size w).alloc (Nat.le_refl _) _) (by rw [sz_alloc]; omega)
  have RC : Hid (Row w1 w.heap.size 26 (cs S)) := (row_new w (cs S) 26).below hb (by rw [sz_alloc]; exact Nat.lt_succ_self _)
  have HG : Hid (G w1) := g_below (g_alloc hG.out _) hb (by rw [sz_alloc]; omega)
  clear hb hG
  go_wp2_with (refine wpList_load_row rfl 26 _ rfl w.heap.size rfl 26 (cs S) (0, 0) _ RC.out Tryd.underlying26 rfl (infoS _) ?_)
  refine (HE.out _).mono ?_; rintro e w2 ⟨rfl, hb⟩
  replace HB := Lib.hid (below_step hb HB.out HB.out.size)
  replace HG := Lib.hid (g_below HG.out hb (g_lt HG.out))
  clear hb HE RC
  have RD : Hid (Row ((w2.alloc (Obj.cells (cs Z38) 26)).setRow w2.heap.size (cs D)) w2.heap.size 26 (cs D)) := (row_new _ _ _).setRow _
  have hz : ((w2.alloc (Obj.cells (cs Z38) 26)).setRow w2.heap.size (cs D)).heap.size = w2.heap.size + 1 := by rw [sz_setRow, sz_alloc]
  replace HB : Hid (Below w.heap.size w ((w2.alloc (Obj.cells (cs Z38) 26)).setRow w2.heap.size (cs D))) := below_setRow (HB.out.alloc HB.out.size _) HB.out.size _
  replace HG : Hid (G ((w2.alloc (Obj.cells (cs Z38) 26)).setRow w2.heap.size (cs D))) := g_setRow (g_alloc HG.out _) _ (by have := g_lt HG.out; omega) _
  have HZ := Lib.hid hz
  clear hz
  go_wp2_with (first | (refine wpList_store_row rfl 26 _ _ rfl w2.heap.size (cs D) rfl rfl 26 (cs Z38) (row_new _ _ _) (infoS _) rfl (oneS _) ?_) | (refine wpList_load_row rfl 26 _ rfl w2.heap.size rfl 26 (cs D) (0, 0) _ RD.out Tryd.underlying26 rfl (infoS _) ?_))
  refine (HP.out ((w2.alloc (Obj.cells (cs Z38) 26)).setRow w2.heap.size (cs D)) HG).mono ?_; rintro e w3 ⟨rfl, hb⟩
  replace HB := Lib.hid (below_step hb HB.out HB.out.size)
  clear hb HP HG RD HZ
  go_wp2_with fail
  go_ret
  exact retB_mk rfl HB.out
theorem quiet_core (S : Nat → Nat) (m : Int) (pc c v l : Nat) (hS : Hid (OkS S)) (hp : Hid (pc < 18446744073709551616)) (hc : Hid (c < 18446744073709551616)) (hv : Hid (v < 18446744073709551616)) (hl : Hid (l < 18446744073709551616)) (w : World) (hG : Hid (G w)) :
    Calls Tryd.prog 6 #[.agg (cs S), .int .i64 m, .int .u64 pc, .int .u64 c, .int .u64 v, .int .u64 l] w (RetB true w) := by
  rcases tk_cases m with e | e | e
  · cases hd : delB S c
    · exact quietM_0 S m pc c v l hS hp hc hv hl e hd w hG
    · exact quietS_0 S m pc c v l hS hp hc hv hl e hd w hG
  · cases hd : delB S c
    · exact quietM_1 S m pc c v l hS hp hc hv hl e hd w hG
    · exact quietS_1 S m pc c v l hS hp hc hv hl e hd w hG
  · exact quietM_3 S m pc c v l hS hp hc hv hl e w hG
end Go.Proofs.YteeifdmnagbjeaaDoor
