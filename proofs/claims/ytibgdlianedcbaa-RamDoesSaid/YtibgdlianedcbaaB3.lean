/- get: a row is filled with the memory's bytes, page by page. -/
import Derived.Test.YtibgdlianedcbaaB2
import Derived.Laws.IdiomCopy
namespace Go.Proofs.Ytibgdlianedcbaa
open Go.Maps Go.WideMaps Go.ChangeShapes Go.WideShapes Go.ChangeAt Go.RowKit
set_option linter.unusedVariables false
set_option linter.unusedSimpArgs false
theorem below_cells {B g : Nat} {W : World} (hg : B ≤ g) : ∀ (vs : List Value) (o : Nat) (w : World), Below B W w → Below B W (w.setCells g o vs)
  | [], _, _, h => h
  | v :: vs, o, w, h => by
    refine below_cells hg vs (o + 1) _ ?_
    exact Below.setCell h hg _
theorem size_cells (g : Nat) : ∀ (vs : List Value) (o : Nat) (w : World), (w.setCells g o vs).heap.size = w.heap.size
  | [], _, _ => rfl
  | v :: vs, o, w => (size_cells g vs (o + 1) _).trans (sz_set _ _ _)
/-- A row of bytes in block g from o on: the first k of n are those of F from a on, the others 0; outside of it all is as in W0. -/
def Filled (W0 : World) (g o n a : Nat) (F : Nat → Nat) (k : Nat) (w : World) : Prop :=
  g < w.heap.size ∧ (∀ i, i < n → w.cell? ⟨g, o + i, none⟩ = some (.int .u8 (if i < k then F (a + i) else 0 : Nat)) ∧ w.frozen? ⟨g, o + i, none⟩ = false) ∧
  (∀ i, i < o ∨ o + n ≤ i → w.cell? ⟨g, i, none⟩ = W0.cell? ⟨g, i, none⟩ ∧ w.frozen? ⟨g, i, none⟩ = W0.frozen? ⟨g, i, none⟩)
theorem Filled.kept {W0 w w' : World} {g o n a k B : Nat} {F : Nat → Nat} (h : Filled W0 g o n a F k w) (hb : Below B w w') (hB : g < B) : Filled W0 g o n a F k w' := by
  obtain ⟨h0, h1, h2⟩ := h
  refine ⟨Nat.lt_of_lt_of_le h0 hb.size, fun i hi => ⟨?_, ?_⟩, fun i hi => ⟨?_, ?_⟩⟩
  · rw [hb.cell (p := ⟨g, o + i, none⟩) hB]; exact (h1 i hi).1
  · rw [hb.frozen (p := ⟨g, o + i, none⟩) hB]; exact (h1 i hi).2
  · rw [hb.cell (p := ⟨g, i, none⟩) hB]; exact (h2 i hi).1
  · rw [hb.frozen (p := ⟨g, i, none⟩) hB]; exact (h2 i hi).2
theorem Filled.copy {W0 w : World} {g o n a k t : Nat} {F : Nat → Nat} (h : Filled W0 g o n a F k w) (hk : k + t ≤ n) (cs : List Value) (hcs : cs = (List.range t).map (fun i => (.int .u8 (F (a + k + i) : Nat) : Value))) : Filled W0 g o n a F (k + t) (w.setCells g (o + k) cs) := by
  obtain ⟨h0, h1, h2⟩ := h
  have hl : cs.length = t := by rw [hcs]; simp
  refine ⟨by rw [size_cells]; exact h0, fun i hi => ⟨?_, ?_⟩, fun i hi => ⟨?_, ?_⟩⟩
  · by_cases hin : k ≤ i ∧ i < k + t
    · have := World.cell?_setCells_in g cs (o + k) w (fun j hj => by rw [Nat.add_assoc, (h1 (k + j) (by omega)).1]; rfl) (i - k) (by omega)
      rw [show o + k + (i - k) = o + i by omega] at this
      rw [this, if_pos hin.2]
      subst hcs
      simp
      congr 2
      omega
    · rw [World.cell?_setCells_out g cs (o + k) w ⟨g, o + i, none⟩ (fun _ _ => by show o + i < o + k ∨ o + k + cs.length ≤ o + i; omega), (h1 i hi).1]
      by_cases c : i < k
      · rw [if_pos c, if_pos (by omega)]
      · rw [if_neg c, if_neg (by omega)]
  · rw [World.frozen?_setCells]; exact (h1 i hi).2
  · rw [World.cell?_setCells_out g cs (o + k) w ⟨g, i, none⟩ (fun _ _ => by show i < o + k ∨ o + k + cs.length ≤ i; omega)]; exact (h2 i hi).1
  · rw [World.frozen?_setCells]; exact (h2 i hi).2
theorem Filled.zeros {W0 w : World} {g o n a k t : Nat} {F : Nat → Nat} (h : Filled W0 g o n a F k w) (hz : ∀ i, i < t → F (a + k + i) = 0) : Filled W0 g o n a F (k + t) w := by
  obtain ⟨h0, h1, h2⟩ := h
  refine ⟨h0, fun i hi => ⟨?_, (h1 i hi).2⟩, h2⟩
  rw [(h1 i hi).1]
  by_cases c : i < k
  · rw [if_pos c, if_pos (by omega)]
  · rw [if_neg c]
    by_cases d : i < k + t
    · rw [if_pos d]
      have := hz (i - k) (by omega)
      rw [show a + k + (i - k) = a + i by omega] at this
      rw [this]
    · rw [if_neg d]
theorem find_n (a s f : Nat) (ha : Hid (a < 18446744073709551616)) (hs : a / 4096 * 4096 = s) (hf : a % 4096 = f) (w : World) : Calls Try.prog 32 #[.int .u64 a] w (fun e w' => e = .returned (.tuple #[.agg #[.int .u64 s], .int .i64 f]) ∧ Below w.heap.size w w') := by
  subst hs hf
  exact find_c a ha w
/-- What a copy out of a page lays. -/
theorem copy_page (p f g x t cap : Nat) (G : Nat → Nat) (w : World) (hp : PageIs w p G) (ht : f + t ≤ 4096) (hc : ∀ j, j < t → (w.cell? ⟨g, x + j, none⟩).isSome = true ∧ w.frozen? ⟨g, x + j, none⟩ = false) :
    (Builtin.copy_ #[22, 22] 3 #[.slice (some ⟨g, x, none⟩) t cap, .slice (some ⟨p, f, none⟩) (4096 - f) (4096 - f)]).run Try.prog w = .ok (.int .i64 t) (w.setCells g x ((List.range t).map (fun i => (.int .u8 (G (f + i) : Nat) : Value)))) := by
  have hl : ((List.range t).map (fun i => (.int .u8 (G (f + i) : Nat) : Value))).length = t := by simp
  have := run_copy_cells (P := Try.prog) w 22 22 3 5 g x t cap ⟨p, f, none⟩ (4096 - f) (4096 - f) ((List.range t).map (fun i => (.int .u8 (G (f + i) : Nat) : Value))) Try.underlying22 (by kernel_rfl) (by rw [hl]; show t = min (4096 - f) t; omega)
    (fun j v hj => ?_) (fun j hj => (hc j (by rw [hl] at hj; exact hj)).1) (fun j hj => (hc j (by rw [hl] at hj; exact hj)).2) (fun v hv => ?_)
  · rw [hl] at this; exact this
  · have hjt : j < t := by
      have := List.getElem?_eq_some_iff.1 hj
      obtain ⟨q, -⟩ := this
      rw [hl] at q; exact q
    rw [List.getElem?_map, List.getElem?_range hjt] at hj
    simp at hj
    subst hj
    have q := (hp.2 (f + j) (by omega)).1
    by_cases hj0 : j = 0
    · subst hj0; simpa [Addr.add] using q
    · simpa [Addr.add, hj0] using q
  · simp at hv
    obtain ⟨i, -, rfl⟩ := hv
    rfl
theorem get_round {W w wz : World} {g o n a k t c y : Nat} {F : Nat → Nat} (hy : a + k = y) (hn : a + n < 18446744073709551616) (hT : k + t ≤ n) (ht : 0 < t) (hnc : n ≤ c)
    (hX : Below W.heap.size W wz ∧ w.heap.size ≤ wz.heap.size ∧ Filled w g o n a F (k + t) wz) :
    (∃ k1 x : Nat, k1 ≤ n ∧ Value.int IntKind.u64 (IntKind.u64.wrap ((y : Int) + (t : Int))) = Value.int IntKind.u64 ((a + k1 : Nat) : Int) ∧
      Value.slice (if c - k = t then some ⟨g, o + k, none⟩ else some ⟨g, o + k + t, none⟩) (n - k - t) (c - k - t) = Value.slice (some ⟨g, x, none⟩) (n - k1) (c - k1) ∧ Hid (k1 < n → x = o + k1) ∧
      Hid (Below W.heap.size W wz) ∧ Hid (w.heap.size ≤ wz.heap.size) ∧ Hid (Filled w g o n a F k1 wz)) ∧ n - k - t < n - k := by
  refine ⟨⟨k + t, if c - k = t then o + k else o + k + t, hT, ?_, ?_, ?_, hX.1, hX.2.1, hX.2.2⟩, by omega⟩
  · congr 1
    rw [IntKind.wrap_u64]; omega
  · rw [Nat.sub_sub, Nat.sub_sub]
    split <;> rfl
  · show k + t < n → _
    intro h
    rw [if_neg (by omega)]; omega
set_option maxRecDepth 100000 in
set_option maxHeartbeats 2000000 in
theorem get_c (m g o n c a : Nat) (F : Nat → Nat) (W w : World) (hM : Hid (Mem W m F)) (hb : Hid (Below W.heap.size W w)) (hg : Hid (W.heap.size ≤ g)) (hn : Hid (a + n < 18446744073709551616)) (hnc : Hid (n ≤ c ∧ n < 4611686018427387904)) (hr : Hid (Filled w g o n a F 0 w)) :
    Calls Try.prog 27 #[.pointer (some ⟨m, 0, none⟩), .int .u64 a, .slice (some ⟨g, o, none⟩) n c] w (fun e w' => e = .returned (.tuple #[]) ∧ Below W.heap.size W w' ∧ w.heap.size ≤ w'.heap.size ∧ Filled w g o n a F n w') := by
  go_enter Try.func27, Try.ntmps27
  go_wp2_with fail
  go_loopw [1, 2] (fun v1 v2 wr => ∃ k x : Nat, k ≤ n ∧ v1 = .int .u64 ((a + k : Nat) : Int) ∧ v2 = .slice (some ⟨g, x, none⟩) (n - k) (c - k) ∧ Hid (k < n → x = o + k) ∧ Hid (Below W.heap.size W wr) ∧ Hid (w.heap.size ≤ wr.heap.size) ∧ Hid (Filled w g o n a F k wr)) (fun _ v2 _ => match v2 with | .slice _ l _ => l | _ => 0)
  case atStart =>
    exact ⟨0, o, by omega, rfl, rfl, fun _ => rfl, hb, Nat.le_refl _, hr⟩
  case round =>
    obtain ⟨k, x, hk, rfl, rfl, hx, hbw, hsz, hF⟩ := hrel
    by_cases hlt : k < n
    · obtain rfl : x = o + k := hx.out hlt
      have hlt' : (0 : Int) < ((n - k : Nat) : Int) := by omega
      obtain ⟨f, hf⟩ : ∃ f, (a + k) % 4096 = f := ⟨_, rfl⟩
      obtain ⟨s, hs⟩ : ∃ s, (a + k) / 4096 * 4096 = s := ⟨_, rfl⟩
      have hak : Hid (a + k = s + f) := by show _ = _; omega
      have hs1 : Hid (s % 4096 = 0 ∧ s < 18446744073709551616 ∧ f < 4096 ∧ a + k < 18446744073709551616) := ⟨by omega, by have := hn.out; omega, by omega, by have := hn.out; omega⟩
      obtain ⟨y, hy⟩ : ∃ y, a + k = y := ⟨_, rfl⟩
      have hyx : Hid (a + k = y) := hy
      rw [hy] at hf hs
      go_wp2_with fail
      refine (find_n y s f (Lib.hid (by have h := hs1.out.2.2.2; have := hyx.out; omega)) hs hf _).mono ?_; rintro e w1 ⟨rfl, hb1⟩
      have hb1' : Hid (Below W.heap.size W w1) := Lib.hid (hbw.out.trans (hb1.mono hbw.out.size))
      have HB1 := Lib.hid hb1
      have hF1 : Hid (Filled w g o n a F k w1) := hF.out.kept hb1 hF.out.1
      clear hs hf hb1 hy
      obtain ⟨b, hcb, hlook⟩ := (hM.out.kept (hb1'.out.alloc hb1'.out.size (Obj.cells #[.int .u64 s] 58))).look
      have hmb : ¬ m = w1.heap.size := by have h1 := hM.out.1; have h2 := hb1'.out.size; omega
      have hmb' : ¬ w1.heap.size = m := by omega
      rcases hlook s hs1.out.2.1 hs1.out.1 with ⟨p, hl, hp⟩ | ⟨hl, hz⟩
      · have HP := Lib.hid hp
        clear hlook hp
        by_cases hmn : (4096 - (f : Int)) ≤ ((n - k : Nat) : Int)
        · obtain ⟨t, ht⟩ : ∃ t : Nat, (4096 - (f : Int)) = (t : Int) := ⟨4096 - f, by have := hs1.out.2.2.1; omega⟩
          have HT : Hid (f + t ≤ 4096 ∧ k + t ≤ n) := ⟨by omega, by omega⟩
          have HT0 : Hid (0 < t) := by have := hs1.out.2.2.1; show 0 < t; omega
          go_wp2_with fail
          go_quiet (fail)
          go_wp2_with fail
          have hwx : Below W.heap.size W ((w1.alloc (Obj.cells #[.int .u64 s] 58)).drewN (nq + 1)) := below_drewN (hb1'.out.alloc hb1'.out.size _) _
          have hfx : Filled w g o n a F k ((w1.alloc (Obj.cells #[.int .u64 s] 58)).drewN (nq + 1)) := hF1.out.kept (below_drewN (Below.alloc (Below.refl w1.heap.size w1) (Nat.le_refl _) _) _) hF1.out.1
          have hpx : PageIs ((w1.alloc (Obj.cells #[.int .u64 s] 58)).drewN (nq + 1)) p (fun i => F (s + i)) := HP.out.kept (grown_below (below_drewN (Below.refl _ _) _)) (by simp)
          have hcp := copy_page p f g (o + k) t (c - k) (fun i => F (s + i)) _ hpx HT.out.1 (fun j hj => by
            have h1 := hfx.2.1 (k + j) (by have := HT.out.2; omega)
            rw [Nat.add_assoc]
            exact ⟨by rw [h1.1]; rfl, h1.2⟩)
          have HX : Hid (Below W.heap.size W (((w1.alloc (Obj.cells #[.int .u64 s] 58)).drewN (nq + 1)).setCells g (o + k) ((List.range t).map (fun i => (.int .u8 (F (s + (f + i)) : Nat) : Value)))) ∧ w.heap.size ≤ (((w1.alloc (Obj.cells #[.int .u64 s] 58)).drewN (nq + 1)).setCells g (o + k) ((List.range t).map (fun i => (.int .u8 (F (s + (f + i)) : Nat) : Value)))).heap.size ∧ Filled w g o n a F (k + t) (((w1.alloc (Obj.cells #[.int .u64 s] 58)).drewN (nq + 1)).setCells g (o + k) ((List.range t).map (fun i => (.int .u8 (F (s + (f + i)) : Nat) : Value))))) :=
            ⟨below_cells hg.out _ _ _ hwx, by rw [size_cells, sz_drewN, sz_alloc]; have := hsz.out; have := HB1.out.size; omega, hfx.copy HT.out.2 _ (by congr 1; funext i; rw [hak.out]; congr 3; omega)⟩
          clear hwx hfx hpx
          have t1 : (t : Int) ≤ ((c - k : Nat) : Int) := by have := hnc.out; have := HT.out.2; omega
          have f1 : (f : Int) ≤ 4096 := by have := hs1.out.2.2.1; omega
          have nf : ¬ (4096 = f) := by have := hs1.out.2.2.1; omega
          go_region
          go_wp2_with fail
          exact get_round hyx.out hn.out HT.out.2 HT0.out hnc.out.1 HX.out
        · obtain ⟨t, ht⟩ : ∃ t : Nat, ((n - k : Nat) : Int) = (t : Int) := ⟨n - k, rfl⟩
          have HT : Hid (f + t ≤ 4096 ∧ k + t ≤ n) := ⟨by omega, by omega⟩
          have HT0 : Hid (0 < t) := by show 0 < t; omega
          go_wp2_with fail
          go_quiet (fail)
          go_wp2_with fail
          have hwx : Below W.heap.size W ((w1.alloc (Obj.cells #[.int .u64 s] 58)).drewN (nq + 1)) := below_drewN (hb1'.out.alloc hb1'.out.size _) _
          have hfx : Filled w g o n a F k ((w1.alloc (Obj.cells #[.int .u64 s] 58)).drewN (nq + 1)) := hF1.out.kept (below_drewN (Below.alloc (Below.refl w1.heap.size w1) (Nat.le_refl _) _) _) hF1.out.1
          have hpx : PageIs ((w1.alloc (Obj.cells #[.int .u64 s] 58)).drewN (nq + 1)) p (fun i => F (s + i)) := HP.out.kept (grown_below (below_drewN (Below.refl _ _) _)) (by simp)
          have hcp := copy_page p f g (o + k) t (c - k) (fun i => F (s + i)) _ hpx HT.out.1 (fun j hj => by
            have h1 := hfx.2.1 (k + j) (by have := HT.out.2; omega)
            rw [Nat.add_assoc]
            exact ⟨by rw [h1.1]; rfl, h1.2⟩)
          have HX : Hid (Below W.heap.size W (((w1.alloc (Obj.cells #[.int .u64 s] 58)).drewN (nq + 1)).setCells g (o + k) ((List.range t).map (fun i => (.int .u8 (F (s + (f + i)) : Nat) : Value)))) ∧ w.heap.size ≤ (((w1.alloc (Obj.cells #[.int .u64 s] 58)).drewN (nq + 1)).setCells g (o + k) ((List.range t).map (fun i => (.int .u8 (F (s + (f + i)) : Nat) : Value)))).heap.size ∧ Filled w g o n a F (k + t) (((w1.alloc (Obj.cells #[.int .u64 s] 58)).drewN (nq + 1)).setCells g (o + k) ((List.range t).map (fun i => (.int .u8 (F (s + (f + i)) : Nat) : Value))))) :=
            ⟨below_cells hg.out _ _ _ hwx, by rw [size_cells, sz_drewN, sz_alloc]; have := hsz.out; have := HB1.out.size; omega, hfx.copy HT.out.2 _ (by congr 1; funext i; rw [hak.out]; congr 3; omega)⟩
          clear hwx hfx hpx
          have t1 : (t : Int) ≤ ((c - k : Nat) : Int) := by have := hnc.out; have := HT.out.2; omega
          have f1 : (f : Int) ≤ 4096 := by have := hs1.out.2.2.1; omega
          have nf : ¬ (4096 = f) := by have := hs1.out.2.2.1; omega
          go_region
          go_wp2_with fail
          exact get_round hyx.out hn.out HT.out.2 HT0.out hnc.out.1 HX.out
      · have HZ := Lib.hid hz
        clear hlook hz
        by_cases hmn : (4096 - (f : Int)) ≤ ((n - k : Nat) : Int)
        · obtain ⟨t, ht⟩ : ∃ t : Nat, (4096 - (f : Int)) = (t : Int) := ⟨4096 - f, by have := hs1.out.2.2.1; omega⟩
          have HT : Hid (f + t ≤ 4096 ∧ k + t ≤ n) := ⟨by omega, by omega⟩
          have HT0 : Hid (0 < t) := by have := hs1.out.2.2.1; show 0 < t; omega
          go_wp2_with fail
          go_quiet (fail)
          go_wp2_with fail
          have HX : Below W.heap.size W ((w1.alloc (Obj.cells #[.int .u64 s] 58)).drewN nq) ∧ w.heap.size ≤ ((w1.alloc (Obj.cells #[.int .u64 s] 58)).drewN nq).heap.size ∧ Filled w g o n a F (k + t) ((w1.alloc (Obj.cells #[.int .u64 s] 58)).drewN nq) :=
            ⟨below_drewN (hb1'.out.alloc hb1'.out.size _) _, by rw [sz_drewN, sz_alloc]; have := hsz.out; have := HB1.out.size; omega, (hF1.out.kept (below_drewN (Below.alloc (Below.refl w1.heap.size w1) (Nat.le_refl _) _) _) hF1.out.1).zeros (fun i hi => by
              have := HZ.out (f + i) (by have := HT.out.1; omega)
              rwa [show s + (f + i) = a + k + i by have := hak.out; omega] at this)⟩
          exact get_round hyx.out hn.out HT.out.2 HT0.out hnc.out.1 HX
        · obtain ⟨t, ht⟩ : ∃ t : Nat, ((n - k : Nat) : Int) = (t : Int) := ⟨n - k, rfl⟩
          have HT : Hid (f + t ≤ 4096 ∧ k + t ≤ n) := ⟨by omega, by omega⟩
          have HT0 : Hid (0 < t) := by show 0 < t; omega
          go_wp2_with fail
          go_quiet (fail)
          go_wp2_with fail
          have HX : Below W.heap.size W ((w1.alloc (Obj.cells #[.int .u64 s] 58)).drewN nq) ∧ w.heap.size ≤ ((w1.alloc (Obj.cells #[.int .u64 s] 58)).drewN nq).heap.size ∧ Filled w g o n a F (k + t) ((w1.alloc (Obj.cells #[.int .u64 s] 58)).drewN nq) :=
            ⟨below_drewN (hb1'.out.alloc hb1'.out.size _) _, by rw [sz_drewN, sz_alloc]; have := hsz.out; have := HB1.out.size; omega, (hF1.out.kept (below_drewN (Below.alloc (Below.refl w1.heap.size w1) (Nat.le_refl _) _) _) hF1.out.1).zeros (fun i hi => by
              have := HZ.out (f + i) (by have := HT.out.1; omega)
              rwa [show s + (f + i) = a + k + i by have := hak.out; omega] at this)⟩
          exact get_round hyx.out hn.out HT.out.2 HT0.out hnc.out.1 HX
    · obtain rfl : k = n := by omega
      have hlt' : ¬ ((0 : Int) < ((k - k : Nat) : Int)) := by omega
      go_wp2_with fail
      go_end0
      exact ⟨rfl, hbw.out, hsz.out, hF.out⟩
end Go.Proofs.Ytibgdlianedcbaa
