/- The document's uart in memory. -/
import Derived.Test.YtjjmohhkhadadaaB3
namespace Go.Proofs.Ytjjmohhkhadadaa
open Go.ChangeShapes Go.WideShapes Go.ChangeAt Go.RowKit
set_option linter.unusedVariables false
set_option linter.unusedSimpArgs false
/-- The document's uart in a block: all that came (K), how many of it were read; whatever it holds lies in R. -/
structure Af (R : Nat → Nat → Prop) (N : Nat) (w : World) (b : Nat) (U : Ur) (K : List Nat) (r : Nat) (sa : Option Addr) (n c g o : Nat) (ta : Option Addr) (m d h p : Nat) : Prop where
  lt : b < w.heap.size
  c0 : w.cell? ⟨b, 0, none⟩ = some (.slice sa n c)
  c1 : w.cell? ⟨b, 1, none⟩ = some (.slice ta m d)
  c2 : w.cell? ⟨b, 2, none⟩ = some (.int .i64 (r : Nat))
  c3 : w.cell? ⟨b, 3, none⟩ = some (.int .u64 (U.want : Nat))
  c4 : w.cell? ⟨b, 4, none⟩ = some (.int .u64 (b2n U.lost : Nat))
  c5 : w.cell? ⟨b, 5, none⟩ = some (.int .u64 (U.scr : Nat))
  fz : ∀ j, j < 6 → w.frozen? ⟨b, j, none⟩ = false
  q : SlA w sa n c g o K
  s : SlA w ta m d h p U.sent
  ok : OkU U
  left : K.drop r = U.q
  rle : r ≤ n
  nle : n ≤ N
  k8 : ∀ x ∈ K, x < 256
  rb : ∀ j, R b j
  rq : ∀ i, i < c → R g (o + i)
  rs : ∀ i, i < d → R h (p + i)
  rlt : ∀ k j, R k j → k < w.heap.size
  qb : 0 < c → g ≠ b
  sb : 0 < d → h ≠ b
  qs : 0 < c → 0 < d → g ≠ h
def IsR (R : Nat → Nat → Prop) (N : Nat) (w : World) (b : Nat) (U : Ur) : Prop := ∃ K r sa n c g o ta m d h p, Af R N w b U K r sa n c g o ta m d h p
section
variable {R T R2 : Nat → Nat → Prop} {N : Nat} {w w' : World} {b : Nat} {U : Ur} {K : List Nat} {r : Nat} {sa : Option Addr} {n c g o : Nat} {ta : Option Addr} {m d h p : Nat}
theorem Af.cells (x : Af R N w b U K r sa n c g o ta m d h p) : ∀ j, j < 6 → (w.cell? ⟨b, j, none⟩).isSome = true := fun j hj => by
  have : j = 0 ∨ j = 1 ∨ j = 2 ∨ j = 3 ∨ j = 4 ∨ j = 5 := by omega
  rcases this with rfl | rfl | rfl | rfl | rfl | rfl
  · rw [x.c0]; rfl
  · rw [x.c1]; rfl
  · rw [x.c2]; rfl
  · rw [x.c3]; rfl
  · rw [x.c4]; rfl
  · rw [x.c5]; rfl
theorem Af.qlen (x : Af R N w b U K r sa n c g o ta m d h p) : U.q.length = n - r := by rw [← x.left, List.length_drop, x.q.len]
theorem Af.kept (x : Af R N w b U K r sa n c g o ta m d h p) (hc : Ch T w w') (hn : ∀ k j, T k j → ¬ R k j) : Af R N w' b U K r sa n c g o ta m d h p :=
  have nb : ∀ j, ¬ T b j := fun j ht => hn _ _ ht (x.rb j)
  ⟨Nat.lt_of_lt_of_le x.lt hc.size, (hc.cell b 0 x.lt (nb 0)).trans x.c0, (hc.cell b 1 x.lt (nb 1)).trans x.c1, (hc.cell b 2 x.lt (nb 2)).trans x.c2, (hc.cell b 3 x.lt (nb 3)).trans x.c3, (hc.cell b 4 x.lt (nb 4)).trans x.c4, (hc.cell b 5 x.lt (nb 5)).trans x.c5,
    fun j hj => (hc.frozen b j x.lt).trans (x.fz j hj), x.q.kept hc (fun i hi ht => hn _ _ ht (x.rq i (Nat.lt_of_lt_of_le hi x.q.le))), x.s.kept hc (fun i hi ht => hn _ _ ht (x.rs i (Nat.lt_of_lt_of_le hi x.s.le))), x.ok, x.left, x.rle, x.nle, x.k8, x.rb, x.rq, x.rs,
    fun k j hk => Nat.lt_of_lt_of_le (x.rlt k j hk) hc.size, x.qb, x.sb, x.qs⟩
theorem Af.below (x : Af R N w b U K r sa n c g o ta m d h p) (hb : Below w.heap.size w w') : Af R N w' b U K r sa n c g o ta m d h p := x.kept (Ch.of_below (fun _ _ => False) hb) (fun _ _ h => h.elim)
theorem Af.mono (x : Af R N w b U K r sa n c g o ta m d h p) {N2 : Nat} (hN : N ≤ N2) (hR : ∀ k j, R k j → R2 k j) (hlt : ∀ k j, R2 k j → k < w.heap.size) : Af R2 N2 w b U K r sa n c g o ta m d h p :=
  { x with nle := Nat.le_trans x.nle hN, rb := fun j => hR _ _ (x.rb j), rq := fun i hi => hR _ _ (x.rq i hi), rs := fun i hi => hR _ _ (x.rs i hi), rlt := hlt }
theorem Af.up (x : Af R N w' b U K r sa n c g o ta m d h p) (w : World) : IsR (Up R w w') N w' b U :=
  ⟨_, _, _, _, _, _, _, _, _, _, _, _, x.mono (Nat.le_refl _) (fun _ _ => .inl) (fun k j hk => hk.elim (x.rlt k j) (·.2))⟩
theorem Af.slices (x : Af R N w b U K r sa n c g o ta m d h p) (j : Nat) (v : Value) (hj : j < 6) : SlA (w.setCell ⟨b, j, none⟩ v) sa n c g o K ∧ SlA (w.setCell ⟨b, j, none⟩ v) ta m d h p U.sent := by
  have hc : Ch (fun k _ => k = b) w (w.setCell ⟨b, j, none⟩ v) := Ch.set _ _ _ _ _ rfl (x.cells j hj)
  exact ⟨x.q.kept hc (fun i hi e => x.qb (by have := x.q.le; omega) e), x.s.kept hc (fun i hi e => x.sb (by have := x.s.le; omega) e)⟩
theorem Af.lost (x : Af R N w b U K r sa n c g o ta m d h p) (v : Bool) : Af R N (w.setCell ⟨b, 4, none⟩ (.int .u64 (b2n v : Nat))) b { U with lost := v } K r sa n c g o ta m d h p :=
  { x with
    lt := by rw [sz_set]; exact x.lt
    c0 := (cell_ne _ _ _ _ _ (by decide)).trans x.c0
    c1 := (cell_ne _ _ _ _ _ (by decide)).trans x.c1
    c2 := (cell_ne _ _ _ _ _ (by decide)).trans x.c2
    c3 := (cell_ne _ _ _ _ _ (by decide)).trans x.c3
    c4 := cell_eq _ _ _ _ (x.cells 4 (by decide))
    c5 := (cell_ne _ _ _ _ _ (by decide)).trans x.c5
    fz := fun j hj => by rw [World.frozen?_setCell]; exact x.fz j hj
    q := (x.slices 4 _ (by decide)).1
    s := (x.slices 4 _ (by decide)).2
    ok := ⟨x.ok.q, x.ok.len, x.ok.want, x.ok.scr⟩
    rlt := fun k j hk => by rw [sz_set]; exact x.rlt k j hk }
theorem Af.want (x : Af R N w b U K r sa n c g o ta m d h p) (v : Nat) (hv : v < 2) : Af R N (w.setCell ⟨b, 3, none⟩ (.int .u64 (v : Nat))) b { U with want := v } K r sa n c g o ta m d h p :=
  { x with
    lt := by rw [sz_set]; exact x.lt
    c0 := (cell_ne _ _ _ _ _ (by decide)).trans x.c0
    c1 := (cell_ne _ _ _ _ _ (by decide)).trans x.c1
    c2 := (cell_ne _ _ _ _ _ (by decide)).trans x.c2
    c3 := cell_eq _ _ _ _ (x.cells 3 (by decide))
    c4 := (cell_ne _ _ _ _ _ (by decide)).trans x.c4
    c5 := (cell_ne _ _ _ _ _ (by decide)).trans x.c5
    fz := fun j hj => by rw [World.frozen?_setCell]; exact x.fz j hj
    q := (x.slices 3 _ (by decide)).1
    s := (x.slices 3 _ (by decide)).2
    ok := ⟨x.ok.q, x.ok.len, hv, x.ok.scr⟩
    rlt := fun k j hk => by rw [sz_set]; exact x.rlt k j hk }
theorem Af.scr (x : Af R N w b U K r sa n c g o ta m d h p) (v : Nat) (hv : v < 256) : Af R N (w.setCell ⟨b, 5, none⟩ (.int .u64 (v : Nat))) b { U with scr := v } K r sa n c g o ta m d h p :=
  { x with
    lt := by rw [sz_set]; exact x.lt
    c0 := (cell_ne _ _ _ _ _ (by decide)).trans x.c0
    c1 := (cell_ne _ _ _ _ _ (by decide)).trans x.c1
    c2 := (cell_ne _ _ _ _ _ (by decide)).trans x.c2
    c3 := (cell_ne _ _ _ _ _ (by decide)).trans x.c3
    c4 := (cell_ne _ _ _ _ _ (by decide)).trans x.c4
    c5 := cell_eq _ _ _ _ (x.cells 5 (by decide))
    fz := fun j hj => by rw [World.frozen?_setCell]; exact x.fz j hj
    q := (x.slices 5 _ (by decide)).1
    s := (x.slices 5 _ (by decide)).2
    ok := ⟨x.ok.q, x.ok.len, x.ok.want, hv⟩
    rlt := fun k j hk => by rw [sz_set]; exact x.rlt k j hk }
theorem drop_tail (K : List Nat) (r : Nat) : K.drop (r + 1) = (K.drop r).tail := by rw [List.tail_drop]
/-- One byte more was read. -/
theorem Af.cut (x : Af R N w b U K r sa n c g o ta m d h p) (hr : r < n) : Af R N (w.setCell ⟨b, 2, none⟩ (.int .i64 ((r + 1 : Nat) : Nat))) b { U with q := U.q.tail } K (r + 1) sa n c g o ta m d h p :=
  { x with
    lt := by rw [sz_set]; exact x.lt
    c0 := (cell_ne _ _ _ _ _ (by decide)).trans x.c0
    c1 := (cell_ne _ _ _ _ _ (by decide)).trans x.c1
    c2 := cell_eq _ _ _ _ (x.cells 2 (by decide))
    c3 := (cell_ne _ _ _ _ _ (by decide)).trans x.c3
    c4 := (cell_ne _ _ _ _ _ (by decide)).trans x.c4
    c5 := (cell_ne _ _ _ _ _ (by decide)).trans x.c5
    fz := fun j hj => by rw [World.frozen?_setCell]; exact x.fz j hj
    q := (x.slices 2 _ (by decide)).1
    s := (x.slices 2 _ (by decide)).2
    ok := x.ok.tail
    left := by rw [drop_tail, x.left]
    rle := hr
    rlt := fun k j hk => by rw [sz_set]; exact x.rlt k j hk }
theorem Af.after0 (x : Af R N w b U K r sa n c g o ta m d h p) {w2 : World} (hc : Ch (Spare g o n c) w w2) : w2.cell? ⟨b, 0, none⟩ = some (.slice sa n c) ∧ w2.frozen? ⟨b, 0, none⟩ = false :=
  ⟨(hc.cell b 0 x.lt (fun ⟨e, i, _, hi, _⟩ => x.qb (by omega) e.symm)).trans x.c0, (hc.frozen b 0 x.lt).trans (x.fz 0 (by decide))⟩
theorem Af.after1 (x : Af R N w b U K r sa n c g o ta m d h p) {w2 : World} (hc : Ch (Spare h p m d) w w2) : w2.cell? ⟨b, 1, none⟩ = some (.slice ta m d) ∧ w2.frozen? ⟨b, 1, none⟩ = false :=
  ⟨(hc.cell b 1 x.lt (fun ⟨e, i, _, hi, _⟩ => x.sb (by omega) e.symm)).trans x.c1, (hc.frozen b 1 x.lt).trans (x.fz 1 (by decide))⟩
theorem Af.spare0 (x : Af R N w b U K r sa n c g o ta m d h p) : ∀ i j, Spare g o n c i j → R i j := fun i j ⟨e, k, h1, h2, e2⟩ => by subst e e2; exact x.rq k h2
theorem Af.spare1 (x : Af R N w b U K r sa n c g o ta m d h p) : ∀ i j, Spare h p m d i j → R i j := fun i j ⟨e, k, h1, h2, e2⟩ => by subst e e2; exact x.rs k h2
/-- A byte has come. -/
theorem Af.came (x : Af R N w b U K r sa n c g o ta m d h p) {w2 : World} {a' : Option Addr} {c' g' o' y : Nat} (hc : Ch (Spare g o n c) w w2) (hs : SlA w2 a' (n + 1) c' g' o' (K ++ [y])) (hm : Mv w g o c g' o' c') (hy : y < 256) (hok : OkU { U with q := U.q ++ [y] }) :
    IsR (Up R w (w2.setCell ⟨b, 0, none⟩ (.slice a' (n + 1) c'))) (N + 1) (w2.setCell ⟨b, 0, none⟩ (.slice a' (n + 1) c')) b { U with q := U.q ++ [y] } ∧ Ch R w (w2.setCell ⟨b, 0, none⟩ (.slice a' (n + 1) c')) := by
  have nb : ∀ j, ¬ Spare g o n c b j := fun j ⟨e, i, _, hi, _⟩ => x.qb (by omega) e.symm
  have hs0 : SlA w2 ta m d h p U.sent := x.s.kept hc (fun i hi ⟨e, j, _, hj, _⟩ => x.qs (by omega) (by have := x.s.le; omega) e.symm)
  have hlt : b < w2.heap.size := Nat.lt_of_lt_of_le x.lt hc.size
  have is0 : (w2.cell? ⟨b, 0, none⟩).isSome = true := hc.there b 0 x.lt (x.cells 0 (by decide))
  have hset : Ch (fun k _ => k = b) w2 (w2.setCell ⟨b, 0, none⟩ (.slice a' (n + 1) c')) := Ch.set _ _ _ _ _ rfl is0
  have ng : 0 < c' → g' ≠ b := fun h0 => by
    rcases hm with ⟨rfl, -, rfl⟩ | hm
    · exact x.qb h0
    · have := x.lt; omega
  refine ⟨⟨K ++ [y], r, a', n + 1, c', g', o', ta, m, d, h, p, ?_⟩, (hc.mono x.spare0).trans (Ch.set R w2 b 0 _ (x.rb 0) is0) (fun _ _ h => .inl h)⟩
  refine ⟨by rw [sz_set]; exact hlt, cell_eq _ _ _ _ is0, (cell_ne _ _ _ _ _ (by decide)).trans ((hc.cell b 1 x.lt (nb 1)).trans x.c1), (cell_ne _ _ _ _ _ (by decide)).trans ((hc.cell b 2 x.lt (nb 2)).trans x.c2), (cell_ne _ _ _ _ _ (by decide)).trans ((hc.cell b 3 x.lt (nb 3)).trans x.c3), (cell_ne _ _ _ _ _ (by decide)).trans ((hc.cell b 4 x.lt (nb 4)).trans x.c4), (cell_ne _ _ _ _ _ (by decide)).trans ((hc.cell b 5 x.lt (nb 5)).trans x.c5),
    fun j hj => by rw [World.frozen?_setCell]; exact (hc.frozen b j x.lt).trans (x.fz j hj), hs.kept hset (fun i hi e => ng (by have := hs.le; omega) e), hs0.kept hset (fun i hi e => x.sb (by have := x.s.le; omega) e), hok, ?_, by have := x.rle; omega, by have := x.nle; omega, fun z hz => ?_, fun j => .inl (x.rb j), fun i hi => ?_, fun i hi => .inl (x.rs i hi), fun k j hk => ?_, ng, x.sb, fun h1 h2 => ?_⟩
  · rw [List.drop_append_of_le_length (by rw [x.q.len]; exact x.rle), x.left]
  · rcases List.mem_append.1 hz with hz | hz
    · exact x.k8 z hz
    · rw [List.mem_singleton.1 hz]; exact hy
  · rw [up_set]
    rcases hm with ⟨rfl, rfl, rfl⟩ | hm
    · exact .inl (x.rq i hi)
    · exact .inr ⟨hm, (hs.addr (by omega)).2⟩
  · rw [up_set] at hk
    rw [sz_set]
    rcases hk with hk | hk
    · exact Nat.lt_of_lt_of_le (x.rlt k j hk) hc.size
    · exact hk.2
  · rcases hm with ⟨rfl, -, rfl⟩ | hm
    · exact x.qs h1 h2
    · have := (x.s.addr h2).2; omega
/-- A byte has gone out. -/
theorem Af.went (x : Af R N w b U K r sa n c g o ta m d h p) {w2 : World} {a' : Option Addr} {n' c' g' o' : Nat} {L' : List Nat} (hc : Ch (Spare h p m d) w w2) (hs : SlA w2 a' n' c' g' o' L') (hm : Mv w h p d g' o' c') :
    IsR (Up R w (w2.setCell ⟨b, 1, none⟩ (.slice a' n' c'))) N (w2.setCell ⟨b, 1, none⟩ (.slice a' n' c')) b { U with sent := L' } ∧ Ch R w (w2.setCell ⟨b, 1, none⟩ (.slice a' n' c')) := by
  have nb : ∀ j, ¬ Spare h p m d b j := fun j ⟨e, i, _, hi, _⟩ => x.sb (by omega) e.symm
  have hs0 : SlA w2 sa n c g o K := x.q.kept hc (fun i hi ⟨e, j, _, hj, _⟩ => x.qs (by have := x.q.le; omega) (by omega) e)
  have hlt : b < w2.heap.size := Nat.lt_of_lt_of_le x.lt hc.size
  have is0 : (w2.cell? ⟨b, 1, none⟩).isSome = true := hc.there b 1 x.lt (x.cells 1 (by decide))
  have hset : Ch (fun k _ => k = b) w2 (w2.setCell ⟨b, 1, none⟩ (.slice a' n' c')) := Ch.set _ _ _ _ _ rfl is0
  have ng : 0 < c' → g' ≠ b := fun h0 => by
    rcases hm with ⟨rfl, -, rfl⟩ | hm
    · exact x.sb h0
    · have := x.lt; omega
  refine ⟨⟨K, r, sa, n, c, g, o, a', n', c', g', o', ?_⟩, (hc.mono x.spare1).trans (Ch.set R w2 b 1 _ (x.rb 1) is0) (fun _ _ h => .inl h)⟩
  refine ⟨by rw [sz_set]; exact hlt, (cell_ne _ _ _ _ _ (by decide)).trans ((hc.cell b 0 x.lt (nb 0)).trans x.c0), cell_eq _ _ _ _ is0, (cell_ne _ _ _ _ _ (by decide)).trans ((hc.cell b 2 x.lt (nb 2)).trans x.c2), (cell_ne _ _ _ _ _ (by decide)).trans ((hc.cell b 3 x.lt (nb 3)).trans x.c3), (cell_ne _ _ _ _ _ (by decide)).trans ((hc.cell b 4 x.lt (nb 4)).trans x.c4), (cell_ne _ _ _ _ _ (by decide)).trans ((hc.cell b 5 x.lt (nb 5)).trans x.c5),
    fun j hj => by rw [World.frozen?_setCell]; exact (hc.frozen b j x.lt).trans (x.fz j hj), hs0.kept hset (fun i hi e => x.qb (by have := x.q.le; omega) e), hs.kept hset (fun i hi e => ng (by have := hs.le; omega) e), ⟨x.ok.q, x.ok.len, x.ok.want, x.ok.scr⟩, x.left, x.rle, x.nle, x.k8, fun j => .inl (x.rb j), fun i hi => .inl (x.rq i hi), fun i hi => ?_, fun k j hk => ?_, x.qb, ng, fun h1 h2 => ?_⟩
  · rw [up_set]
    rcases hm with ⟨rfl, rfl, rfl⟩ | hm
    · exact .inl (x.rs i hi)
    · exact .inr ⟨hm, (hs.addr (by omega)).2⟩
  · rw [up_set] at hk
    rw [sz_set]
    rcases hk with hk | hk
    · exact Nat.lt_of_lt_of_le (x.rlt k j hk) hc.size
    · exact hk.2
  · rcases hm with ⟨rfl, -, rfl⟩ | hm
    · exact x.qs h1 h2
    · have := (x.q.addr h1).2; omega
theorem IsR.kept (x : IsR R N w b U) (hc : Ch T w w') (hn : ∀ k j, T k j → ¬ R k j) : IsR R N w' b U := by
  obtain ⟨K, r, sa, n, c, g, o, ta, m, d, h, p, x⟩ := x
  exact ⟨K, r, sa, n, c, g, o, ta, m, d, h, p, x.kept hc hn⟩
theorem IsR.below (x : IsR R N w b U) (hb : Below w.heap.size w w') : IsR R N w' b U := x.kept (Ch.of_below (fun _ _ => False) hb) (fun _ _ h => h.elim)
theorem Af.six (x : Af R N w b U K r sa n c g o ta m d h p) (hb : Below w.heap.size w w') : w'.cell? ⟨b, 0, none⟩ = some (.slice sa n c) ∧ w'.cell? ⟨b, 1, none⟩ = some (.slice ta m d) ∧ w'.cell? ⟨b, 2, none⟩ = some (.int .i64 (r : Nat)) ∧ w'.cell? ⟨b, 3, none⟩ = some (.int .u64 (U.want : Nat)) ∧ w'.cell? ⟨b, 4, none⟩ = some (.int .u64 (b2n U.lost : Nat)) ∧ w'.cell? ⟨b, 5, none⟩ = some (.int .u64 (U.scr : Nat)) :=
  have y := x.below hb
  ⟨y.c0, y.c1, y.c2, y.c3, y.c4, y.c5⟩
end
def RetRA (v : Value) (b : Nat) (U : Ur) (R : Nat → Nat → Prop) (N : Nat) (w : World) (e : Ending) (w' : World) : Prop := e = .returned v ∧ IsR (Up R w w') N w' b U ∧ Ch R w w'
def RetRN (U : Ur) (W : World) (e : Ending) (w' : World) : Prop := ∃ b R, e = .returned (.pointer (some ⟨b, 0, none⟩)) ∧ IsR R 0 w' b U ∧ (∀ k j, R k j → W.heap.size ≤ k) ∧ Below W.heap.size W w'
theorem newr_c (w : World) : Calls Try.prog 9 #[] w (RetRN U0 w) := by
  go_enter Try.func9, Try.ntmps9
  go_wp2_with fail
  go_ret
  refine ⟨_, fun k _ => k = w.heap.size, rfl, ⟨[], 0, none, 0, 0, 0, 0, none, 0, 0, 0, 0, ?_⟩, fun k j hk => by rw [hk]; exact Nat.le_refl _, below_one _ _⟩
  refine ⟨by rw [sz_alloc]; omega, ?_, ?_, ?_, ?_, ?_, ?_, fun j hj => by rw [World.frozen?_alloc_at _ _ _ _ rfl], slA_nil _ _ _ _, slA_nil _ _ _ _, okU0, rfl, Nat.le_refl _, Nat.le_refl _, fun x hx => (List.not_mem_nil hx).elim, fun j => rfl, fun i hi => by omega, fun i hi => by omega, fun k j hk => by rw [hk, sz_alloc]; omega, fun h => by omega, fun h => by omega, fun h => by omega⟩ <;> (rw [World.cell?_alloc_at _ _ _ _ rfl]; rfl)
end Go.Proofs.Ytjjmohhkhadadaa
