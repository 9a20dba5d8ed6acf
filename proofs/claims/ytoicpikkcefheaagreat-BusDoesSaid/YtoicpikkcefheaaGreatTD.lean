/- Taken from other texts: what is needed of them. -/
import Derived.Test.YtoicpikkcefheaaGreatTA
import Derived.Test.YtoicpikkcefheaaGreatTB
import Derived.Test.YtoicpikkcefheaaGreatTC
namespace Go.Proofs.YtoicpikkcefheaaGreat.T
set_option linter.unusedVariables false
set_option linter.unusedSimpArgs false
set_option maxRecDepth 20000
open Go.ChangeShapes Go.WideShapes Go.ChangeAt Go.RowKit
/-- The document's uart in a block: all that came (K), how many of it were read; whatever it holds lies in R. -/
structure Af (R : Nat → Nat → Prop) (N : Nat) (w : World) (b : Nat) (U : Ur) (K : List Nat) (r : Nat) (sa : Option Addr) (n c g o : Nat) (ta : Option Addr) (m d h p : Nat) : Prop where
  lt : b < w.heap.size
  c0 : w.cell? ⟨b, 0, none⟩ = some (.slice sa n c)
  c1 : w.cell? ⟨b, 1, none⟩ = some (.slice ta m d)
  c2 : w.cell? ⟨b, 2, none⟩ = some (.int .i64 (r : Nat))
  c3 : w.cell? ⟨b, 3, none⟩ = some (.int .u64 (U.want : Nat))
  c4 : w.cell? ⟨b, 4, none⟩ = some (.int .u64 (b2n U.lost : Nat))
  c5 : w.cell? ⟨b, 5, none⟩ = some (.int .u64 (U.scr : Nat))
  fz : ∀ j, j < 6 → w.frozen? ⟨b, j, none⟩ = false
  q : SlA w sa n c g o K
  s : SlA w ta m d h p U.sent
  ok : OkU U
  left : K.drop r = U.q
  rle : r ≤ n
  nle : n ≤ N
  k8 : ∀ x ∈ K, x < 256
  rb : ∀ j, R b j
  rq : ∀ i, i < c → R g (o + i)
  rs : ∀ i, i < d → R h (p + i)
  rlt : ∀ k j, R k j → k < w.heap.size
  qb : 0 < c → g ≠ b
  sb : 0 < d → h ≠ b
  qs : 0 < c → 0 < d → g ≠ h
def IsR (R : Nat → Nat → Prop) (N : Nat) (w : World) (b : Nat) (U : Ur) : Prop := ∃ K r sa n c g o ta m d h p, Af R N w b U K r sa n c g o ta m d h p
section
variable {R T R2 : Nat → Nat → Prop} {N : Nat} {w w' : World} {b : Nat} {U : Ur} {K : List Nat} {r : Nat} {sa : Option Addr} {n c g o : Nat} {ta : Option Addr} {m d h p : Nat}
theorem Af.cells (x : Af R N w b U K r sa n c g o ta m d h p) : ∀ j, j < 6 → (w.cell? ⟨b, j, none⟩).isSome = true := fun j hj => by
  have : j = 0 ∨ j = 1 ∨ j = 2 ∨ j = 3 ∨ j = 4 ∨ j = 5 := by omega
  rcases this with rfl | rfl | rfl | rfl | rfl | rfl
  · rw [x.c0]; rfl
  · rw [x.c1]; rfl
  · rw [x.c2]; rfl
  · rw [x.c3]; rfl
  · rw [x.c4]; rfl
  · rw [x.c5]; rfl
theorem Af.qlen (x : Af R N w b U K r sa n c g o ta m d h p) : U.q.length = n - r := by rw [← x.left, List.length_drop, x.q.len]
theorem Af.kept (x : Af R N w b U K r sa n c g o ta m d h p) (hc : Ch T w w') (hn : ∀ k j, T k j → ¬ R k j) : Af R N w' b U K r sa n c g o ta m d h p :=
  have nb : ∀ j, ¬ T b j := fun j ht => hn _ _ ht (x.rb j)
  ⟨Nat.lt_of_lt_of_le x.lt hc.size, (hc.cell b 0 x.lt (nb 0)).trans x.c0, (hc.cell b 1 x.lt (nb 1)).trans x.c1, (hc.cell b 2 x.lt (nb 2)).trans x.c2, (hc.cell b 3 x.lt (nb 3)).trans x.c3, (hc.cell b 4 x.lt (nb 4)).trans x.c4, (hc.cell b 5 x.lt (nb 5)).trans x.c5,
    fun j hj => (hc.frozen b j x.lt).trans (x.fz j hj), x.q.kept hc (fun i hi ht => hn _ _ ht (x.rq i (Nat.lt_of_lt_of_le hi x.q.le))), x.s.kept hc (fun i hi ht => hn _ _ ht (x.rs i (Nat.lt_of_lt_of_le hi x.s.le))), x.ok, x.left, x.rle, x.nle, x.k8, x.rb, x.rq, x.rs,
    fun k j hk => Nat.lt_of_lt_of_le (x.rlt k j hk) hc.size, x.qb, x.sb, x.qs⟩
theorem Af.below (x : Af R N w b U K r sa n c g o ta m d h p) (hb : Below w.heap.size w w') : Af R N w' b U K r sa n c g o ta m d h p := x.kept (Ch.of_below (fun _ _ => False) hb) (fun _ _ h => h.elim)
theorem Af.mono (x : Af R N w b U K r sa n c g o ta m d h p) {N2 : Nat} (hN : N ≤ N2) (hR : ∀ k j, R k j → R2 k j) (hlt : ∀ k j, R2 k j → k < w.heap.size) : Af R2 N2 w b U K r sa n c g o ta m d h p :=
  { x with nle := Nat.le_trans x.nle hN, rb := fun j => hR _ _ (x.rb j), rq := fun i hi => hR _ _ (x.rq i hi), rs := fun i hi => hR _ _ (x.rs i hi), rlt := hlt }
theorem Af.up (x : Af R N w' b U K r sa n c g o ta m d h p) (w : World) : IsR (Up R w w') N w' b U :=
  ⟨_, _, _, _, _, _, _, _, _, _, _, _, x.mono (Nat.le_refl _) (fun _ _ => .inl) (fun k j hk => hk.elim (x.rlt k j) (·.2))⟩
theorem Af.slices (x : Af R N w b U K r sa n c g o ta m d h p) (j : Nat) (v : Value) (hj : j < 6) : SlA (w.setCell ⟨b, j, none⟩ v) sa n c g o K ∧ SlA (w.setCell ⟨b, j, none⟩ v) ta m d h p U.sent := by
  have hc : Ch (fun k _ => k = b) w (w.setCell ⟨b, j, none⟩ v) := Ch.set _ _ _ _ _ rfl (x.cells j hj)
  exact ⟨x.q.kept hc (fun i hi e => x.qb (by have := x.q.le; omega) e), x.s.kept hc (fun i hi e => x.sb (by have := x.s.le; omega) e)⟩
theorem Af.lost (x : Af R N w b U K r sa n c g o ta m d h p) (v : Bool) : Af R N (w.setCell ⟨b, 4, none⟩ (.int .u64 (b2n v : Nat))) b { U with lost := v } K r sa n c g o ta m d h p :=
  { x with
    lt := by rw [sz_set]; exact x.lt
    c0 := (cell_ne _ _ _ _ _ (by decide)).trans x.c0
    c1 := (cell_ne _ _ _ _ _ (by decide)).trans x.c1
    c2 := (cell_ne _ _ _ _ _ (by decide)).trans x.c2
    c3 := (cell_ne _ _ _ _ _ (by decide)).trans x.c3
    c4 := cell_eq _ _ _ _ (x.cells 4 (by decide))
    c5 := (cell_ne _ _ _ _ _ (by decide)).trans x.c5
    fz := fun j hj => by rw [World.frozen?_setCell]; exact x.fz j hj
    q := (x.slices 4 _ (by decide)).1
    s := (x.slices 4 _ (by decide)).2
    ok := ⟨x.ok.q, x.ok.len, x.ok.want, x.ok.scr⟩
    rlt := fun k j hk => by rw [sz_set]; exact x.rlt k j hk }
theorem Af.want (x : Af R N w b U K r sa n c g o ta m d h p) (v : Nat) (hv : v < 2) : Af R N (w.setCell ⟨b, 3, none⟩ (.int .u64 (v : Nat))) b { U with want := v } K r sa n c g o ta m d h p :=
  { x with
    lt := by rw [sz_set]; exact x.lt
    c0 := (cell_ne _ _ _ _ _ (by decide)).trans x.c0
    c1 := (cell_ne _ _ _ _ _ (by decide)).trans x.c1
    c2 := (cell_ne _ _ _ _ _ (by decide)).trans x.c2
    c3 := cell_eq _ _ _ _ (x.cells 3 (by decide))
    c4 := (cell_ne _ _ _ _ _ (by decide)).trans x.c4
    c5 := (cell_ne _ _ _ _ _ (by decide)).trans x.c5
    fz := fun j hj => by rw [World.frozen?_setCell]; exact x.fz j hj
    q := (x.slices 3 _ (by decide)).1
    s := (x.slices 3 _ (by decide)).2
    ok := ⟨x.ok.q, x.ok.len, hv, x.ok.scr⟩
    rlt := fun k j hk => by rw [sz_set]; exact x.rlt k j hk }
theorem Af.scr (x : Af R N w b U K r sa n c g o ta m d h p) (v : Nat) (hv : v < 256) : Af R N (w.setCell ⟨b, 5, none⟩ (.int .u64 (v : Nat))) b { U with scr := v } K r sa n c g o ta m d h p :=
  { x with
    lt := by rw [sz_set]; exact x.lt
    c0 := (cell_ne _ _ _ _ _ (by decide)).trans x.c0
    c1 := (cell_ne _ _ _ _ _ (by decide)).trans x.c1
    c2 := (cell_ne _ _ _ _ _ (by decide)).trans x.c2
    c3 := (cell_ne _ _ _ _ _ (by decide)).trans x.c3
    c4 := (cell_ne _ _ _ _ _ (by decide)).trans x.c4
    c5 := cell_eq _ _ _ _ (x.cells 5 (by decide))
    fz := fun j hj => by rw [World.frozen?_setCell]; exact x.fz j hj
    q := (x.slices 5 _ (by decide)).1
    s := (x.slices 5 _ (by decide)).2
    ok := ⟨x.ok.q, x.ok.len, x.ok.want, hv⟩
    rlt := fun k j hk => by rw [sz_set]; exact x.rlt k j hk }
theorem drop_tail (K : List Nat) (r : Nat) : K.drop (r + 1) = (K.drop r).tail := by rw [List.tail_drop]
/-- One byte more was read. -/
theorem Af.cut (x : Af R N w b U K r sa n c g o ta m d h p) (hr : r < n) : Af R N (w.setCell ⟨b, 2, none⟩ (.int .i64 ((r + 1 : Nat) : Nat))) b { U with q := U.q.tail } K (r + 1) sa n c g o ta m d h p :=
  { x with
    lt := by rw [sz_set]; exact x.lt
    c0 := (cell_ne _ _ _ _ _ (by decide)).trans x.c0
    c1 := (cell_ne _ _ _ _ _ (by decide)).trans x.c1
    c2 := cell_eq _ _ _ _ (x.cells 2 (by decide))
    c3 := (cell_ne _ _ _ _ _ (by decide)).trans x.c3
    c4 := (cell_ne _ _ _ _ _ (by decide)).trans x.c4
    c5 := (cell_ne _ _ _ _ _ (by decide)).trans x.c5
    fz := fun j hj => by rw [World.frozen?_setCell]; exact x.fz j hj
    q := (x.slices 2 _ (by decide)).1
    s := (x.slices 2 _ (by decide)).2
    ok := x.ok.tail
    left := by rw [drop_tail, x.left]
    rle := hr
    rlt := fun k j hk => by rw [sz_set]; exact x.rlt k j hk }
theorem Af.after0 (x : Af R N w b U K r sa n c g o ta m d h p) {w2 : World} (hc : Ch (Spare g o n c) w w2) : w2.cell? ⟨b, 0, none⟩ = some (.slice sa n c) ∧ w2.frozen? ⟨b, 0, none⟩ = false :=
  ⟨(hc.cell b 0 x.lt (fun ⟨e, i, _, hi, _⟩ => x.qb (by omega) e.symm)).trans x.c0, (hc.frozen b 0 x.lt).trans (x.fz 0 (by decide))⟩
theorem Af.after1 (x : Af R N w b U K r sa n c g o ta m d h p) {w2 : World} (hc : Ch (Spare h p m d) w w2) : w2.cell? ⟨b, 1, none⟩ = some (.slice ta m d) ∧ w2.frozen? ⟨b, 1, none⟩ = false :=
  ⟨(hc.cell b 1 x.lt (fun ⟨e, i, _, hi, _⟩ => x.sb (by omega) e.symm)).trans x.c1, (hc.frozen b 1 x.lt).trans (x.fz 1 (by decide))⟩
theorem Af.spare0 (x : Af R N w b U K r sa n c g o ta m d h p) : ∀ i j, Spare g o n c i j → R i j := fun i j ⟨e, k, h1, h2, e2⟩ => by subst e e2; exact x.rq k h2
theorem Af.spare1 (x : Af R N w b U K r sa n c g o ta m d h p) : ∀ i j, Spare h p m d i j → R i j := fun i j ⟨e, k, h1, h2, e2⟩ => by subst e e2; exact x.rs k h2
/-- A byte has come. -/
theorem Af.came (x : Af R N w b U K r sa n c g o ta m d h p) {w2 : World} {a' : Option Addr} {c' g' o' y : Nat} (hc : Ch (Spare g o n c) w w2) (hs : SlA w2 a' (n + 1) c' g' o' (K ++ [y])) (hm : Mv w g o c g' o' c') (hy : y < 256) (hok : OkU { U with q := U.q ++ [y] }) :
    IsR (Up R w (w2.setCell ⟨b, 0, none⟩ (.slice a' (n + 1) c'))) (N + 1) (w2.setCell ⟨b, 0, none⟩ (.slice a' (n + 1) c')) b { U with q := U.q ++ [y] } ∧ Ch R w (w2.setCell ⟨b, 0, none⟩ (.slice a' (n + 1) c')) := by
  have nb : ∀ j, ¬ Spare g o n c b j := fun j ⟨e, i, _, hi, _⟩ => x.qb (by omega) e.symm
  have hs0 : SlA w2 ta m d h p U.sent := x.s.kept hc (fun i hi ⟨e, j, _, hj, _⟩ => x.qs (by omega) (by have := x.s.le; omega) e.symm)
  have hlt : b < w2.heap.size := Nat.lt_of_lt_of_le x.lt hc.size
  have is0 : (w2.cell? ⟨b, 0, none⟩).isSome = true := hc.there b 0 x.lt (x.cells 0 (by decide))
  have hset : Ch (fun k _ => k = b) w2 (w2.setCell ⟨b, 0, none⟩ (.slice a' (n + 1) c')) := Ch.set _ _ _ _ _ rfl is0
  have ng : 0 < c' → g' ≠ b := fun h0 => by
    rcases hm with ⟨rfl, -, rfl⟩ | hm
    · exact x.qb h0
    · have := x.lt; omega
  refine ⟨⟨K ++ [y], r, a', n + 1, c', g', o', ta, m, d, h, p, ?_⟩, (hc.mono x.spare0).trans (Ch.set R w2 b 0 _ (x.rb 0) is0) (fun _ _ h => .inl h)⟩
  refine ⟨by rw [sz_set]; exact hlt, cell_eq _ _ _ _ is0, (cell_ne _ _ _ _ _ (by decide)).trans ((hc.cell b 1 x.lt (nb 1)).trans x.c1), (cell_ne _ _ _ _ _ (by decide)).trans ((hc.cell b 2 x.lt (nb 2)).trans x.c2), (cell_ne _ _ _ _ _ (by decide)).trans ((hc.cell b 3 x.lt (nb 3)).trans x.c3), (cell_ne _ _ _ _ _ (by decide)).trans ((hc.cell b 4 x.lt (nb 4)).trans x.c4), (cell_ne _ _ _ _ _ (by decide)).trans ((hc.cell b 5 x.lt (nb 5)).trans x.c5),
    fun j hj => by rw [World.frozen?_setCell]; exact (hc.frozen b j x.lt).trans (x.fz j hj), hs.kept hset (fun i hi e => ng (by have := hs.le; omega) e), hs0.kept hset (fun i hi e => x.sb (by have := x.s.le; omega) e), hok, ?_, by have := x.rle; omega, by have := x.nle; omega, fun z hz => ?_, fun j => .inl (x.rb j), fun i hi => ?_, fun i hi => .inl (x.rs i hi), fun k j hk => ?_, ng, x.sb, fun h1 h2 => ?_⟩
  · rw [List.drop_append_of_le_length (by rw [x.q.len]; exact x.rle), x.left]
  · rcases List.mem_append.1 hz with hz | hz
    · exact x.k8 z hz
    · rw [List.mem_singleton.1 hz]; exact hy
  · rw [up_set]
    rcases hm with ⟨rfl, rfl, rfl⟩ | hm
    · exact .inl (x.rq i hi)
    · exact .inr ⟨hm, (hs.addr (by omega)).2⟩
  · rw [up_set] at hk
    rw [sz_set]
    rcases hk with hk | hk
    · exact Nat.lt_of_lt_of_le (x.rlt k j hk) hc.size
    · exact hk.2
  · rcases hm with ⟨rfl, -, rfl⟩ | hm
    · exact x.qs h1 h2
    · have := (x.s.addr h2).2; omega
/-- A byte has gone out. -/
theorem Af.went (x : Af R N w b U K r sa n c g o ta m d h p) {w2 : World} {a' : Option Addr} {n' c' g' o' : Nat} {L' : List Nat} (hc : Ch (Spare h p m d) w w2) (hs : SlA w2 a' n' c' g' o' L') (hm : Mv w h p d g' o' c') :
    IsR (Up R w (w2.setCell ⟨b, 1, none⟩ (.slice a' n' c'))) N (w2.setCell ⟨b, 1, none⟩ (.slice a' n' c')) b { U with sent := L' } ∧ Ch R w (w2.setCell ⟨b, 1, none⟩ (.slice a' n' c')) := by
  have nb : ∀ j, ¬ Spare h p m d b j := fun j ⟨e, i, _, hi, _⟩ => x.sb (by omega) e.symm
  have hs0 : SlA w2 sa n c g o K := x.q.kept hc (fun i hi ⟨e, j, _, hj, _⟩ => x.qs (by have := x.q.le; omega) (by omega) e)
  have hlt : b < w2.heap.size := Nat.lt_of_lt_of_le x.lt hc.size
  have is0 : (w2.cell? ⟨b, 1, none⟩).isSome = true := hc.there b 1 x.lt (x.cells 1 (by decide))
  have hset : Ch (fun k _ => k = b) w2 (w2.setCell ⟨b, 1, none⟩ (.slice a' n' c')) := Ch.set _ _ _ _ _ rfl is0
  have ng : 0 < c' → g' ≠ b := fun h0 => by
    rcases hm with ⟨rfl, -, rfl⟩ | hm
    · exact x.sb h0
    · have := x.lt; omega
  refine ⟨⟨K, r, sa, n, c, g, o, a', n', c', g', o', ?_⟩, (hc.mono x.spare1).trans (Ch.set R w2 b 1 _ (x.rb 1) is0) (fun _ _ h => .inl h)⟩
  refine ⟨by rw [sz_set]; exact hlt, (cell_ne _ _ _ _ _ (by decide)).trans ((hc.cell b 0 x.lt (nb 0)).trans x.c0), cell_eq _ _ _ _ is0, (cell_ne _ _ _ _ _ (by decide)).trans ((hc.cell b 2 x.lt (nb 2)).trans x.c2), (cell_ne _ _ _ _ _ (by decide)).trans ((hc.cell b 3 x.lt (nb 3)).trans x.c3), (cell_ne _ _ _ _ _ (by decide)).trans ((hc.cell b 4 x.lt (nb 4)).trans x.c4), (cell_ne _ _ _ _ _ (by decide)).trans ((hc.cell b 5 x.lt (nb 5)).trans x.c5),
    fun j hj => by rw [World.frozen?_setCell]; exact (hc.frozen b j x.lt).trans (x.fz j hj), hs0.kept hset (fun i hi e => x.qb (by have := x.q.le; omega) e), hs.kept hset (fun i hi e => ng (by have := hs.le; omega) e), ⟨x.ok.q, x.ok.len, x.ok.want, x.ok.scr⟩, x.left, x.rle, x.nle, x.k8, fun j => .inl (x.rb j), fun i hi => .inl (x.rq i hi), fun i hi => ?_, fun k j hk => ?_, x.qb, ng, fun h1 h2 => ?_⟩
  · rw [up_set]
    rcases hm with ⟨rfl, rfl, rfl⟩ | hm
    · exact .inl (x.rs i hi)
    · exact .inr ⟨hm, (hs.addr (by omega)).2⟩
  · rw [up_set] at hk
    rw [sz_set]
    rcases hk with hk | hk
    · exact Nat.lt_of_lt_of_le (x.rlt k j hk) hc.size
    · exact hk.2
  · rcases hm with ⟨rfl, -, rfl⟩ | hm
    · exact x.qs h1 h2
    · have := (x.q.addr h1).2; omega
theorem IsR.kept (x : IsR R N w b U) (hc : Ch T w w') (hn : ∀ k j, T k j → ¬ R k j) : IsR R N w' b U := by
  obtain ⟨K, r, sa, n, c, g, o, ta, m, d, h, p, x⟩ := x
  exact ⟨K, r, sa, n, c, g, o, ta, m, d, h, p, x.kept hc hn⟩
theorem IsR.below (x : IsR R N w b U) (hb : Below w.heap.size w w') : IsR R N w' b U := x.kept (Ch.of_below (fun _ _ => False) hb) (fun _ _ h => h.elim)
theorem Af.six (x : Af R N w b U K r sa n c g o ta m d h p) (hb : Below w.heap.size w w') : w'.cell? ⟨b, 0, none⟩ = some (.slice sa n c) ∧ w'.cell? ⟨b, 1, none⟩ = some (.slice ta m d) ∧ w'.cell? ⟨b, 2, none⟩ = some (.int .i64 (r : Nat)) ∧ w'.cell? ⟨b, 3, none⟩ = some (.int .u64 (U.want : Nat)) ∧ w'.cell? ⟨b, 4, none⟩ = some (.int .u64 (b2n U.lost : Nat)) ∧ w'.cell? ⟨b, 5, none⟩ = some (.int .u64 (U.scr : Nat)) :=
  have y := x.below hb
  ⟨y.c0, y.c1, y.c2, y.c3, y.c4, y.c5⟩
end
def RetRA (v : Value) (b : Nat) (U : Ur) (R : Nat → Nat → Prop) (N : Nat) (w : World) (e : Ending) (w' : World) : Prop := e = .returned v ∧ IsR (Up R w w') N w' b U ∧ Ch R w w'
def RetRN (U : Ur) (W : World) (e : Ending) (w' : World) : Prop := ∃ b R, e = .returned (.pointer (some ⟨b, 0, none⟩)) ∧ IsR R 0 w' b U ∧ (∀ k j, R k j → W.heap.size ≤ k) ∧ Below W.heap.size W w'
theorem newr_c (w : World) : Calls Tryz.prog 33 #[] w (RetRN U0 w) := by
  go_enter Tryz.func33, Tryz.ntmps33
  go_wp2_with fail
  go_ret
  refine ⟨_, fun k _ => k = w.heap.size, rfl, ⟨[], 0, none, 0, 0, 0, 0, none, 0, 0, 0, 0, ?_⟩, fun k j hk => by rw [hk]; exact Nat.le_refl _, below_one _ _⟩
  refine ⟨by rw [sz_alloc]; omega, ?_, ?_, ?_, ?_, ?_, ?_, fun j hj => by rw [World.frozen?_alloc_at _ _ _ _ rfl], slA_nil _ _ _ _, slA_nil _ _ _ _, okU0, rfl, Nat.le_refl _, Nat.le_refl _, fun x hx => (List.not_mem_nil hx).elim, fun j => rfl, fun i hi => by omega, fun i hi => by omega, fun k j hk => by rw [hk, sz_alloc]; omega, fun h => by omega, fun h => by omega, fun h => by omega⟩ <;> (rw [World.cell?_alloc_at _ _ _ _ rfl]; rfl)
end Go.Proofs.YtoicpikkcefheaaGreat.T
namespace Go.Proofs.YtoicpikkcefheaaGreat.T
set_option linter.unusedVariables false
set_option linter.unusedSimpArgs false
set_option maxRecDepth 20000
open Go.ChangeShapes Go.WideShapes Go.ChangeAt Go.RowKit
theorem below_chR {R : Nat → Nat → Prop} {w w' : World} (hb : Below w.heap.size w w') : Ch R w w' := Ch.of_below R hb
theorem isR_below {R : Nat → Nat → Prop} {N : Nat} {w w' : World} {b : Nat} {U : Ur} (h : IsR R N w b U) (hb : Below w.heap.size w w') : IsR (Up R w w') N w' b U := by
  obtain ⟨K, r, sa, n, c, g, o, ta, m, d, h, p, x⟩ := h
  exact (x.below hb).up w
/-- What a step behind a step that only read leaves. -/
theorem retRA_below {v : Value} {b : Nat} {U : Ur} {R : Nat → Nat → Prop} {N : Nat} {w w1 w' : World} {e : Ending} (hb : Below w.heap.size w w1) (h : RetRA v b U R N w1 e w') : RetRA v b U R N w e w' := by
  obtain ⟨h1, ⟨K, r, sa, n, c, g, o, ta, m, d, h, p, x⟩, h3⟩ := h
  refine ⟨h1, ⟨K, r, sa, n, c, g, o, ta, m, d, h, p, x.mono (Nat.le_refl _) (fun k j hk => hk.imp id (fun q => ⟨Nat.le_trans hb.size q.1, q.2⟩)) (fun k j hk => hk.elim (fun q => x.rlt k j (.inl q)) (fun q => q.2))⟩, (Ch.of_below R hb).trans h3 (fun _ _ q => .inl q)⟩
theorem some_c (R : Nat → Nat → Prop) (N b : Nat) (U : Ur) (w : World) (hU : Hid (IsR R N w b U)) : Calls Tryz.prog 100 #[.pointer (some ⟨b, 0, none⟩)] w (RetB (decide (0 < U.q.length)) w) := by
  obtain ⟨K, r, sa, n, c, g, o, ta, m, d, h, p, hA⟩ := hU.out
  have c0 := hA.c0; have c2 := hA.c2
  have hl := hA.qlen
  clear hA
  by_cases hr : r < n
  · have hr' : (r : Int) < n := by omega
    have HV : Hid (decide (0 < U.q.length) = true) := decide_eq_true (by rw [hl]; omega)
    clear hl
    go_enter Tryz.func100, Tryz.ntmps100
    go_wp2_with fail
    go_quiet (fail)
    go_wp2_with fail
    go_ret
    exact ⟨by rw [HV.out]; rfl, (by repeat (first | (with_reducible first | exact Below.refl _ _ | assumption | exact Nat.le_refl _ | refine Below.drew ?_ | refine Below.alloc ?_ ?_ _ | refine below_drewN ?_ _ | refine Below.setCell ?_ ?_ _ | refine le_alloc ?_ | refine le_set ?_ | refine le_drew ?_ | refine le_drewN ?_ | refine below_step (by assumption) ?_ ?_ | refine le_below (by assumption) ?_) | (dsimp only; omega)))⟩
  · have hr' : ¬ (r : Int) < n := by omega
    have HV : Hid (decide (0 < U.q.length) = false) := decide_eq_false (by rw [hl]; omega)
    clear hl
    go_enter Tryz.func100, Tryz.ntmps100
    go_wp2_with fail
    go_quiet (fail)
    go_wp2_with fail
    go_ret
    exact ⟨by rw [HV.out]; rfl, (by repeat (first | (with_reducible first | exact Below.refl _ _ | assumption | exact Nat.le_refl _ | refine Below.drew ?_ | refine Below.alloc ?_ ?_ _ | refine below_drewN ?_ _ | refine Below.setCell ?_ ?_ _ | refine le_alloc ?_ | refine le_set ?_ | refine le_drew ?_ | refine le_drewN ?_ | refine below_step (by assumption) ?_ ?_ | refine le_below (by assumption) ?_) | (dsimp only; omega)))⟩
theorem upr_c (R : Nat → Nat → Prop) (N b : Nat) (U : Ur) (w : World) (hU : Hid (IsR R N w b U)) : Calls Tryz.prog 81 #[.pointer (some ⟨b, 0, none⟩)] w (RetB (upF U) w) := by
  obtain ⟨K, r, sa, n, c, g, o, ta, m, d, h, p, hA⟩ := hU.out
  have c0 := hA.c0; have c2 := hA.c2; have c3 := hA.c3
  have hl := hA.qlen
  have hw := hA.ok.want
  obtain ⟨x, hx⟩ : ∃ x, U.want = x := ⟨_, rfl⟩
  rw [hx] at c3 hw
  clear hA
  have : x = 0 ∨ x = 1 := by omega
  rcases this with rfl | rfl
  · have HV : Hid (upF U = false) := by show _ = _; unfold upF; rw [hx]; rfl
    clear hl hx hw
    go_enter Tryz.func81, Tryz.ntmps81
    go_wp2_with fail
    go_quiet (fail)
    go_wp2_with fail
    go_ret
    exact ⟨by rw [HV.out]; rfl, (by repeat (first | (with_reducible first | exact Below.refl _ _ | assumption | exact Nat.le_refl _ | refine Below.drew ?_ | refine Below.alloc ?_ ?_ _ | refine below_drewN ?_ _ | refine Below.setCell ?_ ?_ _ | refine le_alloc ?_ | refine le_set ?_ | refine le_drew ?_ | refine le_drewN ?_ | refine below_step (by assumption) ?_ ?_ | refine le_below (by assumption) ?_) | (dsimp only; omega)))⟩
  · by_cases hr : r < n
    · have hr' : (r : Int) < n := by omega
      have HV : Hid (upF U = true) := by show _ = _; unfold upF; rw [hx, hl, decide_eq_true (by omega : 0 < n - r)]; rfl
      clear hl hx hw
      go_enter Tryz.func81, Tryz.ntmps81
      go_wp2_with fail
      go_quiet (fail)
      go_wp2_with fail
      go_ret
      exact ⟨by rw [HV.out]; rfl, (by repeat (first | (with_reducible first | exact Below.refl _ _ | assumption | exact Nat.le_refl _ | refine Below.drew ?_ | refine Below.alloc ?_ ?_ _ | refine below_drewN ?_ _ | refine Below.setCell ?_ ?_ _ | refine le_alloc ?_ | refine le_set ?_ | refine le_drew ?_ | refine le_drewN ?_ | refine below_step (by assumption) ?_ ?_ | refine le_below (by assumption) ?_) | (dsimp only; omega)))⟩
    · have hr' : ¬ (r : Int) < n := by omega
      have HV : Hid (upF U = false) := by show _ = _; unfold upF; rw [hx, hl, decide_eq_false (by omega : ¬ 0 < n - r)]; rfl
      clear hl hx hw
      go_enter Tryz.func81, Tryz.ntmps81
      go_wp2_with fail
      go_quiet (fail)
      go_wp2_with fail
      go_ret
      exact ⟨by rw [HV.out]; rfl, (by repeat (first | (with_reducible first | exact Below.refl _ _ | assumption | exact Nat.le_refl _ | refine Below.drew ?_ | refine Below.alloc ?_ ?_ _ | refine below_drewN ?_ _ | refine Below.setCell ?_ ?_ _ | refine le_alloc ?_ | refine le_set ?_ | refine le_drew ?_ | refine le_drewN ?_ | refine below_step (by assumption) ?_ ?_ | refine le_below (by assumption) ?_) | (dsimp only; omega)))⟩
theorem sentr_c (R : Nat → Nat → Prop) (N b : Nat) (U : Ur) (w : World) (hU : Hid (IsR R N w b U)) (hn : Hid (U.sent.length < 70368744177664)) : Calls Tryz.prog 94 #[.pointer (some ⟨b, 0, none⟩)] w (RetSl U.sent w) := by
  obtain ⟨K, r, sa, n, c, g, o, ta, m, d, h, p, hA⟩ := hU.out
  have c1 := hA.c1
  have hb := hA.lt
  have hbn : ¬ b = w.heap.size := by omega
  have hm : m < 70368744177664 := by rw [← hA.s.len]; exact hn.out
  have HA := Lib.hid hA
  clear hA
  go_enter Tryz.func94, Tryz.ntmps94
  go_wp2_with (at_builtin; refine append_all rfl _ _ rfl (HA.out.s.below (below_one w _)) _ rfl rfl hm ?_; intro a' c' g' w' q1 q2 q3; have HQ1 := Lib.hid q1; have HQ2 := Lib.hid ((below_one w _).trans (q2.mono (by rw [sz_alloc]; omega))); have HQ3 := Lib.hid q3; clear q1 q2 q3)
  go_ret
  exact ⟨_, _, _, _, rfl, HQ1.out, fun h => Nat.le_of_succ_le (by have := HQ3.out h; rw [sz_alloc] at this; exact this), HQ2.out⟩
theorem giver_c (R : Nat → Nat → Prop) (N b x : Nat) (U : Ur) (w : World) (hU : Hid (IsR R N w b U)) (hx : Hid (x < 256)) (hN : Hid (N < 70368744177664)) : Calls Tryz.prog 55 #[.pointer (some ⟨b, 0, none⟩), .int .u8 x] w (RetRA (.tuple #[]) b (giveF U x) R (N + 1) w) := by
  obtain ⟨K, r, sa, n, c, g, o, ta, m, d, h, p, hA⟩ := hU.out
  have c0 := hA.c0; have c2 := hA.c2
  have hl := hA.qlen
  have hrle := hA.rle
  have h16 := hA.ok.len
  have n46 : n < 70368744177664 := Nat.lt_of_le_of_lt hA.nle hN.out
  obtain ⟨t, ht⟩ : ∃ t, n - r = t := ⟨_, rfl⟩
  have et : (n : Int) - (r : Int) = t := by omega
  have et2 : IntKind.i64.wrap ((n : Int) - (r : Int)) = t := by rw [et]; exact IntWalk.i64_in _ (by omega)
  rw [ht] at hl
  rw [hl] at h16
  clear ht
  by_cases ht : t = 16
  · subst ht
    have HF : Hid (giveF U x = { U with lost := true }) := by show _ = _; unfold giveF; rw [if_pos hl]
    have HA := Lib.hid hA
    clear hA hl h16
    go_enter Tryz.func55, Tryz.ntmps55
    go_wp2_with fail
    go_quiet (fail)
    have hb1 : Below w.heap.size w (w.drewN nq) := (by repeat (first | (with_reducible first | exact Below.refl _ _ | assumption | exact Nat.le_refl _ | refine Below.drew ?_ | refine Below.alloc ?_ ?_ _ | refine below_drewN ?_ _ | refine Below.setCell ?_ ?_ _ | refine le_alloc ?_ | refine le_set ?_ | refine le_drew ?_ | refine le_drewN ?_ | refine below_step (by assumption) ?_ ?_ | refine le_below (by assumption) ?_) | (dsimp only; omega)))
    have HX := Lib.hid (HA.out.below hb1)
    have HB := Lib.hid hb1
    have k4 := HX.out.c4; have f4 := HX.out.fz 4 (by decide)
    have HL := Lib.hid (HX.out.lost true)
    have HC : Hid (Ch R (w.drewN nq) ((w.drewN nq).setCell ⟨b, 4, none⟩ (.int .u64 1))) := Ch.set R _ b 4 _ (HX.out.rb 4) (HX.out.cells 4 (by decide))
    clear hb1
    go_wp2_with fail
    go_end0
    refine retRA_below HB.out ⟨rfl, ?_, HC.out⟩
    rw [HF.out]
    obtain ⟨K2, r2, sa2, n2, c2', g2, o2, ta2, m2, d2, h2, p2, y⟩ := HL.out.up (w.drewN nq)
    exact ⟨_, _, _, _, _, _, _, _, _, _, _, _, y.mono (Nat.le_succ _) (fun _ _ q => q) y.rlt⟩
  · have HF : Hid (giveF U x = { U with q := U.q ++ [x] }) := by show _ = _; unfold giveF; rw [if_neg (by omega)]
    have HOK : Hid (OkU { U with q := U.q ++ [x] }) := by have := hA.ok.give x hx.out; rw [HF.out] at this; exact this
    have ht' : (t : Int) < 16 := by omega
    have HA := Lib.hid hA
    clear hA hl h16 ht
    go_enter Tryz.func55, Tryz.ntmps55
    go_wp2_with fail
    go_quiet (fail)
    have hb1 : Below w.heap.size w (w.drewN nq) := (by repeat (first | (with_reducible first | exact Below.refl _ _ | assumption | exact Nat.le_refl _ | refine Below.drew ?_ | refine Below.alloc ?_ ?_ _ | refine below_drewN ?_ _ | refine Below.setCell ?_ ?_ _ | refine le_alloc ?_ | refine le_set ?_ | refine le_drew ?_ | refine le_drewN ?_ | refine below_step (by assumption) ?_ ?_ | refine le_below (by assumption) ?_) | (dsimp only; omega)))
    have HX := Lib.hid (HA.out.below hb1)
    have HB := Lib.hid hb1
    clear hb1
    clear c0 c2
    have k0 := HX.out.c0
    obtain ⟨w1, hw1⟩ : ∃ w1, w1 = w.drewN nq := ⟨_, rfl⟩
    rw [← hw1] at HX HB k0 ⊢
    clear hw1
    go_wp2_with (at_builtin; refine append_b rfl _ _ rfl (HX.out.q.below (below_one w1 _)) rfl n46 x w1.heap.size rfl (by rw [World.cell?_alloc_at _ _ _ _ rfl]; rfl) ?_; intro a' c' g' o' w' q1 q2 q3; have HQ1 := Lib.hid q1; have HQ2 := Lib.hid (ch_one q2); have HQ3 := Lib.hid (mv_of (w := w1) q3 (by rw [sz_alloc]; omega)); clear q1 q2 q3; have j0 := (HX.out.after0 HQ2.out).1; have j1 := (HX.out.after0 HQ2.out).2)
    go_end0
    have hd := HX.out.came HQ2.out HQ1.out HQ3.out hx.out HOK.out
    refine retRA_below HB.out ⟨rfl, ?_, hd.2⟩
    rw [HF.out]; exact hd.1
theorem writer_no (R : Nat → Nat → Prop) (N b a v : Nat) (z : Int) (U : Ur) (w : World) (hU : Hid (IsR R N w b U)) (hn : Hid (thereB a z = false)) : Calls Tryz.prog 41 #[.pointer (some ⟨b, 0, none⟩), .int .u64 a, .int .i64 z, .int .u64 v] w (RetRA (.bool false) b U R N w) := by
  by_cases hz : z = 1
  · subst hz
    have ha : ¬ a < 8 := by have := hn.out; unfold thereB at this; simp at this; omega
    have ha' : (7 : Int) < a := by omega
    clear ha
    go_enter Tryz.func41, Tryz.ntmps41
    go_wp2_with fail
    go_ret
    exact ⟨rfl, isR_below hU.out (Below.refl _ _), Ch.refl _ _⟩
  · have hz' : (z == 1) = false := by simpa using hz
    have hz2 : (z != 1) = true := by simpa using hz
    go_enter Tryz.func41, Tryz.ntmps41
    go_wp2_with fail
    go_ret
    exact ⟨rfl, isR_below hU.out (Below.refl _ _), Ch.refl _ _⟩
theorem writer_0 (R : Nat → Nat → Prop) (N b v : Nat) (U : Ur) (w : World) (hU : Hid (IsR R N w b U)) (hv : Hid (v < 18446744073709551616)) (hn : Hid (U.sent.length < 70368744177664)) : Calls Tryz.prog 41 #[.pointer (some ⟨b, 0, none⟩), .int .u64 0, .int .i64 1, .int .u64 v] w (RetRA (.bool true) b (wrK 1 U v) R N w) := by
  obtain ⟨K, r, sa, n, c, g, o, ta, m, d, h, p, hA⟩ := hU.out
  have c1 := hA.c1
  have m46 : m < 70368744177664 := by rw [← hA.s.len]; exact hn.out
  obtain ⟨x, hx⟩ : ∃ x, v % 256 = x := ⟨_, rfl⟩
  have ex : IntKind.u8.wrap (v : Int) = x := by rw [← hx]; simp [IntKind.wrap, IntKind.bits, IntKind.signed]
  have ex2 : (v : Int) % 256 = x := by rw [← hx]; omega
  have HX : Hid (wrK 1 U v = { U with sent := U.sent ++ [x] }) := by show _ = _; rw [← hx]; rfl
  have HA := Lib.hid hA
  clear hA hx
  go_enter Tryz.func41, Tryz.ntmps41
  go_wp2_with (at_builtin; refine append_b rfl _ _ rfl (HA.out.s.below (below_one w _)) rfl m46 x w.heap.size rfl (by rw [World.cell?_alloc_at _ _ _ _ rfl]; rfl) ?_; intro a' c' g' o' w' q1 q2 q3; have HQ1 := Lib.hid q1; have HQ2 := Lib.hid (ch_one q2); have HQ3 := Lib.hid (mv_of (w := w) q3 (by rw [sz_alloc]; omega)); clear q1 q2 q3; have k0 := (HA.out.after1 HQ2.out).1; have k1 := (HA.out.after1 HQ2.out).2)
  go_ret
  have hd := HA.out.went HQ2.out HQ1.out HQ3.out
  refine ⟨rfl, ?_, hd.2⟩
  rw [HX.out]; exact hd.1
theorem writer_1 (R : Nat → Nat → Prop) (N b v : Nat) (U : Ur) (w : World) (hU : Hid (IsR R N w b U)) (hv : Hid (v < 18446744073709551616)) (hn : Hid (U.sent.length < 70368744177664)) : Calls Tryz.prog 41 #[.pointer (some ⟨b, 0, none⟩), .int .u64 1, .int .i64 1, .int .u64 v] w (RetRA (.bool true) b (wrK 2 U v) R N w) := by
  obtain ⟨K, r, sa, n, c, g, o, ta, m, d, h, p, hA⟩ := hU.out
  have c0 := hA.c3; have f0 := hA.fz 3 (by decide)
  obtain ⟨x, hx⟩ : ∃ x, v % 2 = x := ⟨_, rfl⟩
  have ex : (v : Int) % 2 = x := by rw [← hx]; omega
  have ex2 : (v : Int).tmod 2 = x := by rw [Int.tmod_eq_emod_of_nonneg (by omega)]; exact ex
  have HX : Hid (wrK 2 U v = { U with want := x }) := by show _ = _; rw [← hx]; rfl
  have HA := Lib.hid (hA.want x (by rw [← hx]; exact Nat.mod_lt _ (by decide)))
  have HC : Hid (Ch R w (w.setCell ⟨b, 3, none⟩ (.int .u64 (x : Nat)))) := Ch.set R w b 3 _ (hA.rb 3) (hA.cells 3 (by decide))
  clear hA hx
  go_enter Tryz.func41, Tryz.ntmps41
  go_wp2_with fail
  go_ret
  refine ⟨rfl, ?_, HC.out⟩
  rw [HX.out]; exact HA.out.up w
theorem writer_2 (R : Nat → Nat → Prop) (N b v : Nat) (U : Ur) (w : World) (hU : Hid (IsR R N w b U)) (hv : Hid (v < 18446744073709551616)) (hn : Hid (U.sent.length < 70368744177664)) : Calls Tryz.prog 41 #[.pointer (some ⟨b, 0, none⟩), .int .u64 2, .int .i64 1, .int .u64 v] w (RetRA (.bool true) b (wrK 3 U v) R N w) := by
  go_enter Tryz.func41, Tryz.ntmps41
  go_wp2_with fail
  go_ret
  exact ⟨rfl, isR_below hU.out (Below.refl _ _), Ch.refl _ _⟩
theorem writer_3 (R : Nat → Nat → Prop) (N b v : Nat) (U : Ur) (w : World) (hU : Hid (IsR R N w b U)) (hv : Hid (v < 18446744073709551616)) (hn : Hid (U.sent.length < 70368744177664)) : Calls Tryz.prog 41 #[.pointer (some ⟨b, 0, none⟩), .int .u64 3, .int .i64 1, .int .u64 v] w (RetRA (.bool true) b (wrK 4 U v) R N w) := by
  go_enter Tryz.func41, Tryz.ntmps41
  go_wp2_with fail
  go_ret
  exact ⟨rfl, isR_below hU.out (Below.refl _ _), Ch.refl _ _⟩
theorem writer_4 (R : Nat → Nat → Prop) (N b v : Nat) (U : Ur) (w : World) (hU : Hid (IsR R N w b U)) (hv : Hid (v < 18446744073709551616)) (hn : Hid (U.sent.length < 70368744177664)) : Calls Tryz.prog 41 #[.pointer (some ⟨b, 0, none⟩), .int .u64 4, .int .i64 1, .int .u64 v] w (RetRA (.bool true) b (wrK 5 U v) R N w) := by
  go_enter Tryz.func41, Tryz.ntmps41
  go_wp2_with fail
  go_ret
  exact ⟨rfl, isR_below hU.out (Below.refl _ _), Ch.refl _ _⟩
theorem writer_5 (R : Nat → Nat → Prop) (N b v : Nat) (U : Ur) (w : World) (hU : Hid (IsR R N w b U)) (hv : Hid (v < 18446744073709551616)) (hn : Hid (U.sent.length < 70368744177664)) : Calls Tryz.prog 41 #[.pointer (some ⟨b, 0, none⟩), .int .u64 5, .int .i64 1, .int .u64 v] w (RetRA (.bool true) b (wrK 6 U v) R N w) := by
  go_enter Tryz.func41, Tryz.ntmps41
  go_wp2_with fail
  go_ret
  exact ⟨rfl, isR_below hU.out (Below.refl _ _), Ch.refl _ _⟩
theorem writer_6 (R : Nat → Nat → Prop) (N b v : Nat) (U : Ur) (w : World) (hU : Hid (IsR R N w b U)) (hv : Hid (v < 18446744073709551616)) (hn : Hid (U.sent.length < 70368744177664)) : Calls Tryz.prog 41 #[.pointer (some ⟨b, 0, none⟩), .int .u64 6, .int .i64 1, .int .u64 v] w (RetRA (.bool true) b (wrK 7 U v) R N w) := by
  go_enter Tryz.func41, Tryz.ntmps41
  go_wp2_with fail
  go_ret
  exact ⟨rfl, isR_below hU.out (Below.refl _ _), Ch.refl _ _⟩
theorem writer_7 (R : Nat → Nat → Prop) (N b v : Nat) (U : Ur) (w : World) (hU : Hid (IsR R N w b U)) (hv : Hid (v < 18446744073709551616)) (hn : Hid (U.sent.length < 70368744177664)) : Calls Tryz.prog 41 #[.pointer (some ⟨b, 0, none⟩), .int .u64 7, .int .i64 1, .int .u64 v] w (RetRA (.bool true) b (wrK 8 U v) R N w) := by
  obtain ⟨K, r, sa, n, c, g, o, ta, m, d, h, p, hA⟩ := hU.out
  have c0 := hA.c5; have f0 := hA.fz 5 (by decide)
  obtain ⟨x, hx⟩ : ∃ x, v % 256 = x := ⟨_, rfl⟩
  have ex : (v : Int) % 256 = x := by rw [← hx]; omega
  have ex2 : (v : Int).tmod 256 = x := by rw [Int.tmod_eq_emod_of_nonneg (by omega)]; exact ex
  have HX : Hid (wrK 8 U v = { U with scr := x }) := by show _ = _; rw [← hx]; rfl
  have HA := Lib.hid (hA.scr x (by rw [← hx]; exact Nat.mod_lt _ (by decide)))
  have HC : Hid (Ch R w (w.setCell ⟨b, 5, none⟩ (.int .u64 (x : Nat)))) := Ch.set R w b 5 _ (hA.rb 5) (hA.cells 5 (by decide))
  clear hA hx
  go_enter Tryz.func41, Tryz.ntmps41
  go_wp2_with fail
  go_ret
  refine ⟨rfl, ?_, HC.out⟩
  rw [HX.out]; exact HA.out.up w
theorem writer_c (R : Nat → Nat → Prop) (N b a v : Nat) (z : Int) (U : Ur) (w : World) (hU : Hid (IsR R N w b U)) (hv : Hid (v < 18446744073709551616)) (hn : Hid (U.sent.length < 70368744177664)) : Calls Tryz.prog 41 #[.pointer (some ⟨b, 0, none⟩), .int .u64 a, .int .i64 z, .int .u64 v] w (RetRA (.bool (okK (kd a z))) b (wrK (kd a z) U v) R N w) := by
  cases ht : thereB a z
  · rw [there_no a z ht]
    exact writer_no R N b a v z U w hU ht
  · obtain ⟨rfl, h8⟩ := there_yes a z ht
    rw [kd_one a h8]
    rcases a8 h8 with rfl | rfl | rfl | rfl | rfl | rfl | rfl | rfl
    · exact writer_0 R N b v U w hU hv hn
    · exact writer_1 R N b v U w hU hv hn
    · exact writer_2 R N b v U w hU hv hn
    · exact writer_3 R N b v U w hU hv hn
    · exact writer_4 R N b v U w hU hv hn
    · exact writer_5 R N b v U w hU hv hn
    · exact writer_6 R N b v U w hU hv hn
    · exact writer_7 R N b v U w hU hv hn
end Go.Proofs.YtoicpikkcefheaaGreat.T
