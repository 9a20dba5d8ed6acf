/- All of a slice appended to nothing; bytes as a string; a uart in memory. -/
import Derived.Test.YtjjmohhkhadadaaA
import Derived.Deep.Upon
namespace Go.Proofs.Ytjjmohhkhadadaa
open Go.ChangeShapes Go.WideShapes Go.ChangeAt Go.RowKit
set_option linter.unusedVariables false
set_option linter.unusedSimpArgs false
section
variable {T T2 : Nat → Nat → Prop} {w w' : World} {a : Option Addr} {n c g o : Nat} {L : List Nat}
theorem SlA.src (h : SlA w a n c g o L) : Src Try.prog 1 35 (.slice a n c) n (cells8 L) w :=
  ⟨.inl ⟨_, Try.underlying35⟩, fun _ => rfl, h.first, (h.below (below_drewN (Below.refl _ _) 1)).first, by simp [cells8, h.len], fun u hu => by
    obtain ⟨_, _, rfl⟩ := List.mem_map.1 hu
    rfl⟩
/-- A copy of its own. -/
theorem append_all {ops : Array Oper} {rest : List Oper} {op : Oper} {A : Act} {Q : Exit → Act → World → Prop} (hgd : op.guard = none) (s x : Operand)
    (ho : op.op = .call { callee := .builtin .append, args := #[s, x], argTypes := #[35, 35] })
    (h : SlA w a n c g o L) (sa : Option Addr) (hs : A.eval s = .slice sa 0 0) (hx : A.eval x = .slice a n c) (hn : n < 70368744177664)
    (k : ∀ a' c' g' w', SlA w' a' n c' g' 0 L → Below w.heap.size w w' → (0 < c' → w.heap.size ≤ g') → wpList Try.prog ops Q rest (A.put op.dst (.slice a' n c')) w') : wpList Try.prog ops Q (op :: rest) A w := by
  obtain ⟨i, hi, h1, h2, h3⟩ := i8'
  have hsrc := h.src
  refine wpList_plain hgd fun K hK => ?_
  unfold Oper.wp execOp
  simp only [ho, resolve, invoke, builtin, Sem.run_bind, Sem.run_pure, Result.andThen_ok, List.map_toArray, List.map_cons, List.map_nil, hs, hx]
  by_cases h0 : n = 0
  · subst h0
    have hL : L = [] := List.length_eq_zero_iff.1 h.len
    subst hL
    rw [run_append_nothing (P := Try.prog) w 35 35 op.type 5 i Try.underlying35 hi sa 0 0 (Nat.le_refl _) _ (by rw [h1]; exact hsrc)]
    exact hK _ _ (k sa 0 0 w (slA_nil _ _ _ _) (Below.refl _ _) (fun h => absurd h (Nat.lt_irrefl _)))
  · have hold : (Builtin.firstCells i.size 0 (.slice sa 0 0)).run Try.prog w.drew = .ok (#[] : Array Value) w.drew := by
      rw [h1]
      exact (slA_nil w.drew sa 0 0).first
    have hg := run_append_grow_src (P := Try.prog) w 35 35 op.type 5 i (.int .u8 0) Try.underlying35 hi h3 sa 0 0 [] hold _ n _ (by rw [h1]; exact hsrc) (by omega) (by omega) (growslice_fits (by omega) (by rw [h2]; omega))
    rw [hg, Nat.zero_add]
    have hge := grownCap_ge w n 0 5
    have hl := h.len
    have hnew := slA_new w.drew L (grownCap w n 0 5 - n) (grownCap w n 0 5) 5 (by rw [hl]; omega)
    rw [hl] at hnew
    exact hK _ _ (k _ _ w.heap.size _ hnew (Below.alloc (below_drewN (Below.refl _ _) 1) (Nat.le_refl _) _) (fun _ => Nat.le_refl _))
def strB (L : List Nat) : ByteArray := strOfNums (L.map fun (n : Nat) => (n : Int))
theorem conv_b (h : SlA w a n c g o L) : (convert 35 9 (.slice a n c)).run Try.prog w = .ok (.string (strB L)) w := by
  by_cases h0 : n = 0
  · subst h0
    have hL : L = [] := List.length_eq_zero_iff.1 h.len
    subst hL
    cases a with
    | none => exact run_convert_bytes_nil w 35 5 Try.underlying35 Try.underlying5 0 c _ Try.underlying9
    | some ad =>
      rw [run_convert_bytes_string w 35 9 5 _ 0 c Try.underlying35 Try.underlying5 Try.underlying9]
      exact run_bytesToString w ad 0 c [] (run_loadCells_list w ad [] (fun j v hj => by cases hj))
  · obtain ⟨e1, e2⟩ := h.addr (by have := h.le; omega)
    subst e1
    refine run_convert_bytes_arg w 35 5 Try.underlying35 Try.underlying5 g o n c _ (by simp [h.len]) (fun i hi => ?_) _ Try.underlying9
    rw [h.cell i hi]
    have hl : i < L.length := by rw [h.len]; exact hi
    simp [hl]
end
/-- A set of cells and all that is new. -/
def Up (R : Nat → Nat → Prop) (w w' : World) : Nat → Nat → Prop := fun k j => R k j ∨ (w.heap.size ≤ k ∧ k < w'.heap.size)
/-- A uart in a block: what it may read lies in R, what it may write in W. -/
structure At (R W : Nat → Nat → Prop) (w : World) (b : Nat) (U : Ur) (sa : Option Addr) (n c g o : Nat) (ta : Option Addr) (m d h p : Nat) : Prop where
  lt : b < w.heap.size
  c0 : w.cell? ⟨b, 0, none⟩ = some (.slice sa n c)
  c1 : w.cell? ⟨b, 1, none⟩ = some (.bool U.lost)
  c2 : w.cell? ⟨b, 2, none⟩ = some (.int .u64 (U.want : Nat))
  c3 : w.cell? ⟨b, 3, none⟩ = some (.int .u8 (U.scr : Nat))
  c4 : w.cell? ⟨b, 4, none⟩ = some (.slice ta m d)
  fz : ∀ j, j < 5 → w.frozen? ⟨b, j, none⟩ = false
  q : SlA w sa n c g o U.q
  s : SlA w ta m d h p U.sent
  ok : OkU U
  rb : ∀ j, R b j
  wb : ∀ j, W b j
  rq : ∀ i, i < c → R g (o + i)
  wq : ∀ i, n ≤ i → i < c → W g (o + i)
  rs : ∀ i, i < d → R h (p + i)
  ws : ∀ i, m ≤ i → i < d → W h (p + i)
  wr : ∀ k j, W k j → R k j
  rlt : ∀ k j, R k j → k < w.heap.size
  qb : 0 < c → g ≠ b
  sb : 0 < d → h ≠ b
  qs : 0 < c → 0 < d → g ≠ h
def IsU (R W : Nat → Nat → Prop) (w : World) (b : Nat) (U : Ur) : Prop := ∃ sa n c g o ta m d h p, At R W w b U sa n c g o ta m d h p
section
variable {R W T R2 W2 : Nat → Nat → Prop} {w w' : World} {b : Nat} {U : Ur} {sa : Option Addr} {n c g o : Nat} {ta : Option Addr} {m d h p : Nat}
theorem At.cells (x : At R W w b U sa n c g o ta m d h p) : ∀ j, j < 5 → (w.cell? ⟨b, j, none⟩).isSome = true := fun j hj => by
  have : j = 0 ∨ j = 1 ∨ j = 2 ∨ j = 3 ∨ j = 4 := by omega
  rcases this with rfl | rfl | rfl | rfl | rfl
  · rw [x.c0]; rfl
  · rw [x.c1]; rfl
  · rw [x.c2]; rfl
  · rw [x.c3]; rfl
  · rw [x.c4]; rfl
theorem At.kept (x : At R W w b U sa n c g o ta m d h p) (hc : Ch T w w') (hn : ∀ k j, T k j → ¬ R k j) : At R W w' b U sa n c g o ta m d h p :=
  have nb : ∀ j, ¬ T b j := fun j ht => hn _ _ ht (x.rb j)
  ⟨Nat.lt_of_lt_of_le x.lt hc.size, (hc.cell b 0 x.lt (nb 0)).trans x.c0, (hc.cell b 1 x.lt (nb 1)).trans x.c1, (hc.cell b 2 x.lt (nb 2)).trans x.c2, (hc.cell b 3 x.lt (nb 3)).trans x.c3, (hc.cell b 4 x.lt (nb 4)).trans x.c4,
    fun j hj => (hc.frozen b j x.lt).trans (x.fz j hj), x.q.kept hc (fun i hi ht => hn _ _ ht (x.rq i (Nat.lt_of_lt_of_le hi x.q.le))), x.s.kept hc (fun i hi ht => hn _ _ ht (x.rs i (Nat.lt_of_lt_of_le hi x.s.le))), x.ok, x.rb, x.wb, x.rq, x.wq, x.rs, x.ws, x.wr,
    fun k j hk => Nat.lt_of_lt_of_le (x.rlt k j hk) hc.size, x.qb, x.sb, x.qs⟩
theorem At.mono (x : At R W w b U sa n c g o ta m d h p) (hR : ∀ k j, R k j → R2 k j) (hW : ∀ k j, W k j → W2 k j) (hWR : ∀ k j, W2 k j → R2 k j) (hlt : ∀ k j, R2 k j → k < w.heap.size) : At R2 W2 w b U sa n c g o ta m d h p :=
  { x with rb := fun j => hR _ _ (x.rb j), wb := fun j => hW _ _ (x.wb j), rq := fun i hi => hR _ _ (x.rq i hi), wq := fun i h1 h2 => hW _ _ (x.wq i h1 h2), rs := fun i hi => hR _ _ (x.rs i hi), ws := fun i h1 h2 => hW _ _ (x.ws i h1 h2), wr := hWR, rlt := hlt }
theorem up_wr (x : At R W w b U sa n c g o ta m d h p) (w1 w2 : World) : ∀ k j, Up W w1 w2 k j → Up R w1 w2 k j := fun k j hk => hk.imp (x.wr k j) id
/-- One cell of its block is written. -/
theorem At.slices (x : At R W w b U sa n c g o ta m d h p) (j : Nat) (v : Value) (hj : j < 5) : SlA (w.setCell ⟨b, j, none⟩ v) sa n c g o U.q ∧ SlA (w.setCell ⟨b, j, none⟩ v) ta m d h p U.sent := by
  have hc : Ch (fun k _ => k = b) w (w.setCell ⟨b, j, none⟩ v) := Ch.set _ _ _ _ _ rfl (x.cells j hj)
  exact ⟨x.q.kept hc (fun i hi e => x.qb (by have := x.q.le; omega) e), x.s.kept hc (fun i hi e => x.sb (by have := x.s.le; omega) e)⟩
theorem cell_ne (w : World) (b i j : Nat) (v : Value) (h : i ≠ j) : (w.setCell ⟨b, i, none⟩ v).cell? ⟨b, j, none⟩ = w.cell? ⟨b, j, none⟩ := World.cell?_setCell_other _ _ _ _ (fun e => by injection e with e1 e2; exact h e2)
theorem cell_eq (w : World) (b i : Nat) (v : Value) (h : (w.cell? ⟨b, i, none⟩).isSome = true) : (w.setCell ⟨b, i, none⟩ v).cell? ⟨b, i, none⟩ = some v := by
  obtain ⟨u, hu⟩ := Option.isSome_iff_exists.1 h
  exact World.cell?_setCell_same _ _ _ hu
theorem At.lost (x : At R W w b U sa n c g o ta m d h p) (v : Bool) : At R W (w.setCell ⟨b, 1, none⟩ (.bool v)) b { U with lost := v } sa n c g o ta m d h p :=
  { x with
    lt := by rw [sz_set]; exact x.lt
    c0 := (cell_ne _ _ _ _ _ (by decide)).trans x.c0
    c1 := cell_eq _ _ _ _ (x.cells 1 (by decide))
    c2 := (cell_ne _ _ _ _ _ (by decide)).trans x.c2
    c3 := (cell_ne _ _ _ _ _ (by decide)).trans x.c3
    c4 := (cell_ne _ _ _ _ _ (by decide)).trans x.c4
    fz := fun j hj => by rw [World.frozen?_setCell]; exact x.fz j hj
    q := (x.slices 1 _ (by decide)).1
    s := (x.slices 1 _ (by decide)).2
    ok := ⟨x.ok.q, x.ok.len, x.ok.want, x.ok.scr⟩
    rlt := fun k j hk => by rw [sz_set]; exact x.rlt k j hk }
theorem At.want (x : At R W w b U sa n c g o ta m d h p) (v : Nat) (hv : v < 2) : At R W (w.setCell ⟨b, 2, none⟩ (.int .u64 (v : Nat))) b { U with want := v } sa n c g o ta m d h p :=
  { x with
    lt := by rw [sz_set]; exact x.lt
    c0 := (cell_ne _ _ _ _ _ (by decide)).trans x.c0
    c1 := (cell_ne _ _ _ _ _ (by decide)).trans x.c1
    c2 := cell_eq _ _ _ _ (x.cells 2 (by decide))
    c3 := (cell_ne _ _ _ _ _ (by decide)).trans x.c3
    c4 := (cell_ne _ _ _ _ _ (by decide)).trans x.c4
    fz := fun j hj => by rw [World.frozen?_setCell]; exact x.fz j hj
    q := (x.slices 2 _ (by decide)).1
    s := (x.slices 2 _ (by decide)).2
    ok := ⟨x.ok.q, x.ok.len, hv, x.ok.scr⟩
    rlt := fun k j hk => by rw [sz_set]; exact x.rlt k j hk }
theorem At.scr (x : At R W w b U sa n c g o ta m d h p) (v : Nat) (hv : v < 256) : At R W (w.setCell ⟨b, 3, none⟩ (.int .u8 (v : Nat))) b { U with scr := v } sa n c g o ta m d h p :=
  { x with
    lt := by rw [sz_set]; exact x.lt
    c0 := (cell_ne _ _ _ _ _ (by decide)).trans x.c0
    c1 := (cell_ne _ _ _ _ _ (by decide)).trans x.c1
    c2 := (cell_ne _ _ _ _ _ (by decide)).trans x.c2
    c3 := cell_eq _ _ _ _ (x.cells 3 (by decide))
    c4 := (cell_ne _ _ _ _ _ (by decide)).trans x.c4
    fz := fun j hj => by rw [World.frozen?_setCell]; exact x.fz j hj
    q := (x.slices 3 _ (by decide)).1
    s := (x.slices 3 _ (by decide)).2
    ok := ⟨x.ok.q, x.ok.len, x.ok.want, hv⟩
    rlt := fun k j hk => by rw [sz_set]; exact x.rlt k j hk }
/-- The queue's front is cut off. -/
theorem At.cut (x : At R W w b U sa (n + 1) c g o ta m d h p) (sa' : Option Addr) (hsa : sa' = if c = 1 then sa else sa.map (·.add 1)) : At R W (w.setCell ⟨b, 0, none⟩ (.slice sa' n (c - 1))) b { U with q := U.q.tail } sa' n (c - 1) g (o + 1) ta m d h p := by
  have hle := x.q.le
  subst hsa
  exact
  { x with
    lt := by rw [sz_set]; exact x.lt
    c0 := cell_eq _ _ _ _ (x.cells 0 (by decide))
    c1 := (cell_ne _ _ _ _ _ (by decide)).trans x.c1
    c2 := (cell_ne _ _ _ _ _ (by decide)).trans x.c2
    c3 := (cell_ne _ _ _ _ _ (by decide)).trans x.c3
    c4 := (cell_ne _ _ _ _ _ (by decide)).trans x.c4
    fz := fun j hj => by rw [World.frozen?_setCell]; exact x.fz j hj
    q := (x.slices 0 _ (by decide)).1.cut
    s := (x.slices 0 _ (by decide)).2
    ok := x.ok.tail
    rq := fun i hi => by rw [show o + 1 + i = o + (i + 1) by omega]; exact x.rq (i + 1) (by omega)
    wq := fun i h1 h2 => by rw [show o + 1 + i = o + (i + 1) by omega]; exact x.wq (i + 1) (by omega) (by omega)
    qb := fun _ => x.qb (by omega)
    qs := fun _ h2 => x.qs (by omega) h2
    rlt := fun k j hk => by rw [sz_set]; exact x.rlt k j hk }
/-- A byte has come into the queue. -/
theorem At.came (x : At R W w b U sa n c g o ta m d h p) {w2 : World} {a' : Option Addr} {n' c' g' o' : Nat} {L' : List Nat} (hc : Ch (Spare g o n c) w w2) (hs : SlA w2 a' n' c' g' o' L') (hn : n ≤ n') (hm : Mv w g o c g' o' c') (hok : OkU { U with q := L' }) :
    At (Up R w w2) (Up W w w2) (w2.setCell ⟨b, 0, none⟩ (.slice a' n' c')) b { U with q := L' } a' n' c' g' o' ta m d h p := by
  have nb : ∀ j, ¬ Spare g o n c b j := fun j ⟨e, i, _, hi, _⟩ => x.qb (by omega) e.symm
  have hs0 : SlA w2 ta m d h p U.sent := x.s.kept hc (fun i hi ⟨e, j, _, hj, _⟩ => x.qs (by omega) (by have := x.s.le; omega) e.symm)
  have hlt : b < w2.heap.size := Nat.lt_of_lt_of_le x.lt hc.size
  have is0 : (w2.cell? ⟨b, 0, none⟩).isSome = true := hc.there b 0 x.lt (x.cells 0 (by decide))
  have hset : Ch (fun k _ => k = b) w2 (w2.setCell ⟨b, 0, none⟩ (.slice a' n' c')) := Ch.set _ _ _ _ _ rfl is0
  have ng : 0 < c' → g' ≠ b := fun h0 => by
    rcases hm with ⟨rfl, -, rfl⟩ | hm
    · exact x.qb h0
    · have := x.lt; omega
  refine ⟨by rw [sz_set]; exact hlt, cell_eq _ _ _ _ is0, (cell_ne _ _ _ _ _ (by decide)).trans ((hc.cell b 1 x.lt (nb 1)).trans x.c1), (cell_ne _ _ _ _ _ (by decide)).trans ((hc.cell b 2 x.lt (nb 2)).trans x.c2), (cell_ne _ _ _ _ _ (by decide)).trans ((hc.cell b 3 x.lt (nb 3)).trans x.c3), (cell_ne _ _ _ _ _ (by decide)).trans ((hc.cell b 4 x.lt (nb 4)).trans x.c4),
    fun j hj => by rw [World.frozen?_setCell]; exact (hc.frozen b j x.lt).trans (x.fz j hj), hs.kept hset (fun i hi e => ng (by have := hs.le; omega) e), hs0.kept hset (fun i hi e => x.sb (by have := x.s.le; omega) e), hok, fun j => .inl (x.rb j), fun j => .inl (x.wb j), fun i hi => ?_, fun i h1 h2 => ?_, fun i hi => .inl (x.rs i hi), fun i h1 h2 => .inl (x.ws i h1 h2), up_wr x _ _, fun k j hk => ?_, ng, x.sb, fun h1 h2 => ?_⟩
  · rcases hm with ⟨rfl, rfl, rfl⟩ | hm
    · exact .inl (x.rq i hi)
    · exact .inr ⟨hm, (hs.addr (by omega)).2⟩
  · rcases hm with ⟨rfl, rfl, rfl⟩ | hm
    · exact .inl (x.wq i (by omega) h2)
    · exact .inr ⟨hm, (hs.addr (by omega)).2⟩
  · rw [sz_set]
    rcases hk with hk | hk
    · exact Nat.lt_of_lt_of_le (x.rlt k j hk) hc.size
    · exact hk.2
  · rcases hm with ⟨rfl, -, rfl⟩ | hm
    · exact x.qs h1 h2
    · have := (x.s.addr h2).2; omega
/-- A byte has gone out. -/
theorem At.went (x : At R W w b U sa n c g o ta m d h p) {w2 : World} {a' : Option Addr} {n' c' g' o' : Nat} {L' : List Nat} (hc : Ch (Spare h p m d) w w2) (hs : SlA w2 a' n' c' g' o' L') (hn : m ≤ n') (hm : Mv w h p d g' o' c') :
    At (Up R w w2) (Up W w w2) (w2.setCell ⟨b, 4, none⟩ (.slice a' n' c')) b { U with sent := L' } sa n c g o a' n' c' g' o' := by
  have nb : ∀ j, ¬ Spare h p m d b j := fun j ⟨e, i, _, hi, _⟩ => x.sb (by omega) e.symm
  have hs0 : SlA w2 sa n c g o U.q := x.q.kept hc (fun i hi ⟨e, j, _, hj, _⟩ => x.qs (by have := x.q.le; omega) (by omega) e)
  have hlt : b < w2.heap.size := Nat.lt_of_lt_of_le x.lt hc.size
  have is0 : (w2.cell? ⟨b, 4, none⟩).isSome = true := hc.there b 4 x.lt (x.cells 4 (by decide))
  have hset : Ch (fun k _ => k = b) w2 (w2.setCell ⟨b, 4, none⟩ (.slice a' n' c')) := Ch.set _ _ _ _ _ rfl is0
  have ng : 0 < c' → g' ≠ b := fun h0 => by
    rcases hm with ⟨rfl, -, rfl⟩ | hm
    · exact x.sb h0
    · have := x.lt; omega
  refine ⟨by rw [sz_set]; exact hlt, (cell_ne _ _ _ _ _ (by decide)).trans ((hc.cell b 0 x.lt (nb 0)).trans x.c0), (cell_ne _ _ _ _ _ (by decide)).trans ((hc.cell b 1 x.lt (nb 1)).trans x.c1), (cell_ne _ _ _ _ _ (by decide)).trans ((hc.cell b 2 x.lt (nb 2)).trans x.c2), (cell_ne _ _ _ _ _ (by decide)).trans ((hc.cell b 3 x.lt (nb 3)).trans x.c3), cell_eq _ _ _ _ is0,
    fun j hj => by rw [World.frozen?_setCell]; exact (hc.frozen b j x.lt).trans (x.fz j hj), hs0.kept hset (fun i hi e => x.qb (by have := x.q.le; omega) e), hs.kept hset (fun i hi e => ng (by have := hs.le; omega) e), ⟨x.ok.q, x.ok.len, x.ok.want, x.ok.scr⟩, fun j => .inl (x.rb j), fun j => .inl (x.wb j), fun i hi => .inl (x.rq i hi), fun i h1 h2 => .inl (x.wq i h1 h2), fun i hi => ?_, fun i h1 h2 => ?_, up_wr x _ _, fun k j hk => ?_, x.qb, ng, fun h1 h2 => ?_⟩
  · rcases hm with ⟨rfl, rfl, rfl⟩ | hm
    · exact .inl (x.rs i hi)
    · exact .inr ⟨hm, (hs.addr (by omega)).2⟩
  · rcases hm with ⟨rfl, rfl, rfl⟩ | hm
    · exact .inl (x.ws i (by omega) h2)
    · exact .inr ⟨hm, (hs.addr (by omega)).2⟩
  · rw [sz_set]
    rcases hk with hk | hk
    · exact Nat.lt_of_lt_of_le (x.rlt k j hk) hc.size
    · exact hk.2
  · rcases hm with ⟨rfl, -, rfl⟩ | hm
    · exact x.qs h1 h2
    · have := (x.q.addr h1).2; omega
theorem IsU.kept (x : IsU R W w b U) (hc : Ch T w w') (hn : ∀ k j, T k j → ¬ R k j) : IsU R W w' b U := by
  obtain ⟨sa, n, c, g, o, ta, m, d, h, p, x⟩ := x
  exact ⟨sa, n, c, g, o, ta, m, d, h, p, x.kept hc hn⟩
theorem IsU.below (x : IsU R W w b U) (hb : Below w.heap.size w w') : IsU R W w' b U := x.kept (Ch.of_below (fun _ _ => False) hb) (fun _ _ h => h.elim)
end
end Go.Proofs.Ytjjmohhkhadadaa
