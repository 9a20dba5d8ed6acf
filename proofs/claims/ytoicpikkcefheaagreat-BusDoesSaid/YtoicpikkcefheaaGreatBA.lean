/- The devices as things: the clint, the plic, the uart; calls upon them. -/
import Derived.Test.YtoicpikkcefheaaGreatG
import Derived.Test.YtoicpikkcefheaaGreatKC
import Derived.Test.YtoicpikkcefheaaGreatPE
import Derived.Test.YtoicpikkcefheaaGreatTC
namespace Go.Proofs.YtoicpikkcefheaaGreat
open Go.ChangeShapes Go.WideShapes Go.ChangeAt Go.RowKit
open M (Fp Dj Cw Up Th Grp GrpAt jn exT)
set_option linter.unusedVariables false
set_option linter.unusedSimpArgs false
set_option maxRecDepth 20000
theorem le_below {n B : Nat} {w w' : World} (hb : Below B w w') (h : n ≤ w.heap.size) : n ≤ w'.heap.size := Nat.le_trans h hb.size
theorem below_step {B B' : Nat} {w w1 w2 : World} (hb : Below B' w1 w2) (h : Below B w w1) (hB : B ≤ B') : Below B w w2 := h.trans (hb.mono hB)
theorem below_drewN {B : Nat} {w w' : World} (h : Below B w w') (n : Nat) : Below B w (w'.drewN n) := ⟨h.os, h.tape, h.output, h.size, h.block⟩
theorem le_drew {n : Nat} {w : World} (h : n ≤ w.heap.size) : n ≤ w.drew.heap.size := h
theorem le_drewN {n k : Nat} {w : World} (h : n ≤ w.heap.size) : n ≤ (w.drewN k).heap.size := h
theorem sz_drewN (w : World) (k : Nat) : (w.drewN k).heap.size = w.heap.size := rfl
theorem sz_drew (w : World) : w.drew.heap.size = w.heap.size := rfl
theorem sz_alloc (w : World) (o : Obj) : (w.alloc o).heap.size = w.heap.size + 1 := by simp
theorem sz_set (w : World) (p : Addr) (u : Value) : (w.setCell p u).heap.size = w.heap.size := by simp [World.setCell]
theorem le_alloc {n : Nat} {w : World} {o : Obj} (h : n ≤ w.heap.size) : n ≤ (w.alloc o).heap.size := by rw [sz_alloc]; omega
theorem le_set {n : Nat} {w : World} {p : Addr} {u : Value} (h : n ≤ w.heap.size) : n ≤ (w.setCell p u).heap.size := by rw [sz_set]; exact h
def RetB (b : Bool) (W : World) (e : Ending) (w' : World) : Prop := e = .returned (.bool b) ∧ Below W.heap.size W w'
theorem retB_mk {a b : Bool} {W w' : World} (h : a = b) (hb : Below W.heap.size W w') : RetB b W (.returned (.bool a)) w' := ⟨by rw [h], hb⟩
abbrev W64 : Nat := 18446744073709551616
/-- What of a thing's own block stays so. -/
def Ownb (b : Nat) (R W : Fp) (w : World) : Prop := (∀ j, W b j) ∧ (∀ k j, W k j → R k j) ∧ ∀ k j, R k j → k < w.heap.size
theorem Ownb.kept {b : Nat} {R W : Fp} {w w' : World} (h : Ownb b R W w) (hs : w.heap.size ≤ w'.heap.size) : Ownb b R W w' := ⟨h.1, h.2.1, fun k j q => Nat.lt_of_lt_of_le (h.2.2 k j q) hs⟩
theorem Ownb.up {b : Nat} {R W : Fp} {w w' : World} (h : Ownb b R W w) (hs : w.heap.size ≤ w'.heap.size) : Ownb b (Up R w w') (Up W w w') w' :=
  ⟨fun j => .inl (h.1 j), fun k j q => q.imp (h.2.1 k j) id, fun k j q => q.elim (fun q => Nat.lt_of_lt_of_le (h.2.2 k j q) hs) (·.2)⟩
theorem Ownb.no {b : Nat} {R W T : Fp} {w : World} (h : Ownb b R W w) (hd : Dj T R) : ∀ j, ¬ T b j := fun j q => hd b j q (h.2.1 b j (h.1 j))
theorem ownb_new {b : Nat} {w : World} (h : b < w.heap.size) : Ownb b (fun k _ => k = b) (fun k _ => k = b) w := ⟨fun _ => rfl, fun _ _ q => q, fun k _ q => by subst q; exact h⟩
/-- A block's fields are as they were. -/
theorem cw_block {T : Fp} {w w' : World} {b : Nat} (hc : Cw T w w') (hb : b < w.heap.size) (hn : ∀ j, ¬ T b j) (o : Nat) : w'.cell? ⟨b, o, none⟩ = w.cell? ⟨b, o, none⟩ ∧ w'.frozen? ⟨b, o, none⟩ = w.frozen? ⟨b, o, none⟩ := ⟨hc.cell b o hb (hn o), hc.frozen b o hb (hn o)⟩
def eC (b s a t : Nat) : Th where
  P R W w := Ownb b R W w ∧ K.IsC w b s a t ∧ s < 2 ∧ a < W64 ∧ t < W64
  kept := fun ⟨h1, h2, h3⟩ hc hd => ⟨h1.kept hc.size, by
    obtain ⟨h0, c0, c1, c2, f0, f1, f2⟩ := h2
    have q := cw_block hc h0 (h1.no hd)
    exact ⟨Nat.lt_of_lt_of_le h0 hc.size, (q 0).1.trans c0, (q 1).1.trans c1, (q 2).1.trans c2, (q 0).2.trans f0, (q 1).2.trans f1, (q 2).2.trans f2⟩, h3⟩
  wr h := h.1.2.1
  rlt h := h.1.2.2
def eP (b : Nat) (S : P.St) : Th where
  P R W w := Ownb b R W w ∧ P.IsP w b S ∧ P.OkS S
  kept := fun ⟨h1, h2, h3⟩ hc hd => ⟨h1.kept hc.size, by
    obtain ⟨h0, hh⟩ := h2
    have q := cw_block hc h0 (h1.no hd)
    exact ⟨Nat.lt_of_lt_of_le h0 hc.size, fun o ho => ⟨(q o).1.trans (hh o ho).1, (q o).2.trans (hh o ho).2⟩⟩, h3⟩
  wr h := h.1.2.1
  rlt h := h.1.2.2
theorem at_kept {R W V : Fp} {w w' : World} {b : Nat} {U : T.Ur} {sa : Option Addr} {n c g o : Nat} {ta : Option Addr} {m d h p : Nat} (x : T.At R W w b U sa n c g o ta m d h p) (hc : Cw V w w') (hd : Dj V R) : T.At R W w' b U sa n c g o ta m d h p :=
  have nb : ∀ j, ¬ V b j := fun j q => hd b j q (x.rb j)
  have q := cw_block hc x.lt nb
  have sl : ∀ {a : Option Addr} {n c g o : Nat} {L : List Nat}, T.SlA w a n c g o L → (∀ i, i < c → ¬ V g (o + i)) → T.SlA w' a n c g o L := fun h hn =>
    ⟨h.len, h.le, fun h0 => ⟨(h.addr h0).1, Nat.lt_of_lt_of_le (h.addr h0).2 hc.size⟩,
      fun i hi => by rw [hc.cell _ _ (h.addr (by have := h.le; omega)).2 (hn i (by have := h.le; omega))]; exact h.cell i hi,
      fun i hi => ⟨by rw [hc.cell _ _ (h.addr (by omega)).2 (hn i hi)]; exact (h.there i hi).1, by rw [hc.frozen _ _ (h.addr (by omega)).2 (hn i hi)]; exact (h.there i hi).2⟩⟩
  { x with
    lt := Nat.lt_of_lt_of_le x.lt hc.size
    c0 := (q 0).1.trans x.c0, c1 := (q 1).1.trans x.c1, c2 := (q 2).1.trans x.c2, c3 := (q 3).1.trans x.c3, c4 := (q 4).1.trans x.c4
    fz := fun j hj => (q j).2.trans (x.fz j hj)
    q := sl x.q (fun i hi ht => hd _ _ ht (x.rq i hi))
    s := sl x.s (fun i hi ht => hd _ _ ht (x.rs i hi))
    rlt := fun k j h => Nat.lt_of_lt_of_le (x.rlt k j h) hc.size }
def eU (b : Nat) (U : T.Ur) : Th where
  P R W w := T.IsU R W w b U
  kept := fun ⟨sa, n, c, g, o, ta, m, d, h, p, x⟩ hc hd => ⟨sa, n, c, g, o, ta, m, d, h, p, at_kept x hc hd⟩
  wr := fun ⟨sa, n, c, g, o, ta, m, d, h, p, x⟩ => x.wr
  rlt := fun ⟨sa, n, c, g, o, ta, m, d, h, p, x⟩ => x.rlt
theorem ch_cw {V : Fp} {w w' : World} (h : T.Ch V w w') : Cw V w w' := ⟨h.os, h.tape, h.output, h.size, h.block, h.cell, fun k o hk _ => h.frozen k o hk⟩
/-- A call upon a thing: what it hands back, and what of the thing it leaves. -/
def Upon (v : Value) (E : Th) (R W : Fp) (w : World) (e : Ending) (w' : World) : Prop := e = .returned v ∧ E.P (Up R w w') (Up W w w') w' ∧ Cw W w w'
section
variable {R W : Fp} {w : World} {b s a t v : Nat} {S : P.St} {U : T.Ur}
theorem eC_up {w' : World} {s' a' t' : Nat} (q : (eC b s a t).P R W w) (h1 : K.IsC w' b s' a' t') (h2 : w.grownBy w' (some b)) (h3 : s' < 2 ∧ a' < W64 ∧ t' < W64) : (eC b s' a' t').P (Up R w w') (Up W w w') w' ∧ Cw W w w' :=
  ⟨⟨q.1.up h2.size, h1, h3⟩, Cw.of_grown h2 q.1.1⟩
theorem eP_up {w' : World} {S' : P.St} (q : (eP b S).P R W w) (h1 : P.IsP w' b S') (h2 : w.grownBy w' (some b)) (h3 : P.OkS S') : (eP b S').P (Up R w w') (Up W w w') w' ∧ Cw W w w' :=
  ⟨⟨q.1.up h2.size, h1, h3⟩, Cw.of_grown h2 q.1.1⟩
theorem rdK_lt (k s a t : Nat) (hs : s < 2) (ha : a < W64) (ht : t < W64) : K.rdK k s a t < W64 := by
  unfold K.rdK W64 at *
  split; · omega
  split; · omega
  split; · omega
  split; · omega
  split; · omega
  split; · omega
  split <;> omega
theorem wrS_lt (k s v : Nat) (hs : s < 2) : K.wrS k s v < 2 := by unfold K.wrS; split <;> omega
theorem wrA_lt (k a v : Nat) (ha : a < W64) (hv : v < W64) : K.wrA k a v < W64 := by
  unfold K.wrA; split; exact hv; split; (unfold K.loW W64 at *; omega); split; (unfold K.hiW W64 at *; omega); exact ha
theorem wrT_lt (k a v : Nat) (ha : a < W64) (hv : v < W64) : K.wrT k a v < W64 := by
  unfold K.wrT; split; exact hv; split; (unfold K.loW W64 at *; omega); split; (unfold K.hiW W64 at *; omega); exact ha
theorem readC (q : (eC b s a t).P R W w) (x : Nat) (z : Int) (hx : x < W64) (hz : (Lit.int .i64 z).wf = true) : Calls Tryz.prog 119 #[.pointer (some ⟨b, 0, none⟩), .int .u64 x, .int .i64 z] w (Upon (.tuple #[.int .u64 (K.rdK (K.kd x z) s a t : Nat), .bool (decide (K.kd x z ≠ 0))]) (eC b s a t) R W w) := by
  refine (K.read_c w b s a t q.2.1 q.2.2.1 q.2.2.2.1 q.2.2.2.2 x z hx hz).mono ?_
  rintro e w' ⟨rfl, hb⟩
  exact ⟨rfl, eC_up q (q.2.1.below hb) (K.grown_any (K.grown_below hb)) q.2.2⟩
theorem writeC (q : (eC b s a t).P R W w) (x : Nat) (z : Int) (hx : x < W64) (hz : (Lit.int .i64 z).wf = true) (hv : v < W64) : Calls Tryz.prog 120 #[.pointer (some ⟨b, 0, none⟩), .int .u64 x, .int .i64 z, .int .u64 v] w (Upon (.bool (decide (K.kd x z ≠ 0))) (eC b (K.wrS (K.kd x z) s v) (K.wrA (K.kd x z) a v) (K.wrT (K.kd x z) t v)) R W w) := by
  refine (K.write_c w b s a t q.2.1 q.2.2.1 q.2.2.2.1 q.2.2.2.2 v hv x z hx hz).mono ?_
  rintro e w' ⟨rfl, h1, h2⟩
  exact ⟨rfl, eC_up q h1 h2 ⟨wrS_lt _ _ _ q.2.2.1, wrA_lt _ _ _ q.2.2.2.1 hv, wrT_lt _ _ _ q.2.2.2.2 hv⟩⟩
theorem tickC (q : (eC b s a t).P R W w) : Calls Tryz.prog 54 #[.pointer (some ⟨b, 0, none⟩)] w (Upon (.tuple #[]) (eC b s a ((t + 1) % W64)) R W w) := by
  refine (K.tick_c w b s a t q.2.1 q.2.2.2.2).mono ?_
  rintro e w' ⟨rfl, h1, h2⟩
  exact ⟨rfl, eC_up q h1 h2 ⟨q.2.2.1, q.2.2.2.1, Nat.mod_lt _ (by decide)⟩⟩
theorem readP (q : (eP b S).P R W w) (x : Nat) (z : Int) : Calls Tryz.prog 122 #[.pointer (some ⟨b, 0, none⟩), .int .u64 x, .int .i64 z] w (Upon (.tuple #[.int .u64 (P.valP (P.pk x z) S : Nat), .bool (decide (P.pk x z ≠ 0))]) (eP b (P.nextP (P.pk x z) S)) R W w) := by
  refine (P.read_p b x z S w (Lib.hid q.2.1) (Lib.hid q.2.2)).mono ?_
  rintro e w' ⟨rfl, h1, h2⟩
  exact ⟨rfl, eP_up q h1 h2 (q.2.2.next _)⟩
theorem writeP (q : (eP b S).P R W w) (x : Nat) (z : Int) (hv : v < W64) : Calls Tryz.prog 123 #[.pointer (some ⟨b, 0, none⟩), .int .u64 x, .int .i64 z, .int .u64 v] w (Upon (.bool (decide (P.pk x z ≠ 0))) (eP b (P.wrP (P.pk x z) S v)) R W w) := by
  refine (P.write_p b x v z S w (Lib.hid q.2.1) (Lib.hid q.2.2) (Lib.hid hv)).mono ?_
  rintro e w' ⟨rfl, h1, h2⟩
  exact ⟨rfl, eP_up q h1 h2 (q.2.2.wr _ _)⟩
theorem lineP (q : (eP b S).P R W w) (n : Nat) (hn : 1 ≤ n ∧ n < 9) (up : Bool) : Calls Tryz.prog 91 #[.pointer (some ⟨b, 0, none⟩), .int .i64 n, .bool up] w (Upon (.bool true) (eP b (P.comeF (S.setUp n up) n)) R W w) := by
  refine (P.line_c b n up S w (Lib.hid q.2.1) (Lib.hid hn)).mono ?_
  rintro e w' ⟨rfl, h1, h2⟩
  exact ⟨rfl, eP_up q h1 h2 ((q.2.2.setUp n up).come n)⟩
theorem readU (q : (eU b U).P R W w) (x : Nat) (z : Int) : Calls Tryz.prog 128 #[.pointer (some ⟨b, 0, none⟩), .int .u64 x, .int .i64 z] w (Upon (.tuple #[.int .u64 (T.valK (T.kd x z) U : Nat), .bool (T.okK (T.kd x z))]) (eU b (T.nextK (T.kd x z) U)) R W w) :=
  (T.read_c R W b x z U w (Lib.hid q)).mono fun e w' h => ⟨h.1, h.2.1, ch_cw h.2.2⟩
theorem writeU (q : (eU b U).P R W w) (x : Nat) (z : Int) (hv : v < W64) (hn : U.sent.length < 70368744177664) : Calls Tryz.prog 129 #[.pointer (some ⟨b, 0, none⟩), .int .u64 x, .int .i64 z, .int .u64 v] w (Upon (.bool (T.okK (T.kd x z))) (eU b (T.wrK (T.kd x z) U v)) R W w) :=
  (T.write_c R W b x v z U w (Lib.hid q) (Lib.hid hv) (Lib.hid hn)).mono fun e w' h => ⟨h.1, h.2.1, ch_cw h.2.2⟩
theorem giveU (q : (eU b U).P R W w) (x : Nat) (hx : x < 256) : Calls Tryz.prog 90 #[.pointer (some ⟨b, 0, none⟩), .int .u8 x] w (Upon (.tuple #[]) (eU b (T.giveF U x)) R W w) :=
  (T.give_c R W b x U w (Lib.hid q) (Lib.hid hx)).mono fun e w' h => ⟨h.1, h.2.1, ch_cw h.2.2⟩
theorem upU (q : (eU b U).P R W w) : Calls Tryz.prog 97 #[.pointer (some ⟨b, 0, none⟩)] w (fun e w' => e = .returned (.bool (T.upF U)) ∧ w' = w) := T.up_c R W b U w (Lib.hid q)
theorem okU (q : (eU b U).P R W w) : T.OkU U := by
  obtain ⟨sa, n, c, g, o, ta, m, d, h, p, x⟩ := q
  exact x.ok
end
/-- The devices' pointers, and whether the inputs have the first line up: four cells of a block. -/
def eDv (b o c p u : Nat) (one : Bool) : Th where
  P R W w := (∀ j, j < 4 → W b (o + j)) ∧ (∀ k j, W k j → R k j) ∧ (∀ k j, R k j → k < w.heap.size) ∧ b < w.heap.size ∧
    w.cell? ⟨b, o, none⟩ = some (.pointer (some ⟨c, 0, none⟩)) ∧ w.cell? ⟨b, o + 1, none⟩ = some (.pointer (some ⟨p, 0, none⟩)) ∧ w.cell? ⟨b, o + 2, none⟩ = some (.pointer (some ⟨u, 0, none⟩)) ∧ w.cell? ⟨b, o + 3, none⟩ = some (.bool one) ∧
    w.frozen? ⟨b, o, none⟩ = false ∧ w.frozen? ⟨b, o + 1, none⟩ = false ∧ w.frozen? ⟨b, o + 2, none⟩ = false ∧ w.frozen? ⟨b, o + 3, none⟩ = false
  kept := fun ⟨h1, h2, h3, h4, c0, c1, c2, c3, f0, f1, f2, f3⟩ hc hd => by
    have n : ∀ j, j < 4 → ¬ _ := fun j hj q => hd b (o + j) q (h2 _ _ (h1 j hj))
    exact ⟨h1, h2, fun k j q => Nat.lt_of_lt_of_le (h3 k j q) hc.size, Nat.lt_of_lt_of_le h4 hc.size,
      (hc.cell b o h4 (n 0 (by decide))).trans c0, (hc.cell b (o + 1) h4 (n 1 (by decide))).trans c1, (hc.cell b (o + 2) h4 (n 2 (by decide))).trans c2, (hc.cell b (o + 3) h4 (n 3 (by decide))).trans c3,
      (hc.frozen b o h4 (n 0 (by decide))).trans f0, (hc.frozen b (o + 1) h4 (n 1 (by decide))).trans f1, (hc.frozen b (o + 2) h4 (n 2 (by decide))).trans f2, (hc.frozen b (o + 3) h4 (n 3 (by decide))).trans f3⟩
  wr h := h.2.1
  rlt h := h.2.2.1
/-- What the devices are. -/
structure Dv where
  s : Nat
  a : Nat
  t : Nat
  S : P.St
  U : T.Ur
  one : Bool
def Dv0 : Dv := ⟨0, 18446744073709551615, 0, P.S0, T.U0, false⟩
/-- The devices, side by side. -/
abbrev dl (b o c p u : Nat) (D : Dv) : List Th := [eDv b o c p u D.one, eC c D.s D.a D.t, eP p D.S, eU u D.U]
def eDs (b o c p u : Nat) (D : Dv) : Th := jn (dl b o c p u D)
/-- The first line is where the inputs and the uart have it. -/
def Dv.fol (D : Dv) : Dv := { D with S := P.comeF (D.S.setUp 1 (D.one || T.upF D.U)) 1 }
end Go.Proofs.YtoicpikkcefheaaGreat
