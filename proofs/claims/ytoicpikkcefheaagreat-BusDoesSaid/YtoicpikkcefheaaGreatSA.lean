/- The document's bus: its parts as things; calls upon them. -/
import Derived.Test.YtoicpikkcefheaaGreatBM
import Derived.Test.YtoicpikkcefheaaGreatRH
import Derived.Test.YtoicpikkcefheaaGreatRI
import Derived.Test.YtoicpikkcefheaaGreatRK
import Derived.Test.YtoicpikkcefheaaGreatTF
namespace Go.Proofs.YtoicpikkcefheaaGreat
open Go.ChangeShapes Go.WideShapes Go.ChangeAt Go.RowKit
open M (Fp Dj Cw Up Th Grp GrpAt jn exT)
set_option linter.unusedVariables false
set_option linter.unusedSimpArgs false
set_option maxRecDepth 20000
/-- The document's plic. -/
def eZ (b : Nat) (S : P.St) : Th where
  P R W w := (∀ k j, W k j → R k j) ∧ (∀ k j, R k j → k < w.heap.size) ∧ ∃ e p t ce cp ct u v s, (∀ k j, P.own4 b e p t k j → W k j) ∧ P.IsRP w b e p t ce cp ct u v s S
  kept := fun ⟨h1, h2, e, p, t, ce, cp, ct, u, v, s, h3, h4⟩ hc hd => ⟨h1, fun k j q => Nat.lt_of_lt_of_le (h2 k j q) hc.size, e, p, t, ce, cp, ct, u, v, s, h3, { h4 with
    raw := h4.raw.same hc.size (fun k hk o => ⟨hc.cell k o (h2 k o (h1 k o (h3 k o hk))) (fun q => hd k o q (h1 _ _ (h3 k o hk))), hc.frozen k o (h2 k o (h1 k o (h3 k o hk))) (fun q => hd k o q (h1 _ _ (h3 k o hk)))⟩) }⟩
  wr h := h.1
  rlt h := h.2.1
theorem af_kept {R V : Fp} {N : Nat} {w w' : World} {b : Nat} {U : T.Ur} {K : List Nat} {r : Nat} {sa : Option Addr} {n c g o : Nat} {ta : Option Addr} {m d h p : Nat} (x : T.Af R N w b U K r sa n c g o ta m d h p) (hc : Cw V w w') (hd : Dj V R) : T.Af R N w' b U K r sa n c g o ta m d h p :=
  have nb : ∀ j, ¬ V b j := fun j q => hd b j q (x.rb j)
  have q := cw_block hc x.lt nb
  have sl : ∀ {a : Option Addr} {n c g o : Nat} {L : List Nat}, T.SlA w a n c g o L → (∀ i, i < c → ¬ V g (o + i)) → T.SlA w' a n c g o L := fun h hn =>
    ⟨h.len, h.le, fun h0 => ⟨(h.addr h0).1, Nat.lt_of_lt_of_le (h.addr h0).2 hc.size⟩,
      fun i hi => by rw [hc.cell _ _ (h.addr (by have := h.le; omega)).2 (hn i (by have := h.le; omega))]; exact h.cell i hi,
      fun i hi => ⟨by rw [hc.cell _ _ (h.addr (by omega)).2 (hn i hi)]; exact (h.there i hi).1, by rw [hc.frozen _ _ (h.addr (by omega)).2 (hn i hi)]; exact (h.there i hi).2⟩⟩
  { x with
    lt := Nat.lt_of_lt_of_le x.lt hc.size
    c0 := (q 0).1.trans x.c0, c1 := (q 1).1.trans x.c1, c2 := (q 2).1.trans x.c2, c3 := (q 3).1.trans x.c3, c4 := (q 4).1.trans x.c4, c5 := (q 5).1.trans x.c5
    fz := fun j hj => (q j).2.trans (x.fz j hj)
    q := sl x.q (fun i hi ht => hd _ _ ht (x.rq i hi))
    s := sl x.s (fun i hi ht => hd _ _ ht (x.rs i hi))
    rlt := fun k j h => Nat.lt_of_lt_of_le (x.rlt k j h) hc.size }
/-- The document's uart, into which no more than N bytes have come. -/
def eV (b N : Nat) (U : T.Ur) : Th where
  P R W w := R = W ∧ T.IsR W N w b U
  kept := fun ⟨e, K, r, sa, n, c, g, o, ta, m, d, h, p, x⟩ hc hd => by subst e; exact ⟨rfl, K, r, sa, n, c, g, o, ta, m, d, h, p, af_kept x hc hd⟩
  wr h := by rw [h.1]; exact fun _ _ h => h
  rlt h := by
    obtain ⟨e, K, r, sa, n, c, g, o, ta, m, d, h, p, x⟩ := h
    subst e
    exact x.rlt
/-- The document's clint holds its numbers in another order. -/
abbrev eK (b s a t : Nat) : Th := eC b s t a
section
variable {R W : Fp} {w : World} {b s a t v N : Nat} {S : P.St} {U : T.Ur} {r : Nat} {F : Nat → Nat}
theorem readK (q : (eK b s a t).P R W w) (x : Nat) (z : Int) : Calls Tryz.prog 84 #[.pointer (some ⟨b, 0, none⟩), .int .u64 x, .int .i64 z] w (Upon (.tuple #[.int .u64 (K.rdK (K.kd x z) s a t : Nat), .bool (decide (K.kd x z ≠ 0))]) (eK b s a t) R W w) := by
  refine (K.readr_c w b s a t q.2.1 (Lib.hid q.2.2.2.2) (Lib.hid q.2.2.2.1) x z).mono ?_
  rintro e w' ⟨rfl, hb⟩
  exact ⟨rfl, eC_up q (q.2.1.below hb) (K.grown_any (K.grown_below hb)) q.2.2⟩
theorem writeK (q : (eK b s a t).P R W w) (x : Nat) (z : Int) (hv : v < W64) : Calls Tryz.prog 39 #[.pointer (some ⟨b, 0, none⟩), .int .u64 x, .int .i64 z, .int .u64 v] w (Upon (.bool (decide (K.kd x z ≠ 0))) (eK b (K.wrS (K.kd x z) s v) (K.wrA (K.kd x z) a v) (K.wrT (K.kd x z) t v)) R W w) := by
  refine (K.writer_c w b s a t q.2.1 q.2.2.1 (Lib.hid q.2.2.2.2) (Lib.hid q.2.2.2.1) v (Lib.hid hv) x z).mono ?_
  rintro e w' ⟨rfl, h1, h2⟩
  exact ⟨rfl, eC_up q h1 h2 ⟨wrS_lt _ _ _ q.2.2.1, wrT_lt _ _ _ q.2.2.2.1 hv, wrA_lt _ _ _ q.2.2.2.2 hv⟩⟩
theorem tickK (q : (eK b s a t).P R W w) : Calls Tryz.prog 57 #[.pointer (some ⟨b, 0, none⟩)] w (Upon (.tuple #[]) (eK b s a ((t + 1) % W64)) R W w) := by
  refine (K.tickr_c w b s a t q.2.1 (Lib.hid q.2.2.2.1)).mono ?_
  rintro e w' ⟨rfl, h1, h2⟩
  exact ⟨rfl, eC_up q h1 h2 ⟨q.2.2.1, Nat.mod_lt _ (by decide), q.2.2.2.2⟩⟩
theorem upon_z {e p t ce cp ct : Nat} {val : Value} {S' : P.St} {f : FuncId} {args : Array Value} (h1 : ∀ k j, W k j → R k j) (h2 : ∀ k j, R k j → k < w.heap.size) (h3 : ∀ k j, P.own4 b e p t k j → W k j) (h : Calls Tryz.prog f args w (P.RetZ val b e p t ce cp ct S' w)) : Calls Tryz.prog f args w (Upon val (eZ b S') R W w) := by
  refine h.mono ?_
  rintro e0 w' ⟨rfl, ⟨u, v, s, h⟩, hc⟩
  exact ⟨rfl, ⟨fun k j q => q.imp (h1 k j) id, fun k j q => q.elim (fun q => Nat.lt_of_lt_of_le (h2 k j q) hc.size) (·.2), e, p, t, ce, cp, ct, u, v, s, fun k j q => .inl (h3 k j q), h⟩, hc.mono h3⟩
theorem readZ (q : (eZ b S).P R W w) (x : Nat) (z : Int) : Calls Tryz.prog 85 #[.pointer (some ⟨b, 0, none⟩), .int .u64 x, .int .i64 z] w (Upon (.tuple #[.int .u64 (P.valP (P.pk x z) S : Nat), .bool (decide (P.pk x z ≠ 0))]) (eZ b (P.nextP (P.pk x z) S)) R W w) := by
  obtain ⟨h1, h2, e, p, t, ce, cp, ct, u, v, s, h3, h4⟩ := q
  exact upon_z h1 h2 h3 (P.read_r b e p t ce cp ct u v s S w (Lib.hid h4) x z)
theorem writeZ (q : (eZ b S).P R W w) (x : Nat) (z : Int) (hv : v < W64) : Calls Tryz.prog 40 #[.pointer (some ⟨b, 0, none⟩), .int .u64 x, .int .i64 z, .int .u64 v] w (Upon (.bool (decide (P.pk x z ≠ 0))) (eZ b (P.wrP (P.pk x z) S v)) R W w) := by
  obtain ⟨h1, h2, e, p, t, ce, cp, ct, u, v', s, h3, h4⟩ := q
  exact upon_z h1 h2 h3 (P.write_r b e p t ce cp ct u v' s S w (Lib.hid h4) x z v (Lib.hid hv))
theorem lineZ (q : (eZ b S).P R W w) (n : Nat) (hn : 1 ≤ n ∧ n < 9) (up : Bool) : Calls Tryz.prog 56 #[.pointer (some ⟨b, 0, none⟩), .int .i64 n, .bool up] w (Upon (.bool true) (eZ b (P.comeF (S.setUp n up) n)) R W w) := by
  obtain ⟨h1, h2, e, p, t, ce, cp, ct, u, v, s, h3, h4⟩ := q
  exact upon_z h1 h2 h3 (P.line_r b e p t ce cp ct u v s n up S w (Lib.hid h4) hn)
theorem pendZ (q : (eZ b S).P R W w) : Calls Tryz.prog 93 #[.pointer (some ⟨b, 0, none⟩)] w (P.RetU (P.pendF S) w) := by
  obtain ⟨h1, h2, e, p, t, ce, cp, ct, u, v, s, h3, h4⟩ := q
  exact P.pend_r b e p t ce cp ct u v s S w (Lib.hid h4)
theorem invZ (q : (eZ b S).P R W w) : P.InvS S := by
  obtain ⟨h1, h2, e, p, t, ce, cp, ct, u, v, s, h3, h4⟩ := q
  exact h4.inv
theorem readV (q : (eV b N U).P R W w) (hN : N < 70368744177664) (x : Nat) (z : Int) : Calls Tryz.prog 86 #[.pointer (some ⟨b, 0, none⟩), .int .u64 x, .int .i64 z] w (Upon (.tuple #[.int .u64 (T.valK (T.kd x z) U : Nat), .bool (T.okK (T.kd x z))]) (eV b N (T.nextK (T.kd x z) U)) R W w) := by
  obtain ⟨e, h⟩ := q; subst e
  exact (T.readr_c R N b x z U w (Lib.hid h) (Lib.hid hN)).mono fun e w' h => ⟨h.1, ⟨rfl, h.2.1⟩, ch_cw h.2.2⟩
theorem writeV (q : (eV b N U).P R W w) (x : Nat) (z : Int) (hv : v < W64) (hn : U.sent.length < 70368744177664) : Calls Tryz.prog 41 #[.pointer (some ⟨b, 0, none⟩), .int .u64 x, .int .i64 z, .int .u64 v] w (Upon (.bool (T.okK (T.kd x z))) (eV b N (T.wrK (T.kd x z) U v)) R W w) := by
  obtain ⟨e, h⟩ := q; subst e
  exact (T.writer_c R N b x v z U w (Lib.hid h) (Lib.hid hv) (Lib.hid hn)).mono fun e w' h => ⟨h.1, ⟨rfl, h.2.1⟩, ch_cw h.2.2⟩
theorem giveV (q : (eV b N U).P R W w) (hN : N < 70368744177664) (x : Nat) (hx : x < 256) : Calls Tryz.prog 55 #[.pointer (some ⟨b, 0, none⟩), .int .u8 x] w (Upon (.tuple #[]) (eV b (N + 1) (T.giveF U x)) R W w) := by
  obtain ⟨e, h⟩ := q; subst e
  exact (T.giver_c R N b x U w (Lib.hid h) (Lib.hid hx) (Lib.hid hN)).mono fun e w' h => ⟨h.1, ⟨rfl, h.2.1⟩, ch_cw h.2.2⟩
theorem upV (q : (eV b N U).P R W w) : Calls Tryz.prog 81 #[.pointer (some ⟨b, 0, none⟩)] w (RetB (T.upF U) w) := (T.upr_c W N b U w (Lib.hid q.2)).mono fun e w' h => h
theorem sentV (q : (eV b N U).P R W w) (hn : U.sent.length < 70368744177664) : Calls Tryz.prog 94 #[.pointer (some ⟨b, 0, none⟩)] w (T.RetSl U.sent w) := T.sentr_c W N b U w (Lib.hid q.2) (Lib.hid hn)
theorem moreV (q : (eV b N U).P R W w) {N2 : Nat} (h : N ≤ N2) : (eV b N2 U).P R W w := by
  obtain ⟨e, K, r, sa, n, c, g, o, ta, m, d, h', p, x⟩ := q
  exact ⟨e, K, r, sa, n, c, g, o, ta, m, d, h', p, x.mono h (fun _ _ h => h) x.rlt⟩
end
end Go.Proofs.YtoicpikkcefheaaGreat
