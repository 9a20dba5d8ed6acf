/- Taken from other texts: what is needed of them. -/
import Derived.Test.YtoicpikkcefheaaGreatMA
import Derived.Test.YtoicpikkcefheaaGreatMB
import Derived.Test.YtoicpikkcefheaaGreatMC
import Derived.Test.YtoicpikkcefheaaGreatMD
import Derived.Test.YtoicpikkcefheaaGreatME
namespace Go.Proofs.YtoicpikkcefheaaGreat.M
set_option linter.unusedVariables false
set_option linter.unusedSimpArgs false
set_option maxRecDepth 20000
open Go.ChangeShapes Go.WideShapes Go.ChangeAt Go.RowKit
end Go.Proofs.YtoicpikkcefheaaGreat.M
namespace Go.Proofs.YtoicpikkcefheaaGreat.M
set_option linter.unusedVariables false
set_option linter.unusedSimpArgs false
set_option maxRecDepth 20000
open Go.ChangeShapes Go.WideShapes Go.ChangeAt Go.RowKit
theorem run_all2 {w : World} {a : Option Addr} {n c : Nat} {L : List Nat} (hl : L.length = n) (hsrc : Src Tryz.prog 1 22 (.slice a n c) n (cel8 L) w) (sa : Option Addr) (ty : TypeId) (hn : n ≤ 140737488355328) :
    ∃ a' c' g' w', (Builtin.append_ #[22, 22] ty #[.slice sa 0 0, .slice a n c]).run Tryz.prog w = .ok (.slice a' n c') w' ∧ SlA w' a' n c' g' 0 L ∧ Below w.heap.size w w' ∧ (0 < c' → w.heap.size ≤ g') := by
  obtain ⟨i, hi, h1, h2, h3⟩ := inf8'
  by_cases h0 : n = 0
  · subst h0
    have hL : L = [] := List.length_eq_zero_iff.1 hl
    subst hL
    exact ⟨sa, 0, 0, w, run_append_nothing (P := Tryz.prog) w 22 22 ty 5 i Tryz.underlying22 hi sa 0 0 (Nat.le_refl _) _ (by rw [h1]; exact hsrc), slA_nil _ _ _ _, Below.refl _ _, fun h => absurd h (Nat.lt_irrefl _)⟩
  · have hold : (Builtin.firstCells i.size 0 (.slice sa 0 0)).run Tryz.prog w.drew = .ok (#[] : Array Value) w.drew := by
      rw [h1]
      exact (slA_nil w.drew sa 0 0).first
    have hg := run_append_grow_src (P := Tryz.prog) w 22 22 ty 5 i (.int .u8 0) Tryz.underlying22 hi h3 sa 0 0 [] hold _ n _ (by rw [h1]; exact hsrc) (by omega) (by omega) (growslice_fits (by omega) (by rw [h2]; omega))
    rw [Nat.zero_add] at hg
    have hge := grownCap_ge w n 0 5
    have hnew := slA_new w.drew L (grownCap w n 0 5 - n) (grownCap w n 0 5) 5 (by rw [hl]; omega)
    rw [hl] at hnew
    exact ⟨_, _, _, _, hg, hnew, Below.alloc (below_drewN (Below.refl _ _) 1) (Nat.le_refl _) _, fun _ => Nat.le_refl _⟩
theorem step_all2 {w : World} {a : Option Addr} {n c : Nat} {L : List Nat} {ops : Array Oper} {op : Oper} {A : Act} {K : Act → World → Prop} {Q : Exit → Act → World → Prop} {E : Prop} (hgd : op.guard = none) (s x : Operand)
    (ho : op.op = .call { callee := .builtin .append, args := #[s, x], argTypes := #[22, 22] })
    (hl : L.length = n) (hsrc : Src Tryz.prog 1 22 (.slice a n c) n (cel8 L) w) (sa : Option Addr) (hs : A.eval s = .slice sa 0 0) (hx : A.eval x = .slice a n c) (hn : n ≤ 140737488355328)
    (k : ∀ a' c' g' w', SlA w' a' n c' g' 0 L → Below w.heap.size w w' → (0 < c' → w.heap.size ≤ g') → K (A.put op.dst (.slice a' n c')) w') :
    if Region.wanted op (yielded ops A.tmps) = true then Oper.wp Tryz.prog op A w K Q else E := by
  have hw : Region.wanted op (yielded ops A.tmps) = true := by simp [Region.wanted, hgd]
  rw [if_pos hw]
  obtain ⟨a', c', g', w', hrun, h1, h2, h3⟩ := run_all2 hl hsrc sa op.type hn
  unfold Oper.wp
  simp [execOp, ho, resolve, invoke, builtin, hs, hx, hrun, Result.andThen]
  exact k a' c' g' w' h1 h2 h3
def pageLs (f : Nat → Nat) : List Nat := (List.range 4096).map f
theorem pageLs_len (f : Nat → Nat) : (pageLs f).length = 4096 := by simp [pageLs]
theorem pageLs_get (f : Nat → Nat) (i : Nat) (hi : i < 4096) : (pageLs f).getD i 0 = f i := by simp [pageLs, hi]
theorem page_first {w : World} {g c : Nat} {f : Nat → Nat} (h : PageIs w g f) : (Builtin.firstCells 1 4096 (.slice (some ⟨g, 0, none⟩) 4096 c)).run Tryz.prog w = .ok (cel8 (pageLs f)).toArray w := by
  refine run_firstCells_some w 1 4096 _ 4096 c (cel8 (pageLs f)) (by simp [cel8, pageLs_len]) (fun j v hj => ?_)
  have hj2 : j < (pageLs f).length := by
    have := (List.getElem?_eq_some_iff.1 hj).1
    simpa [cel8] using this
  rw [cel8_get _ j hj2, pageLs_get f j (by rw [pageLs_len] at hj2; exact hj2)] at hj
  rw [pageLs_len] at hj2
  rw [Go.WideShapes.add_plain, Nat.zero_add, (h.2 j hj2).1]; exact hj
theorem page_src {w : World} {g c : Nat} {f : Nat → Nat} (h : PageIs w g f) : Src Tryz.prog 1 22 (.slice (some ⟨g, 0, none⟩) 4096 c) 4096 (cel8 (pageLs f)) w :=
  ⟨.inl ⟨_, Tryz.underlying22⟩, fun _ => rfl, page_first h, page_first (w := w.drew) (page_ch h (Ch.of_below (fun _ _ => False) (below_drewN (Below.refl _ _) 1)) (fun _ h => h)), by simp [cel8, pageLs_len], fun u hu => by
    obtain ⟨_, _, rfl⟩ := List.mem_map.1 hu
    rfl⟩
theorem nil_src (w : World) (a : Option Addr) (c : Nat) : Src Tryz.prog 1 22 (.slice a 0 c) 0 (cel8 []) w := by
  have h : ∀ w : World, (Builtin.firstCells 1 0 (.slice a 0 c)).run Tryz.prog w = .ok (cel8 []).toArray w := fun w => by
    cases a with
    | none => exact run_firstCells_none w 1 0 0 c
    | some ad => exact run_firstCells_some w 1 0 ad 0 c [] rfl (fun j v hj => by cases hj)
  exact ⟨.inl ⟨_, Tryz.underlying22⟩, fun _ => rfl, h w, h w.drew, rfl, fun u hu => by cases hu⟩
section
variable {R : Fp} {w w' : World} {r : Nat} {F : Nat → Nat} {pb : Nat} {A : Nat → Option Addr} {n c g : Nat → Nat}
theorem Rm.congr (x : Rm R w r F pb A n c g) {G : Nat → Nat} (h : ∀ k i, k < 256 → i < 4096 → F (atP k i) = G (atP k i)) (hG : ∀ x, G x < 256) : Rm R w r G pb A n c g :=
  { x with
    pg := fun k hk => by
      rcases x.pg k hk with ⟨h0, h1⟩ | ⟨h0, h1, h2, h3⟩
      · exact .inl ⟨h0, fun i hi => by rw [← h k i hk hi]; exact h1 i hi⟩
      · refine .inr ⟨h0, h1, h2, h3.1, fun i hi => ?_⟩
        show _ = some (Value.int .u8 ((G (atP k i) : Nat) : Int)) ∧ _
        rw [← h k i hk hi]; exact h3.2 i hi
    f8 := hG }
/-- A page that was empty gets its bytes. -/
theorem Rm.page2 (x : Rm R w r F pb A n c g) {k p cp : Nat} {f : Nat → Nat} (hb : Below w.heap.size w w') (hk : k < 256) (hn : n k = 0) (hp : w.heap.size ≤ p) (hP : PageIs w' p f) (hf : ∀ i, f i < 256) (hc : 4096 ≤ cp) :
    Rm (Up R w w') (w'.setCell ⟨pb, k, none⟩ (.slice (some ⟨p, 0, none⟩) 4096 cp)) r (fun y => if atP k 0 ≤ y ∧ y < atP k 0 + 4096 then f (y - atP k 0) else F y) pb (setN A k (some ⟨p, 0, none⟩)) (setN n k 4096) (setN c k cp) (setN g k p) ∧ Ch R w (w'.setCell ⟨pb, k, none⟩ (.slice (some ⟨p, 0, none⟩) 4096 cp)) := by
  have y := (x.kept (Ch.of_below (fun _ _ => False) hb) (fun _ _ h => h.elim)).up w
  have hs : (w'.cell? ⟨pb, k, none⟩).isSome = true := by rw [(y.pc k hk).1]; rfl
  have hset : Ch (fun a _ => a = pb) w' (w'.setCell ⟨pb, k, none⟩ (.slice (some ⟨p, 0, none⟩) 4096 cp)) := Ch.set _ _ _ _ _ rfl hs
  have pr := y.pr
  have hpl : p < w'.heap.size := hP.1
  have nlt : ∀ l, l < 256 → n l = 4096 → g l < w.heap.size := fun l hl h => x.rlt (g l) 0 (x.rg l 0 hl h)
  have inn : ∀ j, j < 4096 → (if atP k 0 ≤ atP k j ∧ atP k j < atP k 0 + 4096 then f (atP k j - atP k 0) else F (atP k j)) = f j := fun j hj => by
    unfold atP
    rw [if_pos (by omega)]
    congr 1; omega
  have out : ∀ l j, j < 4096 → l ≠ k → (if atP k 0 ≤ atP l j ∧ atP l j < atP k 0 + 4096 then f (atP l j - atP k 0) else F (atP l j)) = F (atP l j) := fun l j hj hne => by
    rw [if_neg (by unfold atP; omega)]
  refine ⟨?_, (Ch.of_below R hb).trans ((hset.mono (T2 := R) (fun a j e => by rw [e]; exact x.rp j))) (fun _ _ h => .inl h)⟩
  exact
  { lt := by rw [sz_set]; exact y.lt
    c0 := (hset.cell r 0 y.lt (fun e => pr e.symm)).trans y.c0
    f0 := (hset.frozen r 0 y.lt).trans y.f0
    pl := by rw [sz_set]; exact y.pl
    pc := fun l hl => by
      refine ⟨?_, by rw [World.frozen?_setCell]; exact (y.pc l hl).2⟩
      by_cases e : l = k
      · subst e; rw [cell_eq _ _ _ _ hs, setN_eq, setN_eq, setN_eq]
      · rw [cell_ne _ _ _ _ _ (fun q => e q.symm), setN_ne _ _ _ _ e, setN_ne _ _ _ _ e, setN_ne _ _ _ _ e]; exact (y.pc l hl).1
    pg := fun l hl => by
      by_cases e : l = k
      · subst e
        refine .inr ⟨setN_eq _ _ _, by rw [setN_eq]; exact hc, by rw [setN_eq, setN_eq], ?_⟩
        rw [setN_eq]
        refine page_ch ⟨hP.1, fun j hj => ?_⟩ hset (fun j q => by have := x.pl; omega)
        show _ = some (Value.int .u8 (((if atP l 0 ≤ atP l j ∧ atP l j < atP l 0 + 4096 then f (atP l j - atP l 0) else F (atP l j)) : Nat) : Int)) ∧ _
        rw [inn j hj]; exact hP.2 j hj
      · rcases y.pg l hl with ⟨h0, h1⟩ | ⟨h1, h2, h3, h4⟩
        · exact .inl ⟨by rw [setN_ne _ _ _ _ e]; exact h0, fun i hi => by show (if _ then _ else _) = 0; rw [out l i hi e]; exact h1 i hi⟩
        · refine .inr ⟨by rw [setN_ne _ _ _ _ e]; exact h1, by rw [setN_ne _ _ _ _ e]; exact h2, by rw [setN_ne _ _ _ _ e, setN_ne _ _ _ _ e]; exact h3, ?_⟩
          rw [setN_ne _ _ _ _ e]
          refine page_ch ⟨h4.1, fun j hj => ?_⟩ hset (fun j q => (y.gr l hl h1).2 q)
          show _ = some (Value.int .u8 (((if atP k 0 ≤ atP l j ∧ atP l j < atP k 0 + 4096 then f (atP l j - atP k 0) else F (atP l j)) : Nat) : Int)) ∧ _
          rw [out l j hj e]; exact h4.2 j hj
    f8 := fun z => by show (if _ then _ else _) < 256; split; exact hf _; exact x.f8 z
    rr := y.rr
    rp := y.rp
    rg := fun l j hl hn2 => by
      by_cases e : l = k
      · subst e; rw [setN_eq]; exact .inr ⟨hp, hpl⟩
      · rw [setN_ne _ _ _ _ e] at hn2 ⊢; exact y.rg l j hl hn2
    rlt := fun l j hl => by rw [sz_set]; exact y.rlt l j hl
    pr := y.pr
    gr := fun l hl hn2 => by
      by_cases e : l = k
      · subst e; rw [setN_eq]; have := x.lt; have := x.pl; exact ⟨by omega, by omega⟩
      · rw [setN_ne _ _ _ _ e] at hn2 ⊢; exact y.gr l hl hn2
    gg := fun l m hl hm hne hn1 hn2 => by
      by_cases e : l = k
      · subst e
        have e2 : ¬ m = l := fun q => hne q.symm
        rw [setN_ne _ _ _ _ e2] at hn2
        rw [setN_eq, setN_ne _ _ _ _ e2]
        have := nlt m hm hn2; omega
      · rw [setN_ne _ _ _ _ e] at hn1 ⊢
        by_cases e2 : m = k
        · subst e2; rw [setN_eq]; have := nlt l hl hn1; omega
        · rw [setN_ne _ _ _ _ e2] at hn2 ⊢; exact y.gg l m hl hm hne hn1 hn2 }
/-- A page that was empty is empty in another way. -/
theorem Rm.none2 (x : Rm R w r F pb A n c g) {k cp : Nat} {a' : Option Addr} (hb : Below w.heap.size w w') (hk : k < 256) (hn : n k = 0) :
    Rm (Up R w w') (w'.setCell ⟨pb, k, none⟩ (.slice a' 0 cp)) r F pb (setN A k a') (setN n k 0) (setN c k cp) g ∧ Ch R w (w'.setCell ⟨pb, k, none⟩ (.slice a' 0 cp)) := by
  have y := (x.kept (Ch.of_below (fun _ _ => False) hb) (fun _ _ h => h.elim)).up w
  have hs : (w'.cell? ⟨pb, k, none⟩).isSome = true := by rw [(y.pc k hk).1]; rfl
  have hset : Ch (fun a _ => a = pb) w' (w'.setCell ⟨pb, k, none⟩ (.slice a' 0 cp)) := Ch.set _ _ _ _ _ rfl hs
  have pr := y.pr
  have hz : ∀ i, i < 4096 → F (atP k i) = 0 := by
    rcases x.pg k hk with ⟨-, h⟩ | ⟨h, -⟩
    · exact h
    · omega
  have nne : ∀ l, setN n k 0 l = 4096 → l ≠ k ∧ n l = 4096 := fun l h => by
    by_cases e : l = k
    · subst e; rw [setN_eq] at h; omega
    · rw [setN_ne _ _ _ _ e] at h; exact ⟨e, h⟩
  refine ⟨?_, (Ch.of_below R hb).trans ((hset.mono (T2 := R) (fun a j e => by rw [e]; exact x.rp j))) (fun _ _ h => .inl h)⟩
  exact
  { lt := by rw [sz_set]; exact y.lt
    c0 := (hset.cell r 0 y.lt (fun e => pr e.symm)).trans y.c0
    f0 := (hset.frozen r 0 y.lt).trans y.f0
    pl := by rw [sz_set]; exact y.pl
    pc := fun l hl => by
      refine ⟨?_, by rw [World.frozen?_setCell]; exact (y.pc l hl).2⟩
      by_cases e : l = k
      · subst e; rw [cell_eq _ _ _ _ hs, setN_eq, setN_eq, setN_eq]
      · rw [cell_ne _ _ _ _ _ (fun q => e q.symm), setN_ne _ _ _ _ e, setN_ne _ _ _ _ e, setN_ne _ _ _ _ e]; exact (y.pc l hl).1
    pg := fun l hl => by
      by_cases e : l = k
      · subst e; exact .inl ⟨setN_eq _ _ _, hz⟩
      · rcases y.pg l hl with h | ⟨h1, h2, h3, h4⟩
        · exact .inl (by rw [setN_ne _ _ _ _ e]; exact h)
        · exact .inr ⟨by rw [setN_ne _ _ _ _ e]; exact h1, by rw [setN_ne _ _ _ _ e]; exact h2, by rw [setN_ne _ _ _ _ e]; exact h3, page_ch h4 hset (fun j q => (y.gr l hl h1).2 q)⟩
    f8 := y.f8
    rr := y.rr
    rp := y.rp
    rg := fun l j hl h => y.rg l j hl (nne l h).2
    rlt := fun l j hl => by rw [sz_set]; exact y.rlt l j hl
    pr := y.pr
    gr := fun l hl h => y.gr l hl (nne l h).2
    gg := fun l m hl hm hne h1 h2 => y.gg l m hl hm hne (nne l h1).2 (nne m h2).2 }
end
def cpF (F : Nat → Nat) (k : Nat) : Nat → Nat := fun y => if y < atP k 0 then F y else 0
end Go.Proofs.YtoicpikkcefheaaGreat.M
namespace Go.Proofs.YtoicpikkcefheaaGreat.M
set_option linter.unusedVariables false
set_option linter.unusedSimpArgs false
set_option maxRecDepth 20000
open Go.ChangeShapes Go.WideShapes Go.ChangeAt Go.RowKit
def RetCr (F : Nat → Nat) (W : World) (e : Ending) (w' : World) : Prop := ∃ r R, e = .returned (.pointer (some ⟨r, 0, none⟩)) ∧ IsRm R w' r F ∧ (∀ k j, R k j → W.heap.size ≤ k) ∧ Below W.heap.size W w'
theorem cpF_lt {F : Nat → Nat} (h : ∀ x, F x < 256) (k : Nat) : ∀ x, cpF F k x < 256 := fun x => by
  unfold cpF; split
  · exact h x
  · exact Nat.zero_lt_succ _
theorem cpF_at (F : Nat → Nat) (k l i : Nat) (hi : i < 4096) : cpF F k (atP l i) = if l < k then F (atP l i) else 0 := by
  unfold cpF atP
  by_cases h : l < k
  · rw [if_pos h, if_pos (by omega)]
  · rw [if_neg h, if_neg (by omega)]
theorem page_of {R : Fp} {w : World} {r : Nat} {F : Nat → Nat} {pb : Nat} {A : Nat → Option Addr} {n c g : Nat → Nat} (x : Rm R w r F pb A n c g) (k : Nat) (hk : k < 256) : ∃ L : List Nat, L.length = n k ∧ n k ≤ 4096 ∧ ∀ w', Below w.heap.size w w' → Src Tryz.prog 1 22 (.slice (A k) (n k) (c k)) (n k) (cel8 L) w' ∧ (n k = 4096 → ∀ i, i < 4096 → L.getD i 0 = F (atP k i)) := by
  rcases x.pg k hk with ⟨h0, h1⟩ | ⟨h0, -, h2, h3⟩
  · refine ⟨[], h0.symm, by omega, fun w' _ => ⟨by rw [h0]; exact nil_src _ _ _, fun h => by omega⟩⟩
  · refine ⟨pageLs (fun i => F (atP k i)), by rw [pageLs_len, h0], by omega, fun w' hb => ⟨?_, fun _ i hi => pageLs_get _ i hi⟩⟩
    rw [h0, h2]
    exact page_src (page_ch h3 (Ch.of_below (fun _ _ => False) hb) (fun _ h => h))
theorem page_sl {w : World} {a : Option Addr} {c g : Nat} {L : List Nat} {f : Nat → Nat} (h : SlA w a 4096 c g 0 L) (hf : ∀ i, i < 4096 → L.getD i 0 = f i) : a = some ⟨g, 0, none⟩ ∧ 4096 ≤ c ∧ PageIs w g f := by
  have hle := h.le
  refine ⟨(h.addr (by omega)).1, hle, (h.addr (by omega)).2, fun i hi => ⟨?_, ?_⟩⟩
  · have := h.cell i hi
    rw [Nat.zero_add] at this
    rw [this, hf i hi]
  · have := (h.there i (by omega)).2
    rwa [Nat.zero_add] at this
/-- One page copied. -/
theorem Rm.cpStep {R R2 : Fp} {wr w' : World} {r o : Nat} {F : Nat → Nat} {pb po : Nat} {A A2 : Nat → Option Addr} {n c g n2 c2 g2 : Nat → Nat} {k : Nat} {a' : Option Addr} {c' g' : Nat} {L : List Nat} (x : Rm R wr r F pb A n c g) (y : Rm R2 wr o (cpF F k) po A2 n2 c2 g2) (hk : k < 256) (hn2 : n2 k = 0) (hb : Below wr.heap.size wr w') (hs : SlA w' a' (n k) c' g' 0 L) (hg : 0 < c' → wr.heap.size ≤ g') (hL : n k = 4096 → ∀ i, i < 4096 → L.getD i 0 = F (atP k i)) :
    ∃ (A3 : Nat → Option Addr) (n3 c3 g3 : Nat → Nat), Rm (Up R2 wr w') (w'.setCell ⟨po, k, none⟩ (.slice a' (n k) c')) o (cpF F (k + 1)) po A3 n3 c3 g3 ∧ (∀ l, l ≠ k → n3 l = n2 l) ∧ Ch R2 wr (w'.setCell ⟨po, k, none⟩ (.slice a' (n k) c')) := by
  rcases x.pg k hk with ⟨h0, h1⟩ | ⟨h0, -, -, -⟩
  · rw [h0]
    obtain ⟨z1, z2⟩ := y.none2 (a' := a') (cp := c') hb hk hn2
    refine ⟨_, _, _, _, z1.congr (fun l i hl hi => ?_) (cpF_lt x.f8 _), fun l hl => setN_ne _ _ _ _ hl, z2⟩
    rw [cpF_at _ _ _ _ hi, cpF_at _ _ _ _ hi]
    by_cases e : l = k
    · subst e; rw [if_neg (Nat.lt_irrefl _), if_pos (Nat.lt_succ_self _), h1 i hi]
    · by_cases e2 : l < k
      · rw [if_pos e2, if_pos (by omega)]
      · rw [if_neg e2, if_neg (by omega)]
  · rw [h0] at hs ⊢
    obtain ⟨p1, p2, p3⟩ := page_sl (f := fun i => F (atP k i)) hs (hL h0)
    subst p1
    obtain ⟨z1, z2⟩ := y.page2 hb hk hn2 (hg (by omega)) p3 (fun i => x.f8 _) p2
    refine ⟨_, _, _, _, z1.congr (fun l i hl hi => ?_) (cpF_lt x.f8 _), fun l hl => setN_ne _ _ _ _ hl, z2⟩
    show (if atP k 0 ≤ atP l i ∧ atP l i < atP k 0 + 4096 then F (atP k (atP l i - atP k 0)) else cpF F k (atP l i)) = _
    rw [cpF_at F k l i hi, cpF_at F (k + 1) l i hi]
    by_cases e : l = k
    · subst e
      rw [if_pos (by unfold atP; omega), if_pos (Nat.lt_succ_self _)]
      congr 1; unfold atP; omega
    · rw [if_neg (by unfold atP; omega)]
      by_cases e2 : l < k
      · rw [if_pos e2, if_pos (by omega)]
      · rw [if_neg e2, if_neg (by omega)]
theorem s3_of {R R2 : Fp} {wr w' : World} {r o : Nat} {F G : Nat → Nat} {pb po : Nat} {A A2 : Nat → Option Addr} {n c g n2 c2 g2 : Nat → Nat} {k : Nat} (x : Rm R wr r F pb A n c g) (y : Rm R2 wr o G po A2 n2 c2 g2) (hk : k < 256) (hb : Below wr.heap.size wr w') : w'.cell? ⟨o, 0, none⟩ = some (.slice (some ⟨po, 0, none⟩) 256 256) ∧ w'.cell? ⟨r, 0, none⟩ = some (.slice (some ⟨pb, 0, none⟩) 256 256) ∧ w'.cell? ⟨pb, k, none⟩ = some (.slice (A k) (n k) (c k)) :=
  ⟨(hb.cell (p := ⟨o, 0, none⟩) y.lt).trans y.c0, (hb.cell (p := ⟨r, 0, none⟩) x.lt).trans x.c0, (hb.cell (p := ⟨pb, k, none⟩) x.pl).trans (x.pc k hk).1⟩
theorem s3_set {w' : World} {r o pb po k : Nat} {v u1 u2 u3 : Value} (h1 : po ≠ o) (h2 : po ≠ r) (h3 : po ≠ pb) (h : w'.cell? ⟨o, 0, none⟩ = some u1 ∧ w'.cell? ⟨r, 0, none⟩ = some u2 ∧ w'.cell? ⟨pb, k, none⟩ = some u3) : (w'.setCell ⟨po, k, none⟩ v).cell? ⟨o, 0, none⟩ = some u1 ∧ (w'.setCell ⟨po, k, none⟩ v).cell? ⟨r, 0, none⟩ = some u2 ∧ (w'.setCell ⟨po, k, none⟩ v).cell? ⟨pb, k, none⟩ = some u3 :=
  ⟨(World.cell?_setCell_other _ _ _ _ (fun q => by injection q with q1 q2; exact h1 q1)).trans h.1, (World.cell?_setCell_other _ _ _ _ (fun q => by injection q with q1 q2; exact h2 q1)).trans h.2.1, (World.cell?_setCell_other _ _ _ _ (fun q => by injection q with q1 q2; exact h3 q1)).trans h.2.2⟩
set_option maxRecDepth 100000 in
set_option maxHeartbeats 4000000 in
theorem copyr_c (R : Fp) (r : Nat) (F : Nat → Nat) (w : World) (hM : Hid (IsRm R w r F)) : Calls Tryz.prog 49 #[.pointer (some ⟨r, 0, none⟩)] w (RetCr F w) := by
  obtain ⟨pb, A, n, c, g, x⟩ := hM.out
  have HX := Lib.hid x
  clear x
  go_enter Tryz.func49, Tryz.ntmps49
  go_wp2_with fail
  refine (newr_c w).mono ?_; rintro e w1 ⟨o, Ro, po, Ao, co, go, rfl, hN, hRo, hb1⟩
  have HN := Lib.hid hN; have HRo := Lib.hid hRo; have HB1 := Lib.hid hb1
  clear hN hRo hb1
  go_wp2_with fail
  go_loopw [4] (fun iv wr => ∃ (k : Nat) (R2 : Fp) (A2 : Nat → Option Addr) (n2 c2 g2 : Nat → Nat), k ≤ 256 ∧ iv = .int .i64 k ∧ Hid (Rm R2 wr o (cpF F k) po A2 n2 c2 g2) ∧ Hid (∀ i j, R2 i j → w.heap.size ≤ i) ∧ Hid (∀ l, k ≤ l → n2 l = 0) ∧ Hid (Below w.heap.size w wr)) (fun iv _ => 256 - (intOf iv).toNat)
  case atStart =>
    refine ⟨0, Ro, Ao, fun _ => 0, co, go, Nat.zero_le _, rfl, ?_, HRo.out, fun _ _ => rfl, HB1.out⟩
    exact HN.out.congr (fun l i hl hi => by rw [cpF_at _ _ _ _ hi, if_neg (Nat.not_lt_zero _)]) (cpF_lt hM.out.f8 0)
  case round =>
    obtain ⟨k, R2, A2, n2, c2, g2, hk, rfl, HO, HR2, HZ, HB⟩ := hrel
    have HY : Hid (Rm R wr r F pb A n c g) := HX.out.kept (Ch.of_below (fun _ _ => False) HB.out) (fun _ _ h => h.elim)
    have y0 := HY.out.c0
    have o0 := HO.out.c0
    by_cases hlt : k < 256
    · have hlt' : (k : Int) < 256 := by omega
      have y1 := (HY.out.pc k hlt).1
      have o1 := (HO.out.pc k hlt).1
      have o2 := (HO.out.pc k hlt).2
      have kk1 : IntKind.i64.wrap ((k : Int) + 1) = (k : Int) + 1 := IntWalk.i64_in _ (by omega)
      obtain ⟨L, hL1, hL2, hL3⟩ := page_of HY.out k hlt
      have HL3 := Lib.hid hL3
      have hn47 : n k ≤ 140737488355328 := by omega
      have HPO : Hid (po ≠ o ∧ po ≠ r ∧ po ≠ pb) := ⟨HO.out.pr, fun e => by have := HR2.out _ 0 (HO.out.rp 0); have := HX.out.lt; omega, fun e => by have := HR2.out _ 0 (HO.out.rp 0); have := HX.out.pl; omega⟩
      clear hL3 hL2
      go_wp2_with fail
      go_region_held3 (fun w' => w'.cell? ⟨o, 0, none⟩ = some (.slice (some ⟨po, 0, none⟩) 256 256) ∧ w'.cell? ⟨r, 0, none⟩ = some (.slice (some ⟨pb, 0, none⟩) 256 256) ∧ w'.cell? ⟨pb, k, none⟩ = some (.slice (A k) (n k) (c k))) (first | exact s3_set HPO.out.1 HPO.out.2.1 HPO.out.2.2 (s3_of HY.out HO.out hlt (by repeat (first | (with_reducible first | exact Below.refl _ _ | assumption | exact Nat.le_refl _ | refine Below.drew ?_ | refine Below.alloc ?_ ?_ _ | refine Below.setCell ?_ ?_ _ | refine le_alloc ?_ | refine le_set ?_ | refine le_drew ?_ | refine below_step (by assumption) ?_ ?_ | refine le_below (by assumption) ?_) | (dsimp only; omega)))) | exact s3_of HY.out HO.out hlt (by repeat (first | (with_reducible first | exact Below.refl _ _ | assumption | exact Nat.le_refl _ | refine Below.drew ?_ | refine Below.alloc ?_ ?_ _ | refine Below.setCell ?_ ?_ _ | refine le_alloc ?_ | refine le_set ?_ | refine le_drew ?_ | refine below_step (by assumption) ?_ ?_ | refine le_below (by assumption) ?_) | (dsimp only; omega)))) (
        (refine step_all2 rfl (.tmp 20) (.tmp 27) rfl hL1 (HL3.out _ (by repeat (first | (with_reducible first | exact Below.refl _ _ | assumption | exact Nat.le_refl _ | refine Below.drew ?_ | refine Below.alloc ?_ ?_ _ | refine Below.setCell ?_ ?_ _ | refine le_alloc ?_ | refine le_set ?_ | refine le_drew ?_ | refine below_step (by assumption) ?_ ?_ | refine le_below (by assumption) ?_) | (dsimp only; omega)))).1 _ rfl rfl hn47 ?_; intro a1 cc gg wc q1 hb1 q3; have HC1 := Lib.hid q1; have HC3 := Lib.hid q3; have hb9 : Below wr.heap.size wr wc := (by repeat (first | (with_reducible first | exact Below.refl _ _ | assumption | exact Nat.le_refl _ | refine Below.drew ?_ | refine Below.alloc ?_ ?_ _ | refine Below.setCell ?_ ?_ _ | refine le_alloc ?_ | refine le_set ?_ | refine le_drew ?_ | refine below_step (by assumption) ?_ ?_ | refine le_below (by assumption) ?_) | (dsimp only; omega))); have HB9 := Lib.hid hb9; have k1 := (hb9.cell (p := ⟨po, k, none⟩) HO.out.pl).trans o1; have k2 := (hb9.frozen (p := ⟨po, k, none⟩) HO.out.pl).trans o2; clear q1 q3 hb9))
      all_goals
        obtain ⟨A3, n3, c3, g3, z1, z2, z3⟩ := HY.out.cpStep HO.out hlt (HZ.out k (Nat.le_refl _)) HB9.out HC1.out (fun h => by have := HC3.out h; simp only [sz_drew, sz_alloc] at this; omega) (fun h => (HL3.out wr (Below.refl _ _)).2 h)
        have Z1 := Lib.hid z1; have Z2 := Lib.hid z2; have Z3 := Lib.hid z3
        clear z1 z2 z3
        go_wp2_with fail
        go_roundw
        case rel => exact ⟨k + 1, Up R2 wr wc, A3, n3, c3, g3, by omega, by go_num, Z1, fun i j h => h.elim (HR2.out i j) (fun q => Nat.le_trans HB.out.size q.1), fun l hl => by rw [Z2.out l (by omega)]; exact HZ.out l (by omega), Z3.out.below (fun i j h => HR2.out i j h) HB.out HB.out.size⟩
        case measure => simp [intOf]; omega
    · obtain rfl : k = 256 := by omega
      go_wp2_with fail
      go_ret
      refine ⟨o, R2, rfl, ⟨_, _, _, _, _, HO.out.congr (fun l i hl hi => by rw [cpF_at _ _ _ _ hi, if_pos hl]) hM.out.f8⟩, HR2.out, HB.out⟩
end Go.Proofs.YtoicpikkcefheaaGreat.M
namespace Go.Proofs.YtoicpikkcefheaaGreat.M
set_option linter.unusedVariables false
set_option linter.unusedSimpArgs false
set_option maxRecDepth 20000
open Go.ChangeShapes Go.WideShapes Go.ChangeAt Go.RowKit
end Go.Proofs.YtoicpikkcefheaaGreat.M
namespace Go.Proofs.YtoicpikkcefheaaGreat.M
set_option linter.unusedVariables false
set_option linter.unusedSimpArgs false
set_option maxRecDepth 20000
open Go.Maps Go.WideMaps Go.ChangeShapes Go.WideShapes Go.ChangeAt Go.RowKit
/-- Of what was there nothing but T has changed; of T nothing is said. -/
structure Cw (T : Fp) (w w' : World) : Prop where
  os : w'.os = w.os
  tape : w'.tape = w.tape
  output : w'.output = w.output
  size : w.heap.size ≤ w'.heap.size
  block : ∀ k, k < w.heap.size → (∀ o, ¬ T k o) → w'.heap[k]? = w.heap[k]?
  cell : ∀ k o, k < w.heap.size → ¬ T k o → w'.cell? ⟨k, o, none⟩ = w.cell? ⟨k, o, none⟩
  frozen : ∀ k o, k < w.heap.size → ¬ T k o → w'.frozen? ⟨k, o, none⟩ = w.frozen? ⟨k, o, none⟩
section
variable {T T2 R : Fp} {w w' : World}
theorem Ch.weak (h : Ch T w w') : Cw T w w' := ⟨h.os, h.tape, h.output, h.size, h.block, h.cell, fun k o hk _ => h.frozen k o hk⟩
theorem Cw.refl (T : Fp) (w : World) : Cw T w w := (Ch.refl T w).weak
theorem Cw.of_below (T : Fp) (h : Below w.heap.size w w') : Cw T w w' := (Ch.of_below T h).weak
theorem Cw.below {B : Nat} {w0 : World} (h : Cw T w w') (hT : ∀ i j, T i j → B ≤ i) (h0 : Below B w0 w) (hB : B ≤ w.heap.size) : Below B w0 w' :=
  h0.trans ⟨h.os, h.tape, h.output, h.size, fun k hk => h.block k (Nat.lt_of_lt_of_le hk hB) (fun o ht => by have := hT k o ht; omega)⟩
theorem Cw.of_own {S : Nat → Prop} (h : Own S w w') (hT : ∀ k j, T k j ↔ S k) : Cw T w w' :=
  have b : ∀ k, k < w.heap.size → (∀ o, ¬ T k o) → w'.heap[k]? = w.heap[k]? := fun k hk hn => h.block k hk (fun q => hn 0 ((hT k 0).2 q))
  have n : ∀ k o, ¬ T k o → ∀ o', ¬ T k o' := fun k o h1 o' h2 => h1 ((hT k o).2 ((hT k o').1 h2))
  ⟨h.os, h.tape, h.output, h.size, b, fun k o hk hn => World.cell?_of_block (w := w) (a := ⟨k, o, none⟩) (b k hk (n k o hn)), fun k o hk hn => World.frozen?_of_block (w := w) (a := ⟨k, o, none⟩) (b k hk (n k o hn))⟩
end
section
variable {R T : Fp} {w w' : World} {r : Nat} {F : Nat → Nat} {pb : Nat} {A : Nat → Option Addr} {n c g : Nat → Nat}
theorem page_cw {p : Nat} {f : Nat → Nat} (h : PageIs w p f) (hc : Cw T w w') (hn : ∀ j, ¬ T p j) : PageIs w' p f :=
  ⟨Nat.lt_of_lt_of_le h.1 hc.size, fun i hi => ⟨(hc.cell p i h.1 (hn i)).trans (h.2 i hi).1, (hc.frozen p i h.1 (hn i)).trans (h.2 i hi).2⟩⟩
theorem Rm.keptW (x : Rm R w r F pb A n c g) (hc : Cw T w w') (hd : Dj T R) : Rm R w' r F pb A n c g :=
  { x with
    lt := Nat.lt_of_lt_of_le x.lt hc.size
    c0 := (hc.cell r 0 x.lt (fun ht => hd _ _ ht (x.rr 0))).trans x.c0
    f0 := (hc.frozen r 0 x.lt (fun ht => hd _ _ ht (x.rr 0))).trans x.f0
    pl := Nat.lt_of_lt_of_le x.pl hc.size
    pc := fun k hk => ⟨(hc.cell pb k x.pl (fun ht => hd _ _ ht (x.rp k))).trans (x.pc k hk).1, (hc.frozen pb k x.pl (fun ht => hd _ _ ht (x.rp k))).trans (x.pc k hk).2⟩
    pg := fun k hk => (x.pg k hk).imp id (fun ⟨h1, h2, h3, h4⟩ => ⟨h1, h2, h3, page_cw h4 hc (fun j ht => hd _ _ ht (x.rg k j hk h1))⟩)
    rlt := fun k j hk => Nat.lt_of_lt_of_le (x.rlt k j hk) hc.size }
end
theorem MemS.more {S T : Nat → Prop} {w : World} {m : Nat} {F : Nat → Nat} (h : MemS S w m F) (hT : ∀ i, S i → T i) : MemS T w m F := by
  obtain ⟨b, D, h0, hm, h1, hb, hne, h2, h3, h6⟩ := h
  exact ⟨b, D, h0, hT _ hm, h1, hT _ hb, hne, h2, h3, fun s p q1 q2 q3 => ⟨hT _ (h6 s p q1 q2 q3).1, (h6 s p q1 q2 q3).2⟩⟩
theorem MemS.keptB {S : Nat → Prop} {w w' : World} {m : Nat} {F : Nat → Nat} (h : MemS S w m F) (hos : w'.os = w.os) (ht : w'.tape = w.tape) (ho : w'.output = w.output) (hs : w.heap.size ≤ w'.heap.size) (hb : ∀ k, k < w.heap.size → S k → w'.heap[k]? = w.heap[k]?) : MemS S w' m F :=
  h.kept (T := fun k => ¬ S k) ⟨hos, ht, ho, hs, fun i hi hn => hb i hi (Classical.byContradiction hn)⟩ (fun i hi hn => hn hi)
/-- A thing in memory: what it reads lies in R, what it may write in W. -/
structure Th where
  P : Fp → Fp → World → Prop
  kept : ∀ {T R W : Fp} {w w' : World}, P R W w → Cw T w w' → Dj T R → P R W w'
  wr : ∀ {R W : Fp} {w : World}, P R W w → ∀ k j, W k j → R k j
  rlt : ∀ {R W : Fp} {w : World}, P R W w → ∀ k j, R k j → k < w.heap.size
/-- Several things, none of which writes what another one reads; all of them are newer than w0. -/
structure BesAt (w0 : World) (l : List Th) (R W : Nat → Fp) (w : World) : Prop where
  each : ∀ (i : Nat) (E : Th), l[i]? = some E → E.P (R i) (W i) w
  dj : ∀ i j, i < l.length → j < l.length → i ≠ j → Dj (W i) (R j)
  new : ∀ i, i < l.length → ∀ k j, R i k j → w0.heap.size ≤ k
  out : Below w0.heap.size w0 w
def Bes (w0 : World) (l : List Th) (w : World) : Prop := ∃ R W : Nat → Fp, BesAt w0 l R W w
section
variable {w0 w w' : World} {l : List Th} {E E' : Th}
theorem Bes.out (h : Bes w0 l w) : Below w0.heap.size w0 w := h.choose_spec.choose_spec.out
theorem Bes.get (h : Bes w0 l w) (i : Nat) (hi : l[i]? = some E) : ∃ R W, E.P R W w := by
  obtain ⟨R, W, h⟩ := h
  exact ⟨_, _, h.each i E hi⟩
theorem len_of2 {i : Nat} (hi : l[i]? = some E) : i < l.length := (List.getElem?_eq_some_iff.1 hi).1
theorem Bes.below (h : Bes w0 l w) (hb : Below w.heap.size w w') : Bes w0 l w' := by
  obtain ⟨R, W, h1, h2, h3, h4⟩ := h
  exact ⟨R, W, ⟨fun i E hi => E.kept (h1 i E hi) (Cw.of_below (fun _ _ => False) hb) (fun _ _ h => h.elim), h2, h3, h4.trans (hb.mono h4.size)⟩⟩
theorem BesAt.set {R W : Nat → Fp} (h : BesAt w0 l R W w) (i : Nat) (hi : l[i]? = some E) (c1 : E'.P (Up (R i) w w') (Up (W i) w w') w') (c2 : Cw (W i) w w') : Bes w0 (l.set i E') w' := by
  obtain ⟨h1, h2, h3, h4⟩ := h
  have il := len_of2 hi
  refine ⟨fun k => if k = i then Up (R i) w w' else R k, fun k => if k = i then Up (W i) w w' else W k, ⟨fun k F hk => ?_, fun a b ha hb hne => ?_, fun k hk => ?_, c2.below (fun k j hk => h3 i il k j (E.wr (h1 i E hi) k j hk)) h4 h4.size⟩⟩
  · by_cases e : k = i
    · subst e
      rw [List.getElem?_set_self il] at hk
      obtain rfl : E' = F := by simpa using hk
      show E'.P (if k = k then _ else _) (if k = k then _ else _) w'
      rw [if_pos rfl, if_pos rfl]; exact c1
    · rw [List.getElem?_set_ne (fun q => e q.symm)] at hk
      show F.P (if k = i then _ else _) (if k = i then _ else _) w'
      rw [if_neg e, if_neg e]
      exact F.kept (h1 k F hk) c2 (h2 i k il (len_of2 hk) (fun q => e q.symm))
  · rw [List.length_set] at ha hb
    show Dj (if a = i then _ else _) (if b = i then _ else _)
    have lt : ∀ k, k < l.length → ∀ x y, R k x y → x < w.heap.size := fun k hk => by
      obtain ⟨F, hF⟩ : ∃ F, l[k]? = some F := ⟨_, List.getElem?_eq_getElem hk⟩
      exact F.rlt (h1 k F hF)
    have wl : ∀ k, k < l.length → ∀ x y, W k x y → x < w.heap.size := fun k hk => by
      obtain ⟨F, hF⟩ : ∃ F, l[k]? = some F := ⟨_, List.getElem?_eq_getElem hk⟩
      exact fun x y q => F.rlt (h1 k F hF) x y (F.wr (h1 k F hF) x y q)
    by_cases ea : a = i
    · subst ea
      have eb : ¬ b = a := fun q => hne q.symm
      rw [if_pos rfl, if_neg eb]
      intro x y hx hy
      rcases hx with hx | hx
      · exact h2 a b ha hb hne x y hx hy
      · have := lt b hb x y hy; omega
    · rw [if_neg ea]
      by_cases eb : b = i
      · subst eb
        rw [if_pos rfl]
        intro x y hx hy
        rcases hy with hy | hy
        · exact h2 a b ha hb hne x y hx hy
        · have := wl a ha x y hx; omega
      · rw [if_neg eb]; exact h2 a b ha hb hne
  · rw [List.length_set] at hk
    show ∀ x y, (if k = i then _ else _ : Fp) x y → _
    by_cases e : k = i
    · subst e
      rw [if_pos rfl]
      intro x y hx
      rcases hx with hx | hx
      · exact h3 k hk x y hx
      · exact Nat.le_trans h4.size hx.1
    · rw [if_neg e]; exact h3 k hk
/-- One of them has done something. -/
theorem Bes.set (h : Bes w0 l w) (i : Nat) (hi : l[i]? = some E) (hc : ∀ R W, E.P R W w → E'.P (Up R w w') (Up W w w') w' ∧ Cw W w w') : Bes w0 (l.set i E') w' := by
  obtain ⟨R, W, h⟩ := h
  obtain ⟨c1, c2⟩ := hc _ _ (h.each i E hi)
  exact h.set i hi c1 c2
/-- A call that is made upon one of them. -/
theorem Bes.step (h : Bes w0 l w) (i : Nat) (hi : l[i]? = some E) (E' : Th) {f : FuncId} {args : Array Value} {v : Value} (hc : ∀ R W, E.P R W w → Calls Tryz.prog f args w (fun e w' => e = .returned v ∧ E'.P (Up R w w') (Up W w w') w' ∧ Cw W w w')) :
    Calls Tryz.prog f args w (fun e w' => e = .returned v ∧ Bes w0 (l.set i E') w') := by
  obtain ⟨R, W, h⟩ := h
  refine (hc _ _ (h.each i E hi)).mono ?_
  rintro e w' ⟨rfl, c1, c2⟩
  exact ⟨rfl, h.set i hi c1 c2⟩
/-- A new one. -/
theorem Bes.push (h : Bes w0 l w) (hb : Below w.heap.size w w') {R1 W1 : Fp} (hE : E.P R1 W1 w') (hn : ∀ k j, R1 k j → w.heap.size ≤ k) : Bes w0 (l ++ [E]) w' := by
  obtain ⟨R, W, h1, h2, h3, h4⟩ := h
  have lt : ∀ k, k < l.length → ∀ x y, R k x y → x < w.heap.size := fun k hk => by
    obtain ⟨F, hF⟩ : ∃ F, l[k]? = some F := ⟨_, List.getElem?_eq_getElem hk⟩
    exact F.rlt (h1 k F hF)
  have wl : ∀ k, k < l.length → ∀ x y, W k x y → x < w.heap.size := fun k hk => by
    obtain ⟨F, hF⟩ : ∃ F, l[k]? = some F := ⟨_, List.getElem?_eq_getElem hk⟩
    exact fun x y q => F.rlt (h1 k F hF) x y (F.wr (h1 k F hF) x y q)
  refine ⟨fun k => if k = l.length then R1 else R k, fun k => if k = l.length then W1 else W k, ⟨fun k F hk => ?_, fun a b ha hb' hne => ?_, fun k hk => ?_, h4.trans (hb.mono h4.size)⟩⟩
  · by_cases e : k = l.length
    · subst e
      rw [List.getElem?_append_right (Nat.le_refl _), Nat.sub_self] at hk
      obtain rfl : E = F := by simpa using hk
      show E.P (if _ then _ else _) (if _ then _ else _) w'
      rw [if_pos rfl, if_pos rfl]; exact hE
    · have hk2 : k < l.length := by
        have := len_of2 hk
        rw [List.length_append] at this
        have : k < l.length + 1 := this
        omega
      rw [List.getElem?_append_left hk2] at hk
      show F.P (if _ then _ else _) (if _ then _ else _) w'
      rw [if_neg e, if_neg e]
      exact F.kept (h1 k F hk) (Cw.of_below (fun _ _ => False) hb) (fun _ _ h => h.elim)
  · rw [List.length_append] at ha hb'
    have ha2 : a < l.length + 1 := ha
    have hb2 : b < l.length + 1 := hb'
    show Dj (if a = l.length then _ else _) (if b = l.length then _ else _)
    by_cases ea : a = l.length
    · have eb : ¬ b = l.length := fun q => hne (ea.trans q.symm)
      rw [if_pos ea, if_neg eb]
      intro x y hx hy
      have := hn x y (E.wr hE x y hx)
      have := lt b (by omega) x y hy
      omega
    · rw [if_neg ea]
      by_cases eb : b = l.length
      · rw [if_pos eb]
        intro x y hx hy
        have := hn x y hy
        have := wl a (by omega) x y hx
        omega
      · rw [if_neg eb]; exact h2 a b (by omega) (by omega) hne
  · rw [List.length_append] at hk
    have hk2 : k < l.length + 1 := hk
    show ∀ x y, (if k = l.length then _ else _ : Fp) x y → _
    by_cases e : k = l.length
    · rw [if_pos e]
      intro x y hx
      exact Nat.le_trans h4.size (hn x y hx)
    · rw [if_neg e]; exact h3 k (by omega)
end
/-- The program's memory. -/
def eM (m : Nat) (F : Nat → Nat) : Th where
  P R W w := R = W ∧ ∃ S : Nat → Prop, MemS S w m F ∧ (∀ k j, W k j ↔ S k) ∧ ∀ k, S k → k < w.heap.size
  kept := fun h hc hd => by
    obtain ⟨e, S, h1, h2, h3⟩ := h
    subst e
    exact ⟨rfl, S, h1.keptB hc.os hc.tape hc.output hc.size (fun k hk hS => hc.block k hk (fun o ht => hd k o ht ((h2 k o).2 hS))), h2, fun k hk => Nat.lt_of_lt_of_le (h3 k hk) hc.size⟩
  wr h := by rw [h.1]; exact fun _ _ h => h
  rlt h := by
    obtain ⟨e, S, h1, h2, h3⟩ := h
    subst e
    exact fun k j hk => h3 k ((h2 k j).1 hk)
/-- The document's. -/
def eR (r : Nat) (F : Nat → Nat) : Th where
  P R W w := R = W ∧ IsRm W w r F
  kept := fun h hc hd => by
    obtain ⟨e, pb, A, n, c, g, x⟩ := h
    subst e
    exact ⟨rfl, pb, A, n, c, g, x.keptW hc hd⟩
  wr h := by rw [h.1]; exact fun _ _ h => h
  rlt h := by
    obtain ⟨e, pb, A, n, c, g, x⟩ := h
    subst e
    exact x.rlt
section
variable {w0 w w' : World} {l : List Th} {m r a v : Nat} {F G : Nat → Nat} {z : Int}
/-- What a write into a memory leaves of it. -/
theorem eM_up {S S' : Nat → Prop} {W : Fp} (h2 : ∀ k j, W k j ↔ S k) (h3 : ∀ k, S k → k < w.heap.size) (q1 : MemS S' w' m G) (q2 : Own S w w') (q3 : ∀ i, S' i → i < w'.heap.size ∧ (S i ∨ w.heap.size ≤ i)) : (eM m G).P (Up W w w') (Up W w w') w' ∧ Cw W w w' :=
  ⟨⟨rfl, fun k => S k ∨ (w.heap.size ≤ k ∧ k < w'.heap.size), q1.more (fun i hi => (q3 i hi).2.imp id (fun h => ⟨h, (q3 i hi).1⟩)), fun k j => by unfold Up; rw [h2 k j], fun k hk => hk.elim (fun h => Nat.lt_of_lt_of_le (h3 k h) q2.size) (·.2)⟩, Cw.of_own q2 h2⟩
theorem writeM (h : Bes w0 l w) (i : Nat) (hi : l[i]? = some (eM m F)) (a v : Nat) (z : Int) (ha : Hid (a < 18446744073709551616)) (hv : Hid (v < 18446744073709551616)) : Calls Tryz.prog 35 #[.pointer (some ⟨m, 0, none⟩), .int .u64 a, .int .i64 z, .int .u64 v] w (fun e w' => e = .returned (.bool (hasV a z)) ∧ Bes w0 (l.set i (eM m (wrF F a z v))) w') :=
  h.step i hi _ (fun R W q => by
    obtain ⟨e, S, h1, h2, h3⟩ := q
    subst e
    refine (write_c S m a v z F w h1 h3 ha hv).mono ?_
    rintro e w' ⟨rfl, S', q1, q2, q3⟩
    exact ⟨rfl, eM_up h2 h3 q1 q2 q3⟩)
theorem writeR (h : Bes w0 l w) (i : Nat) (hi : l[i]? = some (eR r F)) (a v : Nat) (z : Int) (ha : Hid (a < 18446744073709551616)) : Calls Tryz.prog 37 #[.pointer (some ⟨r, 0, none⟩), .int .u64 a, .int .i64 z, .int .u64 v] w (fun e w' => e = .returned (.bool (hasV a z)) ∧ Bes w0 (l.set i (eR r (wrF F a z v))) w') :=
  h.step i hi _ (fun R W q => by
    obtain ⟨e, h1⟩ := q
    subst e
    refine (writer_c R r a v z F w h1 ha).mono ?_
    rintro e w' ⟨rfl, q1, q2⟩
    exact ⟨rfl, ⟨rfl, q1⟩, q2.weak⟩)
theorem Bes.isM (h : Bes w0 l w) (i : Nat) (hi : l[i]? = some (eM m F)) : ∃ S, MemS S w m F := by
  obtain ⟨R, W, e, S, h1, -⟩ := h.get i hi
  exact ⟨S, h1⟩
theorem Bes.isR (h : Bes w0 l w) (i : Nat) (hi : l[i]? = some (eR r F)) : ∃ R, IsRm R w r F := by
  obtain ⟨R, W, e, h1⟩ := h.get i hi
  exact ⟨W, h1⟩
theorem readM (h : Bes w0 l w) (i : Nat) (hi : l[i]? = some (eM m F)) (hF : ∀ x, F x < 256) (a : Nat) (z : Int) (ha : Hid (a < 18446744073709551616)) : Calls Tryz.prog 43 #[.pointer (some ⟨m, 0, none⟩), .int .u64 a, .int .i64 z] w (fun e w' => e = .returned (.tuple #[.int .u64 (readV F a z : Nat), .bool (hasV a z)]) ∧ Bes w0 l w') := by
  obtain ⟨S, h1⟩ := h.isM i hi
  refine (read_c m a z F w h1.mem ha hF).mono ?_
  rintro e w' ⟨rfl, hb⟩
  exact ⟨rfl, h.below hb⟩
theorem readR (h : Bes w0 l w) (i : Nat) (hi : l[i]? = some (eR r F)) (a : Nat) (z : Int) (ha : Hid (a < 18446744073709551616)) : Calls Tryz.prog 45 #[.pointer (some ⟨r, 0, none⟩), .int .u64 a, .int .i64 z] w (fun e w' => e = .returned (.tuple #[.int .u64 (readV F a z : Nat), .bool (hasV a z)]) ∧ Bes w0 l w') := by
  obtain ⟨R, h1⟩ := h.isR i hi
  refine (readr_c R r a z F w h1 ha).mono ?_
  rintro e w' ⟨rfl, hb⟩
  exact ⟨rfl, h.below hb⟩
theorem newM (h : Bes w0 l w) : Calls Tryz.prog 24 #[] w (fun e w' => ∃ m, e = .returned (.pointer (some ⟨m, 0, none⟩)) ∧ Bes w0 (l ++ [eM m (fun _ => 0)]) w') := by
  refine (new_s w).mono ?_
  rintro e w' ⟨m, S, rfl, h1, h2, hb⟩
  exact ⟨m, rfl, h.push hb (R1 := fun k _ => S k) (W1 := fun k _ => S k) ⟨rfl, S, h1, fun _ _ => Iff.rfl, fun k hk => (h2 k hk).2⟩ (fun k j hk => (h2 k hk).1)⟩
theorem newR (h : Bes w0 l w) : Calls Tryz.prog 30 #[] w (fun e w' => ∃ r, e = .returned (.pointer (some ⟨r, 0, none⟩)) ∧ Bes w0 (l ++ [eR r (fun _ => 0)]) w') := by
  refine (newr_c w).mono ?_
  rintro e w' ⟨r, R, pb, A, c, g, rfl, h1, h2, hb⟩
  exact ⟨r, rfl, h.push hb (R1 := R) (W1 := R) ⟨rfl, pb, A, _, c, g, h1⟩ h2⟩
theorem copyM (h : Bes w0 l w) (i : Nat) (hi : l[i]? = some (eM m F)) : Calls Tryz.prog 47 #[.pointer (some ⟨m, 0, none⟩)] w (fun e w' => ∃ m', e = .returned (.pointer (some ⟨m', 0, none⟩)) ∧ Bes w0 (l ++ [eM m' F]) w') := by
  obtain ⟨S, h1⟩ := h.isM i hi
  refine (copy_c S m F w h1).mono ?_
  rintro e w' ⟨m', S', rfl, h1, h2, hb⟩
  exact ⟨m', rfl, h.push hb (R1 := fun k _ => S' k) (W1 := fun k _ => S' k) ⟨rfl, S', h1, fun _ _ => Iff.rfl, fun k hk => (h2 k hk).2⟩ (fun k j hk => (h2 k hk).1)⟩
theorem copyR (h : Bes w0 l w) (i : Nat) (hi : l[i]? = some (eR r F)) : Calls Tryz.prog 49 #[.pointer (some ⟨r, 0, none⟩)] w (fun e w' => ∃ r', e = .returned (.pointer (some ⟨r', 0, none⟩)) ∧ Bes w0 (l ++ [eR r' F]) w') := by
  obtain ⟨R, h1⟩ := h.isR i hi
  refine (copyr_c R r F w h1).mono ?_
  rintro e w' ⟨r', R', rfl, h1, h2, hb⟩
  exact ⟨r', rfl, h.push hb (R1 := R') (W1 := R') ⟨rfl, h1⟩ h2⟩
end
end Go.Proofs.YtoicpikkcefheaaGreat.M
namespace Go.Proofs.YtoicpikkcefheaaGreat.M
set_option linter.unusedVariables false
set_option linter.unusedSimpArgs false
set_option maxRecDepth 20000
open Go.Maps Go.WideMaps Go.ChangeShapes Go.WideShapes Go.ChangeAt Go.RowKit
/-- What laying an image leaves. -/
def layI (F : Nat → Nat) (n : Nat) (X : Nat → Nat) : Nat → Nat := if n ≤ 1048576 then layF F 2147483648 n X else F
theorem lay_any (S : Nat → Prop) (m g o n c : Nat) (sa : Option Addr) (F X : Nat → Nat) (w : World) (hM : Hid (MemS S w m F)) (hSb : Hid (∀ i, S i → i < w.heap.size)) (hg : Hid (0 < n → sa = some ⟨g, o, none⟩ ∧ g < w.heap.size ∧ ¬ S g)) (hnc : Hid (n ≤ c)) (hr : Hid (∀ i, i < n → w.cell? ⟨g, o + i, none⟩ = some (.int .u8 (X i : Nat)))) :
    Calls Tryz.prog 25 #[.pointer (some ⟨m, 0, none⟩), .slice sa n c] w (fun e w' => e = .returned (.bool (decide (n ≤ 1048576))) ∧ ∃ S', MemS S' w' m (layI F n X) ∧ Own S w w' ∧ ∀ i, S' i → i < w'.heap.size ∧ (S i ∨ w.heap.size ≤ i)) := by
  unfold layI
  by_cases hn : n ≤ 1048576
  · rw [if_pos hn, decide_eq_true hn]
    by_cases h0 : n = 0
    · subst h0
      refine (lay_zero m c sa w).mono ?_; rintro e w1 ⟨rfl, h1⟩
      subst h1
      exact ⟨rfl, S, by rw [layF_zero]; exact hM.out, Own.below (Below.refl _ _), fun i hi => ⟨hSb.out i hi, Or.inl hi⟩⟩
    · obtain ⟨h1, h2, h3⟩ := hg.out (by omega)
      subst h1
      exact lay_c S m g o n c F X w hM hSb (Lib.hid ⟨h2, h3⟩) hn hnc hr
  · rw [if_neg hn, decide_eq_false hn]
    refine (lay_big m n c sa w (by omega)).mono ?_; rintro e w1 ⟨rfl, hb⟩
    exact ⟨rfl, S, hM.out.kept (T := fun _ => False) (Own.below hb) (fun _ _ h => h), Own.below hb, fun i hi => ⟨Nat.lt_of_lt_of_le (hSb.out i hi) hb.size, Or.inl hi⟩⟩
theorem layr_any (R : Fp) (r g o n c : Nat) (sa : Option Addr) (F X : Nat → Nat) (w : World) (hM : Hid (IsRm R w r F)) (hg : Hid (0 < n → sa = some ⟨g, o, none⟩ ∧ g < w.heap.size ∧ ∀ j, ¬ R g j)) (hX : Hid (∀ i, X i < 256)) (hr : Hid (∀ i, i < n → w.cell? ⟨g, o + i, none⟩ = some (.int .u8 (X i : Nat)))) :
    Calls Tryz.prog 34 #[.pointer (some ⟨r, 0, none⟩), .slice sa n c] w (RetL (decide (n ≤ 1048576)) r (layI F n X) R w) := by
  unfold layI
  by_cases hn : n ≤ 1048576
  · rw [if_pos hn, decide_eq_true hn]
    exact layr_c R r g o n c sa F X w hM hg hn hX hr
  · rw [if_neg hn, decide_eq_false hn]
    refine (layr_big r n c sa w (by omega)).mono ?_; rintro e w1 ⟨rfl, h1⟩
    subst h1
    exact ⟨rfl, hM.out.start, Ch.refl _ _⟩
/-- Bytes that lie in w. -/
def Byt (w : World) (sa : Option Addr) (g o n c : Nat) (X : Nat → Nat) : Prop := (0 < n → sa = some ⟨g, o, none⟩ ∧ g < w.heap.size) ∧ n ≤ c ∧ (∀ i, i < n → w.cell? ⟨g, o + i, none⟩ = some (.int .u8 (X i : Nat))) ∧ ∀ i, X i < 256
theorem Byt.below {w w' : World} {sa : Option Addr} {g o n c : Nat} {X : Nat → Nat} (h : Byt w sa g o n c X) (hb : Below w.heap.size w w') : Byt w' sa g o n c X :=
  ⟨fun h0 => ⟨(h.1 h0).1, Nat.lt_of_lt_of_le (h.1 h0).2 hb.size⟩, h.2.1, fun i hi => (hb.cell (p := ⟨g, o + i, none⟩) (h.1 (by omega)).2).trans (h.2.2.1 i hi), h.2.2.2⟩
theorem SlA.keptW {T : Fp} {w w' : World} {a : Option Addr} {n c g o : Nat} {L : List Nat} (h : SlA w a n c g o L) (hc : Cw T w w') (hn : ∀ i, i < c → ¬ T g (o + i)) : SlA w' a n c g o L :=
  ⟨h.len, h.le, fun h0 => ⟨(h.addr h0).1, Nat.lt_of_lt_of_le (h.addr h0).2 hc.size⟩,
    fun i hi => by rw [hc.cell g (o + i) (h.addr (by have := h.le; omega)).2 (hn i (by have := h.le; omega))]; exact h.cell i hi,
    fun i hi => ⟨by rw [hc.cell g (o + i) (h.addr (by omega)).2 (hn i hi)]; exact (h.there i hi).1, by rw [hc.frozen g (o + i) (h.addr (by omega)).2 (hn i hi)]; exact (h.there i hi).2⟩⟩
def eB (v : Value) (L : List Nat) : Th where
  P R W w := R = W ∧ IsS W w v L
  kept := fun h hc hd => by
    obtain ⟨e, a, n, c, g, o, h1, h2, h3, h4⟩ := h
    exact ⟨e, a, n, c, g, o, h1, h2.keptW hc (fun i hi ht => hd _ _ ht (by rw [e]; exact h3 i hi)), h3, fun k j hk => Nat.lt_of_lt_of_le (h4 k j hk) hc.size⟩
  wr h := by rw [h.1]; exact fun _ _ h => h
  rlt h := by obtain ⟨e, a, n, c, g, o, h1, h2, h3, h4⟩ := h; rw [e]; exact h4
section
variable {w0 w w' : World} {l : List Th} {m r : Nat} {F G : Nat → Nat}
/-- Bytes that came in are laid. -/
theorem layM (h : Bes w0 l w) (i : Nat) (hi : l[i]? = some (eM m F)) {sa : Option Addr} {g o n c : Nat} {X : Nat → Nat} (hB : Hid (Byt w0 sa g o n c X)) : Calls Tryz.prog 25 #[.pointer (some ⟨m, 0, none⟩), .slice sa n c] w (fun e w' => e = .returned (.bool (decide (n ≤ 1048576))) ∧ Bes w0 (l.set i (eM m (layI F n X))) w') := by
  have hB2 := hB.out.below h.out
  obtain ⟨R, W, h⟩ := h
  obtain ⟨e, S, h1, h2, h3⟩ := h.each i _ hi
  have hnew := h.new i (len_of2 hi)
  rw [e] at hnew
  refine (lay_any S m g o n c sa F X w h1 h3 (fun h0 => ⟨(hB2.1 h0).1, (hB2.1 h0).2, fun hS => ?_⟩) hB2.2.1 hB2.2.2.1).mono ?_
  · have := hnew g 0 ((h2 g 0).2 hS); have := (hB.out.1 h0).2; omega
  rintro e2 w' ⟨rfl, S', q1, q2, q3⟩
  obtain ⟨c1, c2⟩ := eM_up h2 h3 q1 q2 q3
  refine ⟨rfl, h.set i hi (by rw [e]; exact c1) c2⟩
theorem layR (h : Bes w0 l w) (i : Nat) (hi : l[i]? = some (eR r F)) {sa : Option Addr} {g o n c : Nat} {X : Nat → Nat} (hB : Hid (Byt w0 sa g o n c X)) : Calls Tryz.prog 34 #[.pointer (some ⟨r, 0, none⟩), .slice sa n c] w (fun e w' => e = .returned (.bool (decide (n ≤ 1048576))) ∧ Bes w0 (l.set i (eR r (layI F n X))) w') := by
  have hB2 := hB.out.below h.out
  obtain ⟨R, W, h⟩ := h
  obtain ⟨e, h1⟩ := h.each i _ hi
  have hnew := h.new i (len_of2 hi)
  rw [e] at hnew
  refine (layr_any (W i) r g o n c sa F X w h1 (fun h0 => ⟨(hB2.1 h0).1, (hB2.1 h0).2, fun j hS => ?_⟩) hB2.2.2.2 hB2.2.2.1).mono ?_
  · have := hnew g j hS; have := (hB.out.1 h0).2; omega
  rintro e2 w' ⟨rfl, q1, q2⟩
  exact ⟨rfl, h.set i hi (by rw [e]; exact ⟨rfl, q1⟩) q2.weak⟩
end
end Go.Proofs.YtoicpikkcefheaaGreat.M
