/- The document's zeros, Pages. The document's Copy. -/
import Derived.Test.YtibgdlianedcbaaX5
namespace Go.Proofs.Ytibgdlianedcbaa
open Go.ChangeShapes Go.WideShapes Go.ChangeAt Go.RowKit
set_option linter.unusedVariables false
set_option linter.unusedSimpArgs false
theorem eqPg_false {f g : Nat → Nat} (i : Nat) (hi : i < 4096) (h : f i ≠ g i) : eqPg f g = false := by
  cases e : eqPg f g
  · rfl
  · exact absurd ((eqPg_true f g).1 e i hi) h
theorem zeros_nil (a : Option Addr) (c : Nat) (w : World) : Calls Try.prog 30 #[.slice a 0 c] w (fun e w' => e = .returned (.bool true) ∧ w' = w) := by
  go_enter Try.func30, Try.ntmps30
  go_wp2_with fail
  refine wp_loop_rounds 1 ?_
  rw [rounds_succ]
  go_wp2_with fail
  go_ret
  exact ⟨rfl, rfl⟩
set_option maxRecDepth 100000 in
theorem zeros_page (g c : Nat) (f : Nat → Nat) (w : World) (h : Hid (PageIs w g f)) : Calls Try.prog 30 #[.slice (some ⟨g, 0, none⟩) 4096 c] w (fun e w' => e = .returned (.bool (eqPg f (fun _ => 0))) ∧ w' = w) := by
  go_enter Try.func30, Try.ntmps30
  go_wp2_with fail
  go_loopw [3] (fun iv wr => ∃ i : Nat, i ≤ 4096 ∧ iv = .int .i64 i ∧ wr = w ∧ Hid (∀ j, j < i → f j = 0)) (fun iv _ => 4096 - (intOf iv).toNat)
  case atStart => exact ⟨0, Nat.zero_le _, rfl, rfl, fun j hj => absurd hj (Nat.not_lt_zero j)⟩
  case round =>
    obtain ⟨i, hi, rfl, rfl, HZ⟩ := hrel
    by_cases hlt : i < 4096
    · have hlt' : (i : Int) < 4096 := by omega
      have cx := (h.out.2 i hlt).1
      obtain ⟨x, hx⟩ : ∃ x, f i = x := ⟨_, rfl⟩
      rw [hx] at cx
      have HX := Lib.hid hx; have HI := Lib.hid hlt
      clear hx
      by_cases x0 : x = 0
      · subst x0
        go_wp2_with fail
        go_roundw
        case rel => exact ⟨i + 1, by omega, by go_num, trivial, fun j hj => by
          by_cases e : j = i
          · rw [e]; exact HX.out
          · exact HZ.out j (by omega)⟩
        case measure => simp [intOf]; omega
      · have x1 : ((x : Int) != 0) = true := by simp; omega
        have x2 : ((x : Int) == 0) = false := by simp; omega
        have HV : Hid (eqPg f (fun _ => 0) = false) := eqPg_false i hlt (by rw [HX.out]; exact x0)
        clear x0
        go_wp2_with fail
        go_ret
        exact ⟨by rw [HV.out]; rfl, rfl⟩
    · obtain rfl : i = 4096 := by omega
      have HV : Hid (eqPg f (fun _ => 0) = true) := (eqPg_true _ _).2 (fun j hj => HZ.out j hj)
      go_wp2_with fail
      go_ret
      exact ⟨by rw [HV.out]; rfl, rfl⟩
/-- Is page k of zeros? -/
def zF (F : Nat → Nat) (k : Nat) : Bool := eqPg (fun i => F (atP k i)) (fun _ => 0)
theorem zeros_of {R : Fp} {w : World} {r : Nat} {F : Nat → Nat} {pb : Nat} {A : Nat → Option Addr} {n c g : Nat → Nat} (x : Rm R w r F pb A n c g) (k : Nat) (hk : k < 256) : Calls Try.prog 30 #[.slice (A k) (n k) (c k)] w (fun e w' => e = .returned (.bool (zF F k)) ∧ w' = w) := by
  rcases x.pg k hk with ⟨h0, h1⟩ | ⟨h0, -, h2, h3⟩
  · rw [h0, show zF F k = true from (eqPg_true _ _).2 h1]
    exact zeros_nil _ _ w
  · rw [h0, h2]
    exact zeros_page _ _ _ w h3
/-- The pages among the first k that have bytes. -/
def pgK (F : Nat → Nat) (k : Nat) : List Nat := ((List.range k).map (fun i => 2147483648 + 4096 * i)).filter (fun s => !eqPg (fun i => F (s + i)) (fun _ => 0))
theorem pgK_all (F : Nat → Nat) : pgK F 256 = pagesL F := rfl
theorem pgK_next (F : Nat → Nat) (k : Nat) : pgK F (k + 1) = if zF F k = true then pgK F k else pgK F k ++ [2147483648 + 4096 * k] := by
  unfold pgK
  rw [List.range_succ, List.map_append, List.filter_append]
  have e : eqPg (fun i => F (2147483648 + 4096 * k + i)) (fun _ => 0) = zF F k := rfl
  cases h : zF F k
  · rw [h] at e
    simp [e]
  · rw [h] at e
    simp [e]
theorem pgK_len (F : Nat → Nat) : ∀ k, (pgK F k).length ≤ k
  | 0 => Nat.le_refl _
  | k + 1 => by
    have h := pgK_len F k
    rw [pgK_next]
    split
    · omega
    · rw [List.length_append]; show (pgK F k).length + 1 ≤ k + 1; omega
theorem isL_of {w : World} {base : Nat} {v : Value} {L : List Nat} (h : OwnS w base v L) : IsL w base v L := by
  rcases h.2 with ⟨h1, h2⟩ | ⟨g, cap, cur, h1, h2, h3⟩
  · exact .inl ⟨h1, List.length_eq_zero_iff.1 h2⟩
  · subst h1
    obtain ⟨e1, e2, e3, e4⟩ := own_row h
    exact .inr ⟨g, cap, rfl, e1, e3, e4⟩
set_option maxRecDepth 100000 in
set_option maxHeartbeats 4000000 in
theorem pagesr_c (R : Fp) (r : Nat) (F : Nat → Nat) (w : World) (hM : Hid (IsRm R w r F)) : Calls Try.prog 19 #[.pointer (some ⟨r, 0, none⟩)] w (RetPg F w) := by
  obtain ⟨pb, A, n, c, g, x⟩ := hM.out
  have HX := Lib.hid x
  clear x
  have hO : Hid (OwnS (w.alloc (Obj.cells #[] 30)) w.heap.size (.slice (some ⟨w.heap.size, 0, none⟩) 0 0) []) := World.ownsRow_lit w #[] 0 (Nat.le_refl _) (by unfold maxLen; omega) rfl
  go_enter Try.func19, Try.ntmps19
  go_wp2_with fail
  go_loopw [3, 4] (fun ov iv wr => ∃ k : Nat, k ≤ 256 ∧ iv = .int .i64 k ∧ Hid (OwnS wr w.heap.size ov (pgK F k)) ∧ Hid (Below w.heap.size w wr)) (fun _ iv _ => 256 - (intOf iv).toNat)
  case atStart => exact ⟨0, Nat.zero_le _, rfl, hO, below_one w _⟩
  case round =>
    clear hO
    obtain ⟨k, hk, rfl, HO, HB⟩ := hrel
    have y := HX.out.kept (Ch.of_below (fun _ _ => False) HB.out) (fun _ _ h => h.elim)
    have c0 := y.c0
    have HY := Lib.hid y
    clear y
    by_cases hlt : k < 256
    · have hlt' : (k : Int) < 256 := by omega
      have c1 := (HY.out.pc k hlt).1
      have HZ := Lib.hid (zeros_of HY.out k hlt)
      have HN := Lib.hid (pgK_next F k)
      have HL : Hid ((pgK F k).length ≤ 1000) := Nat.le_trans (pgK_len F k) (by omega)
      have kk1 : IntKind.i64.wrap ((k : Int) + 1) = (k : Int) + 1 := IntWalk.i64_in _ (by omega)
      obtain ⟨t, ht⟩ : ∃ t, 2147483648 + 4096 * k = t := ⟨_, rfl⟩
      have e1 : IntKind.i64.wrap (4096 * (k : Int)) = 4096 * (k : Int) := IntWalk.i64_in _ (by omega)
      have e2 : IntKind.u64.wrap (4096 * (k : Int)) = 4096 * (k : Int) := by rw [IntKind.wrap_u64]; omega
      have e3 : IntKind.u64.wrap (2147483648 + 4096 * (k : Int)) = (t : Nat) := by rw [IntKind.wrap_u64]; omega
      rw [ht] at HN
      cases hz : zF F k
      · rw [hz] at HZ HN
        have HN2 : Hid (pgK F (k + 1) = pgK F k ++ [t]) := by have := HN.out; rw [if_neg (by decide)] at this; exact this
        clear hz HN ht
        go_wp2_with fail
        refine HZ.out.mono ?_; rintro e w2 ⟨rfl, h2⟩
        replace h2 := h2.symm; subst h2
        go_wp2_with (at_builtin; refine append_s rfl _ _ rfl w.heap.size _ (pgK F k) rfl (own_below HO.out (below_one wr _)) HL.out t wr.heap.size rfl (by rw [World.cell?_alloc_at _ _ _ _ rfl]; rfl) (by rw [sz_alloc]; have := HB.out.size; omega) ?_; intro v3 w3 hown3 hg3)
        have hO3 := Lib.hid hown3
        have HB3 : Hid (Below w.heap.size w w3) := ((HB.out.trans ((below_one wr _).mono HB.out.size))).grown hg3 (by rw [sz_alloc]; have := HB.out.size; omega) (fun j hj => (own_lt HO.out j hj).1)
        clear hown3 hg3
        go_roundw
        case rel => exact ⟨k + 1, by omega, by go_num, by rw [HN2.out]; exact hO3.out, HB3⟩
        case measure => simp [intOf]; omega
      · rw [hz] at HZ HN
        have HN2 : Hid (pgK F (k + 1) = pgK F k) := by have := HN.out; rw [if_pos rfl] at this; exact this
        clear hz HN ht
        go_wp2_with fail
        refine HZ.out.mono ?_; rintro e w2 ⟨rfl, h2⟩
        replace h2 := h2.symm; subst h2
        go_wp2_with fail
        go_roundw
        case rel => exact ⟨k + 1, by omega, by go_num, by rw [HN2.out]; exact HO.out, HB⟩
        case measure => simp [intOf]; omega
    · obtain rfl : k = 256 := by omega
      go_wp2_with fail
      go_ret
      exact ⟨_, rfl, isL_of HO.out, HB.out⟩
end Go.Proofs.Ytibgdlianedcbaa
namespace Go.Proofs.Ytibgdlianedcbaa
open Go.ChangeShapes Go.WideShapes Go.ChangeAt Go.RowKit
set_option linter.unusedVariables false
theorem run_all2 {w : World} {a : Option Addr} {n c : Nat} {L : List Nat} (hl : L.length = n) (hsrc : Src Try.prog 1 22 (.slice a n c) n (cel8 L) w) (sa : Option Addr) (ty : TypeId) (hn : n ≤ 140737488355328) :
    ∃ a' c' g' w', (Builtin.append_ #[22, 22] ty #[.slice sa 0 0, .slice a n c]).run Try.prog w = .ok (.slice a' n c') w' ∧ SlA w' a' n c' g' 0 L ∧ Below w.heap.size w w' ∧ (0 < c' → w.heap.size ≤ g') := by
  obtain ⟨i, hi, h1, h2, h3⟩ := inf8'
  by_cases h0 : n = 0
  · subst h0
    have hL : L = [] := List.length_eq_zero_iff.1 hl
    subst hL
    exact ⟨sa, 0, 0, w, run_append_nothing (P := Try.prog) w 22 22 ty 5 i Try.underlying22 hi sa 0 0 (Nat.le_refl _) _ (by rw [h1]; exact hsrc), slA_nil _ _ _ _, Below.refl _ _, fun h => absurd h (Nat.lt_irrefl _)⟩
  · have hold : (Builtin.firstCells i.size 0 (.slice sa 0 0)).run Try.prog w.drew = .ok (#[] : Array Value) w.drew := by
      rw [h1]
      exact (slA_nil w.drew sa 0 0).first
    have hg := run_append_grow_src (P := Try.prog) w 22 22 ty 5 i (.int .u8 0) Try.underlying22 hi h3 sa 0 0 [] hold _ n _ (by rw [h1]; exact hsrc) (by omega) (by omega) (growslice_fits (by omega) (by rw [h2]; omega))
    rw [Nat.zero_add] at hg
    have hge := grownCap_ge w n 0 5
    have hnew := slA_new w.drew L (grownCap w n 0 5 - n) (grownCap w n 0 5) 5 (by rw [hl]; omega)
    rw [hl] at hnew
    exact ⟨_, _, _, _, hg, hnew, Below.alloc (below_drewN (Below.refl _ _) 1) (Nat.le_refl _) _, fun _ => Nat.le_refl _⟩
theorem step_all2 {w : World} {a : Option Addr} {n c : Nat} {L : List Nat} {ops : Array Oper} {op : Oper} {A : Act} {K : Act → World → Prop} {Q : Exit → Act → World → Prop} {E : Prop} (hgd : op.guard = none) (s x : Operand)
    (ho : op.op = .call { callee := .builtin .append, args := #[s, x], argTypes := #[22, 22] })
    (hl : L.length = n) (hsrc : Src Try.prog 1 22 (.slice a n c) n (cel8 L) w) (sa : Option Addr) (hs : A.eval s = .slice sa 0 0) (hx : A.eval x = .slice a n c) (hn : n ≤ 140737488355328)
    (k : ∀ a' c' g' w', SlA w' a' n c' g' 0 L → Below w.heap.size w w' → (0 < c' → w.heap.size ≤ g') → K (A.put op.dst (.slice a' n c')) w') :
    if Region.wanted op (yielded ops A.tmps) = true then Oper.wp Try.prog op A w K Q else E := by
  have hw : Region.wanted op (yielded ops A.tmps) = true := by simp [Region.wanted, hgd]
  rw [if_pos hw]
  obtain ⟨a', c', g', w', hrun, h1, h2, h3⟩ := run_all2 hl hsrc sa op.type hn
  unfold Oper.wp
  simp [execOp, ho, resolve, invoke, builtin, hs, hx, hrun, Result.andThen]
  exact k a' c' g' w' h1 h2 h3
def pageLs (f : Nat → Nat) : List Nat := (List.range 4096).map f
theorem pageLs_len (f : Nat → Nat) : (pageLs f).length = 4096 := by simp [pageLs]
theorem pageLs_get (f : Nat → Nat) (i : Nat) (hi : i < 4096) : (pageLs f).getD i 0 = f i := by simp [pageLs, hi]
theorem page_first {w : World} {g c : Nat} {f : Nat → Nat} (h : PageIs w g f) : (Builtin.firstCells 1 4096 (.slice (some ⟨g, 0, none⟩) 4096 c)).run Try.prog w = .ok (cel8 (pageLs f)).toArray w := by
  refine run_firstCells_some w 1 4096 _ 4096 c (cel8 (pageLs f)) (by simp [cel8, pageLs_len]) (fun j v hj => ?_)
  have hj2 : j < (pageLs f).length := by
    have := (List.getElem?_eq_some_iff.1 hj).1
    simpa [cel8] using this
  rw [cel8_get _ j hj2, pageLs_get f j (by rw [pageLs_len] at hj2; exact hj2)] at hj
  rw [pageLs_len] at hj2
  rw [Go.WideShapes.add_plain, Nat.zero_add, (h.2 j hj2).1]; exact hj
theorem page_src {w : World} {g c : Nat} {f : Nat → Nat} (h : PageIs w g f) : Src Try.prog 1 22 (.slice (some ⟨g, 0, none⟩) 4096 c) 4096 (cel8 (pageLs f)) w :=
  ⟨.inl ⟨_, Try.underlying22⟩, fun _ => rfl, page_first h, page_first (w := w.drew) (page_ch h (Ch.of_below (fun _ _ => False) (below_drewN (Below.refl _ _) 1)) (fun _ h => h)), by simp [cel8, pageLs_len], fun u hu => by
    obtain ⟨_, _, rfl⟩ := List.mem_map.1 hu
    rfl⟩
theorem nil_src (w : World) (a : Option Addr) (c : Nat) : Src Try.prog 1 22 (.slice a 0 c) 0 (cel8 []) w := by
  have h : ∀ w : World, (Builtin.firstCells 1 0 (.slice a 0 c)).run Try.prog w = .ok (cel8 []).toArray w := fun w => by
    cases a with
    | none => exact run_firstCells_none w 1 0 0 c
    | some ad => exact run_firstCells_some w 1 0 ad 0 c [] rfl (fun j v hj => by cases hj)
  exact ⟨.inl ⟨_, Try.underlying22⟩, fun _ => rfl, h w, h w.drew, rfl, fun u hu => by cases hu⟩
section
variable {R : Fp} {w w' : World} {r : Nat} {F : Nat → Nat} {pb : Nat} {A : Nat → Option Addr} {n c g : Nat → Nat}
theorem Rm.congr (x : Rm R w r F pb A n c g) {G : Nat → Nat} (h : ∀ k i, k < 256 → i < 4096 → F (atP k i) = G (atP k i)) (hG : ∀ x, G x < 256) : Rm R w r G pb A n c g :=
  { x with
    pg := fun k hk => by
      rcases x.pg k hk with ⟨h0, h1⟩ | ⟨h0, h1, h2, h3⟩
      · exact .inl ⟨h0, fun i hi => by rw [← h k i hk hi]; exact h1 i hi⟩
      · refine .inr ⟨h0, h1, h2, h3.1, fun i hi => ?_⟩
        show _ = some (Value.int .u8 ((G (atP k i) : Nat) : Int)) ∧ _
        rw [← h k i hk hi]; exact h3.2 i hi
    f8 := hG }
/-- A page that was empty gets its bytes. -/
theorem Rm.page2 (x : Rm R w r F pb A n c g) {k p cp : Nat} {f : Nat → Nat} (hb : Below w.heap.size w w') (hk : k < 256) (hn : n k = 0) (hp : w.heap.size ≤ p) (hP : PageIs w' p f) (hf : ∀ i, f i < 256) (hc : 4096 ≤ cp) :
    Rm (Up R w w') (w'.setCell ⟨pb, k, none⟩ (.slice (some ⟨p, 0, none⟩) 4096 cp)) r (fun y => if atP k 0 ≤ y ∧ y < atP k 0 + 4096 then f (y - atP k 0) else F y) pb (setN A k (some ⟨p, 0, none⟩)) (setN n k 4096) (setN c k cp) (setN g k p) ∧ Ch R w (w'.setCell ⟨pb, k, none⟩ (.slice (some ⟨p, 0, none⟩) 4096 cp)) := by
  have y := (x.kept (Ch.of_below (fun _ _ => False) hb) (fun _ _ h => h.elim)).up w
  have hs : (w'.cell? ⟨pb, k, none⟩).isSome = true := by rw [(y.pc k hk).1]; rfl
  have hset : Ch (fun a _ => a = pb) w' (w'.setCell ⟨pb, k, none⟩ (.slice (some ⟨p, 0, none⟩) 4096 cp)) := Ch.set _ _ _ _ _ rfl hs
  have pr := y.pr
  have hpl : p < w'.heap.size := hP.1
  have nlt : ∀ l, l < 256 → n l = 4096 → g l < w.heap.size := fun l hl h => x.rlt (g l) 0 (x.rg l 0 hl h)
  have inn : ∀ j, j < 4096 → (if atP k 0 ≤ atP k j ∧ atP k j < atP k 0 + 4096 then f (atP k j - atP k 0) else F (atP k j)) = f j := fun j hj => by
    unfold atP
    rw [if_pos (by omega)]
    congr 1; omega
  have out : ∀ l j, j < 4096 → l ≠ k → (if atP k 0 ≤ atP l j ∧ atP l j < atP k 0 + 4096 then f (atP l j - atP k 0) else F (atP l j)) = F (atP l j) := fun l j hj hne => by
    rw [if_neg (by unfold atP; omega)]
  refine ⟨?_, (Ch.of_below R hb).trans ((hset.mono (T2 := R) (fun a j e => by rw [e]; exact x.rp j))) (fun _ _ h => .inl h)⟩
  exact
  { lt := by rw [sz_set]; exact y.lt
    c0 := (hset.cell r 0 y.lt (fun e => pr e.symm)).trans y.c0
    f0 := (hset.frozen r 0 y.lt).trans y.f0
    pl := by rw [sz_set]; exact y.pl
    pc := fun l hl => by
      refine ⟨?_, by rw [World.frozen?_setCell]; exact (y.pc l hl).2⟩
      by_cases e : l = k
      · subst e; rw [cell_eq _ _ _ _ hs, setN_eq, setN_eq, setN_eq]
      · rw [cell_ne _ _ _ _ _ (fun q => e q.symm), setN_ne _ _ _ _ e, setN_ne _ _ _ _ e, setN_ne _ _ _ _ e]; exact (y.pc l hl).1
    pg := fun l hl => by
      by_cases e : l = k
      · subst e
        refine .inr ⟨setN_eq _ _ _, by rw [setN_eq]; exact hc, by rw [setN_eq, setN_eq], ?_⟩
        rw [setN_eq]
        refine page_ch ⟨hP.1, fun j hj => ?_⟩ hset (fun j q => by have := x.pl; omega)
        show _ = some (Value.int .u8 (((if atP l 0 ≤ atP l j ∧ atP l j < atP l 0 + 4096 then f (atP l j - atP l 0) else F (atP l j)) : Nat) : Int)) ∧ _
        rw [inn j hj]; exact hP.2 j hj
      · rcases y.pg l hl with ⟨h0, h1⟩ | ⟨h1, h2, h3, h4⟩
        · exact .inl ⟨by rw [setN_ne _ _ _ _ e]; exact h0, fun i hi => by show (if _ then _ else _) = 0; rw [out l i hi e]; exact h1 i hi⟩
        · refine .inr ⟨by rw [setN_ne _ _ _ _ e]; exact h1, by rw [setN_ne _ _ _ _ e]; exact h2, by rw [setN_ne _ _ _ _ e, setN_ne _ _ _ _ e]; exact h3, ?_⟩
          rw [setN_ne _ _ _ _ e]
          refine page_ch ⟨h4.1, fun j hj => ?_⟩ hset (fun j q => (y.gr l hl h1).2 q)
          show _ = some (Value.int .u8 (((if atP k 0 ≤ atP l j ∧ atP l j < atP k 0 + 4096 then f (atP l j - atP k 0) else F (atP l j)) : Nat) : Int)) ∧ _
          rw [out l j hj e]; exact h4.2 j hj
    f8 := fun z => by show (if _ then _ else _) < 256; split; exact hf _; exact x.f8 z
    rr := y.rr
    rp := y.rp
    rg := fun l j hl hn2 => by
      by_cases e : l = k
      · subst e; rw [setN_eq]; exact .inr ⟨hp, hpl⟩
      · rw [setN_ne _ _ _ _ e] at hn2 ⊢; exact y.rg l j hl hn2
    rlt := fun l j hl => by rw [sz_set]; exact y.rlt l j hl
    pr := y.pr
    gr := fun l hl hn2 => by
      by_cases e : l = k
      · subst e; rw [setN_eq]; have := x.lt; have := x.pl; exact ⟨by omega, by omega⟩
      · rw [setN_ne _ _ _ _ e] at hn2 ⊢; exact y.gr l hl hn2
    gg := fun l m hl hm hne hn1 hn2 => by
      by_cases e : l = k
      · subst e
        have e2 : ¬ m = l := fun q => hne q.symm
        rw [setN_ne _ _ _ _ e2] at hn2
        rw [setN_eq, setN_ne _ _ _ _ e2]
        have := nlt m hm hn2; omega
      · rw [setN_ne _ _ _ _ e] at hn1 ⊢
        by_cases e2 : m = k
        · subst e2; rw [setN_eq]; have := nlt l hl hn1; omega
        · rw [setN_ne _ _ _ _ e2] at hn2 ⊢; exact y.gg l m hl hm hne hn1 hn2 }
/-- A page that was empty is empty in another way. -/
theorem Rm.none2 (x : Rm R w r F pb A n c g) {k cp : Nat} {a' : Option Addr} (hb : Below w.heap.size w w') (hk : k < 256) (hn : n k = 0) :
    Rm (Up R w w') (w'.setCell ⟨pb, k, none⟩ (.slice a' 0 cp)) r F pb (setN A k a') (setN n k 0) (setN c k cp) g ∧ Ch R w (w'.setCell ⟨pb, k, none⟩ (.slice a' 0 cp)) := by
  have y := (x.kept (Ch.of_below (fun _ _ => False) hb) (fun _ _ h => h.elim)).up w
  have hs : (w'.cell? ⟨pb, k, none⟩).isSome = true := by rw [(y.pc k hk).1]; rfl
  have hset : Ch (fun a _ => a = pb) w' (w'.setCell ⟨pb, k, none⟩ (.slice a' 0 cp)) := Ch.set _ _ _ _ _ rfl hs
  have pr := y.pr
  have hz : ∀ i, i < 4096 → F (atP k i) = 0 := by
    rcases x.pg k hk with ⟨-, h⟩ | ⟨h, -⟩
    · exact h
    · omega
  have nne : ∀ l, setN n k 0 l = 4096 → l ≠ k ∧ n l = 4096 := fun l h => by
    by_cases e : l = k
    · subst e; rw [setN_eq] at h; omega
    · rw [setN_ne _ _ _ _ e] at h; exact ⟨e, h⟩
  refine ⟨?_, (Ch.of_below R hb).trans ((hset.mono (T2 := R) (fun a j e => by rw [e]; exact x.rp j))) (fun _ _ h => .inl h)⟩
  exact
  { lt := by rw [sz_set]; exact y.lt
    c0 := (hset.cell r 0 y.lt (fun e => pr e.symm)).trans y.c0
    f0 := (hset.frozen r 0 y.lt).trans y.f0
    pl := by rw [sz_set]; exact y.pl
    pc := fun l hl => by
      refine ⟨?_, by rw [World.frozen?_setCell]; exact (y.pc l hl).2⟩
      by_cases e : l = k
      · subst e; rw [cell_eq _ _ _ _ hs, setN_eq, setN_eq, setN_eq]
      · rw [cell_ne _ _ _ _ _ (fun q => e q.symm), setN_ne _ _ _ _ e, setN_ne _ _ _ _ e, setN_ne _ _ _ _ e]; exact (y.pc l hl).1
    pg := fun l hl => by
      by_cases e : l = k
      · subst e; exact .inl ⟨setN_eq _ _ _, hz⟩
      · rcases y.pg l hl with h | ⟨h1, h2, h3, h4⟩
        · exact .inl (by rw [setN_ne _ _ _ _ e]; exact h)
        · exact .inr ⟨by rw [setN_ne _ _ _ _ e]; exact h1, by rw [setN_ne _ _ _ _ e]; exact h2, by rw [setN_ne _ _ _ _ e]; exact h3, page_ch h4 hset (fun j q => (y.gr l hl h1).2 q)⟩
    f8 := y.f8
    rr := y.rr
    rp := y.rp
    rg := fun l j hl h => y.rg l j hl (nne l h).2
    rlt := fun l j hl => by rw [sz_set]; exact y.rlt l j hl
    pr := y.pr
    gr := fun l hl h => y.gr l hl (nne l h).2
    gg := fun l m hl hm hne h1 h2 => y.gg l m hl hm hne (nne l h1).2 (nne m h2).2 }
end
def cpF (F : Nat → Nat) (k : Nat) : Nat → Nat := fun y => if y < atP k 0 then F y else 0
end Go.Proofs.Ytibgdlianedcbaa
