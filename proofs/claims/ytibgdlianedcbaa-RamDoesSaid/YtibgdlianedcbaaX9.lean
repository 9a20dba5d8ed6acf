/- The document's Copy. The document's Same. -/
import Derived.Test.YtibgdlianedcbaaX7
namespace Go.Proofs.Ytibgdlianedcbaa
open Go.ChangeShapes Go.WideShapes Go.ChangeAt Go.RowKit
set_option linter.unusedVariables false
set_option linter.unusedSimpArgs false
def RetCr (F : Nat → Nat) (W : World) (e : Ending) (w' : World) : Prop := ∃ r R, e = .returned (.pointer (some ⟨r, 0, none⟩)) ∧ IsRm R w' r F ∧ (∀ k j, R k j → W.heap.size ≤ k) ∧ Below W.heap.size W w'
theorem cpF_lt {F : Nat → Nat} (h : ∀ x, F x < 256) (k : Nat) : ∀ x, cpF F k x < 256 := fun x => by
  unfold cpF; split
  · exact h x
  · exact Nat.zero_lt_succ _
theorem cpF_at (F : Nat → Nat) (k l i : Nat) (hi : i < 4096) : cpF F k (atP l i) = if l < k then F (atP l i) else 0 := by
  unfold cpF atP
  by_cases h : l < k
  · rw [if_pos h, if_pos (by omega)]
  · rw [if_neg h, if_neg (by omega)]
theorem page_of {R : Fp} {w : World} {r : Nat} {F : Nat → Nat} {pb : Nat} {A : Nat → Option Addr} {n c g : Nat → Nat} (x : Rm R w r F pb A n c g) (k : Nat) (hk : k < 256) : ∃ L : List Nat, L.length = n k ∧ n k ≤ 4096 ∧ ∀ w', Below w.heap.size w w' → Src Try.prog 1 22 (.slice (A k) (n k) (c k)) (n k) (cel8 L) w' ∧ (n k = 4096 → ∀ i, i < 4096 → L.getD i 0 = F (atP k i)) := by
  rcases x.pg k hk with ⟨h0, h1⟩ | ⟨h0, -, h2, h3⟩
  · refine ⟨[], h0.symm, by omega, fun w' _ => ⟨by rw [h0]; exact nil_src _ _ _, fun h => by omega⟩⟩
  · refine ⟨pageLs (fun i => F (atP k i)), by rw [pageLs_len, h0], by omega, fun w' hb => ⟨?_, fun _ i hi => pageLs_get _ i hi⟩⟩
    rw [h0, h2]
    exact page_src (page_ch h3 (Ch.of_below (fun _ _ => False) hb) (fun _ h => h))
theorem page_sl {w : World} {a : Option Addr} {c g : Nat} {L : List Nat} {f : Nat → Nat} (h : SlA w a 4096 c g 0 L) (hf : ∀ i, i < 4096 → L.getD i 0 = f i) : a = some ⟨g, 0, none⟩ ∧ 4096 ≤ c ∧ PageIs w g f := by
  have hle := h.le
  refine ⟨(h.addr (by omega)).1, hle, (h.addr (by omega)).2, fun i hi => ⟨?_, ?_⟩⟩
  · have := h.cell i hi
    rw [Nat.zero_add] at this
    rw [this, hf i hi]
  · have := (h.there i (by omega)).2
    rwa [Nat.zero_add] at this
/-- One page copied. -/
theorem Rm.cpStep {R R2 : Fp} {wr w' : World} {r o : Nat} {F : Nat → Nat} {pb po : Nat} {A A2 : Nat → Option Addr} {n c g n2 c2 g2 : Nat → Nat} {k : Nat} {a' : Option Addr} {c' g' : Nat} {L : List Nat} (x : Rm R wr r F pb A n c g) (y : Rm R2 wr o (cpF F k) po A2 n2 c2 g2) (hk : k < 256) (hn2 : n2 k = 0) (hb : Below wr.heap.size wr w') (hs : SlA w' a' (n k) c' g' 0 L) (hg : 0 < c' → wr.heap.size ≤ g') (hL : n k = 4096 → ∀ i, i < 4096 → L.getD i 0 = F (atP k i)) :
    ∃ (A3 : Nat → Option Addr) (n3 c3 g3 : Nat → Nat), Rm (Up R2 wr w') (w'.setCell ⟨po, k, none⟩ (.slice a' (n k) c')) o (cpF F (k + 1)) po A3 n3 c3 g3 ∧ (∀ l, l ≠ k → n3 l = n2 l) ∧ Ch R2 wr (w'.setCell ⟨po, k, none⟩ (.slice a' (n k) c')) := by
  rcases x.pg k hk with ⟨h0, h1⟩ | ⟨h0, -, -, -⟩
  · rw [h0]
    obtain ⟨z1, z2⟩ := y.none2 (a' := a') (cp := c') hb hk hn2
    refine ⟨_, _, _, _, z1.congr (fun l i hl hi => ?_) (cpF_lt x.f8 _), fun l hl => setN_ne _ _ _ _ hl, z2⟩
    rw [cpF_at _ _ _ _ hi, cpF_at _ _ _ _ hi]
    by_cases e : l = k
    · subst e; rw [if_neg (Nat.lt_irrefl _), if_pos (Nat.lt_succ_self _), h1 i hi]
    · by_cases e2 : l < k
      · rw [if_pos e2, if_pos (by omega)]
      · rw [if_neg e2, if_neg (by omega)]
  · rw [h0] at hs ⊢
    obtain ⟨p1, p2, p3⟩ := page_sl (f := fun i => F (atP k i)) hs (hL h0)
    subst p1
    obtain ⟨z1, z2⟩ := y.page2 hb hk hn2 (hg (by omega)) p3 (fun i => x.f8 _) p2
    refine ⟨_, _, _, _, z1.congr (fun l i hl hi => ?_) (cpF_lt x.f8 _), fun l hl => setN_ne _ _ _ _ hl, z2⟩
    show (if atP k 0 ≤ atP l i ∧ atP l i < atP k 0 + 4096 then F (atP k (atP l i - atP k 0)) else cpF F k (atP l i)) = _
    rw [cpF_at F k l i hi, cpF_at F (k + 1) l i hi]
    by_cases e : l = k
    · subst e
      rw [if_pos (by unfold atP; omega), if_pos (Nat.lt_succ_self _)]
      congr 1; unfold atP; omega
    · rw [if_neg (by unfold atP; omega)]
      by_cases e2 : l < k
      · rw [if_pos e2, if_pos (by omega)]
      · rw [if_neg e2, if_neg (by omega)]
theorem s3_of {R R2 : Fp} {wr w' : World} {r o : Nat} {F G : Nat → Nat} {pb po : Nat} {A A2 : Nat → Option Addr} {n c g n2 c2 g2 : Nat → Nat} {k : Nat} (x : Rm R wr r F pb A n c g) (y : Rm R2 wr o G po A2 n2 c2 g2) (hk : k < 256) (hb : Below wr.heap.size wr w') : w'.cell? ⟨o, 0, none⟩ = some (.slice (some ⟨po, 0, none⟩) 256 256) ∧ w'.cell? ⟨r, 0, none⟩ = some (.slice (some ⟨pb, 0, none⟩) 256 256) ∧ w'.cell? ⟨pb, k, none⟩ = some (.slice (A k) (n k) (c k)) :=
  ⟨(hb.cell (p := ⟨o, 0, none⟩) y.lt).trans y.c0, (hb.cell (p := ⟨r, 0, none⟩) x.lt).trans x.c0, (hb.cell (p := ⟨pb, k, none⟩) x.pl).trans (x.pc k hk).1⟩
theorem s3_set {w' : World} {r o pb po k : Nat} {v u1 u2 u3 : Value} (h1 : po ≠ o) (h2 : po ≠ r) (h3 : po ≠ pb) (h : w'.cell? ⟨o, 0, none⟩ = some u1 ∧ w'.cell? ⟨r, 0, none⟩ = some u2 ∧ w'.cell? ⟨pb, k, none⟩ = some u3) : (w'.setCell ⟨po, k, none⟩ v).cell? ⟨o, 0, none⟩ = some u1 ∧ (w'.setCell ⟨po, k, none⟩ v).cell? ⟨r, 0, none⟩ = some u2 ∧ (w'.setCell ⟨po, k, none⟩ v).cell? ⟨pb, k, none⟩ = some u3 :=
  ⟨(World.cell?_setCell_other _ _ _ _ (fun q => by injection q with q1 q2; exact h1 q1)).trans h.1, (World.cell?_setCell_other _ _ _ _ (fun q => by injection q with q1 q2; exact h2 q1)).trans h.2.1, (World.cell?_setCell_other _ _ _ _ (fun q => by injection q with q1 q2; exact h3 q1)).trans h.2.2⟩
set_option maxRecDepth 100000 in
set_option maxHeartbeats 4000000 in
theorem copyr_c (R : Fp) (r : Nat) (F : Nat → Nat) (w : World) (hM : Hid (IsRm R w r F)) : Calls Try.prog 22 #[.pointer (some ⟨r, 0, none⟩)] w (RetCr F w) := by
  obtain ⟨pb, A, n, c, g, x⟩ := hM.out
  have HX := Lib.hid x
  clear x
  go_enter Try.func22, Try.ntmps22
  go_wp2_with fail
  refine (newr_c w).mono ?_; rintro e w1 ⟨o, Ro, po, Ao, co, go, rfl, hN, hRo, hb1⟩
  have HN := Lib.hid hN; have HRo := Lib.hid hRo; have HB1 := Lib.hid hb1
  clear hN hRo hb1
  go_wp2_with fail
  go_loopw [4] (fun iv wr => ∃ (k : Nat) (R2 : Fp) (A2 : Nat → Option Addr) (n2 c2 g2 : Nat → Nat), k ≤ 256 ∧ iv = .int .i64 k ∧ Hid (Rm R2 wr o (cpF F k) po A2 n2 c2 g2) ∧ Hid (∀ i j, R2 i j → w.heap.size ≤ i) ∧ Hid (∀ l, k ≤ l → n2 l = 0) ∧ Hid (Below w.heap.size w wr)) (fun iv _ => 256 - (intOf iv).toNat)
  case atStart =>
    refine ⟨0, Ro, Ao, fun _ => 0, co, go, Nat.zero_le _, rfl, ?_, HRo.out, fun _ _ => rfl, HB1.out⟩
    exact HN.out.congr (fun l i hl hi => by rw [cpF_at _ _ _ _ hi, if_neg (Nat.not_lt_zero _)]) (cpF_lt hM.out.f8 0)
  case round =>
    obtain ⟨k, R2, A2, n2, c2, g2, hk, rfl, HO, HR2, HZ, HB⟩ := hrel
    have HY : Hid (Rm R wr r F pb A n c g) := HX.out.kept (Ch.of_below (fun _ _ => False) HB.out) (fun _ _ h => h.elim)
    have y0 := HY.out.c0
    have o0 := HO.out.c0
    by_cases hlt : k < 256
    · have hlt' : (k : Int) < 256 := by omega
      have y1 := (HY.out.pc k hlt).1
      have o1 := (HO.out.pc k hlt).1
      have o2 := (HO.out.pc k hlt).2
      have kk1 : IntKind.i64.wrap ((k : Int) + 1) = (k : Int) + 1 := IntWalk.i64_in _ (by omega)
      obtain ⟨L, hL1, hL2, hL3⟩ := page_of HY.out k hlt
      have HL3 := Lib.hid hL3
      have hn47 : n k ≤ 140737488355328 := by omega
      have HPO : Hid (po ≠ o ∧ po ≠ r ∧ po ≠ pb) := ⟨HO.out.pr, fun e => by have := HR2.out _ 0 (HO.out.rp 0); have := HX.out.lt; omega, fun e => by have := HR2.out _ 0 (HO.out.rp 0); have := HX.out.pl; omega⟩
      clear hL3 hL2
      go_wp2_with fail
      go_region_held3 (fun w' => w'.cell? ⟨o, 0, none⟩ = some (.slice (some ⟨po, 0, none⟩) 256 256) ∧ w'.cell? ⟨r, 0, none⟩ = some (.slice (some ⟨pb, 0, none⟩) 256 256) ∧ w'.cell? ⟨pb, k, none⟩ = some (.slice (A k) (n k) (c k))) (first | exact s3_set HPO.out.1 HPO.out.2.1 HPO.out.2.2 (s3_of HY.out HO.out hlt (by repeat (first | (with_reducible first | exact Below.refl _ _ | assumption | exact Nat.le_refl _ | refine Below.drew ?_ | refine Below.alloc ?_ ?_ _ | refine Below.setCell ?_ ?_ _ | refine le_alloc ?_ | refine le_set ?_ | refine le_drew ?_ | refine below_step (by assumption) ?_ ?_ | refine le_below (by assumption) ?_) | (dsimp only; omega)))) | exact s3_of HY.out HO.out hlt (by repeat (first | (with_reducible first | exact Below.refl _ _ | assumption | exact Nat.le_refl _ | refine Below.drew ?_ | refine Below.alloc ?_ ?_ _ | refine Below.setCell ?_ ?_ _ | refine le_alloc ?_ | refine le_set ?_ | refine le_drew ?_ | refine below_step (by assumption) ?_ ?_ | refine le_below (by assumption) ?_) | (dsimp only; omega)))) (
        (refine step_all2 rfl (.tmp 20) (.tmp 27) rfl hL1 (HL3.out _ (by repeat (first | (with_reducible first | exact Below.refl _ _ | assumption | exact Nat.le_refl _ | refine Below.drew ?_ | refine Below.alloc ?_ ?_ _ | refine Below.setCell ?_ ?_ _ | refine le_alloc ?_ | refine le_set ?_ | refine le_drew ?_ | refine below_step (by assumption) ?_ ?_ | refine le_below (by assumption) ?_) | (dsimp only; omega)))).1 _ rfl rfl hn47 ?_; intro a1 cc gg wc q1 hb1 q3; have HC1 := Lib.hid q1; have HC3 := Lib.hid q3; have hb9 : Below wr.heap.size wr wc := (by repeat (first | (with_reducible first | exact Below.refl _ _ | assumption | exact Nat.le_refl _ | refine Below.drew ?_ | refine Below.alloc ?_ ?_ _ | refine Below.setCell ?_ ?_ _ | refine le_alloc ?_ | refine le_set ?_ | refine le_drew ?_ | refine below_step (by assumption) ?_ ?_ | refine le_below (by assumption) ?_) | (dsimp only; omega))); have HB9 := Lib.hid hb9; have k1 := (hb9.cell (p := ⟨po, k, none⟩) HO.out.pl).trans o1; have k2 := (hb9.frozen (p := ⟨po, k, none⟩) HO.out.pl).trans o2; clear q1 q3 hb9))
      all_goals
        obtain ⟨A3, n3, c3, g3, z1, z2, z3⟩ := HY.out.cpStep HO.out hlt (HZ.out k (Nat.le_refl _)) HB9.out HC1.out (fun h => by have := HC3.out h; simp only [sz_drew, sz_alloc] at this; omega) (fun h => (HL3.out wr (Below.refl _ _)).2 h)
        have Z1 := Lib.hid z1; have Z2 := Lib.hid z2; have Z3 := Lib.hid z3
        clear z1 z2 z3
        go_wp2_with fail
        go_roundw
        case rel => exact ⟨k + 1, Up R2 wr wc, A3, n3, c3, g3, by omega, by go_num, Z1, fun i j h => h.elim (HR2.out i j) (fun q => Nat.le_trans HB.out.size q.1), fun l hl => by rw [Z2.out l (by omega)]; exact HZ.out l (by omega), Z3.out.below (fun i j h => HR2.out i j h) HB.out HB.out.size⟩
        case measure => simp [intOf]; omega
    · obtain rfl : k = 256 := by omega
      go_wp2_with fail
      go_ret
      refine ⟨o, R2, rfl, ⟨_, _, _, _, _, HO.out.congr (fun l i hl hi => by rw [cpF_at _ _ _ _ hi, if_pos hl]) hM.out.f8⟩, HR2.out, HB.out⟩
end Go.Proofs.Ytibgdlianedcbaa
namespace Go.Proofs.Ytibgdlianedcbaa
open Go.ChangeShapes Go.WideShapes Go.ChangeAt Go.RowKit
set_option linter.unusedVariables false
theorem ba_beq {X Y : ByteArray} (h : X ≠ Y) : (X == Y) = false := by
  cases e : X == Y
  · rfl
  · refine absurd ?_ h
    cases X with
    | mk x => cases Y with
      | mk y =>
        have e2 : (x == y) = true := e
        rw [eq_of_beq e2]
theorem conv_page {w : World} {g c : Nat} {f : Nat → Nat} (h : PageIs w g f) : (convert 22 9 (.slice (some ⟨g, 0, none⟩) 4096 c)).run Try.prog w = .ok (.string (strB (pageLs f))) w := by
  refine run_convert_bytes_arg w 22 5 Try.underlying22 Try.underlying5 g 0 4096 c _ (by simp [pageLs_len]) (fun i hi => ?_) _ Try.underlying9
  rw [Nat.zero_add, (h.2 i hi).1]
  simp [pageLs, hi]
theorem strB_page {f g : Nat → Nat} (hf : ∀ i, f i < 256) (hg : ∀ i, g i < 256) (h : strB (pageLs f) = strB (pageLs g)) : eqPg f g = true := by
  rw [eqPg_true]
  intro i hi
  have h1 : ((pageLs f).map (fun n : Nat => UInt8.ofNat ((n : Int)).toNat)) = ((pageLs g).map (fun n : Nat => UInt8.ofNat ((n : Int)).toNat)) := by
    have h2 : (strB (pageLs f)).data.toList = (strB (pageLs g)).data.toList := by rw [h]
    unfold strB at h2
    rw [strOfNums_data, strOfNums_data, List.map_map, List.map_map] at h2
    exact h2
  have h3 := congrArg (fun l => l[i]?) h1
  simp only [List.getElem?_map, pageLs] at h3
  rw [List.getElem?_range hi] at h3
  simp only [Option.map_some, Option.some.injEq, Int.toNat_natCast] at h3
  have h4 := congrArg UInt8.toNat h3
  simp only [UInt8.toNat_ofNat'] at h4
  have := hf i; have := hg i
  omega
theorem strB_eq {f g : Nat → Nat} (h : eqPg f g = true) : strB (pageLs f) = strB (pageLs g) := by
  have : pageLs f = pageLs g := List.map_congr_left (fun i hi => (eqPg_true f g).1 h i (List.mem_range.1 hi))
  rw [this]
def pgEq (F G : Nat → Nat) (k : Nat) : Bool := eqPg (fun i => F (atP k i)) (fun i => G (atP k i))
theorem pg_z {F G : Nat → Nat} {k : Nat} (h : zF F k ≠ zF G k) : pgEq F G k = false := by
  cases e : pgEq F G k
  · rfl
  · refine absurd ?_ h
    have e2 := (eqPg_true _ _).1 e
    have : ∀ b, zF F k = b ↔ zF G k = b := fun b => by
      cases b
      · constructor
        · intro h1
          cases h2 : zF G k
          · rfl
          · rw [← h1]; exact ((eqPg_true _ _).2 (fun i hi => (e2 i hi).trans ((eqPg_true _ _).1 h2 i hi))).symm
        · intro h1
          cases h2 : zF F k
          · rfl
          · rw [← h1]; exact ((eqPg_true _ _).2 (fun i hi => (e2 i hi).symm.trans ((eqPg_true _ _).1 h2 i hi))).symm
      · constructor
        · intro h1; exact (eqPg_true _ _).2 (fun i hi => (e2 i hi).symm.trans ((eqPg_true _ _).1 h1 i hi))
        · intro h1; exact (eqPg_true _ _).2 (fun i hi => (e2 i hi).trans ((eqPg_true _ _).1 h1 i hi))
    exact (this _).2 rfl
theorem pg_zz {F G : Nat → Nat} {k : Nat} (h1 : zF F k = true) (h2 : zF G k = true) : pgEq F G k = true :=
  (eqPg_true _ _).2 (fun i hi => ((eqPg_true _ _).1 h1 i hi).trans ((eqPg_true _ _).1 h2 i hi).symm)
theorem pg_no {F G : Nat → Nat} {k : Nat} (hk : k < 256) (h : pgEq F G k = false) : sameV F G = false := by
  cases e : sameV F G
  · rfl
  · rw [← h]
    exact ((eqPg_true _ _).2 (fun i hi => (sameV_true F G).1 e _ (by unfold atP; omega) (by unfold atP; omega))).symm
theorem pg_all {F G : Nat → Nat} (h : ∀ l, l < 256 → pgEq F G l = true) : sameV F G = true :=
  (sameV_true F G).2 (fun y h1 h2 => by
    obtain ⟨e1, e2, e3⟩ := at_split y h1 h2
    rw [e1]; exact (eqPg_true _ _).1 (h _ e2) _ e3)
theorem full_of {R : Fp} {w : World} {r : Nat} {F : Nat → Nat} {pb : Nat} {A : Nat → Option Addr} {n c g : Nat → Nat} (x : Rm R w r F pb A n c g) (k : Nat) (hk : k < 256) (h : zF F k = false) : n k = 4096 ∧ A k = some ⟨g k, 0, none⟩ ∧ PageIs w (g k) (fun i => F (atP k i)) := by
  rcases x.pg k hk with ⟨h0, h1⟩ | ⟨h0, -, h2, h3⟩
  · exact absurd ((eqPg_true (fun i => F (atP k i)) (fun _ => 0)).2 h1) (by rw [show eqPg (fun i => F (atP k i)) (fun _ => 0) = zF F k from rfl, h]; decide)
  · exact ⟨h0, h2, h3⟩
theorem conv_n {w : World} {g c : Nat} {f : Nat → Nat} (h : PageIs w g f) (j : Nat) : (convert 22 9 (.slice (some ⟨g, 0, none⟩) 4096 c)).run Try.prog (w.drewN j) = .ok (.string (strB (pageLs f))) (w.drewN j) :=
  conv_page (page_ch h (Ch.of_below (fun _ _ => False) (below_drewN (Below.refl _ _) j)) (fun _ h => h))
set_option maxRecDepth 100000 in
set_option maxHeartbeats 4000000 in
theorem samer_c (R R2 : Fp) (r s : Nat) (F G : Nat → Nat) (w : World) (hM : Hid (IsRm R w r F)) (hN : Hid (IsRm R2 w s G)) : Calls Try.prog 23 #[.pointer (some ⟨r, 0, none⟩), .pointer (some ⟨s, 0, none⟩)] w (RetB (sameV F G) w) := by
  obtain ⟨pb, A, n, c, g, x⟩ := hM.out
  obtain ⟨qb, B, m, d, h, y⟩ := hN.out
  have HX := Lib.hid x
  have HY := Lib.hid y
  clear x y
  go_enter Try.func23, Try.ntmps23
  go_wp2_with fail
  go_loopw [5] (fun iv wr => ∃ k : Nat, k ≤ 256 ∧ iv = .int .i64 k ∧ Hid (Below w.heap.size w wr) ∧ Hid (∀ l, l < k → pgEq F G l = true)) (fun iv _ => 256 - (intOf iv).toNat)
  case atStart => exact ⟨0, Nat.zero_le _, rfl, Below.refl _ _, fun l hl => absurd hl (Nat.not_lt_zero l)⟩
  case round =>
    obtain ⟨k, hk, rfl, HB, HE⟩ := hrel
    have HX2 : Hid (Rm R wr r F pb A n c g) := HX.out.kept (Ch.of_below (fun _ _ => False) HB.out) (fun _ _ h => h.elim)
    have HY2 : Hid (Rm R2 wr s G qb B m d h) := HY.out.kept (Ch.of_below (fun _ _ => False) HB.out) (fun _ _ h => h.elim)
    have x0 := HX2.out.c0
    have y0 := HY2.out.c0
    by_cases hlt : k < 256
    · have hlt' : (k : Int) < 256 := by omega
      have x1 := (HX2.out.pc k hlt).1
      have y1 := (HY2.out.pc k hlt).1
      have HZ1 := Lib.hid (zeros_of HX2.out k hlt)
      have HZ2 := Lib.hid (zeros_of HY2.out k hlt)
      have kk1 : IntKind.i64.wrap ((k : Int) + 1) = (k : Int) + 1 := IntWalk.i64_in _ (by omega)
      have HL := Lib.hid hlt
      cases hz1 : zF F k <;> cases hz2 : zF G k
      · obtain ⟨n1, A1, P1⟩ := full_of HX2.out k hlt hz1
        obtain ⟨m1, B1, P2⟩ := full_of HY2.out k hlt hz2
        rw [hz1] at HZ1; rw [hz2] at HZ2
        rw [n1, A1] at x1 HZ1; rw [m1, B1] at y1 HZ2
        have cv1 := fun j => conv_n (c := c k) P1 j
        have cv2 := fun j => conv_n (c := d k) P2 j
        have HP1 := Lib.hid P1; have HP2 := Lib.hid P2
        clear n1 A1 P1 m1 B1 P2 hz1 hz2
        cases he : pgEq F G k
        · have hne : strB (pageLs fun i => F (atP k i)) ≠ strB (pageLs fun i => G (atP k i)) := fun e => by
            have := strB_page (fun i => hM.out.f8 _) (fun i => hN.out.f8 _) e
            rw [show eqPg (fun i => F (atP k i)) (fun i => G (atP k i)) = pgEq F G k from rfl, he] at this
            cases this
          have HV : Hid (sameV F G = false) := pg_no hlt he
          clear he
          generalize strB (pageLs fun i => F (atP k i)) = SX at cv1 hne
          generalize strB (pageLs fun i => G (atP k i)) = SY at cv2 hne
          have hn1 : (SX.toList == SY.toList) = false := (beq_toListBytes SX SY).symm.trans (ba_beq hne)
          have hn2 : ¬ SX.toList = SY.toList := fun e => by rw [e] at hn1; simp at hn1
          clear hne
          go_wp2_with fail
          refine HZ1.out.mono ?_; rintro e w2 ⟨rfl, h2⟩
          replace h2 := h2.symm; subst h2
          go_wp2_with fail
          refine HZ2.out.mono ?_; rintro e w2 ⟨rfl, h2⟩
          replace h2 := h2.symm; subst h2
          go_wp2_with fail
          go_quiet (fail)
          go_wp2_with fail
          go_ret
          exact retB_mk (by rw [HV.out]) (below_drewN HB.out _)
        · have hsx : strB (pageLs fun i => G (atP k i)) = strB (pageLs fun i => F (atP k i)) := (strB_eq he).symm
          rw [hsx] at cv2
          have HV : Hid (pgEq F G k = true) := he
          clear he hsx
          generalize strB (pageLs fun i => F (atP k i)) = SX at cv1 cv2
          go_wp2_with fail
          refine HZ1.out.mono ?_; rintro e w2 ⟨rfl, h2⟩
          replace h2 := h2.symm; subst h2
          go_wp2_with fail
          refine HZ2.out.mono ?_; rintro e w2 ⟨rfl, h2⟩
          replace h2 := h2.symm; subst h2
          go_wp2_with fail
          go_quiet (fail)
          go_wp2_with fail
          go_roundw
          case rel => exact ⟨k + 1, by omega, by go_num, (below_drewN HB.out _), fun l hl => by
            by_cases e : l = k
            · rw [e]; exact HV.out
            · exact HE.out l (by omega)⟩
          case measure => simp [intOf]; omega
      · rw [hz1] at HZ1; rw [hz2] at HZ2
        have HV : Hid (sameV F G = false) := pg_no hlt (pg_z (by rw [hz1, hz2]; decide))
        clear hz1 hz2
        go_wp2_with fail
        refine HZ1.out.mono ?_; rintro e w2 ⟨rfl, h2⟩
        replace h2 := h2.symm; subst h2
        go_wp2_with fail
        refine HZ2.out.mono ?_; rintro e w2 ⟨rfl, h2⟩
        replace h2 := h2.symm; subst h2
        go_wp2_with fail
        go_quiet (fail)
        go_wp2_with fail
        go_ret
        exact retB_mk (by rw [HV.out]) (below_drewN HB.out _)
      · rw [hz1] at HZ1; rw [hz2] at HZ2
        have HV : Hid (sameV F G = false) := pg_no hlt (pg_z (by rw [hz1, hz2]; decide))
        clear hz1 hz2
        go_wp2_with fail
        refine HZ1.out.mono ?_; rintro e w2 ⟨rfl, h2⟩
        replace h2 := h2.symm; subst h2
        go_wp2_with fail
        refine HZ2.out.mono ?_; rintro e w2 ⟨rfl, h2⟩
        replace h2 := h2.symm; subst h2
        go_wp2_with fail
        go_quiet (fail)
        go_wp2_with fail
        go_ret
        exact retB_mk (by rw [HV.out]) (below_drewN HB.out _)
      · rw [hz1] at HZ1; rw [hz2] at HZ2
        have HV : Hid (pgEq F G k = true) := pg_zz hz1 hz2
        clear hz1 hz2
        go_wp2_with fail
        refine HZ1.out.mono ?_; rintro e w2 ⟨rfl, h2⟩
        replace h2 := h2.symm; subst h2
        go_wp2_with fail
        refine HZ2.out.mono ?_; rintro e w2 ⟨rfl, h2⟩
        replace h2 := h2.symm; subst h2
        go_wp2_with fail
        go_quiet (fail)
        go_wp2_with fail
        go_roundw
        case rel => exact ⟨k + 1, by omega, by go_num, (below_drewN HB.out _), fun l hl => by
          by_cases e : l = k
          · rw [e]; exact HV.out
          · exact HE.out l (by omega)⟩
        case measure => simp [intOf]; omega
    · obtain rfl : k = 256 := by omega
      have HV : Hid (sameV F G = true) := pg_all HE.out
      go_wp2_with fail
      go_ret
      exact retB_mk (by rw [HV.out]) HB.out
end Go.Proofs.Ytibgdlianedcbaa
