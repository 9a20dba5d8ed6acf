/- The bus' Copy. -/
import Derived.Test.YtoicpikkcefheaaGreatBH
namespace Go.Proofs.YtoicpikkcefheaaGreat
open Go.ChangeShapes Go.WideShapes Go.ChangeAt Go.RowKit Go.Sort
open M (Fp Dj Cw Up Th Grp GrpAt GrpC Cpd jn exT)
set_option linter.unusedVariables false
set_option linter.unusedSimpArgs false
set_option maxRecDepth 20000
theorem copyMb_d {R W : Fp} {w : World} {m : Nat} {F : Nat → Nat} (q : (eMb m F).P R W w) : Calls Tryz.prog 47 #[.pointer (some ⟨m, 0, none⟩)] w (fun e w' => ∃ m', e = .returned (.pointer (some ⟨m', 0, none⟩)) ∧ Cpd (eMb m F) (eMb m' F) R W w w') := by
  obtain ⟨⟨e, T, h1, h2, h3⟩, hF⟩ := id q
  refine (M.copy_c T m F w h1).mono ?_
  rintro e' w' ⟨m', T', rfl, k1, k2, hb⟩
  exact ⟨m', rfl, cpd_new q hb (R1 := fun k _ => T' k) (W1 := fun k _ => T' k) ⟨⟨rfl, T', k1, fun _ _ => Iff.rfl, fun k hk => (k2 k hk).2⟩, hF⟩ (fun k j hk => (k2 k hk).1)⟩
abbrev cps (D : Dv) (x : Nat × Nat × Nat) : List Th := [eC x.1 D.s D.a D.t, eP x.2.1 D.S, eU x.2.2 D.U]
theorem copyDs_d {R W : Fp} {w : World} {b o c p u : Nat} {D : Dv} (q : (eDs b o c p u D).P R W w) : Calls Tryz.prog 48 #[.pointer (some ⟨b, o, none⟩)] w (fun e w' => ∃ x : Nat × Nat × Nat, e = .returned (.agg #[.pointer (some ⟨x.1, 0, none⟩), .pointer (some ⟨x.2.1, 0, none⟩), .pointer (some ⟨x.2.2, 0, none⟩), .bool D.one]) ∧ Cpd (eDs b o c p u D) (jn (cps D x)) R W w w') := by
  refine (copied_k b o c p u D R W w w (Lib.hid (M.grpC_start q))).mono ?_
  rintro e w' ⟨c', p', u', rfl, g, hb⟩
  exact ⟨(c', p', u'), rfl, M.GrpC.split (l := dl b o c p u D) (l' := cps D (c', p', u')) g q.2.1 q.2.2⟩
section
variable {n0 : Nat} {R0 W0 : Fp} {w0 w : World} {l : List Th}
theorem copyMb_k (h : GrpC n0 R0 W0 w0 l w) (i : Nat) {m : Nat} {F : Nat → Nat} (hi : l[i]? = some (eMb m F)) (hin : i < n0) : Calls Tryz.prog 47 #[.pointer (some ⟨m, 0, none⟩)] w (fun e w' => ∃ m', e = .returned (.pointer (some ⟨m', 0, none⟩)) ∧ GrpC n0 R0 W0 w0 (l ++ [eMb m' F]) w' ∧ Below w.heap.size w w') :=
  h.copyCall i hi hin (fun c' => .pointer (some ⟨c', 0, none⟩)) (fun m' => eMb m' F) (fun R W q => copyMb_d q)
theorem copyDs_k (h : GrpC n0 R0 W0 w0 l w) (i : Nat) {b o c p u : Nat} {D : Dv} (hi : l[i]? = some (eDs b o c p u D)) (hin : i < n0) : Calls Tryz.prog 48 #[.pointer (some ⟨b, o, none⟩)] w (fun e w' => ∃ x : Nat × Nat × Nat, e = .returned (.agg #[.pointer (some ⟨x.1, 0, none⟩), .pointer (some ⟨x.2.1, 0, none⟩), .pointer (some ⟨x.2.2, 0, none⟩), .bool D.one]) ∧ GrpC n0 R0 W0 w0 (l ++ [jn (cps D x)]) w' ∧ Below w.heap.size w w') :=
  h.copyCall i hi hin (fun x : Nat × Nat × Nat => .agg #[.pointer (some ⟨x.1, 0, none⟩), .pointer (some ⟨x.2.1, 0, none⟩), .pointer (some ⟨x.2.2, 0, none⟩), .bool D.one]) (fun x => jn (cps D x)) (fun R W q => copyDs_d q)
theorem ev_shared {R W : Fp} {v : Value} {L : List Ev} (q : (eEv v L).P R W w) : Cpd (eEv v L) (eEv v L) R W w w :=
  ⟨R, fun _ _ => False, W, q, fun _ _ h => h, ⟨fun _ _ h => h, q.2.1, q.2.2⟩, fun _ _ h => h.elim, fun _ _ h => .inr h, fun k j h => (q.1 k j h).elim, Below.refl _ _⟩
theorem share_ev (h : GrpC n0 R0 W0 w0 l w) (i : Nat) {v : Value} {L : List Ev} (hi : l[i]? = some (eEv v L)) (hin : i < n0) : GrpC n0 R0 W0 w0 (l ++ [eEv v L]) w := by
  obtain ⟨⟨R, W, h1, h2, h3⟩, h4, h5⟩ := h
  exact M.GrpC.copiedX h1 h2 h3 h4 h5 i hi hin (ev_shared (h1.each i _ hi))
end
theorem dj4 {R W : Nat → Fp} (h01 : Dj (W 0) (R 1)) (h02 : Dj (W 0) (R 2)) (h03 : Dj (W 0) (R 3)) (h10 : Dj (W 1) (R 0)) (h12 : Dj (W 1) (R 2)) (h13 : Dj (W 1) (R 3)) (h20 : Dj (W 2) (R 0)) (h21 : Dj (W 2) (R 1)) (h23 : Dj (W 2) (R 3)) (h30 : Dj (W 3) (R 0)) (h31 : Dj (W 3) (R 1)) (h32 : Dj (W 3) (R 2)) : ∀ i j, i < 4 → j < 4 → i ≠ j → Dj (W i) (R j) := by
  intro i j hi hj hne
  have i4 : i = 0 ∨ i = 1 ∨ i = 2 ∨ i = 3 := by omega
  have j4 : j = 0 ∨ j = 1 ∨ j = 2 ∨ j = 3 := by omega
  rcases i4 with rfl | rfl | rfl | rfl <;> rcases j4 with rfl | rfl | rfl | rfl <;> first | exact absurd rfl hne | assumption
theorem each4 {P : Nat → Th → Prop} {A B C D : Th} (h0 : P 0 A) (h1 : P 1 B) (h2 : P 2 C) (h3 : P 3 D) : ∀ (i : Nat) (E : Th), [A, B, C, D][i]? = some E → P i E := by
  intro i E h
  match i, h with
  | 0, h => obtain rfl : A = E := by simpa using h
            exact h0
  | 1, h => obtain rfl : B = E := by simpa using h
            exact h1
  | 2, h => obtain rfl : C = E := by simpa using h
            exact h2
  | 3, h => obtain rfl : D = E := by simpa using h
            exact h3
  | n + 4, h => simp at h
theorem all4 {P : Nat → Prop} (h0 : P 0) (h1 : P 1) (h2 : P 2) (h3 : P 3) : ∀ i, i < 4 → P i := by
  intro i hi
  have i4 : i = 0 ∨ i = 1 ∨ i = 2 ∨ i = 3 := by omega
  rcases i4 with rfl | rfl | rfl | rfl <;> assumption
def pk4 (a b c d : Fp) : Nat → Fp
  | 0 => a
  | 1 => b
  | 2 => c
  | _ => d
/-- The parts of a copy, put together as a bus' are. -/
theorem regroup {R W : Fp} {w : World} {A C Q U B V E : Th} (h : (jn [A, jn [C, Q, U], jn [B, V], E]).P R W w) : (jn [B, jn [V, C, Q, U], A, E]).P R W w := by
  obtain ⟨⟨Rs, Ws, h1, h2, h3, h4⟩, h5, h6⟩ := h
  have L : ∀ i, i < 4 → i < [A, jn [C, Q, U], jn [B, V], E].length := fun i hi => hi
  obtain ⟨⟨Rc, Wc, c1, c2, c3, c4⟩, c5, c6⟩ := h1 1 _ rfl
  obtain ⟨⟨Rb, Wb, b1, b2, b3, b4⟩, b5, b6⟩ := h1 2 _ rfl
  have d := fun i j (hi : i < 4) (hj : j < 4) (hne : i ≠ j) => h2 i j hi hj hne
  have r3 := fun i (hi : i < 4) => h3 i hi
  have w4 := fun i (hi : i < 4) => h4 i hi
  have cr := fun i (hi : i < 3) => c3 i hi
  have cw := fun i (hi : i < 3) => c4 i hi
  have br := fun i (hi : i < 2) => b3 i hi
  have bw := fun i (hi : i < 2) => b4 i hi
  have bd := fun i j (hi : i < 2) (hj : j < 2) (hne : i ≠ j) => b2 i j hi hj hne
  have cd := fun i j (hi : i < 3) (hj : j < 3) (hne : i ≠ j) => c2 i j hi hj hne
  refine ⟨⟨pk4 (Rb 0) (fun k j => Rb 1 k j ∨ Rs 1 k j) (Rs 0) (Rs 3), pk4 (Wb 0) (fun k j => Wb 1 k j ∨ Ws 1 k j) (Ws 0) (Ws 3), ?_, ?_, ?_, ?_⟩, h5, h6⟩
  · refine each4 (P := fun i E => E.P (pk4 (Rb 0) (fun k j => Rb 1 k j ∨ Rs 1 k j) (Rs 0) (Rs 3) i) (pk4 (Wb 0) (fun k j => Wb 1 k j ∨ Ws 1 k j) (Ws 0) (Ws 3) i) w) (b1 0 _ rfl) ?_ (h1 0 _ rfl) (h1 3 _ rfl)
    refine ⟨⟨pk4 (Rb 1) (Rc 0) (Rc 1) (Rc 2), pk4 (Wb 1) (Wc 0) (Wc 1) (Wc 2), ?_, ?_, ?_, ?_⟩, fun k j q => q.imp (V.wr (b1 1 _ rfl) k j) (c5 k j), fun k j q => q.elim (V.rlt (b1 1 _ rfl) k j) (c6 k j)⟩
    · exact each4 (P := fun i E => E.P (pk4 (Rb 1) (Rc 0) (Rc 1) (Rc 2) i) (pk4 (Wb 1) (Wc 0) (Wc 1) (Wc 2) i) w) (b1 1 _ rfl) (c1 0 _ rfl) (c1 1 _ rfl) (c1 2 _ rfl)
    · have x : ∀ i, i < 3 → Dj (Wb 1) (Rc i) := fun i hi k j q1 q2 => d 2 1 (by decide) (by decide) (by decide) k j (bw 1 (by decide) k j q1) (cr i hi k j q2)
      have y : ∀ i, i < 3 → Dj (Wc i) (Rb 1) := fun i hi k j q1 q2 => d 1 2 (by decide) (by decide) (by decide) k j (cw i hi k j q1) (br 1 (by decide) k j q2)
      exact dj4 (R := pk4 (Rb 1) (Rc 0) (Rc 1) (Rc 2)) (W := pk4 (Wb 1) (Wc 0) (Wc 1) (Wc 2)) (x 0 (by decide)) (x 1 (by decide)) (x 2 (by decide)) (y 0 (by decide)) (cd 0 1 (by decide) (by decide) (by decide)) (cd 0 2 (by decide) (by decide) (by decide)) (y 1 (by decide)) (cd 1 0 (by decide) (by decide) (by decide)) (cd 1 2 (by decide) (by decide) (by decide)) (y 2 (by decide)) (cd 2 0 (by decide) (by decide) (by decide)) (cd 2 1 (by decide) (by decide) (by decide))
    · exact all4 (P := fun i => ∀ k j, pk4 (Rb 1) (Rc 0) (Rc 1) (Rc 2) i k j → Rb 1 k j ∨ Rs 1 k j) (fun k j q => .inl q) (fun k j q => .inr (cr 0 (by decide) k j q)) (fun k j q => .inr (cr 1 (by decide) k j q)) (fun k j q => .inr (cr 2 (by decide) k j q))
    · exact all4 (P := fun i => ∀ k j, pk4 (Wb 1) (Wc 0) (Wc 1) (Wc 2) i k j → Wb 1 k j ∨ Ws 1 k j) (fun k j q => .inl q) (fun k j q => .inr (cw 0 (by decide) k j q)) (fun k j q => .inr (cw 1 (by decide) k j q)) (fun k j q => .inr (cw 2 (by decide) k j q))
  · have b0 : ∀ k j, Wb 0 k j → Ws 2 k j := bw 0 (by decide)
    have b0r : ∀ k j, Rb 0 k j → Rs 2 k j := br 0 (by decide)
    have b1' : ∀ k j, Wb 1 k j → Ws 2 k j := bw 1 (by decide)
    have b1r : ∀ k j, Rb 1 k j → Rs 2 k j := br 1 (by decide)
    refine dj4 (R := pk4 (Rb 0) (fun k j => Rb 1 k j ∨ Rs 1 k j) (Rs 0) (Rs 3)) (W := pk4 (Wb 0) (fun k j => Wb 1 k j ∨ Ws 1 k j) (Ws 0) (Ws 3)) ?_ ?_ ?_ ?_ ?_ ?_ ?_ ?_ ?_ ?_ ?_ ?_
    · exact fun k j q q2 => q2.elim (bd 0 1 (by decide) (by decide) (by decide) k j q) (d 2 1 (by decide) (by decide) (by decide) k j (b0 k j q))
    · exact fun k j q q2 => d 2 0 (by decide) (by decide) (by decide) k j (b0 k j q) q2
    · exact fun k j q q2 => d 2 3 (by decide) (by decide) (by decide) k j (b0 k j q) q2
    · exact fun k j q q2 => q.elim (fun q => bd 1 0 (by decide) (by decide) (by decide) k j q q2) (fun q => d 1 2 (by decide) (by decide) (by decide) k j q (b0r k j q2))
    · exact fun k j q q2 => q.elim (fun q => d 2 0 (by decide) (by decide) (by decide) k j (b1' k j q) q2) (fun q => d 1 0 (by decide) (by decide) (by decide) k j q q2)
    · exact fun k j q q2 => q.elim (fun q => d 2 3 (by decide) (by decide) (by decide) k j (b1' k j q) q2) (fun q => d 1 3 (by decide) (by decide) (by decide) k j q q2)
    · exact fun k j q q2 => d 0 2 (by decide) (by decide) (by decide) k j q (b0r k j q2)
    · exact fun k j q q2 => q2.elim (fun q2 => d 0 2 (by decide) (by decide) (by decide) k j q (b1r k j q2)) (d 0 1 (by decide) (by decide) (by decide) k j q)
    · exact d 0 3 (by decide) (by decide) (by decide)
    · exact fun k j q q2 => d 3 2 (by decide) (by decide) (by decide) k j q (b0r k j q2)
    · exact fun k j q q2 => q2.elim (fun q2 => d 3 2 (by decide) (by decide) (by decide) k j q (b1r k j q2)) (d 3 1 (by decide) (by decide) (by decide) k j q)
    · exact d 3 0 (by decide) (by decide) (by decide)
  · exact all4 (P := fun i => ∀ k j, pk4 (Rb 0) (fun k j => Rb 1 k j ∨ Rs 1 k j) (Rs 0) (Rs 3) i k j → R k j) (fun k j q => r3 2 (by decide) k j (br 0 (by decide) k j q)) (fun k j q => q.elim (fun q => r3 2 (by decide) k j (br 1 (by decide) k j q)) (r3 1 (by decide) k j)) (r3 0 (by decide)) (r3 3 (by decide))
  · exact all4 (P := fun i => ∀ k j, pk4 (Wb 0) (fun k j => Wb 1 k j ∨ Ws 1 k j) (Ws 0) (Ws 3) i k j → W k j) (fun k j q => w4 2 (by decide) k j (bw 0 (by decide) k j q)) (fun k j q => q.elim (fun q => w4 2 (by decide) k j (bw 1 (by decide) k j q)) (w4 1 (by decide) k j)) (w4 0 (by decide)) (w4 3 (by decide))
/-- The cells of a new bus. -/
theorem newB {w : World} {m c p u : Nat} {one : Bool} {v : Value} {cyc : Int} {t : TypeId} : (jn [eBc w.heap.size m v cyc, eDv w.heap.size 1 c p u one]).P (fun k _ => k = w.heap.size) (fun k _ => k = w.heap.size) (w.alloc (Obj.cells #[.pointer (some ⟨m, 0, none⟩), .pointer (some ⟨c, 0, none⟩), .pointer (some ⟨p, 0, none⟩), .pointer (some ⟨u, 0, none⟩), .bool one, v, .int .i64 cyc] t)) := by
  have hlt : w.heap.size < (w.alloc (Obj.cells #[.pointer (some ⟨m, 0, none⟩), .pointer (some ⟨c, 0, none⟩), .pointer (some ⟨p, 0, none⟩), .pointer (some ⟨u, 0, none⟩), .bool one, v, .int .i64 cyc] t)).heap.size := by rw [sz_alloc]; omega
  refine ⟨⟨fun i k j => k = w.heap.size ∧ (if i = 0 then j = 0 ∨ j = 5 ∨ j = 6 else 1 ≤ j ∧ j < 5), fun i k j => k = w.heap.size ∧ (if i = 0 then j = 0 ∨ j = 5 ∨ j = 6 else 1 ≤ j ∧ j < 5), fun i E h => ?_, fun i j hi hj hne k x q1 q2 => ?_, fun i hi k j q => q.1, fun i hi k j q => q.1⟩, fun k j q => q, fun k j q => by rw [q]; exact hlt⟩
  · match i, h with
    | 0, h =>
      obtain rfl : eBc w.heap.size m v cyc = E := by simpa using h
      refine ⟨⟨⟨rfl, .inl rfl⟩, ⟨rfl, .inr (.inl rfl)⟩, ⟨rfl, .inr (.inr rfl)⟩⟩, fun k j q => q, fun k j q => by rw [q.1]; exact hlt, hlt, ?_, ?_, ?_, ?_, ?_, ?_⟩ <;> first
        | (rw [World.cell?_alloc_at _ _ _ _ rfl]; rfl)
        | (rw [World.frozen?_alloc_at _ _ _ _ rfl])
    | 1, h =>
      obtain rfl : eDv w.heap.size 1 c p u one = E := by simpa using h
      refine ⟨fun j hj => ⟨rfl, by show 1 ≤ 1 + j ∧ 1 + j < 5; omega⟩, fun k j q => q, fun k j q => by rw [q.1]; exact hlt, hlt, ?_, ?_, ?_, ?_, ?_, ?_, ?_, ?_⟩ <;> first
        | (rw [World.cell?_alloc_at _ _ _ _ rfl]; rfl)
        | (rw [World.frozen?_alloc_at _ _ _ _ rfl])
    | n + 2, h => simp at h
  · have hi2 : i = 0 ∨ i = 1 := by have : i < 2 := hi; omega
    have hj2 : j = 0 ∨ j = 1 := by have : j < 2 := hj; omega
    have q1 := q1.2; have q2 := q2.2
    rcases hi2 with rfl | rfl <;> rcases hj2 with rfl | rfl
    · exact hne rfl
    · rw [if_pos rfl] at q1; rw [if_neg (by decide)] at q2; omega
    · rw [if_neg (by decide)] at q1; rw [if_pos rfl] at q2; omega
    · exact hne rfl
theorem cells3 {w w' : World} {b : Nat} {v0 v5 v6 : Value} (hb : b < w.heap.size) (c0 : w.cell? ⟨b, 0, none⟩ = some v0) (c5 : w.cell? ⟨b, 5, none⟩ = some v5) (c6 : w.cell? ⟨b, 6, none⟩ = some v6) (h : Below w.heap.size w w') :
    w'.cell? ⟨b, 0, none⟩ = some v0 ∧ w'.cell? ⟨b, 5, none⟩ = some v5 ∧ w'.cell? ⟨b, 6, none⟩ = some v6 :=
  ⟨(h.cell (p := ⟨b, 0, none⟩) hb).trans c0, (h.cell (p := ⟨b, 5, none⟩) hb).trans c5, (h.cell (p := ⟨b, 6, none⟩) hb).trans c6⟩
theorem cpd_bus {R W : Fp} {w w' : World} {b m c p u b' m' c' p' u' : Nat} {v : Value} {S : Bs} (h : Cpd (jn (bl b m c p u v S)) (jn [eMb m' S.F, jn (cps S.D (c', p', u')), jn [eBc b' m' v S.cyc, eDv b' 1 c' p' u' S.D.one], eEv v S.ahead]) R W w w') : Cpd (eBus b S) (eBus b' S) R W w w' := by
  obtain ⟨R', W', V, h1, h2, h3, h4, h5, h6, h7⟩ := h
  exact ⟨R', W', V, ⟨(m, c, p, u, v), h1⟩, h2, ⟨(m', c', p', u', v), regroup h3⟩, h4, h5, h6, h7⟩
theorem copy_b {R W : Fp} {w : World} {b : Nat} {S : Bs} (q : (eBus b S).P R W w) : Calls Tryz.prog 11 #[.pointer (some ⟨b, 0, none⟩)] w (fun e w' => ∃ b', e = .returned (.pointer (some ⟨b', 0, none⟩)) ∧ Cpd (eBus b S) (eBus b' S) R W w w') := by
  obtain ⟨⟨m, c, p, u, v⟩, q⟩ := q
  have hG := Lib.hid (M.grpC_start q)
  obtain ⟨h4, c0, c1, c2, c3, c4, c5, c6, f5, f6⟩ := bus_cells hG.out.grp
  have H5 := Lib.hid q.2.1
  have H6 := Lib.hid q.2.2
  dsimp only at c0 c1 c2 c3 c4 c5 c6
  change Hid (GrpC 4 R W w (bl b m c p u v S) w) at hG
  obtain ⟨ea, en, ec, eg, eo, rfl, -⟩ := get_ev hG.out.grp
  clear q c1 c2 c3 c4 f5 f6
  go_enter Tryz.func11, Tryz.ntmps11
  go_wp2_with fail
  go_region_held3 (fun w' => w'.cell? ⟨b, 0, none⟩ = some (.pointer (some ⟨m, 0, none⟩)) ∧ w'.cell? ⟨b, 5, none⟩ = some (.slice ea en ec) ∧ w'.cell? ⟨b, 6, none⟩ = some (.int .i64 S.cyc)) (exact cells3 h4 c0 c5 c6 (by repeat (first | (with_reducible first | exact Below.refl _ _ | assumption | exact Nat.le_refl _ | refine Below.drew ?_ | refine Below.alloc ?_ ?_ _ | refine Below.setCell ?_ ?_ _ | refine le_alloc ?_ | refine le_set ?_ | refine le_drew ?_ | refine below_step (by assumption) ?_ ?_ | refine le_below (by assumption) ?_) | (dsimp only; omega)))) (first
    | (go_at_call 47; refine (copyMb_k (hG.out.below (by repeat (first | (with_reducible first | exact Below.refl _ _ | assumption | exact Nat.le_refl _ | refine Below.drew ?_ | refine Below.alloc ?_ ?_ _ | refine Below.setCell ?_ ?_ _ | refine le_alloc ?_ | refine le_set ?_ | refine le_drew ?_ | refine below_step (by assumption) ?_ ?_ | refine le_below (by assumption) ?_) | (dsimp only; omega)))) 2 rfl (by decide)).mono ?_; rintro e w1 ⟨m', rfl, g1, hb1⟩; have G1 := Lib.hid g1; clear g1)
    | (go_at_call 48; refine (copyDs_k (G1.out.below (by repeat (first | (with_reducible first | exact Below.refl _ _ | assumption | exact Nat.le_refl _ | refine Below.drew ?_ | refine Below.alloc ?_ ?_ _ | refine Below.setCell ?_ ?_ _ | refine le_alloc ?_ | refine le_set ?_ | refine le_drew ?_ | refine below_step (by assumption) ?_ ?_ | refine le_below (by assumption) ?_) | (dsimp only; omega)))) 1 rfl (by decide)).mono ?_; rintro e w2 ⟨⟨c', p', u'⟩, rfl, g2, hb2⟩; have G2 := Lib.hid g2; clear g2))
  all_goals
    go_wp2_with fail
    go_ret
    have g3 := G2.out.push (below_one w2 (Obj.cells #[.pointer (some ⟨m', 0, none⟩), .pointer (some ⟨c', 0, none⟩), .pointer (some ⟨p', 0, none⟩), .pointer (some ⟨u', 0, none⟩), .bool S.D.one, .slice ea en ec, .int .i64 S.cyc] 65)) (newB (m := m') (c := c') (p := p') (u := u') (one := S.D.one) (v := .slice ea en ec) (cyc := S.cyc)) (fun k j hk => Nat.le_of_eq hk.symm)
    have g4 := share_ev g3 3 rfl (by decide)
    exact ⟨_, rfl, cpd_bus (M.GrpC.split (l := bl b m c p u (.slice ea en ec) S) (l' := [eMb m' S.F, jn (cps S.D (c', p', u')), jn [eBc w2.heap.size m' (.slice ea en ec) S.cyc, eDv w2.heap.size 1 c' p' u' S.D.one], eEv (.slice ea en ec) S.ahead]) g4 H5.out H6.out)⟩
/-- Six new things, as a bus' four. -/
theorem fold6 {w0 w : World} {A C Q U E N : Th} (h : Grp (fun _ _ => False) (fun _ _ => False) w0 [A, C, Q, U, E, N] w) : ∃ R W : Fp, (jn [A, jn [C, Q, U], N, E]).P R W w ∧ (∀ k j, R k j → w0.heap.size ≤ k) ∧ Below w0.heap.size w0 w := by
  have h7 := h.out.nothing (fun _ _ q => q.elim)
  obtain ⟨R, W, g1, g2, g3, g4, g5⟩ := h
  have d := fun i j (hi : i < 6) (hj : j < 6) (hne : i ≠ j) => g2 i j hi hj hne
  have r := fun i (hi : i < 6) => g3 i hi
  have u := fun i (hi : i < 6) => g4 i hi
  have wr : ∀ i, i < 6 → ∀ k j, W i k j → R i k j := fun i hi => by
    obtain ⟨F, hF⟩ : ∃ F, [A, C, Q, U, E, N][i]? = some F := ⟨_, List.getElem?_eq_getElem hi⟩
    exact F.wr (g1 i F hF)
  have nw : ∀ i, i < 6 → ∀ k j, R i k j → w0.heap.size ≤ k ∧ k < w.heap.size := fun i hi k j q => (r i hi k j q).elim (fun q => q.elim) id
  let R1 : Fp := fun k j => R 1 k j ∨ R 2 k j ∨ R 3 k j
  let W1 : Fp := fun k j => W 1 k j ∨ W 2 k j ∨ W 3 k j
  refine ⟨fun k j => w0.heap.size ≤ k ∧ k < w.heap.size, fun k j => w0.heap.size ≤ k ∧ k < w.heap.size, ⟨⟨pk4 (R 0) R1 (R 5) (R 4), pk4 (W 0) W1 (W 5) (W 4), ?_, ?_, ?_, ?_⟩, fun k j q => q, fun k j q => q.2⟩, fun k j q => q.1, h7⟩
  · refine each4 (P := fun i E => E.P (pk4 (R 0) R1 (R 5) (R 4) i) (pk4 (W 0) W1 (W 5) (W 4) i) w) (g1 0 _ rfl) ?_ (g1 5 _ rfl) (g1 4 _ rfl)
    refine ⟨⟨fun i => R (i + 1), fun i => W (i + 1), fun i F hF => g1 (i + 1) F ?_, fun i j hi hj hne => d (i + 1) (j + 1) (by have : i < 3 := hi; omega) (by have : j < 3 := hj; omega) (by omega), fun i hi k j q => ?_, fun i hi k j q => ?_⟩, fun k j q => ?_, fun k j q => ?_⟩
    · match i, hF with
      | 0, hF => exact hF
      | 1, hF => exact hF
      | 2, hF => exact hF
      | n + 3, hF => simp at hF
    · have i3 : i = 0 ∨ i = 1 ∨ i = 2 := by have : i < 3 := hi; omega
      rcases i3 with rfl | rfl | rfl
      · exact .inl q
      · exact .inr (.inl q)
      · exact .inr (.inr q)
    · have i3 : i = 0 ∨ i = 1 ∨ i = 2 := by have : i < 3 := hi; omega
      rcases i3 with rfl | rfl | rfl
      · exact .inl q
      · exact .inr (.inl q)
      · exact .inr (.inr q)
    · exact q.imp (wr 1 (by decide) k j) (fun q => q.imp (wr 2 (by decide) k j) (wr 3 (by decide) k j))
    · exact q.elim (fun q => (nw 1 (by decide) k j q).2) (fun q => q.elim (fun q => (nw 2 (by decide) k j q).2) (fun q => (nw 3 (by decide) k j q).2))
  · have to1 : ∀ i, i < 6 → i ≠ 1 → i ≠ 2 → i ≠ 3 → Dj (W i) R1 := fun i hi n1 n2 n3 k j q q2 => q2.elim (d i 1 hi (by decide) n1 k j q) (fun q2 => q2.elim (d i 2 hi (by decide) n2 k j q) (d i 3 hi (by decide) n3 k j q))
    have of1 : ∀ i, i < 6 → i ≠ 1 → i ≠ 2 → i ≠ 3 → Dj W1 (R i) := fun i hi n1 n2 n3 k j q q2 => q.elim (fun q => d 1 i (by decide) hi (Ne.symm n1) k j q q2) (fun q => q.elim (fun q => d 2 i (by decide) hi (Ne.symm n2) k j q q2) (fun q => d 3 i (by decide) hi (Ne.symm n3) k j q q2))
    exact dj4 (R := pk4 (R 0) R1 (R 5) (R 4)) (W := pk4 (W 0) W1 (W 5) (W 4)) (to1 0 (by decide) (by decide) (by decide) (by decide)) (d 0 5 (by decide) (by decide) (by decide)) (d 0 4 (by decide) (by decide) (by decide)) (of1 0 (by decide) (by decide) (by decide) (by decide)) (of1 5 (by decide) (by decide) (by decide) (by decide)) (of1 4 (by decide) (by decide) (by decide) (by decide)) (d 5 0 (by decide) (by decide) (by decide)) (to1 5 (by decide) (by decide) (by decide) (by decide)) (d 5 4 (by decide) (by decide) (by decide)) (d 4 0 (by decide) (by decide) (by decide)) (to1 4 (by decide) (by decide) (by decide) (by decide)) (d 4 5 (by decide) (by decide) (by decide))
  · exact all4 (P := fun i => ∀ k j, pk4 (R 0) R1 (R 5) (R 4) i k j → w0.heap.size ≤ k ∧ k < w.heap.size) (nw 0 (by decide)) (fun k j q => q.elim (nw 1 (by decide) k j) (fun q => q.elim (nw 2 (by decide) k j) (nw 3 (by decide) k j))) (nw 5 (by decide)) (nw 4 (by decide))
  · exact all4 (P := fun i => ∀ k j, pk4 (W 0) W1 (W 5) (W 4) i k j → w0.heap.size ≤ k ∧ k < w.heap.size) (fun k j q => nw 0 (by decide) k j (wr 0 (by decide) k j q)) (fun k j q => q.elim (fun q => nw 1 (by decide) k j (wr 1 (by decide) k j q)) (fun q => q.elim (fun q => nw 2 (by decide) k j (wr 2 (by decide) k j q)) (fun q => nw 3 (by decide) k j (wr 3 (by decide) k j q)))) (fun k j q => nw 5 (by decide) k j (wr 5 (by decide) k j q)) (fun k j q => nw 4 (by decide) k j (wr 4 (by decide) k j q))
end Go.Proofs.YtoicpikkcefheaaGreat
