/- What the laws call besides: entry, same. -/
import Derived.Test.YtdplcdgdndeopaaF3
namespace Go.Proofs.Ytdplcdgdndeopaa
open Go.ChangeShapes Go.WideShapes Go.ChangeAt Go.RowKit Go.Sort
set_option linter.unusedVariables false
set_option linter.unusedSimpArgs false
set_option maxRecDepth 100000 in
theorem entry_c (kd lv : Int) (ad sp lf : Nat) (gl : Bool) (w : World) : Calls Try.prog 12 #[.agg #[.int .i64 kd, .int .u64 (ad : Nat), .int .i64 lv, .int .u64 (sp : Nat), .bool gl, .int .u64 (lf : Nat)]] w (fun e w' => e = .returned (.agg #[.int .u64 (ad : Nat), .int .i64 lv, .int .u64 (sp : Nat), .bool gl, .int .u64 (lf : Nat)]) ∧ Below w.heap.size w w') := by
  go_enter Try.func12, Try.ntmps12
  go_wp2_with fail
  have HB : Hid (∀ w' : World, Below w.heap.size w w' → Below w.heap.size w w') := fun _ h => h
  refine bodyPost_ret (by simp [results, Try.results12, go_sem] <;> (first | rfl | (repeat' (first | rfl | apply And.intro)))) rfl ?_
  exact ⟨rfl, HB.out _ (by repeat (first | (with_reducible first | exact Below.refl _ _ | assumption | exact Nat.le_refl _ | refine Below.drew ?_ | refine Below.alloc ?_ ?_ _ | refine Below.setCell ?_ ?_ _ | refine le_alloc ?_ | refine le_set ?_ | refine le_drew ?_ | refine below_step (by assumption) ?_ ?_ | refine le_below (by assumption) ?_) | (dsimp only; omega)))⟩
theorem OwnE.at5 {t : TypeId} {w : World} {base : Nat} {a : Option Addr} {n c : Nat} {L : List En} (h : OwnE t w base (.slice a n c) L) {k : Nat} (hk : k < L.length) :
    ∃ (g ad sp lf : Nat) (lv : Int) (gl : Bool), a = some ⟨g, 0, none⟩ ∧ base ≤ g ∧ g < w.heap.size ∧ L[k]? = some ⟨ad, lv, sp, gl, lf⟩ ∧ w.cell? ⟨g, k * 5, none⟩ = some (.int .u64 (ad : Nat)) ∧ w.cell? ⟨g, k * 5 + 1, none⟩ = some (.int .i64 lv) ∧ w.cell? ⟨g, k * 5 + 2, none⟩ = some (.int .u64 (sp : Nat)) ∧ w.cell? ⟨g, k * 5 + 3, none⟩ = some (.bool gl) ∧ w.cell? ⟨g, k * 5 + 4, none⟩ = some (.int .u64 (lf : Nat)) := by
  obtain ⟨h1, h2⟩ := h.cells
  obtain ⟨g, e, hb, hl, hc⟩ := h2 (by omega)
  cases hx : L[k] with
  | mk ad lv sp gl lf =>
    have hk2 : L[k]? = some ⟨ad, lv, sp, gl, lf⟩ := by rw [List.getElem?_eq_getElem hk, hx]
    exact ⟨g, ad, sp, lf, lv, gl, e, hb, hl, hk2, (hc k _ hk2 0 (by decide)).trans rfl, (hc k _ hk2 1 (by decide)).trans rfl, (hc k _ hk2 2 (by decide)).trans rfl, (hc k _ hk2 3 (by decide)).trans rfl, (hc k _ hk2 4 (by decide)).trans rfl⟩
set_option maxRecDepth 100000 in
set_option maxHeartbeats 4000000 in
theorem same_c (b1 b2 : Nat) (a1 a2 : Option Addr) (n c1 c2 : Nat) (L : List En) (w : World) (hl : Hid (L.length = n)) (hn : Hid (n ≤ 1000)) (h1 : Hid (OwnE 33 w b1 (.slice a1 n c1) L)) (h2 : Hid (OwnE 36 w b2 (.slice a2 n c2) L)) :
    Calls Try.prog 22 #[.slice a1 n c1, .slice a2 n c2] w (RetB true w) := by
  go_enter Try.func22, Try.ntmps22
  go_wp2_with fail
  go_loopg [5] n (fun gg i wr => ∃ k : Nat, k + gg = n ∧ i = .int .i64 k ∧ Hid (OwnE 33 wr b1 (.slice a1 n c1) L ∧ OwnE 36 wr b2 (.slice a2 n c2) L ∧ Below w.heap.size w wr))
  case atStart => exact ⟨0, by omega, rfl, h1.out, h2.out, Below.refl _ _⟩
  case round =>
    obtain ⟨k, hk, rfl, hr⟩ := hrel
    clear h1 h2
    cases gk with
    | zero =>
      obtain rfl : k = n := by omega
      go_wp2_with fail
      go_ret
      exact retB_mk rfl hr.out.2.2
    | succ gg =>
      have hlt : (k : Int) < n := by omega
      have hkn : k < n := by omega
      have kk1 : IntKind.i64.wrap ((k : Int) + 1) = (k : Int) + 1 := by have := hn.out; exact IntWalk.i64_in _ (by omega)
      obtain ⟨g1, ad, sp, lf, lv, gl, rfl, _, _, e1, x0, x1, x2, x3, x4⟩ := hr.out.1.at5 (k := k) (by rw [hl.out]; exact hkn)
      obtain ⟨g2, ad', sp', lf', lv', gl', rfl, _, _, e2, y0, y1, y2, y3, y4⟩ := hr.out.2.1.at5 (k := k) (by rw [hl.out]; exact hkn)
      obtain ⟨rfl, rfl, rfl, rfl, rfl⟩ : ad' = ad ∧ lv' = lv ∧ sp' = sp ∧ gl' = gl ∧ lf' = lf := by
        rw [e1] at e2; simp at e2
        obtain ⟨q1, q2, q3, q4, q5⟩ := e2
        exact ⟨q1.symm, q2.symm, q3.symm, q4.symm, q5.symm⟩
      clear e1 e2
      replace x0 := cell_regrown x0; replace x1 := cell_regrown x1; replace x2 := cell_regrown x2; replace x3 := cell_regrown x3; replace x4 := cell_regrown x4
      replace y0 := cell_regrown y0; replace y1 := cell_regrown y1; replace y2 := cell_regrown y2; replace y3 := cell_regrown y3; replace y4 := cell_regrown y4
      go_upto_region 6 with fail
      refine wp_region_quiet_below (by kernel_rfl) (by kernel_rfl) ?_
      repeat (go_big_quiet_step (fail))
      refine wpQuiet_nil ?_
      intro _ hw'
      obtain ⟨⟨dq, osq⟩, hw''⟩ := hw'
      subst hw''
      have hb := below_regrown wr dq osq
      have HR := Lib.hid (show OwnE 33 (grow (redrawn wr dq) osq) b1 (.slice (some ⟨g1, 0, none⟩) n c1) L ∧ OwnE 36 (grow (redrawn wr dq) osq) b2 (.slice (some ⟨g2, 0, none⟩) n c2) L ∧ Below w.heap.size w (grow (redrawn wr dq) osq) from ⟨hr.out.1.below hb, hr.out.2.1.below hb, below_step hb hr.out.2.2 hr.out.2.2.size⟩)
      generalize grow (redrawn wr dq) osq = w5 at HR ⊢
      clear hb x0 x1 x2 x3 x4 y0 y1 y2 y3 y4 hr
      go_wp2_with fail
      go_roundg gg
      case measure => omega
      exact ⟨k + 1, by omega, by push_cast; rfl, HR.out⟩
theorem info_st (x : Sx) : (Try.prog.info? 30).map (·.size) = some x.v.size := by show _ = some 6; kernel_rfl
def stC (kd lv : Int) (ad sp lf : Nat) (gl : Bool) : Array Value := #[.int .i64 kd, .int .u64 (ad : Nat), .int .i64 lv, .int .u64 (sp : Nat), .bool gl, .int .u64 (lf : Nat)]
theorem st6 {w : World} {g : Nat} {kd lv : Int} {ad sp lf : Nat} {gl : Bool} (h : Row w g 30 (stC kd lv ad sp lf gl)) :
    w.cell? ⟨g, 0, none⟩ = some (.int .i64 kd) ∧ w.cell? ⟨g, 1, none⟩ = some (.int .u64 (ad : Nat)) ∧ w.cell? ⟨g, 2, none⟩ = some (.int .i64 lv) ∧ w.cell? ⟨g, 3, none⟩ = some (.int .u64 (sp : Nat)) ∧ w.cell? ⟨g, 4, none⟩ = some (.bool gl) ∧ w.cell? ⟨g, 5, none⟩ = some (.int .u64 (lf : Nat)) :=
  ⟨(h.cell 0).trans rfl, (h.cell 1).trans rfl, (h.cell 2).trans rfl, (h.cell 3).trans rfl, (h.cell 4).trans rfl, (h.cell 5).trans rfl⟩
theorem steps_at {W u : World} {b o n : Nat} {X : Nat → Sx} (hS : Steps W b o n X) (hb : b < W.heap.size) (hB : Below W.heap.size W u) {k : Nat} (hk : k < n) {kd lv : Int} {ad sp lf : Nat} {gl : Bool} (hx : X k = ⟨kd, ⟨ad, lv, sp, gl, lf⟩⟩) :
    (∀ j, j < (stC kd lv ad sp lf gl).size → u.cell? ⟨b, o + k * 6 + j, none⟩ = (stC kd lv ad sp lf gl)[j]?) ∧ En.Wf ⟨ad, lv, sp, gl, lf⟩ := by
  obtain ⟨h1, h2⟩ := hS k hk
  rw [hx] at h1 h2
  exact ⟨fun j hj => (hB.cell (p := ⟨b, o + k * 6 + j, none⟩) hb).trans (h1 j hj), h2⟩
theorem info_stC (kd lv : Int) (ad sp lf : Nat) (gl : Bool) : (Try.prog.info? 30).map (·.size) = some (stC kd lv ad sp lf gl).size := by show _ = some 6; kernel_rfl
/-- How many are taken. -/
theorem cnt_mono {f g : Nat → Bool} (h : ∀ n, n < 8 → f n = true → g n = true) : cnt f ≤ cnt g := by
  have one : ∀ n, n < 8 → (f n).toNat ≤ (g n).toNat := fun n hn => by
    cases hf : f n with
    | false => exact Nat.zero_le _
    | true => rw [h n hn hf]; exact Nat.le_refl _
  unfold cnt
  have := one 0 (by decide); have := one 1 (by decide); have := one 2 (by decide); have := one 3 (by decide); have := one 4 (by decide); have := one 5 (by decide); have := one 6 (by decide); have := one 7 (by decide)
  omega
theorem cnt_full {f : Nat → Bool} (h : ∀ n, n < 8 → f n = true) : cnt f = 8 := by
  unfold cnt
  rw [h 0 (by decide), h 1 (by decide), h 2 (by decide), h 3 (by decide), h 4 (by decide), h 5 (by decide), h 6 (by decide), h 7 (by decide)]; rfl
theorem cnt_set (f : Nat → Bool) (n : Nat) (hn : n < 8) : cnt (setF f n true) ≤ cnt f + 1 := by
  cases h : f n with
  | false => rw [cnt_on f n hn h]; exact Nat.le_refl _
  | true => rw [setF_same f n true h]; exact Nat.le_succ _
/-- As long as there is room a seed decides nothing. -/
theorem put_room (e : Nat → En) (is : Nat → Bool) (x : En) (hc : cnt is < 8) : ∃ e' is', cnt is' ≤ cnt is + 1 ∧ ∀ s, putS ⟨e, is, s⟩ x = ⟨e', is', s⟩ := by
  cases ho : okP x with
  | false => exact ⟨e, is, Nat.le_succ _, fun s => by unfold putS; rw [if_neg (by rw [ho]; decide)]⟩
  | true =>
    have hp : ∃ n, n < 8 ∧ ∀ s, placeN ⟨e, is, s⟩ x = (n, s) := by
      unfold placeN
      cases h1 : fst (fun n => is n && sameB (e n) x) 0 8 with
      | some n => exact ⟨n, by have := (fst_some h1).2.1; omega, fun s => by simp only [h1]⟩
      | none =>
        cases h2 : fst (fun n => !is n) 0 8 with
        | some n => exact ⟨n, by have := (fst_some h2).2.1; omega, fun s => by simp only [h1, h2]⟩
        | none =>
          have := cnt_full (f := is) (fun n hn => by have := fst_none h2 n (Nat.zero_le _) (by omega); simpa using this)
          omega
    obtain ⟨n, hn, hs⟩ := hp
    refine ⟨setF e n x, setF is n true, cnt_set is n hn, fun s => ?_⟩
    unfold putS
    rw [if_pos ho, hs s]
theorem fence_room (e : Nat → En) (is : Nat → Bool) (bA : Bool) (a : Nat) (bS : Bool) (s : Nat) : ∃ e' is', cnt is' ≤ cnt is ∧ ∀ sd, fenceS ⟨e, is, sd⟩ bA a bS s = ⟨e', is', sd⟩ :=
  ⟨fun n => if goesB (e n) bA a bS s = true then E0 else e n, fun n => if goesB (e n) bA a bS s = true then false else is n, cnt_mono (fun n _ h => by
    have h : (if goesB (e n) bA a bS s = true then false else is n) = true := h
    split at h
    · cases h
    · exact h), fun sd => rfl⟩
end Go.Proofs.Ytdplcdgdndeopaa
