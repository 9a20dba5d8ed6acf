/- The document's Tlb: what it is; New; Find. -/
import Derived.Test.YtdplcdgdndeopaaR1
namespace Go.Proofs.Ytdplcdgdndeopaa
open Go.ChangeShapes Go.WideShapes Go.ChangeAt Go.RowKit Go.Sort
set_option linter.unusedVariables false
set_option linter.unusedSimpArgs false
/-- Entries in a block, by fives; marks in a block. -/
def RowE (w : World) (L : Nat) (e : Nat → En) : Prop := ∃ ce, Row w L 36 ce ∧ ∀ n, n < 8 → ∀ j, j < 5 → ce[5 * n + j]? = (e n).v[j]?
def RowI (w : World) (I : Nat) (f : Nat → Bool) : Prop := ∃ ce, Row w I 4 ce ∧ ∀ n, n < 8 → ce[n]? = some (.bool (f n))
theorem RowE.below {w w' : World} {L B : Nat} {e : Nat → En} (h : RowE w L e) (hb : Below B w w') (hB : L < B) : RowE w' L e := by
  obtain ⟨ce, h1, h2⟩ := h; exact ⟨ce, h1.below hb hB, h2⟩
theorem RowI.below {w w' : World} {I B : Nat} {f : Nat → Bool} (h : RowI w I f) (hb : Below B w w') (hB : I < B) : RowI w' I f := by
  obtain ⟨ce, h1, h2⟩ := h; exact ⟨ce, h1.below hb hB, h2⟩
theorem RowE.own {S : Nat → Prop} {w w' : World} {L : Nat} {e : Nat → En} (h : RowE w L e) (ho : Own S w w') (hl : L < w.heap.size) (hS : ¬ S L) : RowE w' L e := by
  obtain ⟨ce, h1, h2⟩ := h; exact ⟨ce, ho.row h1 hl hS, h2⟩
theorem RowI.own {S : Nat → Prop} {w w' : World} {I : Nat} {f : Nat → Bool} (h : RowI w I f) (ho : Own S w w') (hl : I < w.heap.size) (hS : ¬ S I) : RowI w' I f := by
  obtain ⟨ce, h1, h2⟩ := h; exact ⟨ce, ho.row h1 hl hS, h2⟩
theorem RowE.fz {w : World} {L : Nat} {e : Nat → En} (h : RowE w L e) (k : Nat) : w.frozen? ⟨L, k, none⟩ = false := by
  obtain ⟨ce, h1, h2⟩ := h; exact h1.fz k
theorem RowI.fz {w : World} {I : Nat} {f : Nat → Bool} (h : RowI w I f) (k : Nat) : w.frozen? ⟨I, k, none⟩ = false := by
  obtain ⟨ce, h1, h2⟩ := h; exact h1.fz k
theorem RowE.set_ne {w : World} {L g : Nat} {e : Nat → En} (h : RowE w L e) (hg : g ≠ L) (k : Nat) (v : Value) : RowE (w.setCell ⟨g, k, none⟩ v) L e := by
  obtain ⟨ce, h1, h2⟩ := h; exact ⟨ce, h1.set_ne hg k v, h2⟩
theorem RowI.set_ne {w : World} {I g : Nat} {f : Nat → Bool} (h : RowI w I f) (hg : g ≠ I) (k : Nat) (v : Value) : RowI (w.setCell ⟨g, k, none⟩ v) I f := by
  obtain ⟨ce, h1, h2⟩ := h; exact ⟨ce, h1.set_ne hg k v, h2⟩
theorem RowI.mark {w : World} {I : Nat} {f : Nat → Bool} (h : RowI w I f) (n : Nat) (v : Bool) (hn : n < 8) : RowI (w.setCell ⟨I, n, none⟩ (.bool v)) I (setF f n v) := by
  obtain ⟨ce, h1, h2⟩ := h
  refine ⟨_, h1.set n (.bool v), fun k hk => ?_⟩
  have hs : n < ce.size := (Array.getElem?_eq_some_iff.1 (h2 n hn)).1
  rw [Array.getElem?_setIfInBounds]
  unfold setF
  by_cases e : n = k
  · subst e; simp [hs]
  · rw [if_neg e, if_neg (Ne.symm e)]; exact h2 k hk
theorem RowE.lay {w : World} {L : Nat} {e : Nat → En} (h : RowE w L e) (n : Nat) (ad sp lf : Nat) (lv : Int) (gl : Bool) (hn : n < 8) : RowE
    (((((w.setCell ⟨L, n * 5, none⟩ (.int .u64 (ad : Nat))).setCell ⟨L, n * 5 + 1, none⟩ (.int .i64 lv)).setCell ⟨L, n * 5 + 2, none⟩ (.int .u64 (sp : Nat))).setCell ⟨L, n * 5 + 3, none⟩ (.bool gl)).setCell ⟨L, n * 5 + 4, none⟩ (.int .u64 (lf : Nat))) L (setF e n ⟨ad, lv, sp, gl, lf⟩) := by
  obtain ⟨ce, h1, h2⟩ := h
  refine ⟨_, ((((h1.set (n * 5) (.int .u64 (ad : Nat))).set (n * 5 + 1) (.int .i64 lv)).set (n * 5 + 2) (.int .u64 (sp : Nat))).set (n * 5 + 3) (.bool gl)).set (n * 5 + 4) (.int .u64 (lf : Nat)), fun k hk j hj => ?_⟩
  have hs : ∀ j, j < 5 → n * 5 + j < ce.size := fun j hj => by
    have q := h2 n hn j hj
    have hv : j < (e n).v.size := hj
    rw [Array.getElem?_eq_getElem hv, Nat.mul_comm] at q
    exact (Array.getElem?_eq_some_iff.1 q).1
  have s0 : n * 5 < ce.size := hs 0 (by decide)
  have s1 := hs 1 (by decide)
  have s2 := hs 2 (by decide)
  have s3 := hs 3 (by decide)
  have s4 := hs 4 (by decide)
  simp only [Array.getElem?_setIfInBounds, Array.size_setIfInBounds, h2 k hk j hj]
  unfold setF
  by_cases ek : k = n
  · subst ek
    have hc : j = 0 ∨ j = 1 ∨ j = 2 ∨ j = 3 ∨ j = 4 := by omega
    rcases hc with rfl | rfl | rfl | rfl | rfl
    · rw [if_neg (by omega), if_neg (by omega), if_neg (by omega), if_neg (by omega), if_pos (by omega), if_pos s0, if_pos rfl]; rfl
    · rw [if_neg (by omega), if_neg (by omega), if_neg (by omega), if_pos (by omega), if_pos s1, if_pos rfl]; rfl
    · rw [if_neg (by omega), if_neg (by omega), if_pos (by omega), if_pos s2, if_pos rfl]; rfl
    · rw [if_neg (by omega), if_pos (by omega), if_pos s3, if_pos rfl]; rfl
    · rw [if_pos (by omega), if_pos s4, if_pos rfl]; rfl
  · rw [if_neg (by omega), if_neg (by omega), if_neg (by omega), if_neg (by omega), if_neg (by omega), if_neg ek]
structure TRat (b L cl I ci : Nat) (X : St) (w : World) : Prop where
  bL : b ≠ L
  bI : b ≠ I
  LI : L ≠ I
  lb : b < w.heap.size
  lL : L < w.heap.size
  lI : I < w.heap.size
  kl : 8 ≤ cl
  ki : 8 ≤ ci
  rb : Row w b 62 #[.slice (some ⟨L, 0, none⟩) 8 cl, .slice (some ⟨I, 0, none⟩) 8 ci, .int .u64 (X.sd : Nat)]
  rL : RowE w L X.e
  rI : RowI w I X.is
theorem TRat.below {b L cl I ci : Nat} {X : St} {w w' : World} (h : TRat b L cl I ci X w) (hb : Below w.heap.size w w') : TRat b L cl I ci X w' :=
  ⟨h.bL, h.bI, h.LI, Nat.lt_of_lt_of_le h.lb hb.size, Nat.lt_of_lt_of_le h.lL hb.size, Nat.lt_of_lt_of_le h.lI hb.size, h.kl, h.ki, h.rb.below hb h.lb, h.rL.below hb h.lL, h.rI.below hb h.lI⟩
def eTR (b : Nat) (X : St) : Th where
  P S w := ∃ L cl I ci, TRat b L cl I ci X w ∧ ∀ k, S k ↔ k = b ∨ k = L ∨ k = I
  kept := fun ⟨L, cl, I, ci, h, hS⟩ ho hd => ⟨L, cl, I, ci, ⟨h.bL, h.bI, h.LI, Nat.lt_of_lt_of_le h.lb ho.size, Nat.lt_of_lt_of_le h.lL ho.size, Nat.lt_of_lt_of_le h.lI ho.size, h.kl, h.ki,
    ho.row h.rb h.lb (hd _ ((hS b).2 (.inl rfl))), h.rL.own ho h.lL (hd _ ((hS L).2 (.inr (.inl rfl)))), h.rI.own ho h.lI (hd _ ((hS I).2 (.inr (.inr rfl))))⟩, hS⟩
  lt := fun ⟨L, cl, I, ci, h, hS⟩ i q => by
    rcases (hS i).1 q with e | e | e
    · rw [e]; exact h.lb
    · rw [e]; exact h.lL
    · rw [e]; exact h.lI
theorem TRat.en {b L cl I ci : Nat} {X : St} {w : World} (h : TRat b L cl I ci X w) (n j : Nat) (hn : n < 8) (hj : j < 5) : w.cell? ⟨L, 5 * n + j, none⟩ = (X.e n).v[j]? := by
  obtain ⟨ce, h1, h2⟩ := h.rL
  exact (h1.cell _).trans (h2 n hn j hj)
theorem TRat.en5 {b L cl I ci : Nat} {X : St} {w : World} (h : TRat b L cl I ci X w) (n : Nat) (hn : n < 8) {ad sp lf : Nat} {lv : Int} {gl : Bool} (hx : X.e n = ⟨ad, lv, sp, gl, lf⟩) :
    w.cell? ⟨L, n * 5, none⟩ = some (.int .u64 (ad : Nat)) ∧ w.cell? ⟨L, n * 5 + 1, none⟩ = some (.int .i64 lv) ∧ w.cell? ⟨L, n * 5 + 2, none⟩ = some (.int .u64 (sp : Nat)) ∧ w.cell? ⟨L, n * 5 + 3, none⟩ = some (.bool gl) ∧ w.cell? ⟨L, n * 5 + 4, none⟩ = some (.int .u64 (lf : Nat)) := by
  have e0 := h.en n 0 hn (by decide)
  have e1 := h.en n 1 hn (by decide)
  have e2 := h.en n 2 hn (by decide)
  have e3 := h.en n 3 hn (by decide)
  have e4 := h.en n 4 hn (by decide)
  rw [hx, Nat.mul_comm] at e0 e1 e2 e3 e4
  exact ⟨e0, e1, e2, e3, e4⟩
theorem TRat.is {b L cl I ci : Nat} {X : St} {w : World} (h : TRat b L cl I ci X w) (n : Nat) (hn : n < 8) : w.cell? ⟨I, n, none⟩ = some (.bool (X.is n)) := by
  obtain ⟨ce, h1, h2⟩ := h.rI
  exact (h1.cell _).trans (h2 n hn)
def NewT (T : Nat → St → Th) (sd : Nat) (w : World) (e : Ending) (w' : World) : Prop := ∃ b S, e = .returned (.pointer (some ⟨b, 0, none⟩)) ∧ (T b (S0 sd)).P S w' ∧ (∀ k, S k → w.heap.size ≤ k) ∧ Below w.heap.size w w'
theorem m_en : ∀ w, (Instr.makeSlice 46 (.int .i64 8) (.int .i64 8)).run Try.prog w = .ok (.slice (some ⟨w.heap.size, 0, none⟩) 8 8) (w.alloc (.cells (enC fun _ => E0) 36)) := fun w => by kernel_rfl
theorem m_is : ∀ w, (Instr.makeSlice 60 (.int .i64 8) (.int .i64 8)).run Try.prog w = .ok (.slice (some ⟨w.heap.size, 0, none⟩) 8 8) (w.alloc (.cells (isC fun _ => false) 4)) := fun w => by kernel_rfl
theorem rows_3 (w : World) (A B C : Array Value) (ta tb tc : TypeId) : Row (((w.alloc (Obj.cells A ta)).alloc (Obj.cells B tb)).alloc (Obj.cells C tc)).drew w.heap.size ta A ∧ Row (((w.alloc (Obj.cells A ta)).alloc (Obj.cells B tb)).alloc (Obj.cells C tc)).drew (w.heap.size + 1) tb B ∧ Row (((w.alloc (Obj.cells A ta)).alloc (Obj.cells B tb)).alloc (Obj.cells C tc)).drew (w.heap.size + 1 + 1) tc C ∧
    (((w.alloc (Obj.cells A ta)).alloc (Obj.cells B tb)).alloc (Obj.cells C tc)).drew.heap.size = w.heap.size + 3 ∧ Below w.heap.size w (((w.alloc (Obj.cells A ta)).alloc (Obj.cells B tb)).alloc (Obj.cells C tc)).drew := by
  have h2 := row_new (w.alloc (Obj.cells A ta)) B tb
  have h3 := row_new ((w.alloc (Obj.cells A ta)).alloc (Obj.cells B tb)) C tc
  rw [sz_alloc] at h2
  rw [sz_alloc, sz_alloc] at h3
  exact ⟨row_old (row_old (row_new _ _ _) _) _, row_old h2 _, h3, by rw [sz_drew, sz_alloc, sz_alloc, sz_alloc], Below.drew ((((Below.refl _ _).alloc (Nat.le_refl _) _).alloc (by rw [sz_alloc]; omega) _).alloc (by rw [sz_alloc, sz_alloc]; omega) _)⟩
set_option maxRecDepth 100000 in
theorem newr_c (sd : Nat) (w : World) : Calls Try.prog 10 #[.int .u64 (sd : Nat)] w (NewT eTR sd w) := by
  have m1 := m_en
  have m2 := m_is
  obtain ⟨CE, hE⟩ : ∃ CE, enC (fun _ => E0) = CE := ⟨_, rfl⟩
  obtain ⟨CI, hI⟩ : ∃ CI, isC (fun _ => false) = CI := ⟨_, rfl⟩
  rw [hE] at m1
  rw [hI] at m2
  have HE := Lib.hid hE
  have HI := Lib.hid hI
  clear hE hI
  go_enter Try.func10, Try.ntmps10
  go_wp2_with fail
  go_region
  · obtain ⟨h1, h2, h3, h4, h5⟩ := rows_3 w CE CI #[.slice (some ⟨w.heap.size, 0, none⟩) 8 8, .slice (some ⟨w.heap.size + 1, 0, none⟩) 8 8, .int .u64 (sd : Nat)] 36 4 62
    go_wp2_with fail
    go_ret
    refine ⟨w.heap.size + 1 + 1, fun k => k = w.heap.size + 1 + 1 ∨ k = w.heap.size ∨ k = w.heap.size + 1, rfl, ⟨w.heap.size, 8, w.heap.size + 1, 8, ⟨by omega, by omega, by omega, by rw [h4]; omega, by rw [h4]; omega, by rw [h4]; omega, Nat.le_refl _, Nat.le_refl _, h3, ?_, ?_⟩, fun k => Iff.rfl⟩, fun k hk => by omega, h5⟩
    · exact ⟨CE, h1, fun n hn j hj => by rw [← HE.out]; exact enC_get _ n j hn hj⟩
    · exact ⟨CI, h2, fun n hn => by rw [← HI.out]; exact isC_get _ n hn⟩
  · obtain ⟨h1, h2, h3, h4, h5⟩ := rows_3 w CI CE #[.slice (some ⟨w.heap.size + 1, 0, none⟩) 8 8, .slice (some ⟨w.heap.size, 0, none⟩) 8 8, .int .u64 (sd : Nat)] 4 36 62
    go_wp2_with fail
    go_ret
    exact ⟨w.heap.size + 1 + 1, fun k => k = w.heap.size + 1 + 1 ∨ k = w.heap.size + 1 ∨ k = w.heap.size, rfl, ⟨w.heap.size + 1, 8, w.heap.size, 8, ⟨by omega, by omega, by omega, by rw [h4]; omega, by rw [h4]; omega, by rw [h4]; omega, Nat.le_refl _, Nat.le_refl _, h3, ⟨CE, h2, fun n hn j hj => by rw [← HE.out]; exact enC_get _ n j hn hj⟩, ⟨CI, h1, fun n hn => by rw [← HI.out]; exact isC_get _ n hn⟩⟩, fun k => Iff.rfl⟩, fun k hk => by omega, h5⟩
end Go.Proofs.Ytdplcdgdndeopaa
