/- withoutRoom, Sent, Copy. -/
import Derived.Test.YtjjmohhkhadadaaB2
namespace Go.Proofs.Ytjjmohhkhadadaa
open Go.ChangeShapes Go.WideShapes Go.ChangeAt Go.RowKit
set_option linter.unusedVariables false
set_option linter.unusedSimpArgs false
theorem room_c (w0 w : World) (a : Option Addr) (n c g o : Nat) (L : List Nat) (h : Hid (SlA w0 a n c g o L)) : Calls Try.prog 28 #[.slice a n c] w (fun e w' => ∃ a', e = .returned (.slice a' n n) ∧ SlA w0 a' n n g o L ∧ w' = w) := by
  have hle := h.out.le
  by_cases h0 : n = 0
  · subst h0
    go_enter Try.func28, Try.ntmps28
    go_wp2_with fail
    go_ret
    exact ⟨_, rfl, h.out.full, rfl⟩
  · obtain ⟨e, hg⟩ := h.out.addr (by omega)
    subst e
    have h0' : 0 < n := Nat.pos_of_ne_zero h0
    have HF : Hid (SlA w0 (some ⟨g, o, none⟩) n n g o L) := by have := h.out.full; rw [if_neg h0] at this; exact this
    clear hg
    go_enter Try.func28, Try.ntmps28
    go_wp2_with fail
    go_ret
    exact ⟨_, rfl, HF.out, rfl⟩
def RetSl (L : List Nat) (W : World) (e : Ending) (w' : World) : Prop := ∃ a n c g, e = .returned (.slice a n c) ∧ SlA w' a n c g 0 L ∧ (0 < c → W.heap.size ≤ g) ∧ Below W.heap.size W w'
theorem sent_c (R W : Nat → Nat → Prop) (b : Nat) (U : Ur) (w : World) (hU : Hid (IsU R W w b U)) (hn : Hid (U.sent.length < 70368744177664)) : Calls Try.prog 20 #[.pointer (some ⟨b, 0, none⟩)] w (RetSl U.sent w) := by
  obtain ⟨sa, n, c, g, o, ta, m, d, h, p, hA⟩ := hU.out
  have c4 := hA.c4
  have hb := hA.lt
  have hbn : ¬ b = w.heap.size := by omega
  have hm : m < 70368744177664 := by rw [← hA.s.len]; exact hn.out
  have HA := Lib.hid hA
  clear hA
  go_enter Try.func20, Try.ntmps20
  go_wp2_with (at_builtin; refine append_all rfl _ _ rfl (HA.out.s.below (below_one w _)) _ rfl rfl hm ?_; intro a' c' g' w' q1 q2 q3; have HQ1 := Lib.hid q1; have HQ2 := Lib.hid ((below_one w _).trans (q2.mono (by rw [sz_alloc]; omega))); have HQ3 := Lib.hid q3; clear q1 q2 q3)
  go_ret
  exact ⟨_, _, _, _, rfl, HQ1.out, fun h => Nat.le_of_succ_le (by have := HQ3.out h; rw [sz_alloc] at this; exact this), HQ2.out⟩
def RetCp (R W : Nat → Nat → Prop) (b : Nat) (U : Ur) (w : World) (e : Ending) (w' : World) : Prop := ∃ b' R' W' W0, e = .returned (.pointer (some ⟨b', 0, none⟩)) ∧ IsU R W0 w' b U ∧ (∀ k j, W0 k j → W k j) ∧ IsU R' W' w' b' U ∧ (∀ k j, W' k j → w.heap.size ≤ k) ∧ (∀ k j, R' k j → w.heap.size ≤ k ∨ R k j) ∧ (∀ k j, W0 k j → ¬ R' k j) ∧ Below w.heap.size w w'
section
variable {R W T : Nat → Nat → Prop} {w w' : World} {b : Nat} {U : Ur} {sa : Option Addr} {n c g o : Nat} {ta : Option Addr} {m d h p : Nat}
/-- No more may be written than its block and what lies behind its slices. -/
def Tight (b g o n c h p m d : Nat) : Nat → Nat → Prop := fun k j => k = b ∨ Spare g o n c k j ∨ Spare h p m d k j
theorem At.tight (x : At R W w b U sa n c g o ta m d h p) : At R (Tight b g o n c h p m d) w b U sa n c g o ta m d h p ∧ ∀ k j, Tight b g o n c h p m d k j → W k j := by
  have hW : ∀ k j, Tight b g o n c h p m d k j → W k j := fun k j hk => by
    rcases hk with rfl | hk | hk
    · exact x.wb j
    · exact spare_w x k j hk
    · exact spare_s x k j hk
  exact ⟨{ x with wb := fun j => .inl rfl, wq := fun i h1 h2 => .inr (.inl ⟨rfl, i, h1, h2, rfl⟩), ws := fun i h1 h2 => .inr (.inr ⟨rfl, i, h1, h2, rfl⟩), wr := fun k j hk => x.wr k j (hW k j hk) }, hW⟩
/-- What a copy reads. -/
def CopyR (b' g o n h p m : Nat) : Nat → Nat → Prop := fun k j => k = b' ∨ (k = g ∧ ∃ i, i < n ∧ j = o + i) ∨ (k = h ∧ ∃ i, i < m ∧ j = p + i)
theorem At.copied (x : At R W w b U sa n c g o ta m d h p) {a1 a2 : Option Addr} (h1 : SlA w a1 n n g o U.q) (h2 : SlA w a2 m m h p U.sent) (hb : Below w.heap.size w w') (hs : w.heap.size < w'.heap.size)
    (c0 : w'.cell? ⟨w.heap.size, 0, none⟩ = some (.slice a1 n n)) (c1 : w'.cell? ⟨w.heap.size, 1, none⟩ = some (.bool U.lost)) (c2 : w'.cell? ⟨w.heap.size, 2, none⟩ = some (.int .u64 (U.want : Nat))) (c3 : w'.cell? ⟨w.heap.size, 3, none⟩ = some (.int .u8 (U.scr : Nat))) (c4 : w'.cell? ⟨w.heap.size, 4, none⟩ = some (.slice a2 m m))
    (fz : ∀ j, j < 5 → w'.frozen? ⟨w.heap.size, j, none⟩ = false) :
    ∃ R' W' W0, IsU R W0 w' b U ∧ (∀ k j, W0 k j → W k j) ∧ IsU R' W' w' w.heap.size U ∧ (∀ k j, W' k j → w.heap.size ≤ k) ∧ (∀ k j, R' k j → w.heap.size ≤ k ∨ R k j) ∧ (∀ k j, W0 k j → ¬ R' k j) := by
  obtain ⟨t1, t2⟩ := x.tight
  have hR : ∀ k j, CopyR w.heap.size g o n h p m k j → w.heap.size ≤ k ∨ R k j := fun k j hk => by
    rcases hk with rfl | ⟨rfl, i, hi, rfl⟩ | ⟨rfl, i, hi, rfl⟩
    · exact .inl (Nat.le_refl _)
    · exact .inr (x.rq i (Nat.lt_of_lt_of_le hi x.q.le))
    · exact .inr (x.rs i (Nat.lt_of_lt_of_le hi x.s.le))
  refine ⟨CopyR w.heap.size g o n h p m, fun k _ => k = w.heap.size, _, ⟨_, _, _, _, _, _, _, _, _, _, t1.kept (Ch.of_below (fun _ _ => False) hb) (fun _ _ h => h.elim)⟩, t2, ?_, fun k j hk => Nat.le_of_eq hk.symm, hR, fun k j hk hr => ?_⟩
  · exact ⟨a1, n, n, g, o, a2, m, m, h, p, ⟨hs, c0, c1, c2, c3, c4, fz, h1.below hb, h2.below hb, x.ok, fun j => .inl rfl, fun j => rfl, fun i hi => .inr (.inl ⟨rfl, i, hi, rfl⟩), fun i e1 e2 => by omega, fun i hi => .inr (.inr ⟨rfl, i, hi, rfl⟩), fun i e1 e2 => by omega, fun k j hk => .inl hk,
      fun k j hk => (hR k j hk).elim (fun _ => by
        rcases hk with rfl | ⟨rfl, i, hi, rfl⟩ | ⟨rfl, i, hi, rfl⟩
        · exact hs
        · exact Nat.lt_trans (h1.addr (by omega)).2 hs
        · exact Nat.lt_trans (h2.addr (by omega)).2 hs) (fun hr => Nat.lt_trans (x.rlt k j hr) hs),
      fun h0 => Nat.ne_of_lt (h1.addr h0).2, fun h0 => Nat.ne_of_lt (h2.addr h0).2, fun e1 e2 => x.qs (Nat.lt_of_lt_of_le e1 x.q.le) (Nat.lt_of_lt_of_le e2 x.s.le)⟩⟩
  · have hlt : k < w.heap.size := x.rlt k j (x.wr k j (t2 k j hk))
    rcases hr with rfl | ⟨rfl, i, hi, rfl⟩ | ⟨rfl, i, hi, rfl⟩
    · omega
    · rcases hk with e | ⟨-, i2, e1, e2, e3⟩ | ⟨e, i2, e1, e2, e3⟩
      · exact x.qb (by have := x.q.le; omega) e
      · omega
      · exact x.qs (by have := x.q.le; omega) (by omega) e
    · rcases hk with e | ⟨e, i2, e1, e2, e3⟩ | ⟨-, i2, e1, e2, e3⟩
      · exact x.sb (by have := x.s.le; omega) e
      · exact x.qs (by omega) (by have := x.s.le; omega) e.symm
      · omega
end
set_option maxRecDepth 100000 in
theorem copy_c (R W : Nat → Nat → Prop) (b : Nat) (U : Ur) (w : World) (hU : Hid (IsU R W w b U)) : Calls Try.prog 14 #[.pointer (some ⟨b, 0, none⟩)] w (RetCp R W b U w) := by
  obtain ⟨sa, n, c, g, o, ta, m, d, h, p, hA⟩ := hU.out
  have c0 := hA.c0; have c1 := hA.c1; have c2 := hA.c2; have c3 := hA.c3; have c4 := hA.c4
  have hb := hA.lt
  have hbn : ¬ b = w.heap.size := by omega
  have HA := Lib.hid hA
  clear hA
  go_enter Try.func14, Try.ntmps14
  go_wp2_with fail
  refine (room_c w _ sa n c g o U.q (Lib.hid HA.out.q)).mono ?_; rintro e w1 ⟨a1, rfl, h1, rfl⟩
  have H1 := Lib.hid h1; clear h1
  go_wp2_with fail
  refine (room_c w _ ta m d h p U.sent (Lib.hid HA.out.s)).mono ?_; rintro e w1 ⟨a2, rfl, h2, rfl⟩
  have H2 := Lib.hid h2; clear h2
  go_wp2_with fail
  go_ret
  have hx := HA.out.copied (w' := w.alloc (Obj.cells #[.slice a1 n n, .bool U.lost, .int .u64 (U.want : Nat), .int .u8 (U.scr : Nat), .slice a2 m m] 43)) H1.out H2.out (below_one _ _) (by rw [sz_alloc]; omega) (by rw [World.cell?_alloc_at _ _ _ _ rfl]; rfl) (by rw [World.cell?_alloc_at _ _ _ _ rfl]; rfl) (by rw [World.cell?_alloc_at _ _ _ _ rfl]; rfl) (by rw [World.cell?_alloc_at _ _ _ _ rfl]; rfl) (by rw [World.cell?_alloc_at _ _ _ _ rfl]; rfl) (fun j hj => by rw [World.frozen?_alloc_at _ _ _ _ rfl])
  obtain ⟨R', W', W0, i1, i2, i3, i4, i5, i6⟩ := hx
  exact ⟨_, R', W', W0, rfl, i1, i2, i3, i4, i5, i6, below_one _ _⟩
end Go.Proofs.Ytjjmohhkhadadaa
