/- The code's New and Copy: what the six functions must do, they do. -/
import Derived.Test.YtdplcdgdndeopaaK11
namespace Go.Proofs.Ytdplcdgdndeopaa
open Go.ChangeShapes Go.WideShapes Go.ChangeAt Go.RowKit Go.Sort
set_option linter.unusedVariables false
set_option linter.unusedSimpArgs false
theorem new_tb (w w' : World) (sd : Nat) (m b : Nat) (hm : w'.ownsMap Try.prog 68 (plainElem Try.prog 3 : Value → Option (DU × List MemPlace)) m 0 (.map [])) (hr : Row w' b 59 (tC (S0 sd) m)) (hb : b ≠ m) (hl : b < w'.heap.size) : Tb b m (S0 sd) (S0 sd) w' :=
  ⟨hb, hl, hr, _, 0, Nat.zero_le _, hm, MapOk.new sd⟩
theorem S0_al (sd : Nat) : Al (S0 sd) := fun n => rfl
set_option maxRecDepth 100000 in
theorem new_q (sd : Nat) (w : World) : Calls Try.prog 9 #[.int .u64 (sd : Nat)] w (NewT eT sd w) := by
  have hmm := @run_makeMap Try.prog
  go_enter Try.func9, Try.ntmps9
  go_wp2_with fail
  go_ret
  refine ⟨w.heap.size + 1, Sb (w.heap.size + 1) w.heap.size, rfl, ⟨w.heap.size, new_tb w _ sd w.heap.size (w.heap.size + 1) (World.ownsMap.alloc (World.ownsMap_made _ _ _ _) _) ?_ (by omega) (by rw [sz_alloc, sz_alloc]; omega), S0_al sd, fun k => Iff.rfl⟩, fun k hk => by rcases hk with hk | hk <;> omega, (by repeat (first | (with_reducible first | exact Below.refl _ _ | assumption | exact Nat.le_refl _ | refine Below.drew ?_ | refine Below.alloc ?_ ?_ _ | refine Below.setCell ?_ ?_ _ | refine le_alloc ?_ | refine le_set ?_ | refine le_drew ?_ | refine below_step (by assumption) ?_ ?_ | refine le_below (by assumption) ?_) | (dsimp only; omega)))⟩
  have := row_new (w.alloc (Obj.map #[] 0)) (tC (S0 sd) w.heap.size) 59
  rw [sz_alloc] at this
  exact this
def zT : Array Value := #[.bool false, .int .u64 0, .int .i64 0, .int .u64 0, .bool false, .int .u64 0, .bool false, .int .u64 0, .int .i64 0, .int .u64 0, .bool false, .int .u64 0, .bool false, .int .u64 0, .int .i64 0, .int .u64 0, .bool false, .int .u64 0, .bool false, .int .u64 0, .int .i64 0, .int .u64 0, .bool false, .int .u64 0, .bool false, .int .u64 0, .int .i64 0, .int .u64 0, .bool false, .int .u64 0, .bool false, .int .u64 0, .int .i64 0, .int .u64 0, .bool false, .int .u64 0, .bool false, .int .u64 0, .int .i64 0, .int .u64 0, .bool false, .int .u64 0, .bool false, .int .u64 0, .int .i64 0, .int .u64 0, .bool false, .int .u64 0, .map none, .int .u64 0]
theorem zT_size : zT.size = 50 := rfl
theorem tC_one (X : St) (m : Nat) : (tC X m).all (·.oneCell') = true := by simp [tC, Value.oneCell']
/-- A copy under way: its block is the newest one. -/
structure Cp (b m : Nat) (X : St) (w u : World) : Prop where
  out : Below w.heap.size w u
  r : Row u w.heap.size 59 (tC X m)
  lt : w.heap.size < u.heap.size
  t : Tb b m X X u
theorem Cp.below {b m : Nat} {X : St} {w u u' : World} (h : Cp b m X w u) (hb : Below u.heap.size u u') : Cp b m X w u' :=
  ⟨below_step hb h.out h.out.size, h.r.below hb h.lt, Nat.lt_of_lt_of_le h.lt hb.size, h.t.below hb⟩
theorem cp_new {b m : Nat} {X : St} {w : World} {z : Array Value} (h : Tb b m X X w) : Cp b m X w ((w.alloc (Obj.cells z 59)).setRow w.heap.size (tC X m)) := by
  have hb : Below w.heap.size w ((w.alloc (Obj.cells z 59)).setRow w.heap.size (tC X m)) := below_setRow ((Below.refl _ _).alloc (Nat.le_refl _) _) (Nat.le_refl _) _
  exact ⟨hb, (row_new _ _ _).setRow _, by rw [sz_setRow, sz_alloc]; exact Nat.lt_succ_self _, h.below hb⟩
set_option maxRecDepth 100000 in
set_option maxHeartbeats 4000000 in
theorem copy_q (b m : Nat) (X : St) (hA : Hid (Al X)) (w : World) (h : Hid (Tb b m X X w)) : Calls Try.prog 18 #[.pointer (some ⟨b, 0, none⟩)] w (CopyT eT X w) := by
  go_enter Try.func18, Try.ntmps18
  have HN : Hid (Cp b m X w ((w.alloc (Obj.cells zT 59)).setRow w.heap.size (tC X m))) := cp_new h.out
  go_upto_region 2 with (first
    | (refine wpList_load_row rfl 59 _ rfl b rfl 59 (tC X m) (0, 0) _ h.out.row Try.underlying59 rfl (info_t X m) ?_)
    | (refine wpList_store_rowP (fun wx => Cp b m X w wx) rfl 59 _ _ rfl w.heap.size (tC X m) rfl rfl 59 zT (row_new _ zT _) (info_t X m) (zT_size.trans (tC_size X m).symm) (tC_one X m) HN.out ?_; rintro w1 h1))
  have H1 := Lib.hid h1
  clear h1 HN
  obtain ⟨D, n, hn, hm, hD⟩ := H1.out.t.map
  have hC : Hid (Calls Try.prog 33 #[.map (some m)] w1 fun e w' => e = .returned (.map (some w1.heap.size)) ∧ w'.ownsMap Try.prog 68 (plainElem Try.prog 3 : Value → Option (DU × List MemPlace)) w1.heap.size n D ∧ w'.ownsMap Try.prog 68 (plainElem Try.prog 3) m n D ∧ Below w1.heap.size w1 w') := AnyW.maps_Clone_owns Try.cloneN 68 _ m n D w1 hm
  have HN := Lib.hid hn
  have HD := Lib.hid hD
  have c48 := H1.out.t.c48
  clear hn hm hD
  go_wp2_with (go_at_call 33; refine hC.out.mono ?_; rintro e w2 ⟨rfl, hm1, _, hb⟩; have H2 := Lib.hid (H1.out.below hb); have HM := Lib.hid hm1; have HB := Lib.hid hb; clear hb hm1 c48 hC; have k48 : w2.cell? ⟨w.heap.size, 48, none⟩ = some (.map (some m)) := (H2.out.r.cell 48).trans rfl; have f48 := H2.out.r.fz 48)
  go_ret
  have ho : Own (fun k => k = w.heap.size) w2 (w2.setCell ⟨w.heap.size, 48, none⟩ (.map (some w1.heap.size))) := own_set (Own.refl _ _) _ _ _ rfl
  have l1 := H1.out.lt
  have l2 := HB.out.size
  refine ⟨w.heap.size, Sb w.heap.size w1.heap.size, rfl, ⟨w1.heap.size, ⟨by omega, by rw [sz_set]; exact H2.out.lt, ?_, D, n, HN.out, own_map HM.out ho (by omega), HD.out⟩, hA.out, fun k => Iff.rfl⟩, fun k hk => by rcases hk with hk | hk <;> omega, Below.setCell H2.out.out (Nat.le_refl _) _⟩
  have := H2.out.r.set 48 (.map (some w1.heap.size))
  rw [tC_map] at this
  exact this
theorem upd_k {b m : Nat} {X' : St} {S : Nat → Prop} {w : World} {f : FuncId} {args : Array Value} {v : Value} (hA : Al X') (hS : ∀ k, S k ↔ k = b ∨ k = m) (h : Calls Try.prog f args w (RetM b m X' X' v w)) : Calls Try.prog f args w (Upd v (eT b X') S w) := by
  refine h.mono ?_
  rintro e w' ⟨rfl, h1, h2⟩
  exact ⟨rfl, S, ⟨m, h1, hA, hS⟩, h2.more (fun i q => (hS i).2 q), fun k q => .inl q⟩
/-- What the six functions must do, they do. -/
theorem tlb_ok : TlbOk eT where
  new sd w _ := new_q sd w
  find := fun ⟨m, h, hA, hS⟩ hX s a hs ha => find_k _ m _ (Lib.hid hX) (Lib.hid hA) s a (Lib.hid hs) (Lib.hid ha) _ (Lib.hid h)
  put := fun ⟨m, h, hA, hS⟩ hX x hx => upd_k (putS_al hA x) hS (put_k _ m _ hX x hx _ h)
  fence := fun ⟨m, h, hA, hS⟩ hX bA a bS s ha hs => upd_k (fenceS_al hA bA a bS s) hS (fence_q _ m _ (Lib.hid hX) (Lib.hid hA) bA a bS s (Lib.hid ha) _ (Lib.hid h))
  all := fun ⟨m, h, hA, hS⟩ hX => all_q _ m _ _ (Lib.hid h)
  copy := fun ⟨m, h, hA, hS⟩ hX => copy_q _ m _ (Lib.hid hA) _ (Lib.hid h)
theorem fixed_ok (w : World) : Calls Try.prog 8 #[] w (RetB true w) := fixed_c tlb_ok w
end Go.Proofs.Ytdplcdgdndeopaa
