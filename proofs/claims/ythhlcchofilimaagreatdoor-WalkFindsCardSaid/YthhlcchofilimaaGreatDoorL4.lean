/- The code's Walk. -/
import Derived.Test.YthhlcchofilimaaGreatDoorL3
import Derived.WalkMore
namespace Go.Proofs.YthhlcchofilimaaGreatDoor
open Go.ChangeShapes Go.WideShapes Go.ChangeAt Go.RowKit Go.Sort Y
set_option linter.unusedVariables false
set_option linter.unusedSimpArgs false

/-- What stands behind a scope in which the run jumps n times at most. -/
def jumpN (P : Program) (c : Code) (Q : Exit → Act → World → Prop) : Nat → Exit → Act → World → Prop
  | 0, e, a, w => Exit.noGoto Q e a w
  | n + 1, .goto l, a, w => ∃ rest, findLabel c l = some rest ∧ rest.wp P (jumpN P c Q n) a w
  | n + 1, e, a, w => Q e a w
theorem jump_key {P : Program} {c : Code} {Q : Exit → Act → World → Prop} (n : Nat) : ∀ (d : Code) (a : Act) (w : World), d.wp P (jumpN P c Q n) a w → ∀ (b : Frame) (k : List Item) (cs : List Frame),
    ∃ e a' w', Q e a' w' ∧ Arrives P (lone (b.at a (.code d :: .inScope c :: k)) cs w) b k cs e a' w' := by
  induction n with
  | zero =>
    intro d a w h b k cs
    obtain ⟨e, a₁, w₁, hq, harr⟩ := h b (.inScope c :: k) cs
    cases e with
    | normal => exact ⟨.normal, a₁, w₁, hq, Steps.trans harr (.one step_inScope)⟩
    | exit id => exact ⟨.exit id, a₁, w₁, hq, fun k' hk => harr k' (by simp [exitTo, hk])⟩
    | goto l => exact hq.elim
    | ret => exact ⟨_, a₁, w₁, hq, harr⟩
    | panic ch => exact ⟨_, a₁, w₁, hq, harr⟩
    | outgrown => exact ⟨_, a₁, w₁, hq, harr⟩
  | succ n ih =>
    intro d a w h b k cs
    obtain ⟨e, a₁, w₁, hq, harr⟩ := h b (.inScope c :: k) cs
    cases e with
    | normal => exact ⟨.normal, a₁, w₁, hq, Steps.trans harr (.one step_inScope)⟩
    | exit id => exact ⟨.exit id, a₁, w₁, hq, fun k' hk => harr k' (by simp [exitTo, hk])⟩
    | goto l =>
      obtain ⟨rest, hf, hr⟩ := hq
      obtain ⟨e₂, a₂, w₂, hq₂, harr₂⟩ := ih rest a₁ w₁ hr b k cs
      have hg : gotoIn l (.inScope c :: k) = some (.code rest :: .inScope c :: k) := by simp [gotoIn, hf]
      exact ⟨e₂, a₂, w₂, hq₂, .of_steps (harr _ hg) harr₂⟩
    | ret => exact ⟨_, a₁, w₁, hq, harr⟩
    | panic ch => exact ⟨_, a₁, w₁, hq, harr⟩
    | outgrown => exact ⟨_, a₁, w₁, hq, harr⟩
theorem wp_scope_n {P : Program} {c : Code} {Q : Exit → Act → World → Prop} {a : Act} {w : World} (n : Nat)
    (h : ∀ J : Nat → Exit → Act → World → Prop, Hid (∀ n a w, Q .ret a w → J n .ret a w) → Hid (∀ n l rest a w, findLabel c l = some rest → rest.wp P (J n) a w → J (n + 1) (.goto l) a w) → c.wp P (J n) a w) : (Code.scope c).wp P Q a w := by
  have h0 := h (jumpN P c Q) (Lib.hid fun n a w q => by cases n <;> exact q) (Lib.hid fun n l rest a w hf hr => ⟨rest, hf, hr⟩)
  intro b k cs
  obtain ⟨e, a₁, w₁, hq, harr⟩ := jump_key n c a w h0 b k cs
  exact ⟨e, a₁, w₁, hq, .of_steps (.one step_scope) harr⟩
theorem results_row2 {P : Program} {fn : Func} {p x : Tmp} {ty : TypeId} (h : fn.results = #[.cell p ty, .tmp x]) (tmps : Array Value) (w : World) (g : Nat) (t : TypeId) (cs : Array Value) (fr : Nat × Nat) (d : TypeDesc)
    (hp : tmps.getD p undef = .pointer (some ⟨g, 0, none⟩)) (hg : w.heap[g]? = some (.cells cs t fr))
    (hu : P.underlying ty = some d) (hd : (match d with | .struct _ | .array _ _ => true | _ => false) = true) (hi : (P.info? ty).map (·.size) = some cs.size) :
    (results fn tmps).run P w = .ok (.tuple #[.agg cs, tmps.getD x undef]) w := by
  have hp' : tmps[p]?.getD undef = .pointer (some ⟨g, 0, none⟩) := by simpa using hp
  simp [results, h, hp', asAddr, run_loadVar_row w g t ty cs fr d hg hu hd hi]
def lf4 (a : Nat) (l : Int) (e f : Nat) : Array Value := #[.int .u64 (a : Nat), .int .i64 l, .int .u64 (e : Nat), .int .u64 (f : Nat)]
theorem one_lf (a : Nat) (l : Int) (e f : Nat) : (lf4 a l e f).all (·.oneCell') = true := by simp [lf4, Value.oneCell']
theorem info_lf (a : Nat) (l : Int) (e f : Nat) : (Tryz.prog.info? 41).map (·.size) = some (lf4 a l e f).size := by show _ = some 4; kernel_rfl
/-- Down a level. -/
theorem step_is (F S : Nat → Nat) (m k : Int) (x L t : Nat) (next : Nat → WRes) (z : Nat) (ok : Bool) (hok : (chkB (cfO S) (adO S) 1 1 (fromN L t x) 8 && U.M.hasV (fromN L t x) 8) = ok) (hz : (if ok = true then U.M.readV F (fromN L t x) 8 else 0) = z) :
    stepW F S m k x L t next = cond ok (cond (brkB z) (noW (pageN k)) (cond (leafB z) (cond (permB S m k z) (cond (decide (4096 * nextN z % 2 ^ (12 + 9 * L) = 0)) ⟨4096 * nextN z + x % 2 ^ (12 + 9 * L), L, z, fromN L t x, 0⟩ (noW (pageN k))) (noW (pageN k))) (next (nextN z)))) (noW (faultN k)) := by
  unfold stepW
  cases ok
  · rw [if_neg (fun h => by rw [h.1, h.2] at hok; cases hok)]; rfl
  · obtain ⟨h1, h2⟩ := Bool.and_eq_true_iff.1 hok
    rw [if_pos ⟨h1, h2⟩]
    rw [if_pos rfl] at hz
    rw [hz]
    unfold brkB
    cases hb : brokenB z
    · rw [if_neg (by simp)]
      cases hl : leafB z
      · rw [if_neg (by simp)]
        cases hm : (z.testBit 4 || z.testBit 6 || z.testBit 7)
        · rw [if_neg (by simp)]; rfl
        · rw [if_pos rfl]; rfl
      · rw [if_pos rfl]
        cases hp : permB S m k z
        · rw [if_neg (fun h => by cases h.1)]; rfl
        · by_cases hd : 4096 * nextN z % 2 ^ (12 + 9 * L) = 0
          · rw [if_pos ⟨rfl, hd⟩, decide_eq_true hd]; rfl
          · rw [if_neg (fun h => hd h.2), decide_eq_false hd]; rfl
    · rw [if_pos rfl]; rfl
set_option maxRecDepth 100000 in
set_option maxHeartbeats 8000000 in
theorem walk_core (B : U.Bs) (S : Nat → Nat) (b c x : Nat) (m k : Int) (pg ft t2 z2 f2 a2 t1 z1 f1 a1 t0 z0 f0 a0 tz : Nat) (tr vi ok2 br2 lf2 al2 bg2 ok1 br1 lf1 al1 bg1 ok0 br0 lf0 al0 bg0 : Bool) (r r2 r1 r0 : WRes) (m3 : (m == 3) = false)
    (CT : Hid (∀ u, Row u c 27 (cs S) → Calls Tryz.prog 25 #[.pointer (some ⟨c, 0, none⟩)] u (RetBX tr u)))
    (CF : Hid (∀ u, Row u c 27 (cs S) → Calls Tryz.prog 26 #[.pointer (some ⟨c, 0, none⟩)] u (RetUX t2 u)))
    (CP : Hid (∀ u, Calls Tryz.prog 27 #[.int .i64 k] u (RetUX pg u)))
    (CX : Hid (∀ u, Calls Tryz.prog 31 #[.int .i64 k] u (RetUX ft u)))
    (CV : Hid (∀ u, Calls Tryz.prog 28 #[.int .u64 x] u (RetBX vi u)))
    (CE2 : Hid (∀ u, Calls Tryz.prog 29 #[.int .u64 t2, .int .i64 2, .int .u64 x] u (RetUX f2 u)))
    (CR2 : Hid (∀ u, BusAt b B u → Hid (G u) → c < u.heap.size → Row u c 27 (cs S) → Calls Tryz.prog 30 #[.pointer (some ⟨b, 0, none⟩), .pointer (some ⟨c, 0, none⟩), .int .u64 f2] u (RetRE z2 ok2 u)))
    (CG2 : Hid (∀ u, Calls Tryz.prog 32 #[.int .u64 z2] u (RetUX t1 u)))
    (CB2 : Hid (∀ u, Calls Tryz.prog 33 #[.int .u64 z2] u (RetBX br2 u)))
    (CL2 : Hid (∀ u, Calls Tryz.prog 34 #[.int .u64 z2] u (RetBX lf2 u)))
    (CA2 : Hid (∀ u, Row u c 27 (cs S) → Calls Tryz.prog 13 #[.pointer (some ⟨c, 0, none⟩), .int .i64 m, .int .i64 k, .int .u64 z2] u (RetBX al2 u)))
    (CN2 : Hid (∀ u, Calls Tryz.prog 35 #[.int .u64 t1, .int .i64 2] u (RetBX bg2 u)))
    (CD2 : Hid (∀ u, Calls Tryz.prog 36 #[.int .u64 t1, .int .i64 2, .int .u64 x] u (RetUX a2 u)))
    (E2 : Hid (r2 = cond ok2 (cond br2 (noW pg) (cond lf2 (cond al2 (cond bg2 ⟨a2, 2, z2, f2, 0⟩ (noW pg)) (noW pg)) r1)) (noW ft)))
    (CE1 : Hid (∀ u, Calls Tryz.prog 29 #[.int .u64 t1, .int .i64 1, .int .u64 x] u (RetUX f1 u)))
    (CR1 : Hid (∀ u, BusAt b B u → Hid (G u) → c < u.heap.size → Row u c 27 (cs S) → Calls Tryz.prog 30 #[.pointer (some ⟨b, 0, none⟩), .pointer (some ⟨c, 0, none⟩), .int .u64 f1] u (RetRE z1 ok1 u)))
    (CG1 : Hid (∀ u, Calls Tryz.prog 32 #[.int .u64 z1] u (RetUX t0 u)))
    (CB1 : Hid (∀ u, Calls Tryz.prog 33 #[.int .u64 z1] u (RetBX br1 u)))
    (CL1 : Hid (∀ u, Calls Tryz.prog 34 #[.int .u64 z1] u (RetBX lf1 u)))
    (CA1 : Hid (∀ u, Row u c 27 (cs S) → Calls Tryz.prog 13 #[.pointer (some ⟨c, 0, none⟩), .int .i64 m, .int .i64 k, .int .u64 z1] u (RetBX al1 u)))
    (CN1 : Hid (∀ u, Calls Tryz.prog 35 #[.int .u64 t0, .int .i64 1] u (RetBX bg1 u)))
    (CD1 : Hid (∀ u, Calls Tryz.prog 36 #[.int .u64 t0, .int .i64 1, .int .u64 x] u (RetUX a1 u)))
    (E1 : Hid (r1 = cond ok1 (cond br1 (noW pg) (cond lf1 (cond al1 (cond bg1 ⟨a1, 1, z1, f1, 0⟩ (noW pg)) (noW pg)) r0)) (noW ft)))
    (CE0 : Hid (∀ u, Calls Tryz.prog 29 #[.int .u64 t0, .int .i64 0, .int .u64 x] u (RetUX f0 u)))
    (CR0 : Hid (∀ u, BusAt b B u → Hid (G u) → c < u.heap.size → Row u c 27 (cs S) → Calls Tryz.prog 30 #[.pointer (some ⟨b, 0, none⟩), .pointer (some ⟨c, 0, none⟩), .int .u64 f0] u (RetRE z0 ok0 u)))
    (CG0 : Hid (∀ u, Calls Tryz.prog 32 #[.int .u64 z0] u (RetUX tz u)))
    (CB0 : Hid (∀ u, Calls Tryz.prog 33 #[.int .u64 z0] u (RetBX br0 u)))
    (CL0 : Hid (∀ u, Calls Tryz.prog 34 #[.int .u64 z0] u (RetBX lf0 u)))
    (CA0 : Hid (∀ u, Row u c 27 (cs S) → Calls Tryz.prog 13 #[.pointer (some ⟨c, 0, none⟩), .int .i64 m, .int .i64 k, .int .u64 z0] u (RetBX al0 u)))
    (CN0 : Hid (∀ u, Calls Tryz.prog 35 #[.int .u64 tz, .int .i64 0] u (RetBX bg0 u)))
    (CD0 : Hid (∀ u, Calls Tryz.prog 36 #[.int .u64 tz, .int .i64 0, .int .u64 x] u (RetUX a0 u)))
    (E0 : Hid (r0 = cond ok0 (cond br0 (noW pg) (cond lf0 (cond al0 (cond bg0 ⟨a0, 0, z0, f0, 0⟩ (noW pg)) (noW pg)) (noW pg))) (noW ft)))
    (ER : Hid (r = cond tr (cond vi r2 (noW pg)) ⟨x, -1, 0, 0, 0⟩))
    (w : World) (hq : BusAt b B w) (hG : Hid (G w)) (hc : c < w.heap.size) (hr : Row w c 27 (cs S)) :
    Calls Tryz.prog 7 #[.pointer (some ⟨b, 0, none⟩), .pointer (some ⟨c, 0, none⟩), .int .i64 m, .int .i64 k, .int .u64 x] w (RetWk r w) := by
  obtain ⟨W0, hW0⟩ : ∃ W0, W0 = w.alloc (Obj.cells (lf4 0 0 0 0) 41) := ⟨_, rfl⟩
  have hb : Below w.heap.size w W0 := by rw [hW0]; exact (Below.refl _ _).alloc (Nat.le_refl _) _
  have RL : Hid (Row W0 w.heap.size 41 (lf4 0 0 0 0)) := by show Row _ _ _ _; rw [hW0]; exact row_new _ _ _
  have LG : Hid (w.heap.size < W0.heap.size) := by show _ < _; rw [hW0, sz_alloc]; exact Nat.lt_succ_self _
  have HB : Hid (Below w.heap.size w W0) := hb
  have HQ := Lib.hid (hq.below hb)
  replace hG : Hid (G W0) := g_below hG.out hb (g_lt hG.out)
  have RC := Lib.hid (hr.below hb hc)
  have LC : Hid (c < W0.heap.size) := Nat.lt_of_lt_of_le hc hb.size
  have HW := Lib.hid hW0
  clear hb hr hc hq hW0
  go_enter Tryz.func7, Tryz.ntmps7
  go_wp2_with fail
  rw [show w.alloc (Obj.cells #[.int .u64 0, .int .i64 0, .int .u64 0, .int .u64 0] 41) = W0 from HW.out.symm]
  clear HW
  refine wp_scope_n 3 ?_
  intro J RJ GJ
  go_wp2_with fail
  refine (CT.out _ RC.out).mono ?_; rintro e wq ⟨rfl, h⟩; replace h := h.symm; subst h
  cases tr
  · go_wp2_with (refine wpList_store_rowP (fun wx => Below w.heap.size w wx ∧ Row wx w.heap.size 41 (lf4 x (-1) 0 0)) rfl 41 _ _ rfl w.heap.size (lf4 x (-1) 0 0) rfl rfl 41 (lf4 0 0 0 0) RL.out (info_lf _ _ _ _) rfl (one_lf _ _ _ _) ⟨below_setRow HB.out (Nat.le_refl _) _, RL.out.setRow _⟩ ?_; rintro wz ⟨hb2, hr2⟩)
    (try simp only [Exit.inBlock, Exit.then]); refine RJ.out _ _ _ ?_; (try simp only [Exit.inBlock, Exit.then])
    refine bodyPost_ret (results_row2 rfl _ _ w.heap.size 41 (lf4 x (-1) 0 0) (0, 0) _ rfl hr2 Tryz.underlying41 rfl (info_lf _ _ _ _)) rfl ?_
    exact ⟨by rw [show r = _ from ER.out]; rfl, hb2⟩
  · go_wp2_with fail
    refine (CF.out _ RC.out).mono ?_; rintro e wq ⟨rfl, h⟩; replace h := h.symm; subst h
    go_wp2_with fail
    refine (CP.out _).mono ?_; rintro e wq ⟨rfl, h⟩; replace h := h.symm; subst h
    go_wp2_with fail
    refine (CV.out _).mono ?_; rintro e wq ⟨rfl, h⟩; replace h := h.symm; subst h
    clear CT CF CP CV
    cases vi
    · go_wp2_with fail
      go_step3; (try simp only [Exit.inBlock, Exit.then]); refine GJ.out 2 _ _ _ _ rfl ?_
      go_wp2_with (refine wpList_store_rowP (fun wx => Below w.heap.size w wx ∧ Row wx w.heap.size 41 (lf4 0 0 0 0)) rfl 41 _ _ rfl w.heap.size (lf4 0 0 0 0) rfl rfl 41 (lf4 0 0 0 0) RL.out (info_lf _ _ _ _) rfl (one_lf _ _ _ _) ⟨below_setRow HB.out (Nat.le_refl _) _, RL.out.setRow _⟩ ?_; rintro wz ⟨hb2, hr2⟩)
      (try simp only [Exit.inBlock, Exit.then]); refine RJ.out _ _ _ ?_; (try simp only [Exit.inBlock, Exit.then])
      refine bodyPost_ret (results_row2 rfl _ _ w.heap.size 41 (lf4 0 0 0 0) (0, 0) _ rfl hr2 Tryz.underlying41 rfl (info_lf _ _ _ _)) rfl ?_
      exact ⟨by rw [show r = _ from ER.out]; rfl, hb2⟩
    · go_wp2_with fail
      go_step3
      go_wp2_with fail
      refine (CE2.out _).mono ?_; rintro e wq ⟨rfl, h⟩; replace h := h.symm; subst h
      go_wp2_with fail
      refine (CR2.out _ HQ.out hG LC.out RC.out).mono ?_; rintro e wr2 ⟨rfl, hb⟩
      replace HB := Lib.hid (below_step hb HB.out (Nat.le_trans (Nat.le_succ _) LG.out))
      replace HQ := Lib.hid (HQ.out.below hb)
      replace hG : Hid (G wr2) := g_below hG.out hb (g_lt hG.out)
      replace RC := Lib.hid (RC.out.below hb LC.out)
      replace LC : Hid (c < wr2.heap.size) := Nat.lt_of_lt_of_le LC.out hb.size
      replace RL := Lib.hid (RL.out.below hb LG.out)
      replace LG : Hid (w.heap.size < wr2.heap.size) := Nat.lt_of_lt_of_le LG.out hb.size
      clear hb
      clear CE2 CR2
      cases ok2
      · go_wp2_with fail
        refine (CX.out _).mono ?_; rintro e wq ⟨rfl, h⟩; replace h := h.symm; subst h
        go_wp2_with fail
        go_step3; (try simp only [Exit.inBlock, Exit.then]); refine GJ.out 2 _ _ _ _ rfl ?_
        go_wp2_with (refine wpList_store_rowP (fun wx => Below w.heap.size w wx ∧ Row wx w.heap.size 41 (lf4 0 0 0 0)) rfl 41 _ _ rfl w.heap.size (lf4 0 0 0 0) rfl rfl 41 (lf4 0 0 0 0) RL.out (info_lf _ _ _ _) rfl (one_lf _ _ _ _) ⟨below_setRow HB.out (Nat.le_refl _) _, RL.out.setRow _⟩ ?_; rintro wz ⟨hb2, hr2⟩)
        (try simp only [Exit.inBlock, Exit.then]); refine RJ.out _ _ _ ?_; (try simp only [Exit.inBlock, Exit.then])
        refine bodyPost_ret (results_row2 rfl _ _ w.heap.size 41 (lf4 0 0 0 0) (0, 0) _ rfl hr2 Tryz.underlying41 rfl (info_lf _ _ _ _)) rfl ?_
        exact ⟨by rw [show r = _ from (ER.out.trans E2.out)]; rfl, hb2⟩
      · go_wp2_with fail
        refine (CG2.out _).mono ?_; rintro e wq ⟨rfl, h⟩; replace h := h.symm; subst h
        go_wp2_with fail
        refine (CB2.out _).mono ?_; rintro e wq ⟨rfl, h⟩; replace h := h.symm; subst h
        clear CG2 CB2
        cases br2
        · go_wp2_with fail
          refine (CL2.out _).mono ?_; rintro e wq ⟨rfl, h⟩; replace h := h.symm; subst h
          cases lf2
          · go_wp2_with fail
            go_step3; (try simp only [Exit.inBlock, Exit.then]); refine GJ.out 2 _ _ _ _ rfl ?_
            clear CL2 CA2 CN2 CD2
            go_wp2_with fail
            refine (CE1.out _).mono ?_; rintro e wq ⟨rfl, h⟩; replace h := h.symm; subst h
            go_wp2_with fail
            refine (CR1.out _ HQ.out hG LC.out RC.out).mono ?_; rintro e wr1 ⟨rfl, hb⟩
            replace HB := Lib.hid (below_step hb HB.out (Nat.le_trans (Nat.le_succ _) LG.out))
            replace HQ := Lib.hid (HQ.out.below hb)
            replace hG : Hid (G wr1) := g_below hG.out hb (g_lt hG.out)
            replace RC := Lib.hid (RC.out.below hb LC.out)
            replace LC : Hid (c < wr1.heap.size) := Nat.lt_of_lt_of_le LC.out hb.size
            replace RL := Lib.hid (RL.out.below hb LG.out)
            replace LG : Hid (w.heap.size < wr1.heap.size) := Nat.lt_of_lt_of_le LG.out hb.size
            clear hb
            clear CE1 CR1
            cases ok1
            · go_wp2_with fail
              refine (CX.out _).mono ?_; rintro e wq ⟨rfl, h⟩; replace h := h.symm; subst h
              go_wp2_with fail
              go_step3; (try simp only [Exit.inBlock, Exit.then]); refine GJ.out 1 _ _ _ _ rfl ?_
              go_wp2_with (refine wpList_store_rowP (fun wx => Below w.heap.size w wx ∧ Row wx w.heap.size 41 (lf4 0 0 0 0)) rfl 41 _ _ rfl w.heap.size (lf4 0 0 0 0) rfl rfl 41 (lf4 0 0 0 0) RL.out (info_lf _ _ _ _) rfl (one_lf _ _ _ _) ⟨below_setRow HB.out (Nat.le_refl _) _, RL.out.setRow _⟩ ?_; rintro wz ⟨hb2, hr2⟩)
              (try simp only [Exit.inBlock, Exit.then]); refine RJ.out _ _ _ ?_; (try simp only [Exit.inBlock, Exit.then])
              refine bodyPost_ret (results_row2 rfl _ _ w.heap.size 41 (lf4 0 0 0 0) (0, 0) _ rfl hr2 Tryz.underlying41 rfl (info_lf _ _ _ _)) rfl ?_
              exact ⟨by rw [show r = _ from (ER.out.trans (E2.out.trans E1.out))]; rfl, hb2⟩
            · go_wp2_with fail
              refine (CG1.out _).mono ?_; rintro e wq ⟨rfl, h⟩; replace h := h.symm; subst h
              go_wp2_with fail
              refine (CB1.out _).mono ?_; rintro e wq ⟨rfl, h⟩; replace h := h.symm; subst h
              clear CG1 CB1
              cases br1
              · go_wp2_with fail
                refine (CL1.out _).mono ?_; rintro e wq ⟨rfl, h⟩; replace h := h.symm; subst h
                cases lf1
                · go_wp2_with fail
                  go_step3; (try simp only [Exit.inBlock, Exit.then]); refine GJ.out 1 _ _ _ _ rfl ?_
                  clear CL1 CA1 CN1 CD1
                  go_wp2_with fail
                  refine (CE0.out _).mono ?_; rintro e wq ⟨rfl, h⟩; replace h := h.symm; subst h
                  go_wp2_with fail
                  refine (CR0.out _ HQ.out hG LC.out RC.out).mono ?_; rintro e wr0 ⟨rfl, hb⟩
                  replace HB := Lib.hid (below_step hb HB.out (Nat.le_trans (Nat.le_succ _) LG.out))
                  replace HQ := Lib.hid (HQ.out.below hb)
                  replace hG : Hid (G wr0) := g_below hG.out hb (g_lt hG.out)
                  replace RC := Lib.hid (RC.out.below hb LC.out)
                  replace LC : Hid (c < wr0.heap.size) := Nat.lt_of_lt_of_le LC.out hb.size
                  replace RL := Lib.hid (RL.out.below hb LG.out)
                  replace LG : Hid (w.heap.size < wr0.heap.size) := Nat.lt_of_lt_of_le LG.out hb.size
                  clear hb
                  clear CE0 CR0
                  cases ok0
                  · go_wp2_with fail
                    refine (CX.out _).mono ?_; rintro e wq ⟨rfl, h⟩; replace h := h.symm; subst h
                    go_wp2_with fail
                    go_step3; (try simp only [Exit.inBlock, Exit.then]); refine GJ.out 0 _ _ _ _ rfl ?_
                    go_wp2_with (refine wpList_store_rowP (fun wx => Below w.heap.size w wx ∧ Row wx w.heap.size 41 (lf4 0 0 0 0)) rfl 41 _ _ rfl w.heap.size (lf4 0 0 0 0) rfl rfl 41 (lf4 0 0 0 0) RL.out (info_lf _ _ _ _) rfl (one_lf _ _ _ _) ⟨below_setRow HB.out (Nat.le_refl _) _, RL.out.setRow _⟩ ?_; rintro wz ⟨hb2, hr2⟩)
                    (try simp only [Exit.inBlock, Exit.then]); refine RJ.out _ _ _ ?_; (try simp only [Exit.inBlock, Exit.then])
                    refine bodyPost_ret (results_row2 rfl _ _ w.heap.size 41 (lf4 0 0 0 0) (0, 0) _ rfl hr2 Tryz.underlying41 rfl (info_lf _ _ _ _)) rfl ?_
                    exact ⟨by rw [show r = _ from (ER.out.trans (E2.out.trans (E1.out.trans E0.out)))]; rfl, hb2⟩
                  · go_wp2_with fail
                    refine (CG0.out _).mono ?_; rintro e wq ⟨rfl, h⟩; replace h := h.symm; subst h
                    go_wp2_with fail
                    refine (CB0.out _).mono ?_; rintro e wq ⟨rfl, h⟩; replace h := h.symm; subst h
                    clear CG0 CB0
                    cases br0
                    · go_wp2_with fail
                      refine (CL0.out _).mono ?_; rintro e wq ⟨rfl, h⟩; replace h := h.symm; subst h
                      cases lf0
                      · go_wp2_with fail
                        refine (CL0.out _).mono ?_; rintro e wq ⟨rfl, h⟩; replace h := h.symm; subst h
                        go_wp2_with fail
                        go_step3; (try simp only [Exit.inBlock, Exit.then]); refine GJ.out 0 _ _ _ _ rfl ?_
                        go_wp2_with (refine wpList_store_rowP (fun wx => Below w.heap.size w wx ∧ Row wx w.heap.size 41 (lf4 0 0 0 0)) rfl 41 _ _ rfl w.heap.size (lf4 0 0 0 0) rfl rfl 41 (lf4 0 0 0 0) RL.out (info_lf _ _ _ _) rfl (one_lf _ _ _ _) ⟨below_setRow HB.out (Nat.le_refl _) _, RL.out.setRow _⟩ ?_; rintro wz ⟨hb2, hr2⟩)
                        (try simp only [Exit.inBlock, Exit.then]); refine RJ.out _ _ _ ?_; (try simp only [Exit.inBlock, Exit.then])
                        refine bodyPost_ret (results_row2 rfl _ _ w.heap.size 41 (lf4 0 0 0 0) (0, 0) _ rfl hr2 Tryz.underlying41 rfl (info_lf _ _ _ _)) rfl ?_
                        exact ⟨by rw [show r = _ from (ER.out.trans (E2.out.trans (E1.out.trans E0.out)))]; rfl, hb2⟩
                      · go_wp2_with fail
                        refine (CL0.out _).mono ?_; rintro e wq ⟨rfl, h⟩; replace h := h.symm; subst h
                        go_wp2_with fail
                        refine (CA0.out _ RC.out).mono ?_; rintro e wq ⟨rfl, h⟩; replace h := h.symm; subst h
                        cases al0
                        · go_wp2_with fail
                          go_step3; (try simp only [Exit.inBlock, Exit.then]); refine GJ.out 0 _ _ _ _ rfl ?_
                          go_wp2_with (refine wpList_store_rowP (fun wx => Below w.heap.size w wx ∧ Row wx w.heap.size 41 (lf4 0 0 0 0)) rfl 41 _ _ rfl w.heap.size (lf4 0 0 0 0) rfl rfl 41 (lf4 0 0 0 0) RL.out (info_lf _ _ _ _) rfl (one_lf _ _ _ _) ⟨below_setRow HB.out (Nat.le_refl _) _, RL.out.setRow _⟩ ?_; rintro wz ⟨hb2, hr2⟩)
                          (try simp only [Exit.inBlock, Exit.then]); refine RJ.out _ _ _ ?_; (try simp only [Exit.inBlock, Exit.then])
                          refine bodyPost_ret (results_row2 rfl _ _ w.heap.size 41 (lf4 0 0 0 0) (0, 0) _ rfl hr2 Tryz.underlying41 rfl (info_lf _ _ _ _)) rfl ?_
                          exact ⟨by rw [show r = _ from (ER.out.trans (E2.out.trans (E1.out.trans E0.out)))]; rfl, hb2⟩
                        · go_wp2_with fail
                          refine (CN0.out _).mono ?_; rintro e wq ⟨rfl, h⟩; replace h := h.symm; subst h
                          cases bg0
                          · go_wp2_with fail
                            go_step3; (try simp only [Exit.inBlock, Exit.then]); refine GJ.out 0 _ _ _ _ rfl ?_
                            go_wp2_with (refine wpList_store_rowP (fun wx => Below w.heap.size w wx ∧ Row wx w.heap.size 41 (lf4 0 0 0 0)) rfl 41 _ _ rfl w.heap.size (lf4 0 0 0 0) rfl rfl 41 (lf4 0 0 0 0) RL.out (info_lf _ _ _ _) rfl (one_lf _ _ _ _) ⟨below_setRow HB.out (Nat.le_refl _) _, RL.out.setRow _⟩ ?_; rintro wz ⟨hb2, hr2⟩)
                            (try simp only [Exit.inBlock, Exit.then]); refine RJ.out _ _ _ ?_; (try simp only [Exit.inBlock, Exit.then])
                            refine bodyPost_ret (results_row2 rfl _ _ w.heap.size 41 (lf4 0 0 0 0) (0, 0) _ rfl hr2 Tryz.underlying41 rfl (info_lf _ _ _ _)) rfl ?_
                            exact ⟨by rw [show r = _ from (ER.out.trans (E2.out.trans (E1.out.trans E0.out)))]; rfl, hb2⟩
                          · go_wp2_with fail
                            refine (CD0.out _).mono ?_; rintro e wq ⟨rfl, h⟩; replace h := h.symm; subst h
                            go_wp2_with (refine wpList_store_rowP (fun wx => Below w.heap.size w wx ∧ Row wx w.heap.size 41 (lf4 a0 0 z0 f0)) rfl 41 _ _ rfl w.heap.size (lf4 a0 0 z0 f0) rfl rfl 41 (lf4 0 0 0 0) RL.out (info_lf _ _ _ _) rfl (one_lf _ _ _ _) ⟨below_setRow HB.out (Nat.le_refl _) _, RL.out.setRow _⟩ ?_; rintro wz ⟨hb2, hr2⟩)
                            (try simp only [Exit.inBlock, Exit.then]); refine RJ.out _ _ _ ?_; (try simp only [Exit.inBlock, Exit.then])
                            refine bodyPost_ret (results_row2 rfl _ _ w.heap.size 41 (lf4 a0 0 z0 f0) (0, 0) _ rfl hr2 Tryz.underlying41 rfl (info_lf _ _ _ _)) rfl ?_
                            exact ⟨by rw [show r = _ from (ER.out.trans (E2.out.trans (E1.out.trans E0.out)))]; rfl, hb2⟩
                    · go_wp2_with fail
                      go_step3; (try simp only [Exit.inBlock, Exit.then]); refine GJ.out 0 _ _ _ _ rfl ?_
                      go_wp2_with (refine wpList_store_rowP (fun wx => Below w.heap.size w wx ∧ Row wx w.heap.size 41 (lf4 0 0 0 0)) rfl 41 _ _ rfl w.heap.size (lf4 0 0 0 0) rfl rfl 41 (lf4 0 0 0 0) RL.out (info_lf _ _ _ _) rfl (one_lf _ _ _ _) ⟨below_setRow HB.out (Nat.le_refl _) _, RL.out.setRow _⟩ ?_; rintro wz ⟨hb2, hr2⟩)
                      (try simp only [Exit.inBlock, Exit.then]); refine RJ.out _ _ _ ?_; (try simp only [Exit.inBlock, Exit.then])
                      refine bodyPost_ret (results_row2 rfl _ _ w.heap.size 41 (lf4 0 0 0 0) (0, 0) _ rfl hr2 Tryz.underlying41 rfl (info_lf _ _ _ _)) rfl ?_
                      exact ⟨by rw [show r = _ from (ER.out.trans (E2.out.trans (E1.out.trans E0.out)))]; rfl, hb2⟩
                · go_wp2_with fail
                  refine (CL1.out _).mono ?_; rintro e wq ⟨rfl, h⟩; replace h := h.symm; subst h
                  go_wp2_with fail
                  refine (CA1.out _ RC.out).mono ?_; rintro e wq ⟨rfl, h⟩; replace h := h.symm; subst h
                  cases al1
                  · go_wp2_with fail
                    go_step3; (try simp only [Exit.inBlock, Exit.then]); refine GJ.out 1 _ _ _ _ rfl ?_
                    go_wp2_with (refine wpList_store_rowP (fun wx => Below w.heap.size w wx ∧ Row wx w.heap.size 41 (lf4 0 0 0 0)) rfl 41 _ _ rfl w.heap.size (lf4 0 0 0 0) rfl rfl 41 (lf4 0 0 0 0) RL.out (info_lf _ _ _ _) rfl (one_lf _ _ _ _) ⟨below_setRow HB.out (Nat.le_refl _) _, RL.out.setRow _⟩ ?_; rintro wz ⟨hb2, hr2⟩)
                    (try simp only [Exit.inBlock, Exit.then]); refine RJ.out _ _ _ ?_; (try simp only [Exit.inBlock, Exit.then])
                    refine bodyPost_ret (results_row2 rfl _ _ w.heap.size 41 (lf4 0 0 0 0) (0, 0) _ rfl hr2 Tryz.underlying41 rfl (info_lf _ _ _ _)) rfl ?_
                    exact ⟨by rw [show r = _ from (ER.out.trans (E2.out.trans E1.out))]; rfl, hb2⟩
                  · go_wp2_with fail
                    refine (CN1.out _).mono ?_; rintro e wq ⟨rfl, h⟩; replace h := h.symm; subst h
                    cases bg1
                    · go_wp2_with fail
                      go_step3; (try simp only [Exit.inBlock, Exit.then]); refine GJ.out 1 _ _ _ _ rfl ?_
                      go_wp2_with (refine wpList_store_rowP (fun wx => Below w.heap.size w wx ∧ Row wx w.heap.size 41 (lf4 0 0 0 0)) rfl 41 _ _ rfl w.heap.size (lf4 0 0 0 0) rfl rfl 41 (lf4 0 0 0 0) RL.out (info_lf _ _ _ _) rfl (one_lf _ _ _ _) ⟨below_setRow HB.out (Nat.le_refl _) _, RL.out.setRow _⟩ ?_; rintro wz ⟨hb2, hr2⟩)
                      (try simp only [Exit.inBlock, Exit.then]); refine RJ.out _ _ _ ?_; (try simp only [Exit.inBlock, Exit.then])
                      refine bodyPost_ret (results_row2 rfl _ _ w.heap.size 41 (lf4 0 0 0 0) (0, 0) _ rfl hr2 Tryz.underlying41 rfl (info_lf _ _ _ _)) rfl ?_
                      exact ⟨by rw [show r = _ from (ER.out.trans (E2.out.trans E1.out))]; rfl, hb2⟩
                    · go_wp2_with fail
                      refine (CD1.out _).mono ?_; rintro e wq ⟨rfl, h⟩; replace h := h.symm; subst h
                      go_wp2_with (refine wpList_store_rowP (fun wx => Below w.heap.size w wx ∧ Row wx w.heap.size 41 (lf4 a1 1 z1 f1)) rfl 41 _ _ rfl w.heap.size (lf4 a1 1 z1 f1) rfl rfl 41 (lf4 0 0 0 0) RL.out (info_lf _ _ _ _) rfl (one_lf _ _ _ _) ⟨below_setRow HB.out (Nat.le_refl _) _, RL.out.setRow _⟩ ?_; rintro wz ⟨hb2, hr2⟩)
                      (try simp only [Exit.inBlock, Exit.then]); refine RJ.out _ _ _ ?_; (try simp only [Exit.inBlock, Exit.then])
                      refine bodyPost_ret (results_row2 rfl _ _ w.heap.size 41 (lf4 a1 1 z1 f1) (0, 0) _ rfl hr2 Tryz.underlying41 rfl (info_lf _ _ _ _)) rfl ?_
                      exact ⟨by rw [show r = _ from (ER.out.trans (E2.out.trans E1.out))]; rfl, hb2⟩
              · go_wp2_with fail
                go_step3; (try simp only [Exit.inBlock, Exit.then]); refine GJ.out 1 _ _ _ _ rfl ?_
                go_wp2_with (refine wpList_store_rowP (fun wx => Below w.heap.size w wx ∧ Row wx w.heap.size 41 (lf4 0 0 0 0)) rfl 41 _ _ rfl w.heap.size (lf4 0 0 0 0) rfl rfl 41 (lf4 0 0 0 0) RL.out (info_lf _ _ _ _) rfl (one_lf _ _ _ _) ⟨below_setRow HB.out (Nat.le_refl _) _, RL.out.setRow _⟩ ?_; rintro wz ⟨hb2, hr2⟩)
                (try simp only [Exit.inBlock, Exit.then]); refine RJ.out _ _ _ ?_; (try simp only [Exit.inBlock, Exit.then])
                refine bodyPost_ret (results_row2 rfl _ _ w.heap.size 41 (lf4 0 0 0 0) (0, 0) _ rfl hr2 Tryz.underlying41 rfl (info_lf _ _ _ _)) rfl ?_
                exact ⟨by rw [show r = _ from (ER.out.trans (E2.out.trans E1.out))]; rfl, hb2⟩
          · go_wp2_with fail
            refine (CL2.out _).mono ?_; rintro e wq ⟨rfl, h⟩; replace h := h.symm; subst h
            go_wp2_with fail
            refine (CA2.out _ RC.out).mono ?_; rintro e wq ⟨rfl, h⟩; replace h := h.symm; subst h
            cases al2
            · go_wp2_with fail
              go_step3; (try simp only [Exit.inBlock, Exit.then]); refine GJ.out 2 _ _ _ _ rfl ?_
              go_wp2_with (refine wpList_store_rowP (fun wx => Below w.heap.size w wx ∧ Row wx w.heap.size 41 (lf4 0 0 0 0)) rfl 41 _ _ rfl w.heap.size (lf4 0 0 0 0) rfl rfl 41 (lf4 0 0 0 0) RL.out (info_lf _ _ _ _) rfl (one_lf _ _ _ _) ⟨below_setRow HB.out (Nat.le_refl _) _, RL.out.setRow _⟩ ?_; rintro wz ⟨hb2, hr2⟩)
              (try simp only [Exit.inBlock, Exit.then]); refine RJ.out _ _ _ ?_; (try simp only [Exit.inBlock, Exit.then])
              refine bodyPost_ret (results_row2 rfl _ _ w.heap.size 41 (lf4 0 0 0 0) (0, 0) _ rfl hr2 Tryz.underlying41 rfl (info_lf _ _ _ _)) rfl ?_
              exact ⟨by rw [show r = _ from (ER.out.trans E2.out)]; rfl, hb2⟩
            · go_wp2_with fail
              refine (CN2.out _).mono ?_; rintro e wq ⟨rfl, h⟩; replace h := h.symm; subst h
              cases bg2
              · go_wp2_with fail
                go_step3; (try simp only [Exit.inBlock, Exit.then]); refine GJ.out 2 _ _ _ _ rfl ?_
                go_wp2_with (refine wpList_store_rowP (fun wx => Below w.heap.size w wx ∧ Row wx w.heap.size 41 (lf4 0 0 0 0)) rfl 41 _ _ rfl w.heap.size (lf4 0 0 0 0) rfl rfl 41 (lf4 0 0 0 0) RL.out (info_lf _ _ _ _) rfl (one_lf _ _ _ _) ⟨below_setRow HB.out (Nat.le_refl _) _, RL.out.setRow _⟩ ?_; rintro wz ⟨hb2, hr2⟩)
                (try simp only [Exit.inBlock, Exit.then]); refine RJ.out _ _ _ ?_; (try simp only [Exit.inBlock, Exit.then])
                refine bodyPost_ret (results_row2 rfl _ _ w.heap.size 41 (lf4 0 0 0 0) (0, 0) _ rfl hr2 Tryz.underlying41 rfl (info_lf _ _ _ _)) rfl ?_
                exact ⟨by rw [show r = _ from (ER.out.trans E2.out)]; rfl, hb2⟩
              · go_wp2_with fail
                refine (CD2.out _).mono ?_; rintro e wq ⟨rfl, h⟩; replace h := h.symm; subst h
                go_wp2_with (refine wpList_store_rowP (fun wx => Below w.heap.size w wx ∧ Row wx w.heap.size 41 (lf4 a2 2 z2 f2)) rfl 41 _ _ rfl w.heap.size (lf4 a2 2 z2 f2) rfl rfl 41 (lf4 0 0 0 0) RL.out (info_lf _ _ _ _) rfl (one_lf _ _ _ _) ⟨below_setRow HB.out (Nat.le_refl _) _, RL.out.setRow _⟩ ?_; rintro wz ⟨hb2, hr2⟩)
                (try simp only [Exit.inBlock, Exit.then]); refine RJ.out _ _ _ ?_; (try simp only [Exit.inBlock, Exit.then])
                refine bodyPost_ret (results_row2 rfl _ _ w.heap.size 41 (lf4 a2 2 z2 f2) (0, 0) _ rfl hr2 Tryz.underlying41 rfl (info_lf _ _ _ _)) rfl ?_
                exact ⟨by rw [show r = _ from (ER.out.trans E2.out)]; rfl, hb2⟩
        · go_wp2_with fail
          go_step3; (try simp only [Exit.inBlock, Exit.then]); refine GJ.out 2 _ _ _ _ rfl ?_
          go_wp2_with (refine wpList_store_rowP (fun wx => Below w.heap.size w wx ∧ Row wx w.heap.size 41 (lf4 0 0 0 0)) rfl 41 _ _ rfl w.heap.size (lf4 0 0 0 0) rfl rfl 41 (lf4 0 0 0 0) RL.out (info_lf _ _ _ _) rfl (one_lf _ _ _ _) ⟨below_setRow HB.out (Nat.le_refl _) _, RL.out.setRow _⟩ ?_; rintro wz ⟨hb2, hr2⟩)
          (try simp only [Exit.inBlock, Exit.then]); refine RJ.out _ _ _ ?_; (try simp only [Exit.inBlock, Exit.then])
          refine bodyPost_ret (results_row2 rfl _ _ w.heap.size 41 (lf4 0 0 0 0) (0, 0) _ rfl hr2 Tryz.underlying41 rfl (info_lf _ _ _ _)) rfl ?_
          exact ⟨by rw [show r = _ from (ER.out.trans E2.out)]; rfl, hb2⟩
end Go.Proofs.YthhlcchofilimaaGreatDoor
