/- Whole registers held against each other; calls in regions that draw their order; what the document fixes. -/
import Derived.Test.YtmlbobjbkbcabaaB12
import Derived.Test.YtmlbobjbkbcabaaB8
import Derived.Test.YtmlbobjbkbcabaaB9
import Derived.Test.YtmlbobjbkbcabaaPD
import Derived.Laws.StructEq
namespace Go.Proofs.Ytmlbobjbkbcabaa
open Go.ChangeShapes Go.WideShapes Go.ChangeAt Go.RowKit Go.Sort Go.Maps Go.WideMaps P
set_option linter.unusedVariables false
set_option linter.unusedSimpArgs false
theorem eqIn_u8s (w : World) (d : Nat) (f : Nat → Nat) : (Op.equalIn (d + 2) 23 (.agg (u8s f)) (.agg (u8s f))).run Try.prog w = .ok true w := by
  obtain ⟨i, hi⟩ := info_u8
  rw [show d + 2 = (d + 1) + 1 from rfl, run_equalIn_array w (d + 1) (u8s f) (u8s f) Try.underlying23 hi, one_u8]
  exact items_u8 w f d _ (fun j hj => List.mem_range.1 hj)
theorem eqIn_u64s (w : World) (d : Nat) (f : Nat → Nat) : (Op.equalIn (d + 2) 24 (.agg (u64s f)) (.agg (u64s f))).run Try.prog w = .ok true w := by
  obtain ⟨i, hi⟩ := info_u64
  rw [show d + 2 = (d + 1) + 1 from rfl, run_equalIn_array w (d + 1) (u64s f) (u64s f) Try.underlying24 hi, one_u64]
  exact items_u64 w f d _ (fun j hj => List.mem_range.1 hj)
theorem part_c (w : World) (S : Nat → Nat) : (part 23 (cs S) 22).run Try.prog w = .ok (.agg (u8s (cfO S))) w := by
  have h := info8c (cfO S)
  cases hi : Try.prog.info? 23 with
  | none => rw [hi] at h; simp at h
  | some i =>
    have hs : i.size = 8 := by rw [hi] at h; simpa [u8s_size] using h
    simp [part, isAgg, run_underlying Try.underlying23, sizeOf, typeInfo, hi, hs]
    rfl
theorem part_a (w : World) (S : Nat → Nat) : (part 24 (cs S) 30).run Try.prog w = .ok (.agg (u64s (adO S))) w := by
  have h := info8a (adO S)
  cases hi : Try.prog.info? 24 with
  | none => rw [hi] at h; simp at h
  | some i =>
    have hs : i.size = 8 := by rw [hi] at h; simpa [u64s_size] using h
    simp [part, isAgg, run_underlying Try.underlying24, sizeOf, typeInfo, hi, hs]
    rfl
theorem eqFields_cons {P : Program} {w : World} {d : Nat} {xs : Array Value} {f : Field} {fs : List Field} {a : Value} (hn : f.name ≠ "_") (hp : (part f.type xs f.offset).run P w = .ok a w) (he : (Op.equalIn d f.type a a).run P w = .ok true w) :
    (Op.eqFields d xs xs (f :: fs)).run P w = (Op.eqFields d xs xs fs).run P w := by
  simp only [Op.eqFields, hn, ne_eq, not_false_eq_true, if_true, Sem.run_bind, hp, he, Result.andThen_ok]
  rfl
theorem run_eq_cs (w : World) (S : Nat → Nat) : (Op.equal 26 (.agg (cs S)) (.agg (cs S))).run Try.prog w = .ok true w := by
  unfold Op.equal
  rw [show Op.maxDepth = 9999 + 1 from rfl, run_equalIn_struct w 9999 26 (cs S) (cs S) (by kernel_rfl) (by kernel_rfl)]
  simp only [Program.fieldsOf, Try.underlying26]
  iterate 22 refine (eqFields_cons (by decide) (run_part_plain w (by kernel_rfl) rfl) ((run_equalIn_int w 9998 22 .u64 .u64 _ _ Try.underlying22).trans (by simp))).trans ?_
  refine (eqFields_cons (by decide) (part_c w S) (eqIn_u8s w 9997 _)).trans ?_
  refine (eqFields_cons (by decide) (part_a w S) (eqIn_u64s w 9997 _)).trans ?_
  rfl
theorem binOp_eq_cs (w : World) (x y : Operand) (S : Nat → Nat) : (do eqGuard .eql 26 x y (.agg (cs S)) (.agg (cs S)); binOp .eql 26 (.agg (cs S)) (.agg (cs S)) : Sem Value).run Try.prog w = .ok (.bool true) w := by
  rw [Sem.run_bind, run_eqGuard_agg w .eql 26 x y _ _ Try.eqGuardType26, Result.andThen_ok]
  simp only [binOp, Sem.run_bind, run_eq_cs w S, Result.andThen_ok]
  rfl
theorem quiet_eq_cs {o : Oper} {a : Act} {C : World → Prop} {K : Act → Prop} (x y : Operand) (t : TypeId) (ho : o.op = .binOp .eql 26 x y t) (S : Nat → Nat)
    (hx : a.eval x = .agg (cs S)) (hy : a.eval y = .agg (cs S)) (h : K (a.put o.dst (.bool true))) : o.quiet Try.prog a C K :=
  ⟨_, fun w _ => by
    have h2 : (execOp a.eval o).run Try.prog w = .ok (.value (.bool true)) w := by
      unfold execOp
      simp only [ho, hx, hy]
      rw [Sem.run_bind, binOp_eq_cs w x y S]; rfl
    unfold Oper.quietAt; rw [h2]; exact ⟨rfl, rfl⟩, h⟩
theorem wpList_load_rowG {P : Program} {ops : Array Oper} {rest : List Oper} {o : Oper} {a : Act} {w : World} {Q : Exit → Act → World → Prop} (hw : Region.wanted o (yielded ops a.tmps) = true) (ty : TypeId) (x : Operand) (ho : o.op = .load ty x)
    (g : Nat) (hx : a.eval x = .pointer (some ⟨g, 0, none⟩)) (t : TypeId) (cs : Array Value) (fr : Nat × Nat) (d : TypeDesc) (hg : w.heap[g]? = some (.cells cs t fr))
    (hu : P.underlying ty = some d) (hd : (match d with | .struct _ | .array _ _ => true | _ => false) = true) (hi : (P.info? ty).map (·.size) = some cs.size)
    (h : wpList P ops Q rest (a.put o.dst (.agg cs)) w) : wpList P ops Q (o :: rest) a w :=
  wpList_step fun K hK => by
    rw [if_pos hw]
    exact wp_load_row ty x ho g hx t cs fr d hg hu hd hi (hK _ _ h)
theorem q_u {w : World} {f : FuncId} {args : Array Value} {n : Nat} {dd : Nat} {os : Array Obj} (h : Calls Try.prog f args (grow (redrawn w dd) os) (RetU n (grow (redrawn w dd) os))) :
    Calls Try.prog f args (grow (redrawn w dd) os) fun e w'' => e = .returned (.int .u64 n) ∧ ∃ p : Regrown, w'' = grow (redrawn w p.d) p.os := Calls.regrown_of h
theorem q_S {w : World} {f : FuncId} {args : Array Value} {S : Nat → Nat} {dd : Nat} {os : Array Obj} (h : Calls Try.prog f args (grow (redrawn w dd) os) (RetS S (grow (redrawn w dd) os))) :
    Calls Try.prog f args (grow (redrawn w dd) os) fun e w'' => e = .returned (.agg (cs S)) ∧ ∃ p : Regrown, w'' = grow (redrawn w p.d) p.os := Calls.regrown_of h
theorem setN_ok {S : Nat → Nat} (h : OkS S) (k v : Nat) (hv : v < 18446744073709551616) (hk : ¬ (22 ≤ k ∧ k < 30)) : OkS (setN S k v) := fun j => by
  unfold setN
  by_cases e : j = k
  · subst e
    rw [show (j == j) = true by simp, if_neg hk]; exact hv
  · rw [show (j == k) = false by simp [e]]; exact h j
theorem Z38_ok : OkS Z38 := fun k => by unfold Z38; split <;> decide
theorem rst_ok : OkS rstF := setN_ok Z38_ok 0 _ (by decide) (by decide)
theorem ite_of {p : (Nat → Nat) → Prop} {c : Prop} [Decidable c] {A B : Nat → Nat} (h1 : c → p A) (h2 : ¬ c → p B) : p (if c then A else B) := by
  by_cases h : c
  · rw [if_pos h]; exact h1 h
  · rw [if_neg h]; exact h2 h
theorem wr_ok {S : Nat → Nat} (h : OkS S) (n : Int) (v : Nat) (hv : v < 18446744073709551616) : OkS (wrF S n v) := by
  have u : ∀ k, ¬ (22 ≤ k ∧ k < 30) → S k < 18446744073709551616 := fun k hk => h.u k hk
  have fl : ∀ x, x < 18446744073709551616 → OkS (setN (setN S 21 x) 0 (stlN (S 0 ||| 24576))) := fun x hx => setN_ok (setN_ok h 21 _ hx (by decide)) 0 _ (stl_lt _) (by decide)
  unfold wrF
  refine ite_of (p := OkS) (fun _ => h) (fun _ => ?_)
  refine ite_of (p := OkS) (fun _ => fl _ (mix_lt _ _ _ (u 21 (by decide)) hv)) (fun _ => ?_)
  refine ite_of (p := OkS) (fun _ => fl _ (mix_lt _ _ _ (u 21 (by decide)) (Nat.mod_lt _ (by decide)))) (fun _ => ?_)
  refine ite_of (p := OkS) (fun _ => fl _ (and_lt _ _ hv)) (fun _ => ?_)
  refine ite_of (p := OkS) (fun _ => setN_ok h 0 _ (stl_lt _) (by decide)) (fun _ => ?_)
  refine ite_of (p := OkS) (fun _ => setN_ok h 0 _ (stl_lt _) (by decide)) (fun _ => ?_)
  refine ite_of (p := OkS) (fun _ => setN_ok h 4 _ (mix_lt _ _ _ (u 4 (by decide)) hv) (by decide)) (fun _ => ?_)
  refine ite_of (p := OkS) (fun _ => setN_ok h 4 _ (and_lt _ _ hv) (by decide)) (fun _ => ?_)
  refine ite_of (p := OkS) (fun _ => setN_ok h 5 _ (mix_lt _ _ _ (u 5 (by decide)) hv) (by decide)) (fun _ => ?_)
  refine ite_of (p := OkS) (fun _ => setN_ok h 5 _ (mix_lt _ _ _ (u 5 (by decide)) hv) (by decide)) (fun _ => ?_)
  refine ite_of (p := OkS) (fun _ => ?_) (fun _ => ?_)
  · intro k
    unfold setC
    by_cases e : 22 ≤ k ∧ k < 30
    · rw [if_pos e, show Nat.blt k 30 = true by rw [Nat.blt_eq]; omega, show Nat.blt k 22 = false by rw [Bool.eq_false_iff, ne_eq, Nat.blt_eq]; omega]
      show cfgF _ _ _ < 256
      unfold cfgF
      cases lockB (cfO S (k - 22)) || oddB (byteF v (k - 22))
      · show cleanF (byteF v (k - 22)) < 256
        have : byteF v (k - 22) < 256 := Nat.mod_lt _ (by decide)
        unfold cleanF; omega
      · exact h.c _
    · rw [if_neg e]
      have e2 : (Nat.blt k 30 && !Nat.blt k 22) = false := by
        rw [Bool.eq_false_iff]; intro q
        rw [Bool.and_eq_true, Nat.blt_eq, Bool.not_eq_true', Bool.eq_false_iff, ne_eq, Nat.blt_eq] at q
        omega
      rw [e2]; exact u k e
  refine ite_of (p := OkS) (fun _ => ?_) (fun _ => ?_)
  · intro k
    unfold setA
    by_cases e : 30 ≤ k
    · rw [if_neg (by omega), show Nat.blt k 30 = false by rw [Bool.eq_false_iff, ne_eq, Nat.blt_eq]; omega]
      show adrF _ _ _ _ _ < 18446744073709551616
      unfold adrF
      cases (k - 30 == (n - 944).toNat && !heldB (cfO S) (n - 944).toNat)
      · exact h.a _
      · exact Nat.lt_trans (adr_lt v) (by decide)
    · rw [show Nat.blt k 30 = true by rw [Nat.blt_eq]; omega]; exact h k
  refine ite_of (p := OkS) (fun _ => h) (fun hp => ?_)
  refine ite_of (p := OkS) (fun _ => ?_) (fun _ => h)
  exact setN_ok h _ _ (and_lt _ _ hv) (by have := (pl_isU hp).1; unfold isU at this; omega)
end Go.Proofs.Ytmlbobjbkbcabaa
