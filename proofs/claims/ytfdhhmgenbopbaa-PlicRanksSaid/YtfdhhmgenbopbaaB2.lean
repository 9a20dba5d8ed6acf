/- takes; comeIn; waiting. -/
import Derived.Test.YtfdhhmgenbopbaaB1
import Derived.Laws.Bits64
import Derived.Laws.Bits64b
import Derived.Laws.Rows
namespace Go.Proofs.Ytfdhhmgenbopbaa
open Go.ChangeShapes Go.WideShapes Go.ChangeAt Go.RowKit
set_option linter.unusedVariables false
set_option linter.unusedSimpArgs false
theorem and1 (x : Nat) (hx : x < 18446744073709551616) : bits .and .u64 (x : Int) 1 = ((x % 2 : Nat) : Int) := by
  have h := bits_and_u64_nat x 1 hx (by decide)
  rw [Nat.and_one_is_mod] at h
  exact h
theorem shr1 (e n : Nat) (he : e < 18446744073709551616) : bits .and .u64 ((e : Int) / 2 ^ n) 1 = ((e / 2 ^ n % 2 : Nat) : Int) := by
  have h := and1 (e / 2 ^ n) (Nat.lt_of_le_of_lt (Nat.div_le_self _ _) he)
  rw [← h]
  congr 1
theorem cast_beq (a b : Nat) : (((a : Nat) : Int) == ((b : Nat) : Int)) = (a == b) := by
  rw [Bool.eq_iff_iff]; simp; omega
theorem takes_c (e t n : Nat) (x : Bool) (hn : (n : Int) ≤ 8) (he : Hid (e < 18446744073709551616)) (hx : Hid ((e / 2 ^ n % 2 == 1) = x)) (w : World) : Calls Try.prog 18 #[.agg #[.int .u64 e, .int .u64 t], .int .i64 n] w (RetB x w) := by
  go_enter Try.func18, Try.ntmps18
  go_wp2_with fail
  rw [shr1 e n he.out, ← hx.out]
  go_ret
  exact retB_mk (cast_beq _ 1) (by repeat (first | (with_reducible first | exact Below.refl _ _ | assumption | exact Nat.le_refl _ | refine Below.drew ?_ | refine Below.alloc ?_ ?_ _ | refine below_drewN ?_ _ | refine Below.setCell ?_ ?_ _ | refine le_alloc ?_ | refine le_set ?_ | refine le_drew ?_ | refine le_drewN ?_ | refine below_step (by assumption) ?_ ?_ | refine le_below (by assumption) ?_) | (dsimp only; omega)))
/-- A whole value loaded out of a part of a block. -/
theorem wp_load_at {P : Program} {o : Oper} {a : Act} {w : World} {K : Act → World → Prop} {Q : Exit → Act → World → Prop} (ty : TypeId) (x : Operand) (ho : o.op = .load ty x)
    (g off : Nat) (hx : a.eval x = .pointer (some ⟨g, off, none⟩)) (cs : Array Value) (d : TypeDesc) (hc : ∀ j, j < cs.size → w.cell? ⟨g, off + j, none⟩ = cs[j]?)
    (hu : P.underlying ty = some d) (hd : (match d with | .struct _ | .array _ _ => true | _ => false) = true) (hi : (P.info? ty).map (·.size) = some cs.size)
    (h : K (a.put o.dst (.agg cs)) w) : o.wp P a w K Q := by
  have hl : (loadCells ⟨g, off, none⟩ cs.toList.length).run P w = .ok cs.toList.toArray w :=
    run_loadCells_list (P := P) w ⟨g, off, none⟩ cs.toList (fun j v hv => by
      have hadd : (⟨g, off, none⟩ : Addr).add j = ⟨g, off + j, none⟩ := by unfold Addr.add; split <;> simp_all
      have hj : j < cs.size := by
        have := (List.getElem?_eq_some_iff.1 hv).1
        simpa using this
      rw [hadd, hc j hj]
      simpa using hv)
  have hlv : (loadVar ty ⟨g, off, none⟩).run P w = .ok (.agg cs) w := by
    cases hq : P.info? ty with
    | none => simp [hq] at hi
    | some i =>
      have hs : i.size = cs.size := by simpa [hq] using hi
      have hagg : (isAgg ty).run P w = .ok true w := by
        unfold isAgg
        rw [Sem.run_bind, run_underlying hu w]
        cases d <;> simp_all
      simp only [Array.length_toList, Array.toArray_toList] at hl
      simp [loadVar, Sem.run_bind, hagg, sizeOf, typeInfo, hq, hs, hl]
  unfold Oper.wp execOp
  simp only [ho, hx, Instr.loadAt, Instr.sureAddr, Sem.run_bind, Sem.run_pure, Result.andThen_ok, hlv]
  exact h
theorem wpList_load_at {P : Program} {ops : Array Oper} {rest : List Oper} {o : Oper} {a : Act} {w : World} {Q : Exit → Act → World → Prop} (hgd : o.guard = none) (ty : TypeId) (x : Operand) (ho : o.op = .load ty x)
    (g off : Nat) (hx : a.eval x = .pointer (some ⟨g, off, none⟩)) (cs : Array Value) (d : TypeDesc) (hc : ∀ j, j < cs.size → w.cell? ⟨g, off + j, none⟩ = cs[j]?)
    (hu : P.underlying ty = some d) (hd : (match d with | .struct _ | .array _ _ => true | _ => false) = true) (hi : (P.info? ty).map (·.size) = some cs.size)
    (h : wpList P ops Q rest (a.put o.dst (.agg cs)) w) : wpList P ops Q (o :: rest) a w :=
  wpList_plain hgd fun _ hK => wp_load_at ty x ho g off hx cs d hc hu hd hi (hK _ _ h)
/-- The sources as a value of their own. -/
def srcP (S : St) : Array Value := #[.bool (S.up 0), .int .i64 (S.st 0 : Nat), .int .u64 (S.pr 0 : Nat), .bool (S.up 1), .int .i64 (S.st 1 : Nat), .int .u64 (S.pr 1 : Nat), .bool (S.up 2), .int .i64 (S.st 2 : Nat), .int .u64 (S.pr 2 : Nat), .bool (S.up 3), .int .i64 (S.st 3 : Nat), .int .u64 (S.pr 3 : Nat), .bool (S.up 4), .int .i64 (S.st 4 : Nat), .int .u64 (S.pr 4 : Nat), .bool (S.up 5), .int .i64 (S.st 5 : Nat), .int .u64 (S.pr 5 : Nat), .bool (S.up 6), .int .i64 (S.st 6 : Nat), .int .u64 (S.pr 6 : Nat), .bool (S.up 7), .int .i64 (S.st 7 : Nat), .int .u64 (S.pr 7 : Nat), .bool (S.up 8), .int .i64 (S.st 8 : Nat), .int .u64 (S.pr 8 : Nat)]
theorem srcP_size (S : St) : (srcP S).size = 27 := rfl
theorem src_load {w : World} {b : Nat} {S : St} (h : IsP w b S) : ∀ j, j < (srcP S).size → w.cell? ⟨b, 0 + j, none⟩ = (srcP S)[j]? := by
  intro j hj
  rw [srcP_size] at hj
  rw [Nat.zero_add, (h.2 j (by omega)).1]
  have : j = 0 ∨ j = 1 ∨ j = 2 ∨ j = 3 ∨ j = 4 ∨ j = 5 ∨ j = 6 ∨ j = 7 ∨ j = 8 ∨ j = 9 ∨ j = 10 ∨ j = 11 ∨ j = 12 ∨ j = 13 ∨ j = 14 ∨ j = 15 ∨ j = 16 ∨ j = 17 ∨ j = 18 ∨ j = 19 ∨ j = 20 ∨ j = 21 ∨ j = 22 ∨ j = 23 ∨ j = 24 ∨ j = 25 ∨ j = 26 := by omega
  rcases this with rfl | rfl | rfl | rfl | rfl | rfl | rfl | rfl | rfl | rfl | rfl | rfl | rfl | rfl | rfl | rfl | rfl | rfl | rfl | rfl | rfl | rfl | rfl | rfl | rfl | rfl | rfl <;> rfl
theorem src_ix (S : St) (k : Nat) (hk : k < 9) (w : World) : (Instr.index 35 (.agg (srcP S)) (.int .i64 k)).run Try.prog w = .ok (.agg #[.bool (S.up k), .int .i64 (S.st k : Nat), .int .u64 (S.pr k : Nat)]) w := by
  have : k = 0 ∨ k = 1 ∨ k = 2 ∨ k = 3 ∨ k = 4 ∨ k = 5 ∨ k = 6 ∨ k = 7 ∨ k = 8 := by omega
  rcases this with rfl | rfl | rfl | rfl | rfl | rfl | rfl | rfl | rfl <;> rfl
theorem info35 {S : St} : (Try.prog.info? 35).map (·.size) = some (srcP S).size := by rw [srcP_size]; kernel_rfl
def RetU (n : Nat) (W : World) (e : Ending) (w' : World) : Prop := e = .returned (.int .u64 n) ∧ Below W.heap.size W w'
theorem retU_mk {n : Nat} {x : Int} {W w' : World} (h : x = n) (hb : Below W.heap.size W w') : RetU n W (.returned (.int .u64 x)) w' := ⟨by rw [h], hb⟩
def RetP (b : Nat) (S : St) (W : World) (e : Ending) (w' : World) : Prop := e = .returned (.tuple #[]) ∧ IsP w' b S ∧ W.grownBy w' (some b)
theorem wait_step (S : St) (k : Nat) (hk : k < 9) (h : (S.st k == 1) = true) : bits .or .u64 ((waitF S k : Nat) : Int) (IntKind.u64.wrap (2 ^ k)) = ((waitF S (k + 1) : Nat) : Int) := by
  have hlt := waitF_lt S k
  have hp : (2 : Nat) ^ k ≤ 256 := Nat.le_trans (Nat.pow_le_pow_right (by decide) (show k ≤ 8 by omega)) (by decide)
  have e1 : IntKind.u64.wrap (2 ^ k) = ((2 ^ k : Nat) : Int) := by
    rw [IntKind.wrap_u64]
    have : ((2 ^ k : Nat) : Int) = (2 : Int) ^ k := by simp
    rw [← this]; omega
  rw [e1, bits_or_u64_nat _ _ (by omega) (by omega)]
  congr 1
  show _ = waitF S k + (bif S.st k == 1 then 2 ^ k else 0)
  rw [h]
  have h2 := Nat.two_pow_add_eq_or_of_lt hlt 1
  rw [Nat.mul_one] at h2
  rw [Nat.or_comm, ← h2]
  exact Nat.add_comm _ _
theorem wait_skip (S : St) (k : Nat) (h : (S.st k == 1) = false) : waitF S k = waitF S (k + 1) := by
  show _ = waitF S k + (bif S.st k == 1 then 2 ^ k else 0)
  rw [h]; rfl
set_option maxRecDepth 100000 in
theorem wait_c (b : Nat) (S : St) (w : World) (hP : Hid (IsP w b S)) : Calls Try.prog 14 #[.pointer (some ⟨b, 0, none⟩)] w (RetU (waitF S 9) w) := by
  go_enter Try.func14, Try.ntmps14
  go_wp2_with (refine wpList_load_at rfl 35 _ rfl b 0 rfl (srcP S) _ (src_load hP.out) Try.underlying35 rfl info35 ?_)
  go_loopw [3, 10] (fun v i wr => ∃ k : Nat, k ≤ 9 ∧ i = .int .i64 k ∧ v = .int .u64 (waitF S k : Nat) ∧ Hid (Below w.heap.size w wr)) (fun _ i _ => 9 - (intOf i).toNat)
  case atStart => exact ⟨0, by omega, rfl, rfl, Below.refl _ _⟩
  case round =>
    obtain ⟨k, hk, rfl, rfl, hB⟩ := hrel
    by_cases hlt : k < 9
    · have hlt' : (k : Int) < 9 := by omega
      have hix := src_ix S k hlt
      cases hs : S.st k == 1
      · have HS := Lib.hid hs
        have hs' : (((S.st k : Nat) : Int) == 1) = false := (cast_beq (S.st k) 1).trans hs
        have HK := Lib.hid (wait_skip S k hs)
        clear hs
        go_wp2_with fail
        go_roundw
        case rel => exact ⟨k + 1, by omega, by go_num, by rw [HK.out], by exact hB.out.alloc hB.out.size _⟩
        case measure => simp [intOf]; omega
      · have HS := Lib.hid hs
        have hs' : (((S.st k : Nat) : Int) == 1) = true := (cast_beq (S.st k) 1).trans hs
        have HK := Lib.hid (wait_step S k hlt hs)
        clear hs
        go_wp2_with fail
        rw [HK.out]
        go_roundw
        case rel => exact ⟨k + 1, by omega, by go_num, rfl, by exact hB.out.alloc hB.out.size _⟩
        case measure => simp [intOf]; omega
    · obtain rfl : k = 9 := by omega
      go_wp2_with fail
      go_ret
      exact retU_mk rfl hB.out
end Go.Proofs.Ytfdhhmgenbopbaa
