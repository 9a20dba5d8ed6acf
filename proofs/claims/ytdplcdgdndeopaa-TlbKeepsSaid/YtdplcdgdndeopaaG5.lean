/- Two entries held against each other. -/
import Derived.Test.YtdplcdgdndeopaaG4
import Derived.ChangeKeysEq
import Derived.Laws.StructEq
namespace Go.Proofs.Ytdplcdgdndeopaa
open Go.ChangeShapes Go.WideShapes Go.ChangeAt Go.RowKit Go.Sort
set_option linter.unusedVariables false
set_option linter.unusedSimpArgs false
theorem eqf_cons {P : Program} {w : World} {d : Nat} {xs ys : Array Value} {f : Field} {fs : List Field} {a b : Value} {e r : Bool} (hn : f.name ≠ "_") (ha : (part f.type xs f.offset).run P w = .ok a w) (hb : (part f.type ys f.offset).run P w = .ok b w) (he : (Op.equalIn d f.type a b).run P w = .ok e w)
    (hr : (Op.eqFields d xs ys fs).run P w = .ok r w) : (Op.eqFields d xs ys (f :: fs)).run P w = .ok (e && r) w := by
  simp only [Op.eqFields, hn, ne_eq, not_false_eq_true, if_true, Sem.run_bind, ha, hb, he, Result.andThen_ok]
  cases e
  · rfl
  · simpa using hr
def enV (ya ys yf : Nat) (yl : Int) (yg : Bool) : Value := .agg #[.int .u64 (ya : Nat), .int .i64 yl, .int .u64 (ys : Nat), .bool yg, .int .u64 (yf : Nat)]
theorem run_eq_en (w : World) (ya ys yf fa fs ff : Nat) (yl fl : Int) (yg fg : Bool) : (Op.equal 36 (enV ya ys yf yl yg) (enV fa fs ff fl fg)).run Try.prog w = .ok (enB ⟨ya, yl, ys, yg, yf⟩ ⟨fa, fl, fs, fg, ff⟩) w := by
  unfold Op.equal enV
  rw [show Op.maxDepth = 9999 + 1 from rfl, run_equalIn_struct w 9999 36 _ _ (by kernel_rfl) (by kernel_rfl)]
  simp only [Program.fieldsOf, Try.underlying36]
  refine (eqf_cons (by decide) (run_part_plain w (by kernel_rfl) rfl) (run_part_plain w (by kernel_rfl) rfl) (run_equalIn_int w 9998 22 .u64 .u64 _ _ Try.underlying22)
    (eqf_cons (by decide) (run_part_plain w (by kernel_rfl) rfl) (run_part_plain w (by kernel_rfl) rfl) (run_equalIn_int w 9998 3 .i64 .i64 _ _ Try.underlying3)
    (eqf_cons (by decide) (run_part_plain w (by kernel_rfl) rfl) (run_part_plain w (by kernel_rfl) rfl) (run_equalIn_int w 9998 22 .u64 .u64 _ _ Try.underlying22)
    (eqf_cons (by decide) (run_part_plain w (by kernel_rfl) rfl) (run_part_plain w (by kernel_rfl) rfl) (run_equalIn_bool w 9998 4 _ _ Try.underlying4)
    (eqf_cons (by decide) (run_part_plain w (by kernel_rfl) rfl) (run_part_plain w (by kernel_rfl) rfl) (run_equalIn_int w 9998 22 .u64 .u64 _ _ Try.underlying22) (r := true) rfl))))).trans ?_
  rw [cast_beq, cast_beq, cast_beq]
  unfold enB
  simp only [Bool.and_true, Bool.and_assoc]
theorem quiet_eq_en {o : Oper} {a : Act} {C : World → Prop} {K : Act → Prop} (x y : Operand) (t : TypeId) (ho : o.op = .binOp .eql 36 x y t) (ya ys yf fa fs ff : Nat) (yl fl : Int) (yg fg : Bool)
    (hx : a.eval x = enV ya ys yf yl yg) (hy : a.eval y = enV fa fs ff fl fg) (h : K (a.put o.dst (.bool (enB ⟨ya, yl, ys, yg, yf⟩ ⟨fa, fl, fs, fg, ff⟩)))) : o.quiet Try.prog a C K :=
  ⟨_, fun w _ => by
    have h3 : (do eqGuard .eql 36 x y (enV ya ys yf yl yg) (enV fa fs ff fl fg); binOp .eql 36 (enV ya ys yf yl yg) (enV fa fs ff fl fg) : Sem Value).run Try.prog w = .ok (.bool (enB ⟨ya, yl, ys, yg, yf⟩ ⟨fa, fl, fs, fg, ff⟩)) w := by
      rw [Sem.run_bind, show enV ya ys yf yl yg = .agg _ from rfl, show enV fa fs ff fl fg = .agg _ from rfl, run_eqGuard_agg w .eql 36 x y _ _ Try.eqGuardType36, Result.andThen_ok]
      have := run_eq_en w ya ys yf fa fs ff yl fl yg fg
      unfold enV at this
      simp only [binOp, Sem.run_bind, this, Result.andThen_ok]
      rfl
    have h2 : (execOp a.eval o).run Try.prog w = .ok (.value (.bool (enB ⟨ya, yl, ys, yg, yf⟩ ⟨fa, fl, fs, fg, ff⟩))) w := by
      unfold execOp
      simp only [ho, hx, hy]
      rw [Sem.run_bind, h3]; rfl
    unfold Oper.quietAt; rw [h2]; exact ⟨rfl, rfl⟩, h⟩
end Go.Proofs.Ytdplcdgdndeopaa
