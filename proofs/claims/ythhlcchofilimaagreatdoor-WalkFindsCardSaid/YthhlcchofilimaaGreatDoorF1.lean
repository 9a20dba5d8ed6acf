/- The answers that the document fixes. -/
import Derived.Test.YthhlcchofilimaaGreatDoorA3
import Derived.KernelRfl
namespace Go.Proofs.YthhlcchofilimaaGreatDoor
open Go.ChangeShapes Go.WideShapes Go.ChangeAt Go.RowKit Go.Sort Y
set_option linter.unusedVariables false
set_option linter.unusedSimpArgs false
def XI : Nat → Nat := putN (putN (fun _ => 0) 4112 536872961 8) 8200 537395407 8
def BI : U.Bs := U.Bs0 12288 XI []
def S3 : Nat → Nat := setN Z38 0 133120
theorem S3_is : cs S3 = #[.int .u64 133120, .int .u64 0, .int .u64 0, .int .u64 0, .int .u64 0, .int .u64 0, .int .u64 0, .int .u64 0, .int .u64 0, .int .u64 0, .int .u64 0, .int .u64 0, .int .u64 0, .int .u64 0, .int .u64 0, .int .u64 0, .int .u64 0, .int .u64 0, .int .u64 0, .int .u64 0, .int .u64 0, .int .u64 0, .int .u8 0, .int .u8 0, .int .u8 0, .int .u8 0, .int .u8 0, .int .u8 0, .int .u8 0, .int .u8 0, .int .u64 0, .int .u64 0, .int .u64 0, .int .u64 0, .int .u64 0, .int .u64 0, .int .u64 0, .int .u64 0] := by kernel_rfl
theorem put_lt (X : Nat → Nat) (A v : Nat) (h : ∀ i, X i < 256) : ∀ n i, putN X A v n i < 256
  | 0, i => h i
  | n + 1, i => by
    show setN (putN X A v n) (A + n) (v / 2 ^ (8 * n) % 256) i < 256
    unfold setN
    cases (i == A + n)
    · exact put_lt X A v h n i
    · exact Nat.mod_lt _ (by decide)
theorem XI_lt : ∀ i, XI i < 256 := put_lt _ _ _ (put_lt _ _ _ (fun _ => by decide) 8) 8
theorem okC8 {S : Nat → Nat} (h : OkS S) (v : Nat) (hv : v < 256) : OkS (setN S 22 v) := fun j => by
  unfold setN
  by_cases e : j = 22
  · subst e; exact hv
  · rw [show (j == 22) = false by simpa using e]; exact h j
theorem So_ok : Hid (OkS So) := setN_ok (okC8 (setN_ok Z38_ok 20 _ (by decide) (by decide)) 31 (by decide)) 30 _ (by decide) (by decide)
theorem S3_ok : Hid (OkS S3) := setN_ok Z38_ok 0 _ (by decide) (by decide)
theorem wf_2 : (Lit.int .i64 2).wf = true := by decide
theorem step_next {F S : Nat → Nat} {m k : Int} {A L tb x e : Nat} {nx : Nat → WRes} (hx : fromN L tb A = x) (hc : chkB (cfO S) (adO S) 1 1 x 8 = true ∧ U.M.hasV x 8 = true) (hr : U.M.readV F x 8 = e) (hb : brokenB e = false) (hl : leafB e = false)
    (hu : (e.testBit 4 || e.testBit 6 || e.testBit 7) = false) : stepW F S m k A L tb nx = nx (nextN e) := by
  unfold stepW
  rw [hx, if_pos hc, hr, hb, hl, hu]; rfl
theorem step_leaf {F S : Nat → Nat} {m k : Int} {A L tb x e : Nat} {nx : Nat → WRes} (hx : fromN L tb A = x) (hc : chkB (cfO S) (adO S) 1 1 x 8 = true ∧ U.M.hasV x 8 = true) (hr : U.M.readV F x 8 = e) (hb : brokenB e = false) (hl : leafB e = true)
    (hp : permB S m k e = true ∧ 4096 * nextN e % 2 ^ (12 + 9 * L) = 0) : stepW F S m k A L tb nx = ⟨4096 * nextN e + A % 2 ^ (12 + 9 * L), L, e, x, 0⟩ := by
  unfold stepW
  rw [hx, if_pos hc, hr, hb, hl, if_pos hp]; rfl
theorem step_perm {F S : Nat → Nat} {m k : Int} {A L tb x e : Nat} {nx : Nat → WRes} (hx : fromN L tb A = x) (hc : chkB (cfO S) (adO S) 1 1 x 8 = true ∧ U.M.hasV x 8 = true) (hr : U.M.readV F x 8 = e) (hb : brokenB e = false) (hl : leafB e = true)
    (hp : permB S m k e = false) : stepW F S m k A L tb nx = noW (pageN k) := by
  unfold stepW
  rw [hx, if_pos hc, hr, hb, hl, hp]; rfl
theorem c_1 : chkB (cfO So) (adO So) 1 1 2147487760 8 = true ∧ U.M.hasV 2147487760 8 = true := by decide +kernel
theorem c_2 : chkB (cfO So) (adO So) 1 1 2147491848 8 = true ∧ U.M.hasV 2147491848 8 = true := by decide +kernel
theorem v_1 : U.M.readV BI.F 2147487760 8 = 536872961 := by decide +kernel
theorem v_2 : U.M.readV BI.F 2147491848 8 = 537395407 := by decide +kernel
theorem g_1 : walkF BI.F So 1 1 2149655365 = ⟨2149655365, 1, 537395407, 2147491848, 0⟩ := by
  unfold walkF
  rw [if_neg (by decide +kernel), if_neg (by decide +kernel), step_next (show fromN 2 (So 20 % 2 ^ 44) 2149655365 = 2147487760 by decide +kernel) c_1 v_1 (by decide +kernel) (by decide +kernel) (by decide +kernel),
    step_leaf (show fromN 1 (nextN 536872961) 2149655365 = 2147491848 by decide +kernel) c_2 v_2 (by decide +kernel) (by decide +kernel) (by decide +kernel)]; rfl
theorem g_2 : walkF BI.F So 0 0 2149655365 = noW 12 := by
  unfold walkF
  rw [if_neg (by decide +kernel), if_neg (by decide +kernel), step_next (show fromN 2 (So 20 % 2 ^ 44) 2149655365 = 2147487760 by decide +kernel) c_1 v_1 (by decide +kernel) (by decide +kernel) (by decide +kernel),
    step_perm (show fromN 1 (nextN 536872961) 2149655365 = 2147491848 by decide +kernel) c_2 v_2 (by decide +kernel) (by decide +kernel) (by decide +kernel)]; rfl
theorem g_3 : walkF BI.F So 1 0 2149580800 = ⟨2149580800, 1, 537395407, 2147491848, 0⟩ := by
  unfold walkF
  rw [if_neg (by decide +kernel), if_neg (by decide +kernel), step_next (show fromN 2 (So 20 % 2 ^ 44) 2149580800 = 2147487760 by decide +kernel) c_1 v_1 (by decide +kernel) (by decide +kernel) (by decide +kernel),
    step_leaf (show fromN 1 (nextN 536872961) 2149580800 = 2147491848 by decide +kernel) c_2 v_2 (by decide +kernel) (by decide +kernel) (by decide +kernel)]; rfl
theorem f_1 : (walkF BI.F So 1 1 2149655365).adr = 2149655365 ∧ (walkF BI.F So 1 1 2149655365).lev = 1 ∧ (walkF BI.F So 1 1 2149655365).ent = 537395407 ∧ (walkF BI.F So 1 1 2149655365).frm = 2147491848 ∧ (walkF BI.F So 1 1 2149655365).cau = 0 := by rw [g_1]; exact ⟨rfl, rfl, rfl, rfl, rfl⟩
theorem f_2 : (walkF BI.F So 0 0 2149655365).adr = 0 ∧ (walkF BI.F So 0 0 2149655365).lev = 0 ∧ (walkF BI.F So 0 0 2149655365).ent = 0 ∧ (walkF BI.F So 0 0 2149655365).frm = 0 ∧ (walkF BI.F So 0 0 2149655365).cau = 12 := by rw [g_2]; exact ⟨rfl, rfl, rfl, rfl, rfl⟩
theorem f_3 : (reachF BI.F So 1 0 2149580800 2).1 = 0 ∧ (reachF BI.F So 1 0 2149580800 2).2 = 1 := by
  unfold reachF
  rw [show modeF So 1 0 = 1 by decide +kernel, g_3, if_neg (by decide), if_neg (by decide +kernel)]
  exact ⟨rfl, rfl⟩
theorem f_4 : modeF S3 3 1 = 1 ∧ modeF S3 3 0 = 3 ∧ permB So 1 2 207 = true ∧ permB So 1 2 79 = false ∧ U.okNew 12288 [] = true := by decide +kernel

end Go.Proofs.YthhlcchofilimaaGreatDoor
