/- The document's own answers: what the walks of a column's halves take. -/
import Derived.Test.YtcfeeookjgdkmaaDoorR3
import Derived.Test.YtcfeeookjgdkmaaDoorM4
namespace Go.Proofs.YtcfeeookjgdkmaaDoor
open Go.ChangeShapes Go.WideShapes Go.ChangeAt Go.RowKit
set_option linter.unusedVariables false
set_option linter.unusedSimpArgs false

def RetN (n : Nat) (L : List Nat) (W : World) (e : Ending) (w' : World) : Prop := ∃ g cap, e = .returned (.slice (some ⟨g, 0, none⟩) n cap) ∧ Hid (NumsN w' g L) ∧ Below W.heap.size W w'
theorem immD_lt (h : Nat) (F T : List Nat) (s : Bool) : immD h F T s < 4294967296 := by
  unfold immD
  cases s with
  | true => exact extD_lt _ _ _ _ (sumD_lt _ _ _ _)
  | false => exact sumD_lt _ _ _ _
theorem bitsD_lt (h hi lo n : Nat) (e : 2 ^ (hi + 1 - lo) = n) : bitsD h hi lo < n := by rw [← e]; exact Nat.mod_lt _ (Nat.two_pow_pos _)
theorem bits_k (h hi lo k : Nat) (hh : Hid (h < 65536)) (h1 : lo ≤ hi) (h2 : hi < 16) (hk : bitsD h hi lo = k) (w : World) : Calls Tryd.prog 16 #[.int .u16 h, .int .i64 hi, .int .i64 lo] w (RetUX k w) := by
  rw [← hk]; exact bits_c h hi lo hh h1 h2 w
theorem farL_n (w : World) : Calls Tryd.prog 24 #[.int .i64 12, .int .i64 10, .int .i64 6, .int .i64 5] w (RetN 5 farL w) := farL_r w
theorem wideL_n (w : World) : Calls Tryd.prog 24 #[.int .i64 12, .int .i64 5, .int .i64 (-1), .int .i64 0] w (RetN 8 wideL w) := wideL_r w
theorem lowL_n (w : World) : Calls Tryd.prog 24 #[.int .i64 12, .int .i64 12, .int .i64 6, .int .i64 2] w (RetN 6 lowL w) := lowL_r w
theorem awayL_n (w : World) : Calls Tryd.prog 24 #[.int .i64 12, .int .i64 10, .int .i64 6, .int .i64 2] w (RetN 8 awayL w) := awayL_r w
theorem jumpL_n (w : World) : Calls Tryd.prog 24 #[.int .i64 12, .int .i64 2, .int .i64 (-1), .int .i64 0] w (RetN 11 jumpL w) := jumpL_r w
theorem downL7_n (w : World) : Calls Tryd.prog 24 #[.int .i64 12, .int .i64 7, .int .i64 (-1), .int .i64 0] w (RetN 6 downL7 w) := downL7_r w
theorem eight_n (w : World) : Calls Tryd.prog 26 #[] w (RetN 5 [5, 4, 3, 7, 6] w) := eight_c w
theorem four_n (w : World) : Calls Tryd.prog 27 #[] w (RetN 5 [5, 4, 3, 2, 6] w) := four_c w
theorem fromSp8_n (w : World) : Calls Tryd.prog 34 #[] w (RetN 6 [5, 4, 3, 8, 7, 6] w) := fromSp8_c w
theorem fromSp4_n (w : World) : Calls Tryd.prog 35 #[] w (RetN 6 [5, 4, 3, 2, 7, 6] w) := fromSp4_c w
theorem eD_i (h : Nat) (hh : Hid (h < 65536)) (gF gT cF cT : Nat) (w : World) (NF : Hid (NumsN w gF farL)) (NT : Hid (NumsN w gT [5, 4, 3, 7, 6])) :
    Calls Tryd.prog 25 #[.int .u16 h, .slice (some ⟨gF, 0, none⟩) 5 cF, .slice (some ⟨gT, 0, none⟩) 5 cT, .bool false] w (RetU (eD h) w) :=
  immediate_c h hh farL [5, 4, 3, 7, 6] 5 (by decide) (by show _ = _; rfl) (by show _ = _; rfl) (by show ∀ k, k < 5 → _ < 16; decide) (by show ∀ k, k < 5 → _ < 32; decide) gF gT cF cT false w NF NT
theorem eD_b (h : Nat) : eD h < 4294967296 := immD_lt _ _ _ _
theorem fD_i (h : Nat) (hh : Hid (h < 65536)) (gF gT cF cT : Nat) (w : World) (NF : Hid (NumsN w gF farL)) (NT : Hid (NumsN w gT [5, 4, 3, 2, 6])) :
    Calls Tryd.prog 25 #[.int .u16 h, .slice (some ⟨gF, 0, none⟩) 5 cF, .slice (some ⟨gT, 0, none⟩) 5 cT, .bool false] w (RetU (fD h) w) :=
  immediate_c h hh farL [5, 4, 3, 2, 6] 5 (by decide) (by show _ = _; rfl) (by show _ = _; rfl) (by show ∀ k, k < 5 → _ < 16; decide) (by show ∀ k, k < 5 → _ < 32; decide) gF gT cF cT false w NF NT
theorem fD_b (h : Nat) : fD h < 4294967296 := immD_lt _ _ _ _
theorem wD_i (h : Nat) (hh : Hid (h < 65536)) (gF gT cF cT : Nat) (w : World) (NF : Hid (NumsN w gF wideL)) (NT : Hid (NumsN w gT [5, 4, 9, 8, 7, 6, 2, 3])) :
    Calls Tryd.prog 25 #[.int .u16 h, .slice (some ⟨gF, 0, none⟩) 8 cF, .slice (some ⟨gT, 0, none⟩) 8 cT, .bool false] w (RetU (wD h) w) :=
  immediate_c h hh wideL [5, 4, 9, 8, 7, 6, 2, 3] 8 (by decide) (by show _ = _; rfl) (by show _ = _; rfl) (by show ∀ k, k < 8 → _ < 16; decide) (by show ∀ k, k < 8 → _ < 32; decide) gF gT cF cT false w NF NT
theorem wD_b (h : Nat) : wD h < 4294967296 := immD_lt _ _ _ _
theorem iD_i (h : Nat) (hh : Hid (h < 65536)) (gF gT cF cT : Nat) (w : World) (NF : Hid (NumsN w gF lowL)) (NT : Hid (NumsN w gT [5, 4, 3, 2, 1, 0])) :
    Calls Tryd.prog 25 #[.int .u16 h, .slice (some ⟨gF, 0, none⟩) 6 cF, .slice (some ⟨gT, 0, none⟩) 6 cT, .bool true] w (RetU (iD h) w) :=
  immediate_c h hh lowL [5, 4, 3, 2, 1, 0] 6 (by decide) (by show _ = _; rfl) (by show _ = _; rfl) (by show ∀ k, k < 6 → _ < 16; decide) (by show ∀ k, k < 6 → _ < 32; decide) gF gT cF cT true w NF NT
theorem iD_b (h : Nat) : iD h < 4294967296 := immD_lt _ _ _ _
theorem sD_i (h : Nat) (hh : Hid (h < 65536)) (gF gT cF cT : Nat) (w : World) (NF : Hid (NumsN w gF lowL)) (NT : Hid (NumsN w gT [5, 4, 3, 2, 1, 0])) :
    Calls Tryd.prog 25 #[.int .u16 h, .slice (some ⟨gF, 0, none⟩) 6 cF, .slice (some ⟨gT, 0, none⟩) 6 cT, .bool false] w (RetU (sD h) w) :=
  immediate_c h hh lowL [5, 4, 3, 2, 1, 0] 6 (by decide) (by show _ = _; rfl) (by show _ = _; rfl) (by show ∀ k, k < 6 → _ < 16; decide) (by show ∀ k, k < 6 → _ < 32; decide) gF gT cF cT false w NF NT
theorem sD_b (h : Nat) : sD h < 4294967296 := immD_lt _ _ _ _
theorem spD_i (h : Nat) (hh : Hid (h < 65536)) (gF gT cF cT : Nat) (w : World) (NF : Hid (NumsN w gF lowL)) (NT : Hid (NumsN w gT [9, 4, 6, 8, 7, 5])) :
    Calls Tryd.prog 25 #[.int .u16 h, .slice (some ⟨gF, 0, none⟩) 6 cF, .slice (some ⟨gT, 0, none⟩) 6 cT, .bool true] w (RetU (spD h) w) :=
  immediate_c h hh lowL [9, 4, 6, 8, 7, 5] 6 (by decide) (by show _ = _; rfl) (by show _ = _; rfl) (by show ∀ k, k < 6 → _ < 16; decide) (by show ∀ k, k < 6 → _ < 32; decide) gF gT cF cT true w NF NT
theorem spD_b (h : Nat) : spD h < 4294967296 := immD_lt _ _ _ _
theorem awD_i (h : Nat) (hh : Hid (h < 65536)) (gF gT cF cT : Nat) (w : World) (NF : Hid (NumsN w gF awayL)) (NT : Hid (NumsN w gT [8, 4, 3, 7, 6, 2, 1, 5])) :
    Calls Tryd.prog 25 #[.int .u16 h, .slice (some ⟨gF, 0, none⟩) 8 cF, .slice (some ⟨gT, 0, none⟩) 8 cT, .bool true] w (RetU (awD h) w) :=
  immediate_c h hh awayL [8, 4, 3, 7, 6, 2, 1, 5] 8 (by decide) (by show _ = _; rfl) (by show _ = _; rfl) (by show ∀ k, k < 8 → _ < 16; decide) (by show ∀ k, k < 8 → _ < 32; decide) gF gT cF cT true w NF NT
theorem awD_b (h : Nat) : awD h < 4294967296 := immD_lt _ _ _ _
theorem jD_i (h : Nat) (hh : Hid (h < 65536)) (gF gT cF cT : Nat) (w : World) (NF : Hid (NumsN w gF jumpL)) (NT : Hid (NumsN w gT [11, 4, 9, 8, 10, 6, 7, 3, 2, 1, 5])) :
    Calls Tryd.prog 25 #[.int .u16 h, .slice (some ⟨gF, 0, none⟩) 11 cF, .slice (some ⟨gT, 0, none⟩) 11 cT, .bool true] w (RetU (jD h) w) :=
  immediate_c h hh jumpL [11, 4, 9, 8, 10, 6, 7, 3, 2, 1, 5] 11 (by decide) (by show _ = _; rfl) (by show _ = _; rfl) (by show ∀ k, k < 11 → _ < 16; decide) (by show ∀ k, k < 11 → _ < 32; decide) gF gT cF cT true w NF NT
theorem jD_b (h : Nat) : jD h < 4294967296 := immD_lt _ _ _ _
theorem ldD_i (h : Nat) (hh : Hid (h < 65536)) (gF gT cF cT : Nat) (w : World) (NF : Hid (NumsN w gF lowL)) (NT : Hid (NumsN w gT [5, 4, 3, 8, 7, 6])) :
    Calls Tryd.prog 25 #[.int .u16 h, .slice (some ⟨gF, 0, none⟩) 6 cF, .slice (some ⟨gT, 0, none⟩) 6 cT, .bool false] w (RetU (ldD h) w) :=
  immediate_c h hh lowL [5, 4, 3, 8, 7, 6] 6 (by decide) (by show _ = _; rfl) (by show _ = _; rfl) (by show ∀ k, k < 6 → _ < 16; decide) (by show ∀ k, k < 6 → _ < 32; decide) gF gT cF cT false w NF NT
theorem ldD_b (h : Nat) : ldD h < 4294967296 := immD_lt _ _ _ _
theorem lwD_i (h : Nat) (hh : Hid (h < 65536)) (gF gT cF cT : Nat) (w : World) (NF : Hid (NumsN w gF lowL)) (NT : Hid (NumsN w gT [5, 4, 3, 2, 7, 6])) :
    Calls Tryd.prog 25 #[.int .u16 h, .slice (some ⟨gF, 0, none⟩) 6 cF, .slice (some ⟨gT, 0, none⟩) 6 cT, .bool false] w (RetU (lwD h) w) :=
  immediate_c h hh lowL [5, 4, 3, 2, 7, 6] 6 (by decide) (by show _ = _; rfl) (by show _ = _; rfl) (by show ∀ k, k < 6 → _ < 16; decide) (by show ∀ k, k < 6 → _ < 32; decide) gF gT cF cT false w NF NT
theorem lwD_b (h : Nat) : lwD h < 4294967296 := immD_lt _ _ _ _
theorem vdD_i (h : Nat) (hh : Hid (h < 65536)) (gF gT cF cT : Nat) (w : World) (NF : Hid (NumsN w gF downL7)) (NT : Hid (NumsN w gT [5, 4, 3, 8, 7, 6])) :
    Calls Tryd.prog 25 #[.int .u16 h, .slice (some ⟨gF, 0, none⟩) 6 cF, .slice (some ⟨gT, 0, none⟩) 6 cT, .bool false] w (RetU (vdD h) w) :=
  immediate_c h hh downL7 [5, 4, 3, 8, 7, 6] 6 (by decide) (by show _ = _; rfl) (by show _ = _; rfl) (by show ∀ k, k < 6 → _ < 16; decide) (by show ∀ k, k < 6 → _ < 32; decide) gF gT cF cT false w NF NT
theorem vdD_b (h : Nat) : vdD h < 4294967296 := immD_lt _ _ _ _
theorem vwD_i (h : Nat) (hh : Hid (h < 65536)) (gF gT cF cT : Nat) (w : World) (NF : Hid (NumsN w gF downL7)) (NT : Hid (NumsN w gT [5, 4, 3, 2, 7, 6])) :
    Calls Tryd.prog 25 #[.int .u16 h, .slice (some ⟨gF, 0, none⟩) 6 cF, .slice (some ⟨gT, 0, none⟩) 6 cT, .bool false] w (RetU (vwD h) w) :=
  immediate_c h hh downL7 [5, 4, 3, 2, 7, 6] 6 (by decide) (by show _ = _; rfl) (by show _ = _; rfl) (by show ∀ k, k < 6 → _ < 16; decide) (by show ∀ k, k < 6 → _ < 32; decide) gF gT cF cT false w NF NT
theorem vwD_b (h : Nat) : vwD h < 4294967296 := immD_lt _ _ _ _
end Go.Proofs.YtcfeeookjgdkmaaDoor
