/- More small functions' contracts: by a register's number. -/
import Derived.Test.YtmlbobjbkbcabaaB1
namespace Go.Proofs.Ytmlbobjbkbcabaa
open Go.ChangeShapes Go.WideShapes Go.ChangeAt Go.RowKit P
set_option linter.unusedVariables false
set_option linter.unusedSimpArgs false
def inB (n a b : Int) : Bool := decide (a ≤ n) && decide (n ≤ b)
def noughtB (n : Int) : Bool := n == 266 || n == 778 || n == 930 || inB n 803 831 || inB n 952 959 || inB n 2819 2847 || inB n 3075 3103 || inB n 3857 3861
/-- Where a register stands that reads as it is held (38: it isn't such a one), and what is left of what is written. -/
def plK (n : Int) : Nat := if n = 261 then 14 else if n = 262 then 19 else if n = 320 then 18 else if n = 321 then 15 else if n = 322 then 16 else if n = 323 then 17 else if n = 384 then 20 else if n = 770 then 2 else if n = 771 then 3 else if n = 773 then 1 else if n = 774 then 10 else if n = 800 then 11 else if n = 832 then 9 else if n = 833 then 6 else if n = 834 then 7 else if n = 835 then 8 else if n = 944 then 30 else if n = 945 then 31 else if n = 946 then 32 else if n = 947 then 33 else if n = 948 then 34 else if n = 949 then 35 else if n = 950 then 36 else if n = 951 then 37 else if n = 2816 then 12 else if n = 3072 then 12 else if n = 2818 then 13 else if n = 3074 then 13 else 38
def lfM (n : Int) : Nat := if n = 261 then 18446744073709551613 else if n = 773 then 18446744073709551613 else if n = 321 then 18446744073709551614 else if n = 833 then 18446744073709551614 else if n = 262 then 7 else if n = 774 then 7 else if n = 800 then 5 else if n = 770 then 46078 else if n = 771 then 546 else 18446744073709551615
def fitB (n : Int) (v : Nat) : Bool := !(n == 384) || v / 1152921504606846976 == 0 || v / 1152921504606846976 == 8
def takenN (m : Int) : Int := if m = 3 then 3 else if m = 1 then 1 else 0
def fixB (n : Int) : Bool := bits .and .i64 (n / 1024) 3 == 3
def lowI (n : Int) : Int := bits .and .i64 (n / 256) 3
theorem among_c (n a b : Int) (w : World) : Calls Try.prog 46 #[.int .i64 n, .int .i64 a, .int .i64 b] w (RetBX (inB n a b) w) := by
  unfold inB
  by_cases h1 : a ≤ n
  · have H1 : Hid (decide (a ≤ n) = true) := decide_eq_true h1
    by_cases h2 : n ≤ b
    · have H2 : Hid (decide (n ≤ b) = true) := decide_eq_true h2
      go_enter Try.func46, Try.ntmps46
      go_wp2_with fail
      go_ret
      exact retBX_mk (by first | (rw [H1.out, H2.out]; rfl) | exact H2.out.symm)
    · have H2 : Hid (decide (n ≤ b) = false) := decide_eq_false h2
      go_enter Try.func46, Try.ntmps46
      go_wp2_with fail
      go_ret
      exact retBX_mk (by first | (rw [H1.out, H2.out]; rfl) | exact H2.out.symm)
  · have H1 : Hid (decide (a ≤ n) = false) := decide_eq_false h1
    go_enter Try.func46, Try.ntmps46
    go_wp2_with fail
    go_ret
    exact retBX_mk (by rw [H1.out]; rfl)
theorem taken_c (m : Int) (w : World) : Calls Try.prog 22 #[.int .i64 m] w (RetIX (takenN m) w) := by
  by_cases h3 : m = 3
  · subst h3
    go_enter Try.func22, Try.ntmps22
    go_wp2_with fail
    go_ret
    exact retIX_mk rfl
  · by_cases h1 : m = 1
    · subst h1
      go_enter Try.func22, Try.ntmps22
      go_wp2_with fail
      go_ret
      exact retIX_mk rfl
    · have e3 : (m == 3) = false := by rw [beq_eq_false_iff_ne]; exact h3
      have e1 : (m == 1) = false := by rw [beq_eq_false_iff_ne]; exact h1
      have E : Hid (takenN m = 0) := by show _ = _; unfold takenN; rw [if_neg h3, if_neg h1]
      go_enter Try.func22, Try.ntmps22
      go_wp2_with fail
      go_ret
      exact retIX_mk E.out.symm
theorem readOnly_c (n : Int) (w : World) : Calls Try.prog 25 #[.int .i64 n] w (RetBX (fixB n) w) := by
  go_enter Try.func25, Try.ntmps25
  go_wp2_with fail
  go_ret
  exact retBX_mk rfl
theorem fixed_r (n : Int) (w : World) : Calls Try.prog 30 #[.int .i64 n] w (RetBX (fixB n) w) := by
  go_enter Try.func30, Try.ntmps30
  go_wp2_with fail
  go_ret
  exact retBX_mk rfl
theorem lowest_c (n : Int) (w : World) : Calls Try.prog 24 #[.int .i64 n] w (RetIX (lowI n) w) := by
  go_enter Try.func24, Try.ntmps24
  go_wp2_with fail
  go_ret
  exact retIX_mk rfl
theorem isOfFloats_c (n : Int) (w : World) : Calls Try.prog 26 #[.int .i64 n] w (RetBX (inB n 1 3) w) := by
  have H := Lib.hid (fun u => among_c n 1 3 u)
  go_enter Try.func26, Try.ntmps26
  go_wp2_with fail
  refine (H.out _).mono ?_; rintro e w1 ⟨rfl, h⟩; replace h := h.symm; subst h
  go_wp2_with fail
  go_ret
  exact retBX_mk rfl
theorem isCounter_c (n : Int) (w : World) : Calls Try.prog 27 #[.int .i64 n] w (RetBX (inB n 3072 3103) w) := by
  have H := Lib.hid (fun u => among_c n 3072 3103 u)
  go_enter Try.func27, Try.ntmps27
  go_wp2_with fail
  refine (H.out _).mono ?_; rintro e w1 ⟨rfl, h⟩; replace h := h.symm; subst h
  go_wp2_with fail
  go_ret
  exact retBX_mk rfl
theorem nought_266 (w : World) : Calls Try.prog 45 #[.int .i64 266] w (RetBX true w) := by
  go_enter Try.func45, Try.ntmps45
  go_wp2_with fail
  go_ret
  exact retBX_mk rfl
theorem nought_778 (w : World) : Calls Try.prog 45 #[.int .i64 778] w (RetBX true w) := by
  go_enter Try.func45, Try.ntmps45
  go_wp2_with fail
  go_ret
  exact retBX_mk rfl
theorem nought_930 (w : World) : Calls Try.prog 45 #[.int .i64 930] w (RetBX true w) := by
  go_enter Try.func45, Try.ntmps45
  go_wp2_with fail
  go_ret
  exact retBX_mk rfl
theorem nought_o (n : Int) (h1 : ¬ n = 266) (h2 : ¬ n = 778) (h3 : ¬ n = 930) (w : World) : Calls Try.prog 45 #[.int .i64 n] w (RetBX (noughtB n) w) := by
  have e1 : (n == 266) = false := by rw [beq_eq_false_iff_ne]; exact h1
  have e2 : (n == 778) = false := by rw [beq_eq_false_iff_ne]; exact h2
  have e3 : (n == 930) = false := by rw [beq_eq_false_iff_ne]; exact h3
  have H0 := Lib.hid (fun u => among_c n 803 831 u)
  have H1 := Lib.hid (fun u => among_c n 952 959 u)
  have H2 := Lib.hid (fun u => among_c n 2819 2847 u)
  have H3 := Lib.hid (fun u => among_c n 3075 3103 u)
  have H4 := Lib.hid (fun u => among_c n 3857 3861 u)
  obtain ⟨B0, b0⟩ : ∃ B, inB n 803 831 = B := ⟨_, rfl⟩
  obtain ⟨B1, b1⟩ : ∃ B, inB n 952 959 = B := ⟨_, rfl⟩
  obtain ⟨B2, b2⟩ : ∃ B, inB n 2819 2847 = B := ⟨_, rfl⟩
  obtain ⟨B3, b3⟩ : ∃ B, inB n 3075 3103 = B := ⟨_, rfl⟩
  obtain ⟨B4, b4⟩ : ∃ B, inB n 3857 3861 = B := ⟨_, rfl⟩
  have HE : Hid (noughtB n = (B0 || B1 || B2 || B3 || B4)) := by show _ = _; unfold noughtB; rw [e1, e2, e3, b0, b1, b2, b3, b4]; simp
  rw [b0] at H0
  rw [b1] at H1
  rw [b2] at H2
  rw [b3] at H3
  rw [b4] at H4
  clear b0 b1 b2 b3 b4 h1 h2 h3
  cases B0 with
  | true =>
    go_enter Try.func45, Try.ntmps45
    go_wp2_with fail
    refine (H0.out _).mono ?_; rintro e w1 ⟨rfl, h⟩; replace h := h.symm; subst h
    go_wp2_with fail
    go_ret
    exact retBX_mk (by rw [HE.out]; rfl)
  | false =>
    cases B1 with
    | true =>
      go_enter Try.func45, Try.ntmps45
      go_wp2_with fail
      refine (H0.out _).mono ?_; rintro e w1 ⟨rfl, h⟩; replace h := h.symm; subst h
      go_wp2_with fail
      refine (H1.out _).mono ?_; rintro e w1 ⟨rfl, h⟩; replace h := h.symm; subst h
      go_wp2_with fail
      go_ret
      exact retBX_mk (by rw [HE.out]; rfl)
    | false =>
      cases B2 with
      | true =>
        go_enter Try.func45, Try.ntmps45
        go_wp2_with fail
        refine (H0.out _).mono ?_; rintro e w1 ⟨rfl, h⟩; replace h := h.symm; subst h
        go_wp2_with fail
        refine (H1.out _).mono ?_; rintro e w1 ⟨rfl, h⟩; replace h := h.symm; subst h
        go_wp2_with fail
        refine (H2.out _).mono ?_; rintro e w1 ⟨rfl, h⟩; replace h := h.symm; subst h
        go_wp2_with fail
        go_ret
        exact retBX_mk (by rw [HE.out]; rfl)
      | false =>
        cases B3 with
        | true =>
          go_enter Try.func45, Try.ntmps45
          go_wp2_with fail
          refine (H0.out _).mono ?_; rintro e w1 ⟨rfl, h⟩; replace h := h.symm; subst h
          go_wp2_with fail
          refine (H1.out _).mono ?_; rintro e w1 ⟨rfl, h⟩; replace h := h.symm; subst h
          go_wp2_with fail
          refine (H2.out _).mono ?_; rintro e w1 ⟨rfl, h⟩; replace h := h.symm; subst h
          go_wp2_with fail
          refine (H3.out _).mono ?_; rintro e w1 ⟨rfl, h⟩; replace h := h.symm; subst h
          go_wp2_with fail
          go_ret
          exact retBX_mk (by rw [HE.out]; rfl)
        | false =>
          cases B4 with
          | true =>
            go_enter Try.func45, Try.ntmps45
            go_wp2_with fail
            refine (H0.out _).mono ?_; rintro e w1 ⟨rfl, h⟩; replace h := h.symm; subst h
            go_wp2_with fail
            refine (H1.out _).mono ?_; rintro e w1 ⟨rfl, h⟩; replace h := h.symm; subst h
            go_wp2_with fail
            refine (H2.out _).mono ?_; rintro e w1 ⟨rfl, h⟩; replace h := h.symm; subst h
            go_wp2_with fail
            refine (H3.out _).mono ?_; rintro e w1 ⟨rfl, h⟩; replace h := h.symm; subst h
            go_wp2_with fail
            refine (H4.out _).mono ?_; rintro e w1 ⟨rfl, h⟩; replace h := h.symm; subst h
            go_wp2_with fail
            go_ret
            exact retBX_mk (by rw [HE.out]; rfl)
          | false =>
            go_enter Try.func45, Try.ntmps45
            go_wp2_with fail
            refine (H0.out _).mono ?_; rintro e w1 ⟨rfl, h⟩; replace h := h.symm; subst h
            go_wp2_with fail
            refine (H1.out _).mono ?_; rintro e w1 ⟨rfl, h⟩; replace h := h.symm; subst h
            go_wp2_with fail
            refine (H2.out _).mono ?_; rintro e w1 ⟨rfl, h⟩; replace h := h.symm; subst h
            go_wp2_with fail
            refine (H3.out _).mono ?_; rintro e w1 ⟨rfl, h⟩; replace h := h.symm; subst h
            go_wp2_with fail
            refine (H4.out _).mono ?_; rintro e w1 ⟨rfl, h⟩; replace h := h.symm; subst h
            go_wp2_with fail
            go_ret
            exact retBX_mk (by rw [HE.out]; rfl)
theorem isNought_c (n : Int) (w : World) : Calls Try.prog 45 #[.int .i64 n] w (RetBX (noughtB n) w) := by
  by_cases h1 : n = 266
  · subst h1; exact nought_266 w
  · by_cases h2 : n = 778
    · subst h2; exact nought_778 w
    · by_cases h3 : n = 930
      · subst h3; exact nought_930 w
      · exact nought_o n h1 h2 h3 w
/-- Which bits are left. -/
theorem left_261 (w : World) : Calls Try.prog 39 #[.int .i64 261] w (RetUX 18446744073709551613 w) := by
  go_enter Try.func39, Try.ntmps39
  go_wp2_with fail
  go_ret
  exact retUX_mk rfl
theorem left_773 (w : World) : Calls Try.prog 39 #[.int .i64 773] w (RetUX 18446744073709551613 w) := by
  go_enter Try.func39, Try.ntmps39
  go_wp2_with fail
  go_ret
  exact retUX_mk rfl
theorem left_321 (w : World) : Calls Try.prog 39 #[.int .i64 321] w (RetUX 18446744073709551614 w) := by
  go_enter Try.func39, Try.ntmps39
  go_wp2_with fail
  go_ret
  exact retUX_mk rfl
theorem left_833 (w : World) : Calls Try.prog 39 #[.int .i64 833] w (RetUX 18446744073709551614 w) := by
  go_enter Try.func39, Try.ntmps39
  go_wp2_with fail
  go_ret
  exact retUX_mk rfl
theorem left_262 (w : World) : Calls Try.prog 39 #[.int .i64 262] w (RetUX 7 w) := by
  go_enter Try.func39, Try.ntmps39
  go_wp2_with fail
  go_ret
  exact retUX_mk rfl
theorem left_774 (w : World) : Calls Try.prog 39 #[.int .i64 774] w (RetUX 7 w) := by
  go_enter Try.func39, Try.ntmps39
  go_wp2_with fail
  go_ret
  exact retUX_mk rfl
theorem left_800 (w : World) : Calls Try.prog 39 #[.int .i64 800] w (RetUX 5 w) := by
  go_enter Try.func39, Try.ntmps39
  go_wp2_with fail
  go_ret
  exact retUX_mk rfl
theorem left_770 (w : World) : Calls Try.prog 39 #[.int .i64 770] w (RetUX 46078 w) := by
  go_enter Try.func39, Try.ntmps39
  go_wp2_with fail
  go_ret
  exact retUX_mk rfl
theorem left_771 (w : World) : Calls Try.prog 39 #[.int .i64 771] w (RetUX 546 w) := by
  go_enter Try.func39, Try.ntmps39
  go_wp2_with fail
  go_ret
  exact retUX_mk rfl
theorem left_o (n : Int) (h0 : ¬ n = 261) (h1 : ¬ n = 773) (h2 : ¬ n = 321) (h3 : ¬ n = 833) (h4 : ¬ n = 262) (h5 : ¬ n = 774) (h6 : ¬ n = 800) (h7 : ¬ n = 770) (h8 : ¬ n = 771) (w : World) : Calls Try.prog 39 #[.int .i64 n] w (RetUX 18446744073709551615 w) := by
  have e0 : (n == 261) = false := by rw [beq_eq_false_iff_ne]; exact h0
  have e1 : (n == 773) = false := by rw [beq_eq_false_iff_ne]; exact h1
  have e2 : (n == 321) = false := by rw [beq_eq_false_iff_ne]; exact h2
  have e3 : (n == 833) = false := by rw [beq_eq_false_iff_ne]; exact h3
  have e4 : (n == 262) = false := by rw [beq_eq_false_iff_ne]; exact h4
  have e5 : (n == 774) = false := by rw [beq_eq_false_iff_ne]; exact h5
  have e6 : (n == 800) = false := by rw [beq_eq_false_iff_ne]; exact h6
  have e7 : (n == 770) = false := by rw [beq_eq_false_iff_ne]; exact h7
  have e8 : (n == 771) = false := by rw [beq_eq_false_iff_ne]; exact h8
  clear h0 h1 h2 h3 h4 h5 h6 h7 h8
  go_enter Try.func39, Try.ntmps39
  go_wp2_with fail
  go_ret
  exact retUX_mk rfl
theorem left_c (n : Int) (w : World) : Calls Try.prog 39 #[.int .i64 n] w (RetUX (lfM n) w) := by
  by_cases h0 : n = 261
  · subst h0; exact left_261 w
  by_cases h1 : n = 773
  · subst h1; exact left_773 w
  by_cases h2 : n = 321
  · subst h2; exact left_321 w
  by_cases h3 : n = 833
  · subst h3; exact left_833 w
  by_cases h4 : n = 262
  · subst h4; exact left_262 w
  by_cases h5 : n = 774
  · subst h5; exact left_774 w
  by_cases h6 : n = 800
  · subst h6; exact left_800 w
  by_cases h7 : n = 770
  · subst h7; exact left_770 w
  by_cases h8 : n = 771
  · subst h8; exact left_771 w
  have e : lfM n = 18446744073709551615 := by unfold lfM; rw [if_neg h0, if_neg h1, if_neg h2, if_neg h3, if_neg h4, if_neg h5, if_neg h6, if_neg h7, if_neg h8]
  rw [e]; exact left_o n h0 h1 h2 h3 h4 h5 h6 h7 h8 w
/-- Where a plain register stands. -/
def RetPX (b k : Nat) (W : World) (e : Ending) (w' : World) : Prop := e = .returned (.pointer (some ⟨b, k, none⟩)) ∧ W = w'
def RetNX (W : World) (e : Ending) (w' : World) : Prop := e = .returned (.pointer none) ∧ W = w'
theorem plain_261 (b : Nat) (w : World) : Calls Try.prog 37 #[.pointer (some ⟨b, 0, none⟩), .int .i64 261] w (RetPX b 14 w) := by
  go_enter Try.func37, Try.ntmps37
  go_wp2_with fail
  go_ret
  exact ⟨rfl, rfl⟩
theorem plain_262 (b : Nat) (w : World) : Calls Try.prog 37 #[.pointer (some ⟨b, 0, none⟩), .int .i64 262] w (RetPX b 19 w) := by
  go_enter Try.func37, Try.ntmps37
  go_wp2_with fail
  go_ret
  exact ⟨rfl, rfl⟩
theorem plain_320 (b : Nat) (w : World) : Calls Try.prog 37 #[.pointer (some ⟨b, 0, none⟩), .int .i64 320] w (RetPX b 18 w) := by
  go_enter Try.func37, Try.ntmps37
  go_wp2_with fail
  go_ret
  exact ⟨rfl, rfl⟩
theorem plain_321 (b : Nat) (w : World) : Calls Try.prog 37 #[.pointer (some ⟨b, 0, none⟩), .int .i64 321] w (RetPX b 15 w) := by
  go_enter Try.func37, Try.ntmps37
  go_wp2_with fail
  go_ret
  exact ⟨rfl, rfl⟩
theorem plain_322 (b : Nat) (w : World) : Calls Try.prog 37 #[.pointer (some ⟨b, 0, none⟩), .int .i64 322] w (RetPX b 16 w) := by
  go_enter Try.func37, Try.ntmps37
  go_wp2_with fail
  go_ret
  exact ⟨rfl, rfl⟩
theorem plain_323 (b : Nat) (w : World) : Calls Try.prog 37 #[.pointer (some ⟨b, 0, none⟩), .int .i64 323] w (RetPX b 17 w) := by
  go_enter Try.func37, Try.ntmps37
  go_wp2_with fail
  go_ret
  exact ⟨rfl, rfl⟩
theorem plain_384 (b : Nat) (w : World) : Calls Try.prog 37 #[.pointer (some ⟨b, 0, none⟩), .int .i64 384] w (RetPX b 20 w) := by
  go_enter Try.func37, Try.ntmps37
  go_wp2_with fail
  go_ret
  exact ⟨rfl, rfl⟩
theorem plain_770 (b : Nat) (w : World) : Calls Try.prog 37 #[.pointer (some ⟨b, 0, none⟩), .int .i64 770] w (RetPX b 2 w) := by
  go_enter Try.func37, Try.ntmps37
  go_wp2_with fail
  go_ret
  exact ⟨rfl, rfl⟩
theorem plain_771 (b : Nat) (w : World) : Calls Try.prog 37 #[.pointer (some ⟨b, 0, none⟩), .int .i64 771] w (RetPX b 3 w) := by
  go_enter Try.func37, Try.ntmps37
  go_wp2_with fail
  go_ret
  exact ⟨rfl, rfl⟩
theorem plain_773 (b : Nat) (w : World) : Calls Try.prog 37 #[.pointer (some ⟨b, 0, none⟩), .int .i64 773] w (RetPX b 1 w) := by
  go_enter Try.func37, Try.ntmps37
  go_wp2_with fail
  go_ret
  exact ⟨rfl, rfl⟩
theorem plain_774 (b : Nat) (w : World) : Calls Try.prog 37 #[.pointer (some ⟨b, 0, none⟩), .int .i64 774] w (RetPX b 10 w) := by
  go_enter Try.func37, Try.ntmps37
  go_wp2_with fail
  go_ret
  exact ⟨rfl, rfl⟩
theorem plain_800 (b : Nat) (w : World) : Calls Try.prog 37 #[.pointer (some ⟨b, 0, none⟩), .int .i64 800] w (RetPX b 11 w) := by
  go_enter Try.func37, Try.ntmps37
  go_wp2_with fail
  go_ret
  exact ⟨rfl, rfl⟩
theorem plain_832 (b : Nat) (w : World) : Calls Try.prog 37 #[.pointer (some ⟨b, 0, none⟩), .int .i64 832] w (RetPX b 9 w) := by
  go_enter Try.func37, Try.ntmps37
  go_wp2_with fail
  go_ret
  exact ⟨rfl, rfl⟩
theorem plain_833 (b : Nat) (w : World) : Calls Try.prog 37 #[.pointer (some ⟨b, 0, none⟩), .int .i64 833] w (RetPX b 6 w) := by
  go_enter Try.func37, Try.ntmps37
  go_wp2_with fail
  go_ret
  exact ⟨rfl, rfl⟩
theorem plain_834 (b : Nat) (w : World) : Calls Try.prog 37 #[.pointer (some ⟨b, 0, none⟩), .int .i64 834] w (RetPX b 7 w) := by
  go_enter Try.func37, Try.ntmps37
  go_wp2_with fail
  go_ret
  exact ⟨rfl, rfl⟩
theorem plain_835 (b : Nat) (w : World) : Calls Try.prog 37 #[.pointer (some ⟨b, 0, none⟩), .int .i64 835] w (RetPX b 8 w) := by
  go_enter Try.func37, Try.ntmps37
  go_wp2_with fail
  go_ret
  exact ⟨rfl, rfl⟩
theorem plain_944 (b : Nat) (w : World) : Calls Try.prog 37 #[.pointer (some ⟨b, 0, none⟩), .int .i64 944] w (RetPX b 30 w) := by
  go_enter Try.func37, Try.ntmps37
  go_wp2_with fail
  go_ret
  exact ⟨rfl, rfl⟩
theorem plain_945 (b : Nat) (w : World) : Calls Try.prog 37 #[.pointer (some ⟨b, 0, none⟩), .int .i64 945] w (RetPX b 31 w) := by
  go_enter Try.func37, Try.ntmps37
  go_wp2_with fail
  go_ret
  exact ⟨rfl, rfl⟩
theorem plain_946 (b : Nat) (w : World) : Calls Try.prog 37 #[.pointer (some ⟨b, 0, none⟩), .int .i64 946] w (RetPX b 32 w) := by
  go_enter Try.func37, Try.ntmps37
  go_wp2_with fail
  go_ret
  exact ⟨rfl, rfl⟩
theorem plain_947 (b : Nat) (w : World) : Calls Try.prog 37 #[.pointer (some ⟨b, 0, none⟩), .int .i64 947] w (RetPX b 33 w) := by
  go_enter Try.func37, Try.ntmps37
  go_wp2_with fail
  go_ret
  exact ⟨rfl, rfl⟩
theorem plain_948 (b : Nat) (w : World) : Calls Try.prog 37 #[.pointer (some ⟨b, 0, none⟩), .int .i64 948] w (RetPX b 34 w) := by
  go_enter Try.func37, Try.ntmps37
  go_wp2_with fail
  go_ret
  exact ⟨rfl, rfl⟩
theorem plain_949 (b : Nat) (w : World) : Calls Try.prog 37 #[.pointer (some ⟨b, 0, none⟩), .int .i64 949] w (RetPX b 35 w) := by
  go_enter Try.func37, Try.ntmps37
  go_wp2_with fail
  go_ret
  exact ⟨rfl, rfl⟩
theorem plain_950 (b : Nat) (w : World) : Calls Try.prog 37 #[.pointer (some ⟨b, 0, none⟩), .int .i64 950] w (RetPX b 36 w) := by
  go_enter Try.func37, Try.ntmps37
  go_wp2_with fail
  go_ret
  exact ⟨rfl, rfl⟩
theorem plain_951 (b : Nat) (w : World) : Calls Try.prog 37 #[.pointer (some ⟨b, 0, none⟩), .int .i64 951] w (RetPX b 37 w) := by
  go_enter Try.func37, Try.ntmps37
  go_wp2_with fail
  go_ret
  exact ⟨rfl, rfl⟩
theorem plain_2816 (b : Nat) (w : World) : Calls Try.prog 37 #[.pointer (some ⟨b, 0, none⟩), .int .i64 2816] w (RetPX b 12 w) := by
  go_enter Try.func37, Try.ntmps37
  go_wp2_with fail
  go_ret
  exact ⟨rfl, rfl⟩
theorem plain_3072 (b : Nat) (w : World) : Calls Try.prog 37 #[.pointer (some ⟨b, 0, none⟩), .int .i64 3072] w (RetPX b 12 w) := by
  go_enter Try.func37, Try.ntmps37
  go_wp2_with fail
  go_ret
  exact ⟨rfl, rfl⟩
theorem plain_2818 (b : Nat) (w : World) : Calls Try.prog 37 #[.pointer (some ⟨b, 0, none⟩), .int .i64 2818] w (RetPX b 13 w) := by
  go_enter Try.func37, Try.ntmps37
  go_wp2_with fail
  go_ret
  exact ⟨rfl, rfl⟩
theorem plain_3074 (b : Nat) (w : World) : Calls Try.prog 37 #[.pointer (some ⟨b, 0, none⟩), .int .i64 3074] w (RetPX b 13 w) := by
  go_enter Try.func37, Try.ntmps37
  go_wp2_with fail
  go_ret
  exact ⟨rfl, rfl⟩
theorem plain_o (b : Nat) (n : Int) (h0 : ¬ n = 261) (h1 : ¬ n = 262) (h2 : ¬ n = 320) (h3 : ¬ n = 321) (h4 : ¬ n = 322) (h5 : ¬ n = 323) (h6 : ¬ n = 384) (h7 : ¬ n = 770) (h8 : ¬ n = 771) (h9 : ¬ n = 773) (h10 : ¬ n = 774) (h11 : ¬ n = 800) (h12 : ¬ n = 832) (h13 : ¬ n = 833) (h14 : ¬ n = 834) (h15 : ¬ n = 835) (h16 : ¬ n = 944) (h17 : ¬ n = 945) (h18 : ¬ n = 946) (h19 : ¬ n = 947) (h20 : ¬ n = 948) (h21 : ¬ n = 949) (h22 : ¬ n = 950) (h23 : ¬ n = 951) (h24 : ¬ n = 2816) (h25 : ¬ n = 3072) (h26 : ¬ n = 2818) (h27 : ¬ n = 3074) (w : World) : Calls Try.prog 37 #[.pointer (some ⟨b, 0, none⟩), .int .i64 n] w (RetNX w) := by
  have e0 : (n == 261) = false := by rw [beq_eq_false_iff_ne]; exact h0
  have e1 : (n == 262) = false := by rw [beq_eq_false_iff_ne]; exact h1
  have e2 : (n == 320) = false := by rw [beq_eq_false_iff_ne]; exact h2
  have e3 : (n == 321) = false := by rw [beq_eq_false_iff_ne]; exact h3
  have e4 : (n == 322) = false := by rw [beq_eq_false_iff_ne]; exact h4
  have e5 : (n == 323) = false := by rw [beq_eq_false_iff_ne]; exact h5
  have e6 : (n == 384) = false := by rw [beq_eq_false_iff_ne]; exact h6
  have e7 : (n == 770) = false := by rw [beq_eq_false_iff_ne]; exact h7
  have e8 : (n == 771) = false := by rw [beq_eq_false_iff_ne]; exact h8
  have e9 : (n == 773) = false := by rw [beq_eq_false_iff_ne]; exact h9
  have e10 : (n == 774) = false := by rw [beq_eq_false_iff_ne]; exact h10
  have e11 : (n == 800) = false := by rw [beq_eq_false_iff_ne]; exact h11
  have e12 : (n == 832) = false := by rw [beq_eq_false_iff_ne]; exact h12
  have e13 : (n == 833) = false := by rw [beq_eq_false_iff_ne]; exact h13
  have e14 : (n == 834) = false := by rw [beq_eq_false_iff_ne]; exact h14
  have e15 : (n == 835) = false := by rw [beq_eq_false_iff_ne]; exact h15
  have e16 : (n == 944) = false := by rw [beq_eq_false_iff_ne]; exact h16
  have e17 : (n == 945) = false := by rw [beq_eq_false_iff_ne]; exact h17
  have e18 : (n == 946) = false := by rw [beq_eq_false_iff_ne]; exact h18
  have e19 : (n == 947) = false := by rw [beq_eq_false_iff_ne]; exact h19
  have e20 : (n == 948) = false := by rw [beq_eq_false_iff_ne]; exact h20
  have e21 : (n == 949) = false := by rw [beq_eq_false_iff_ne]; exact h21
  have e22 : (n == 950) = false := by rw [beq_eq_false_iff_ne]; exact h22
  have e23 : (n == 951) = false := by rw [beq_eq_false_iff_ne]; exact h23
  have e24 : (n == 2816) = false := by rw [beq_eq_false_iff_ne]; exact h24
  have e25 : (n == 3072) = false := by rw [beq_eq_false_iff_ne]; exact h25
  have e26 : (n == 2818) = false := by rw [beq_eq_false_iff_ne]; exact h26
  have e27 : (n == 3074) = false := by rw [beq_eq_false_iff_ne]; exact h27
  clear h0 h1 h2 h3 h4 h5 h6 h7 h8 h9 h10 h11 h12 h13 h14 h15 h16 h17 h18 h19 h20 h21 h22 h23 h24 h25 h26 h27
  go_enter Try.func37, Try.ntmps37
  go_wp2_with fail
  go_ret
  exact ⟨rfl, rfl⟩
theorem pl_none {n : Int} (h : plK n = 38) : ¬ n = 261 ∧ ¬ n = 262 ∧ ¬ n = 320 ∧ ¬ n = 321 ∧ ¬ n = 322 ∧ ¬ n = 323 ∧ ¬ n = 384 ∧ ¬ n = 770 ∧ ¬ n = 771 ∧ ¬ n = 773 ∧ ¬ n = 774 ∧ ¬ n = 800 ∧ ¬ n = 832 ∧ ¬ n = 833 ∧ ¬ n = 834 ∧ ¬ n = 835 ∧ ¬ n = 944 ∧ ¬ n = 945 ∧ ¬ n = 946 ∧ ¬ n = 947 ∧ ¬ n = 948 ∧ ¬ n = 949 ∧ ¬ n = 950 ∧ ¬ n = 951 ∧ ¬ n = 2816 ∧ ¬ n = 3072 ∧ ¬ n = 2818 ∧ ¬ n = 3074 :=
  ⟨fun e => by subst e; exact absurd h (by decide), fun e => by subst e; exact absurd h (by decide), fun e => by subst e; exact absurd h (by decide), fun e => by subst e; exact absurd h (by decide), fun e => by subst e; exact absurd h (by decide), fun e => by subst e; exact absurd h (by decide), fun e => by subst e; exact absurd h (by decide), fun e => by subst e; exact absurd h (by decide), fun e => by subst e; exact absurd h (by decide), fun e => by subst e; exact absurd h (by decide), fun e => by subst e; exact absurd h (by decide), fun e => by subst e; exact absurd h (by decide), fun e => by subst e; exact absurd h (by decide), fun e => by subst e; exact absurd h (by decide), fun e => by subst e; exact absurd h (by decide), fun e => by subst e; exact absurd h (by decide), fun e => by subst e; exact absurd h (by decide), fun e => by subst e; exact absurd h (by decide), fun e => by subst e; exact absurd h (by decide), fun e => by subst e; exact absurd h (by decide), fun e => by subst e; exact absurd h (by decide), fun e => by subst e; exact absurd h (by decide), fun e => by subst e; exact absurd h (by decide), fun e => by subst e; exact absurd h (by decide), fun e => by subst e; exact absurd h (by decide), fun e => by subst e; exact absurd h (by decide), fun e => by subst e; exact absurd h (by decide), fun e => by subst e; exact absurd h (by decide)⟩
theorem plain_n (b : Nat) (n : Int) (h : plK n = 38) (w : World) : Calls Try.prog 37 #[.pointer (some ⟨b, 0, none⟩), .int .i64 n] w (RetNX w) := by
  obtain ⟨h0, h1, h2, h3, h4, h5, h6, h7, h8, h9, h10, h11, h12, h13, h14, h15, h16, h17, h18, h19, h20, h21, h22, h23, h24, h25, h26, h27⟩ := pl_none h
  exact plain_o b n h0 h1 h2 h3 h4 h5 h6 h7 h8 h9 h10 h11 h12 h13 h14 h15 h16 h17 h18 h19 h20 h21 h22 h23 h24 h25 h26 h27 w
theorem plain_y (b : Nat) (n : Int) (h : plK n ≠ 38) (w : World) : Calls Try.prog 37 #[.pointer (some ⟨b, 0, none⟩), .int .i64 n] w (RetPX b (plK n) w) := by
  by_cases h0 : n = 261
  · subst h0; exact plain_261 b w
  by_cases h1 : n = 262
  · subst h1; exact plain_262 b w
  by_cases h2 : n = 320
  · subst h2; exact plain_320 b w
  by_cases h3 : n = 321
  · subst h3; exact plain_321 b w
  by_cases h4 : n = 322
  · subst h4; exact plain_322 b w
  by_cases h5 : n = 323
  · subst h5; exact plain_323 b w
  by_cases h6 : n = 384
  · subst h6; exact plain_384 b w
  by_cases h7 : n = 770
  · subst h7; exact plain_770 b w
  by_cases h8 : n = 771
  · subst h8; exact plain_771 b w
  by_cases h9 : n = 773
  · subst h9; exact plain_773 b w
  by_cases h10 : n = 774
  · subst h10; exact plain_774 b w
  by_cases h11 : n = 800
  · subst h11; exact plain_800 b w
  by_cases h12 : n = 832
  · subst h12; exact plain_832 b w
  by_cases h13 : n = 833
  · subst h13; exact plain_833 b w
  by_cases h14 : n = 834
  · subst h14; exact plain_834 b w
  by_cases h15 : n = 835
  · subst h15; exact plain_835 b w
  by_cases h16 : n = 944
  · subst h16; exact plain_944 b w
  by_cases h17 : n = 945
  · subst h17; exact plain_945 b w
  by_cases h18 : n = 946
  · subst h18; exact plain_946 b w
  by_cases h19 : n = 947
  · subst h19; exact plain_947 b w
  by_cases h20 : n = 948
  · subst h20; exact plain_948 b w
  by_cases h21 : n = 949
  · subst h21; exact plain_949 b w
  by_cases h22 : n = 950
  · subst h22; exact plain_950 b w
  by_cases h23 : n = 951
  · subst h23; exact plain_951 b w
  by_cases h24 : n = 2816
  · subst h24; exact plain_2816 b w
  by_cases h25 : n = 3072
  · subst h25; exact plain_3072 b w
  by_cases h26 : n = 2818
  · subst h26; exact plain_2818 b w
  by_cases h27 : n = 3074
  · subst h27; exact plain_3074 b w
  exact absurd (by unfold plK; rw [if_neg h0, if_neg h1, if_neg h2, if_neg h3, if_neg h4, if_neg h5, if_neg h6, if_neg h7, if_neg h8, if_neg h9, if_neg h10, if_neg h11, if_neg h12, if_neg h13, if_neg h14, if_neg h15, if_neg h16, if_neg h17, if_neg h18, if_neg h19, if_neg h20, if_neg h21, if_neg h22, if_neg h23, if_neg h24, if_neg h25, if_neg h26, if_neg h27]) h
theorem pl_isU {n : Int} (h : plK n ≠ 38) : isU (plK n) ∧ (plK n = 20 ↔ n = 384) := by
  by_cases h0 : n = 261
  · subst h0; exact ⟨by unfold isU; decide, by decide⟩
  by_cases h1 : n = 262
  · subst h1; exact ⟨by unfold isU; decide, by decide⟩
  by_cases h2 : n = 320
  · subst h2; exact ⟨by unfold isU; decide, by decide⟩
  by_cases h3 : n = 321
  · subst h3; exact ⟨by unfold isU; decide, by decide⟩
  by_cases h4 : n = 322
  · subst h4; exact ⟨by unfold isU; decide, by decide⟩
  by_cases h5 : n = 323
  · subst h5; exact ⟨by unfold isU; decide, by decide⟩
  by_cases h6 : n = 384
  · subst h6; exact ⟨by unfold isU; decide, by decide⟩
  by_cases h7 : n = 770
  · subst h7; exact ⟨by unfold isU; decide, by decide⟩
  by_cases h8 : n = 771
  · subst h8; exact ⟨by unfold isU; decide, by decide⟩
  by_cases h9 : n = 773
  · subst h9; exact ⟨by unfold isU; decide, by decide⟩
  by_cases h10 : n = 774
  · subst h10; exact ⟨by unfold isU; decide, by decide⟩
  by_cases h11 : n = 800
  · subst h11; exact ⟨by unfold isU; decide, by decide⟩
  by_cases h12 : n = 832
  · subst h12; exact ⟨by unfold isU; decide, by decide⟩
  by_cases h13 : n = 833
  · subst h13; exact ⟨by unfold isU; decide, by decide⟩
  by_cases h14 : n = 834
  · subst h14; exact ⟨by unfold isU; decide, by decide⟩
  by_cases h15 : n = 835
  · subst h15; exact ⟨by unfold isU; decide, by decide⟩
  by_cases h16 : n = 944
  · subst h16; exact ⟨by unfold isU; decide, by decide⟩
  by_cases h17 : n = 945
  · subst h17; exact ⟨by unfold isU; decide, by decide⟩
  by_cases h18 : n = 946
  · subst h18; exact ⟨by unfold isU; decide, by decide⟩
  by_cases h19 : n = 947
  · subst h19; exact ⟨by unfold isU; decide, by decide⟩
  by_cases h20 : n = 948
  · subst h20; exact ⟨by unfold isU; decide, by decide⟩
  by_cases h21 : n = 949
  · subst h21; exact ⟨by unfold isU; decide, by decide⟩
  by_cases h22 : n = 950
  · subst h22; exact ⟨by unfold isU; decide, by decide⟩
  by_cases h23 : n = 951
  · subst h23; exact ⟨by unfold isU; decide, by decide⟩
  by_cases h24 : n = 2816
  · subst h24; exact ⟨by unfold isU; decide, by decide⟩
  by_cases h25 : n = 3072
  · subst h25; exact ⟨by unfold isU; decide, by decide⟩
  by_cases h26 : n = 2818
  · subst h26; exact ⟨by unfold isU; decide, by decide⟩
  by_cases h27 : n = 3074
  · subst h27; exact ⟨by unfold isU; decide, by decide⟩
  exact absurd (by unfold plK; rw [if_neg h0, if_neg h1, if_neg h2, if_neg h3, if_neg h4, if_neg h5, if_neg h6, if_neg h7, if_neg h8, if_neg h9, if_neg h10, if_neg h11, if_neg h12, if_neg h13, if_neg h14, if_neg h15, if_neg h16, if_neg h17, if_neg h18, if_neg h19, if_neg h20, if_neg h21, if_neg h22, if_neg h23, if_neg h24, if_neg h25, if_neg h26, if_neg h27]) h
end Go.Proofs.Ytmlbobjbkbcabaa
