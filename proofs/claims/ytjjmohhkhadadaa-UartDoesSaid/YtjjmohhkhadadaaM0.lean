/- The uart in plain words. -/
import Derived.Test.YtjjmohhkhadadaaProg
namespace Go.Proofs.Ytjjmohhkhadadaa
set_option linter.unusedVariables false
set_option linter.unusedSimpArgs false
/-- What a uart holds: the queue, whether a byte was lost, the setting, what was written to the last register, what went out. -/
structure Ur where
  q : List Nat
  lost : Bool
  want : Nat
  scr : Nat
  sent : List Nat
def U0 : Ur := ⟨[], false, 0, 0, []⟩
def b2n (b : Bool) : Nat := bif b then 1 else 0
def giveF (U : Ur) (x : Nat) : Ur := if U.q.length = 16 then { U with lost := true } else { U with q := U.q ++ [x] }
def upF (U : Ur) : Bool := U.want == 1 && decide (0 < U.q.length)
/-- Which register: 0: none; else its place and 1. -/
def kd (a : Nat) (z : Int) : Nat := if z = 1 ∧ a < 8 then a + 1 else 0
def stF (U : Ur) : Nat := 96 + b2n (decide (0 < U.q.length)) + 2 * b2n U.lost
def valK (k : Nat) (U : Ur) : Nat := if k = 1 then U.q.headD 0 else if k = 2 then U.want else if k = 3 then (bif upF U then 4 else 1) else if k = 6 then stF U else if k = 8 then U.scr else 0
def nextK (k : Nat) (U : Ur) : Ur := if k = 1 then { U with q := U.q.tail } else if k = 6 then { U with lost := false } else U
def wrK (k : Nat) (U : Ur) (v : Nat) : Ur := if k = 1 then { U with sent := U.sent ++ [v % 256] } else if k = 2 then { U with want := v % 2 } else if k = 8 then { U with scr := v % 256 } else U
def okK (k : Nat) : Bool := k != 0
structure OkU (U : Ur) : Prop where
  q : ∀ x ∈ U.q, x < 256
  len : U.q.length ≤ 16
  want : U.want < 2
  scr : U.scr < 256
theorem okU0 : OkU U0 := ⟨fun _ h => (List.not_mem_nil h).elim, (by decide : (0:Nat) ≤ 16), (by decide : (0:Nat) < 2), (by decide : (0:Nat) < 256)⟩
theorem OkU.give {U : Ur} (h : OkU U) (x : Nat) (hx : x < 256) : OkU (giveF U x) := by
  unfold giveF
  split
  · exact ⟨h.q, h.len, h.want, h.scr⟩
  · refine ⟨fun y hy => ?_, ?_, h.want, h.scr⟩
    · rcases List.mem_append.1 hy with hy | hy
      · exact h.q y hy
      · rw [List.mem_singleton.1 hy]; exact hx
    · have := h.len
      show (U.q ++ [x]).length ≤ 16
      rw [List.length_append]; show U.q.length + 1 ≤ 16; omega
theorem OkU.tail {U : Ur} (h : OkU U) : OkU { U with q := U.q.tail } :=
  ⟨fun y hy => h.q y (List.mem_of_mem_tail hy), by have := h.len; show U.q.tail.length ≤ 16; rw [List.length_tail]; omega, h.want, h.scr⟩
theorem OkU.next {U : Ur} (h : OkU U) (k : Nat) : OkU (nextK k U) := by
  unfold nextK
  split
  · exact h.tail
  · split
    · exact ⟨h.q, h.len, h.want, h.scr⟩
    · exact h
theorem OkU.wr {U : Ur} (h : OkU U) (k v : Nat) : OkU (wrK k U v) := by
  unfold wrK
  split
  · exact ⟨h.q, h.len, h.want, h.scr⟩
  · split
    · exact ⟨h.q, h.len, Nat.mod_lt _ (by decide), h.scr⟩
    · split
      · exact ⟨h.q, h.len, h.want, Nat.mod_lt _ (by decide)⟩
      · exact h
theorem head_lt {U : Ur} (h : OkU U) : U.q.headD 0 < 256 := by
  cases hq : U.q with
  | nil => decide
  | cons x l => exact h.q x (by rw [hq]; exact List.mem_cons_self)
theorem kd_lt (a : Nat) (z : Int) : kd a z < 9 := by unfold kd; split <;> omega
theorem wr_sent_len (k v : Nat) (U : Ur) : (wrK k U v).sent.length ≤ U.sent.length + 1 := by
  unfold wrK
  split
  · show (U.sent ++ [v % 256]).length ≤ _; rw [List.length_append]; exact Nat.le_refl _
  · split
    · exact Nat.le_succ _
    · split
      · exact Nat.le_succ _
      · exact Nat.le_succ _
theorem next_sent (k : Nat) (U : Ur) : (nextK k U).sent = U.sent := by unfold nextK; split; rfl; split <;> rfl
theorem give_sent (x : Nat) (U : Ur) : (giveF U x).sent = U.sent := by unfold giveF; split <;> rfl
end Go.Proofs.Ytjjmohhkhadadaa
