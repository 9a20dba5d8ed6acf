/- Plain words of layer squeeze: rows, registers, immediates, forms; the document's own answers. No Go text is named here. -/
import Derived.WalkKit
import Derived.Laws.BitsAllLaws
namespace Go.Proofs.YtcfeeookjgdkmaaDoor
set_option linter.unusedVariables false
set_option linter.unusedSimpArgs false

structure SRow where
  mask : Nat
  mat : Nat
  some : Nat
  base : Nat
  names : Nat
  imm : Nat
  form : Nat
deriving DecidableEq

/-- One of two, by whether a number is another. -/
def sel (f k a b : Nat) : Nat := cond (Nat.beq f k) a b
theorem sel_same (k a b : Nat) : sel k k a b = a := by unfold sel; rw [show Nat.beq k k = true from Nat.beq_refl k]; rfl
theorem sel_at {f k : Nat} (a b : Nat) (h : f = k) : sel f k a b = a := by rw [h]; exact sel_same k a b
theorem sel_ne {f k : Nat} (a b : Nat) (h : f ≠ k) : sel f k a b = b := by
  unfold sel; rw [show Nat.beq f k = false from by rw [← Bool.not_eq_true]; intro e; exact h (Nat.eq_of_beq_eq_true e)]; rfl
/-- The number that stands in c bits from f on. -/
def fld (b f c : Nat) : Nat := b / 2 ^ f % 2 ^ c

def ga0 (h : Nat) : Nat := 0
def ga1 (h : Nat) : Nat := ((((((((0 ||| h / 32 % 2 * 8) ||| h / 64 % 2 * 4) ||| h / 128 % 2 * 64) ||| h / 256 % 2 * 128) ||| h / 512 % 2 * 256) ||| h / 1024 % 2 * 512) ||| h / 2048 % 2 * 16) ||| h / 4096 % 2 * 32)
def ga2 (h : Nat) : Nat := (((((0 ||| h / 32 % 2 * 64) ||| h / 64 % 2 * 128) ||| h / 1024 % 2 * 8) ||| h / 2048 % 2 * 16) ||| h / 4096 % 2 * 32)
def ga3 (h : Nat) : Nat := (((((0 ||| h / 32 % 2 * 64) ||| h / 64 % 2 * 4) ||| h / 1024 % 2 * 8) ||| h / 2048 % 2 * 16) ||| h / 4096 % 2 * 32)
def ga4 (h : Nat) : Nat := ((((((0 ||| h / 4 % 2 * 1) ||| h / 8 % 2 * 2) ||| h / 16 % 2 * 4) ||| h / 32 % 2 * 8) ||| h / 64 % 2 * 16) ||| h / 4096 % 2 * 32)
def ga5 (h : Nat) : Nat := ((((((0 ||| h / 4 % 2 * 1) ||| h / 8 % 2 * 2) ||| h / 16 % 2 * 4) ||| h / 32 % 2 * 8) ||| h / 64 % 2 * 16) ||| h / 4096 % 2 * 32)
def ga6 (h : Nat) : Nat := ((((((0 ||| h / 4 % 2 * 32) ||| h / 8 % 2 * 128) ||| h / 16 % 2 * 256) ||| h / 32 % 2 * 64) ||| h / 64 % 2 * 16) ||| h / 4096 % 2 * 512)
def ga7 (h : Nat) : Nat := (((((((((((0 ||| h / 4 % 2 * 32) ||| h / 8 % 2 * 2) ||| h / 16 % 2 * 4) ||| h / 32 % 2 * 8) ||| h / 64 % 2 * 128) ||| h / 128 % 2 * 64) ||| h / 256 % 2 * 1024) ||| h / 512 % 2 * 256) ||| h / 1024 % 2 * 512) ||| h / 2048 % 2 * 16) ||| h / 4096 % 2 * 2048)
def ga8 (h : Nat) : Nat := ((((((((0 ||| h / 4 % 2 * 32) ||| h / 8 % 2 * 2) ||| h / 16 % 2 * 4) ||| h / 32 % 2 * 64) ||| h / 64 % 2 * 128) ||| h / 1024 % 2 * 8) ||| h / 2048 % 2 * 16) ||| h / 4096 % 2 * 256)
def ga9 (h : Nat) : Nat := ((((((0 ||| h / 4 % 2 * 64) ||| h / 8 % 2 * 128) ||| h / 16 % 2 * 256) ||| h / 32 % 2 * 8) ||| h / 64 % 2 * 16) ||| h / 4096 % 2 * 32)
def ga10 (h : Nat) : Nat := ((((((0 ||| h / 4 % 2 * 64) ||| h / 8 % 2 * 128) ||| h / 16 % 2 * 4) ||| h / 32 % 2 * 8) ||| h / 64 % 2 * 16) ||| h / 4096 % 2 * 32)
def ga11 (h : Nat) : Nat := ((((((0 ||| h / 128 % 2 * 64) ||| h / 256 % 2 * 128) ||| h / 512 % 2 * 256) ||| h / 1024 % 2 * 8) ||| h / 2048 % 2 * 16) ||| h / 4096 % 2 * 32)
def ga12 (h : Nat) : Nat := ((((((0 ||| h / 128 % 2 * 64) ||| h / 256 % 2 * 128) ||| h / 512 % 2 * 4) ||| h / 1024 % 2 * 8) ||| h / 2048 % 2 * 16) ||| h / 4096 % 2 * 32)
/-- A number whose highest place is p, widened by its sign. -/
def wid (p n : Nat) : Nat := if n < 2 ^ p then n else n + 4294967296 - 2 ^ (p + 1)
def im4 (h : Nat) : Nat := wid 5 (ga4 h)
def im6 (h : Nat) : Nat := wid 9 (ga6 h)
def im7 (h : Nat) : Nat := wid 11 (ga7 h)
def im8 (h : Nat) : Nat := wid 8 (ga8 h)
/-- The immediate. -/
def immF (i h : Nat) : Nat := (sel i 0 (ga0 h) (sel i 1 (ga1 h) (sel i 2 (ga2 h) (sel i 3 (ga3 h) (sel i 4 (im4 h) (sel i 5 (ga5 h) (sel i 6 (im6 h) (sel i 7 (im7 h) (sel i 8 (im8 h) (sel i 9 (ga9 h) (sel i 10 (ga10 h) (sel i 11 (ga11 h) (sel i 12 (ga12 h) 0)))))))))))))
def sc0 (n : Nat) : Nat := 0
def sc1 (n : Nat) : Nat := ((((((((0 ||| n / 8 % 2 * 32) ||| n / 4 % 2 * 64) ||| n / 64 % 2 * 128) ||| n / 128 % 2 * 256) ||| n / 256 % 2 * 512) ||| n / 512 % 2 * 1024) ||| n / 16 % 2 * 2048) ||| n / 32 % 2 * 4096)
def sc2 (n : Nat) : Nat := (((((0 ||| n / 64 % 2 * 32) ||| n / 128 % 2 * 64) ||| n / 8 % 2 * 1024) ||| n / 16 % 2 * 2048) ||| n / 32 % 2 * 4096)
def sc3 (n : Nat) : Nat := (((((0 ||| n / 64 % 2 * 32) ||| n / 4 % 2 * 64) ||| n / 8 % 2 * 1024) ||| n / 16 % 2 * 2048) ||| n / 32 % 2 * 4096)
def sc4 (n : Nat) : Nat := ((((((0 ||| n / 1 % 2 * 4) ||| n / 2 % 2 * 8) ||| n / 4 % 2 * 16) ||| n / 8 % 2 * 32) ||| n / 16 % 2 * 64) ||| n / 32 % 2 * 4096)
def sc5 (n : Nat) : Nat := ((((((0 ||| n / 1 % 2 * 4) ||| n / 2 % 2 * 8) ||| n / 4 % 2 * 16) ||| n / 8 % 2 * 32) ||| n / 16 % 2 * 64) ||| n / 32 % 2 * 4096)
def sc6 (n : Nat) : Nat := ((((((0 ||| n / 32 % 2 * 4) ||| n / 128 % 2 * 8) ||| n / 256 % 2 * 16) ||| n / 64 % 2 * 32) ||| n / 16 % 2 * 64) ||| n / 512 % 2 * 4096)
def sc7 (n : Nat) : Nat := (((((((((((0 ||| n / 32 % 2 * 4) ||| n / 2 % 2 * 8) ||| n / 4 % 2 * 16) ||| n / 8 % 2 * 32) ||| n / 128 % 2 * 64) ||| n / 64 % 2 * 128) ||| n / 1024 % 2 * 256) ||| n / 256 % 2 * 512) ||| n / 512 % 2 * 1024) ||| n / 16 % 2 * 2048) ||| n / 2048 % 2 * 4096)
def sc8 (n : Nat) : Nat := ((((((((0 ||| n / 32 % 2 * 4) ||| n / 2 % 2 * 8) ||| n / 4 % 2 * 16) ||| n / 64 % 2 * 32) ||| n / 128 % 2 * 64) ||| n / 8 % 2 * 1024) ||| n / 16 % 2 * 2048) ||| n / 256 % 2 * 4096)
def sc9 (n : Nat) : Nat := ((((((0 ||| n / 64 % 2 * 4) ||| n / 128 % 2 * 8) ||| n / 256 % 2 * 16) ||| n / 8 % 2 * 32) ||| n / 16 % 2 * 64) ||| n / 32 % 2 * 4096)
def sc10 (n : Nat) : Nat := ((((((0 ||| n / 64 % 2 * 4) ||| n / 128 % 2 * 8) ||| n / 4 % 2 * 16) ||| n / 8 % 2 * 32) ||| n / 16 % 2 * 64) ||| n / 32 % 2 * 4096)
def sc11 (n : Nat) : Nat := ((((((0 ||| n / 64 % 2 * 128) ||| n / 128 % 2 * 256) ||| n / 256 % 2 * 512) ||| n / 8 % 2 * 1024) ||| n / 16 % 2 * 2048) ||| n / 32 % 2 * 4096)
def sc12 (n : Nat) : Nat := ((((((0 ||| n / 64 % 2 * 128) ||| n / 128 % 2 * 256) ||| n / 4 % 2 * 512) ||| n / 8 % 2 * 1024) ||| n / 16 % 2 * 2048) ||| n / 32 % 2 * 4096)
/-- The bits of a half that hold an immediate. -/
def scaF (i n : Nat) : Nat := (sel i 0 (sc0 n) (sel i 1 (sc1 n) (sel i 2 (sc2 n) (sel i 3 (sc3 n) (sel i 4 (sc4 n) (sel i 5 (sc5 n) (sel i 6 (sc6 n) (sel i 7 (sc7 n) (sel i 8 (sc8 n) (sel i 9 (sc9 n) (sel i 10 (sc10 n) (sel i 11 (sc11 n) (sel i 12 (sc12 n) 0)))))))))))))
def wn0 (h : Nat) : Nat := 0
def wn1 (h : Nat) : Nat := (0 ||| h / 128 % 32 * 128)
def wn4 (h : Nat) : Nat := (0 ||| (h / 4 % 8 + 8) * 128)
def wn8 (h : Nat) : Nat := (0 ||| h / 128 % 32 * 32768)
def wn9 (h : Nat) : Nat := ((0 ||| h / 128 % 32 * 128) ||| h / 128 % 32 * 32768)
def wn16 (h : Nat) : Nat := (0 ||| (h / 128 % 8 + 8) * 32768)
def wn18 (h : Nat) : Nat := ((0 ||| (h / 128 % 8 + 8) * 128) ||| (h / 128 % 8 + 8) * 32768)
def wn20 (h : Nat) : Nat := ((0 ||| (h / 4 % 8 + 8) * 128) ||| (h / 128 % 8 + 8) * 32768)
def wn32 (h : Nat) : Nat := (0 ||| h / 4 % 32 * 1048576)
def wn33 (h : Nat) : Nat := ((0 ||| h / 128 % 32 * 128) ||| h / 4 % 32 * 1048576)
def wn41 (h : Nat) : Nat := (((0 ||| h / 128 % 32 * 128) ||| h / 128 % 32 * 32768) ||| h / 4 % 32 * 1048576)
def wn80 (h : Nat) : Nat := ((0 ||| (h / 128 % 8 + 8) * 32768) ||| (h / 4 % 8 + 8) * 1048576)
def wn82 (h : Nat) : Nat := (((0 ||| (h / 128 % 8 + 8) * 128) ||| (h / 128 % 8 + 8) * 32768) ||| (h / 4 % 8 + 8) * 1048576)
def rn0 (x : Nat) : Nat := 0
def rn1 (x : Nat) : Nat := (0 ||| x / 128 % 32 * 128)
def rn4 (x : Nat) : Nat := (0 ||| x / 128 % 8 * 4)
def rn8 (x : Nat) : Nat := (0 ||| x / 32768 % 32 * 128)
def rn9 (x : Nat) : Nat := ((0 ||| x / 128 % 32 * 128) ||| x / 32768 % 32 * 128)
def rn16 (x : Nat) : Nat := (0 ||| x / 32768 % 8 * 128)
def rn18 (x : Nat) : Nat := ((0 ||| x / 128 % 8 * 128) ||| x / 32768 % 8 * 128)
def rn20 (x : Nat) : Nat := ((0 ||| x / 128 % 8 * 4) ||| x / 32768 % 8 * 128)
def rn32 (x : Nat) : Nat := (0 ||| x / 1048576 % 32 * 4)
def rn33 (x : Nat) : Nat := ((0 ||| x / 128 % 32 * 128) ||| x / 1048576 % 32 * 4)
def rn41 (x : Nat) : Nat := (((0 ||| x / 128 % 32 * 128) ||| x / 32768 % 32 * 128) ||| x / 1048576 % 32 * 4)
def rn80 (x : Nat) : Nat := ((0 ||| x / 32768 % 8 * 128) ||| x / 1048576 % 8 * 4)
def rn82 (x : Nat) : Nat := (((0 ||| x / 128 % 8 * 128) ||| x / 32768 % 8 * 128) ||| x / 1048576 % 8 * 4)
/-- The bits of an instruction that name registers. -/
def wnF (k h : Nat) : Nat := (sel k 0 (wn0 h) (sel k 1 (wn1 h) (sel k 4 (wn4 h) (sel k 8 (wn8 h) (sel k 9 (wn9 h) (sel k 16 (wn16 h) (sel k 18 (wn18 h) (sel k 20 (wn20 h) (sel k 32 (wn32 h) (sel k 33 (wn33 h) (sel k 41 (wn41 h) (sel k 80 (wn80 h) (sel k 82 (wn82 h) 0)))))))))))))
def rnF (k x : Nat) : Nat := (sel k 0 (rn0 x) (sel k 1 (rn1 x) (sel k 4 (rn4 x) (sel k 8 (rn8 x) (sel k 9 (rn9 x) (sel k 16 (rn16 x) (sel k 18 (rn18 x) (sel k 20 (rn20 x) (sel k 32 (rn32 x) (sel k 33 (rn33 x) (sel k 41 (rn41 x) (sel k 80 (rn80 x) (sel k 82 (rn82 x) 0)))))))))))))
def pl1 (n : Nat) : Nat := n * 1048576 % 4294967296
def pl2 (n : Nat) : Nat := n / 32 * 33554432 % 4294967296 ||| n % 32 * 128
def pl3 (n : Nat) : Nat := n / 4096 % 2 * 2147483648 ||| n / 32 % 64 * 33554432 ||| n / 2 % 16 * 256 ||| n / 2048 % 2 * 128
def pl4 (n : Nat) : Nat := n * 4096 % 4294967296
def pl5 (n : Nat) : Nat := n / 1048576 % 2 * 2147483648 ||| n / 2 % 1024 * 2097152 ||| n / 2048 % 2 * 1048576 ||| n / 4096 % 256 * 4096
/-- An immediate, put to its places in an instruction. -/
def plF (f n : Nat) : Nat := (sel f 1 (pl1 n) (sel f 2 (pl2 n) (sel f 3 (pl3 n) (sel f 4 (pl4 n) (sel f 5 (pl5 n) 0)))))
def ta1 (x : Nat) : Nat := x / 1048576
def ta2 (x : Nat) : Nat := x / 33554432 * 32 ||| x / 128 % 32
def ta3 (x : Nat) : Nat := x / 33554432 % 64 * 32 ||| x / 256 % 16 * 2
def ta4 (x : Nat) : Nat := x / 4096
def ta5 (x : Nat) : Nat := x / 1048576 % 2 * 2048 ||| x / 2097152 % 1024 * 2
/-- The lower bits of an instruction's immediate. -/
def taF (f x : Nat) : Nat := (sel f 1 (ta1 x) (sel f 2 (ta2 x) (sel f 3 (ta3 x) (sel f 4 (ta4 x) (sel f 5 (ta5 x) 0)))))
def holdsB (r : SRow) (h : Nat) : Bool := Nat.beq (Nat.land h r.mask) r.mat && (Nat.beq r.some 0 || !Nat.beq (Nat.land h r.some) 0)
def writeF (r : SRow) (h : Nat) : Nat := r.base ||| wnF r.names h ||| plF r.form (immF r.imm h)
def readF (r : SRow) (x : Nat) : Nat := r.mat ||| rnF r.names x ||| scaF r.imm (taF r.form x)
def rowsL : List SRow := [⟨57347, 0, 8160, 65555, 4, 1, 1⟩,
  ⟨57347, 8192, 0, 12295, 20, 2, 1⟩,
  ⟨57347, 16384, 0, 8195, 20, 3, 1⟩,
  ⟨57347, 24576, 0, 12291, 20, 2, 1⟩,
  ⟨57347, 40960, 0, 12327, 80, 2, 2⟩,
  ⟨57347, 49152, 0, 8227, 80, 3, 2⟩,
  ⟨57347, 57344, 0, 12323, 80, 2, 2⟩,
  ⟨57347, 1, 0, 19, 9, 4, 1⟩,
  ⟨57347, 8193, 3968, 27, 9, 4, 1⟩,
  ⟨57347, 16385, 0, 19, 1, 4, 1⟩,
  ⟨61315, 24833, 4220, 65811, 0, 6, 1⟩,
  ⟨57347, 24577, 4220, 55, 1, 4, 4⟩,
  ⟨60419, 32769, 0, 20499, 18, 5, 1⟩,
  ⟨60419, 33793, 0, 1073762323, 18, 5, 1⟩,
  ⟨60419, 34817, 0, 28691, 18, 4, 1⟩,
  ⟨64611, 35841, 0, 1073741875, 82, 0, 0⟩,
  ⟨64611, 35873, 0, 16435, 82, 0, 0⟩,
  ⟨64611, 35905, 0, 24627, 82, 0, 0⟩,
  ⟨64611, 35937, 0, 28723, 82, 0, 0⟩,
  ⟨64611, 39937, 0, 1073741883, 82, 0, 0⟩,
  ⟨64611, 39969, 0, 59, 82, 0, 0⟩,
  ⟨57347, 40961, 0, 111, 0, 7, 5⟩,
  ⟨57347, 49153, 0, 99, 16, 8, 3⟩,
  ⟨57347, 57345, 0, 4195, 16, 8, 3⟩,
  ⟨57347, 2, 0, 4115, 9, 5, 1⟩,
  ⟨57347, 8194, 0, 77831, 1, 9, 1⟩,
  ⟨57347, 16386, 3968, 73731, 1, 10, 1⟩,
  ⟨57347, 24578, 3968, 77827, 1, 9, 1⟩,
  ⟨61567, 32770, 3968, 103, 8, 0, 0⟩,
  ⟨61443, 32770, 124, 51, 33, 0, 0⟩,
  ⟨65535, 36866, 0, 1048691, 0, 0, 0⟩,
  ⟨61567, 36866, 3968, 231, 8, 0, 0⟩,
  ⟨61443, 36866, 124, 51, 41, 0, 0⟩,
  ⟨57347, 40962, 0, 77863, 32, 11, 2⟩,
  ⟨57347, 49154, 0, 73763, 32, 12, 2⟩,
  ⟨57347, 57346, 0, 77859, 32, 11, 2⟩]
def expandF (h : Nat) : Nat × Bool := match rowsL.find? (holdsB · h) with | some r => (writeF r h, true) | none => (0, false)
def attF (r : SRow) (x : Nat) : Nat × Bool :=
  if x &&& 127 = r.base &&& 127 then (readF r x, (expandF (readF r x)).2 && (expandF (readF r x)).1 == x) else (0, false)
/-- What the rows so far found. -/
def stepS (x : Nat) (a : Nat × Bool) (r : SRow) : Nat × Bool :=
  if (attF r x).2 && (!a.2 || decide ((attF r x).1 < a.1)) then ((attF r x).1, true) else a
def shrF (L : List SRow) (x : Nat) : Nat × Bool := L.foldl (stepS x) (0, false)
def shrinkF (x : Nat) : Nat × Bool := shrF rowsL x

/- The document's own answers. -/
def bitsD (h hi lo : Nat) : Nat := h / 2 ^ lo % 2 ^ (hi + 1 - lo)
/-- Places of a half, the highest first. -/
def downL (hi : Nat) : Nat → List Nat
  | 0 => []
  | k + 1 => downL hi k ++ [hi - k]
/-- The sum of bits at places. -/
def sumD (h : Nat) (F T : List Nat) : Nat → Nat
  | 0 => 0
  | k + 1 => (sumD h F T k + h / 2 ^ (F.getD k 0) % 2 * 2 ^ (T.getD k 0)) % 4294967296
def topD (T : List Nat) : Nat → Nat
  | 0 => 0
  | k + 1 => if topD T k < T.getD k 0 then T.getD k 0 else topD T k
def extD (g t n : Nat) : Nat → Nat
  | 0 => n
  | k + 1 => (extD g t n k + g * 2 ^ (t + k)) % 4294967296
def immD (h : Nat) (F T : List Nat) (s : Bool) : Nat :=
  let n := sumD h F T T.length
  let t := topD T T.length
  if s then extD (n / 2 ^ t % 2) (t + 1) n (31 - t) else n
def partD (n hi lo : Nat) : Nat := n / 2 ^ lo % 2 ^ (hi + 1 - lo)
def formRD (f7 rs2 rs1 f3 rd op : Nat) : Nat := ((((f7 * 32 + rs2) * 32 + rs1) * 8 + f3) * 32 + rd) * 128 + op
def formID (imm rs1 f3 rd op : Nat) : Nat := (((imm % 4096 * 32 + rs1) * 8 + f3) * 32 + rd) * 128 + op
def formSD (imm rs2 rs1 f3 op : Nat) : Nat := formRD (imm / 32 % 128) rs2 rs1 f3 (imm % 32) op
def formBD (imm rs2 rs1 f3 op : Nat) : Nat := formRD (imm / 4096 % 2 * 64 + imm / 32 % 64) rs2 rs1 f3 (imm / 2 % 16 * 2 + imm / 2048 % 2) op
def formUD (imm rd op : Nat) : Nat := (imm / 4096 % 1048576 * 32 + rd) * 128 + op
def formJD (imm rd op : Nat) : Nat := (((((imm / 1048576 % 2 * 1024 + imm / 2 % 1024) * 2 + imm / 2048 % 2) * 256 + imm / 4096 % 256) * 32) + rd) * 128 + op
def farL : List Nat := [12, 11, 10, 6, 5]
def wideL : List Nat := [12, 11, 10, 9, 8, 7, 6, 5]
def lowL : List Nat := [12, 6, 5, 4, 3, 2]
def awayL : List Nat := [12, 11, 10, 6, 5, 4, 3, 2]
def jumpL : List Nat := [12, 11, 10, 9, 8, 7, 6, 5, 4, 3, 2]
def downL7 : List Nat := [12, 11, 10, 9, 8, 7]
def kD (h : Nat) : Nat := bitsD h 15 13
def dD (h : Nat) : Nat := bitsD h 11 7
def tD (h : Nat) : Nat := bitsD h 6 2
def xD (h : Nat) : Nat := 8 + bitsD h 9 7
def yD (h : Nat) : Nat := 8 + bitsD h 4 2
def eD (h : Nat) : Nat := immD h farL [5, 4, 3, 7, 6] false
def fD (h : Nat) : Nat := immD h farL [5, 4, 3, 2, 6] false
def wD (h : Nat) : Nat := immD h wideL [5, 4, 9, 8, 7, 6, 2, 3] false
def iD (h : Nat) : Nat := immD h lowL [5, 4, 3, 2, 1, 0] true
def sD (h : Nat) : Nat := immD h lowL [5, 4, 3, 2, 1, 0] false
def spD (h : Nat) : Nat := immD h lowL [9, 4, 6, 8, 7, 5] true
def awD (h : Nat) : Nat := immD h awayL [8, 4, 3, 7, 6, 2, 1, 5] true
def jD (h : Nat) : Nat := immD h jumpL [11, 4, 9, 8, 10, 6, 7, 3, 2, 1, 5] true
def ldD (h : Nat) : Nat := immD h lowL [5, 4, 3, 8, 7, 6] false
def lwD (h : Nat) : Nat := immD h lowL [5, 4, 3, 2, 7, 6] false
def vdD (h : Nat) : Nat := immD h downL7 [5, 4, 3, 8, 7, 6] false
def vwD (h : Nat) : Nat := immD h downL7 [5, 4, 3, 2, 7, 6] false
def zeroD (h : Nat) : Nat := sel (kD h) 0 (sel (wD h) 0 0 (formID (wD h) 2 0 (yD h) 19)) (sel (kD h) 1 (formID (eD h) (xD h) 3 (yD h) 7) (sel (kD h) 2 (formID (fD h) (xD h) 2 (yD h) 3) (sel (kD h) 3 (formID (eD h) (xD h) 3 (yD h) 3)
  (sel (kD h) 5 (formSD (eD h) (yD h) (xD h) 3 39) (sel (kD h) 6 (formSD (fD h) (yD h) (xD h) 2 35) (sel (kD h) 7 (formSD (eD h) (yD h) (xD h) 3 35) 0))))))
def pair0D (h : Nat) : Nat := sel (bitsD h 6 5) 0 (formRD 32 (yD h) (xD h) 0 (xD h) 51) (sel (bitsD h 6 5) 1 (formRD 0 (yD h) (xD h) 4 (xD h) 51) (sel (bitsD h 6 5) 2 (formRD 0 (yD h) (xD h) 6 (xD h) 51) (formRD 0 (yD h) (xD h) 7 (xD h) 51)))
def pair1D (h : Nat) : Nat := sel (bitsD h 6 5) 0 (formRD 32 (yD h) (xD h) 0 (xD h) 59) (sel (bitsD h 6 5) 1 (formRD 0 (yD h) (xD h) 0 (xD h) 59) 0)
def pairD (h : Nat) : Nat := sel (bitsD h 11 10) 0 (formID (sD h) (xD h) 5 (xD h) 19) (sel (bitsD h 11 10) 1 (formID ((sD h + 1024) % 4294967296) (xD h) 5 (xD h) 19) (sel (bitsD h 11 10) 2 (formID (iD h) (xD h) 7 (xD h) 19)
  (sel (bitsD h 12 12) 0 (pair0D h) (pair1D h))))
def oneD (h : Nat) : Nat := sel (kD h) 0 (formID (iD h) (dD h) 0 (dD h) 19) (sel (kD h) 1 (sel (dD h) 0 0 (formID (iD h) (dD h) 0 (dD h) 27)) (sel (kD h) 2 (formID (iD h) 0 0 (dD h) 19)
  (sel (kD h) 3 (sel (dD h) 2 (sel (spD h) 0 0 (formID (spD h) 2 0 2 19)) (sel (iD h) 0 0 (formUD (iD h * 4096 % 4294967296) (dD h) 55))) (sel (kD h) 5 (formJD (jD h) 0 111) (sel (kD h) 6 (formBD (awD h) 0 (xD h) 0 99) (sel (kD h) 7 (formBD (awD h) 0 (xD h) 1 99) (pairD h)))))))
def jumpD (h : Nat) : Nat := sel (bitsD h 12 12) 0 (sel (tD h) 0 (sel (dD h) 0 0 (formID 0 (dD h) 0 0 103)) (formRD 0 (tD h) 0 0 (dD h) 51)) (sel (tD h) 0 (sel (dD h) 0 1048691 (formID 0 (dD h) 0 1 103)) (formRD 0 (tD h) (dD h) 0 (dD h) 51))
def twoD (h : Nat) : Nat := sel (kD h) 0 (formID (sD h) (dD h) 1 (dD h) 19) (sel (kD h) 1 (formID (ldD h) 2 3 (dD h) 7) (sel (kD h) 2 (sel (dD h) 0 0 (formID (lwD h) 2 2 (dD h) 3)) (sel (kD h) 3 (sel (dD h) 0 0 (formID (ldD h) 2 3 (dD h) 3))
  (sel (kD h) 5 (formSD (vdD h) (tD h) 2 3 39) (sel (kD h) 6 (formSD (vwD h) (tD h) 2 2 35) (sel (kD h) 7 (formSD (vdD h) (tD h) 2 3 35) (jumpD h)))))))
def expandD (h : Nat) : Nat := sel (bitsD h 1 0) 0 (zeroD h) (sel (bitsD h 1 0) 1 (oneD h) (sel (bitsD h 1 0) 2 (twoD h) 0))
end Go.Proofs.YtcfeeookjgdkmaaDoor
