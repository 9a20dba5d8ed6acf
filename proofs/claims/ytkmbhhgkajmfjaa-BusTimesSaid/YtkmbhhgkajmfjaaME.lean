/- Taken from other texts: what is needed of them. -/
import Derived.Test.YtkmbhhgkajmfjaaMA
import Derived.Test.YtkmbhhgkajmfjaaMB
import Derived.Test.YtkmbhhgkajmfjaaMD
namespace Go.Proofs.Ytkmbhhgkajmfjaa.M
set_option linter.unusedVariables false
set_option linter.unusedSimpArgs false
set_option maxRecDepth 20000
open Go.ChangeShapes Go.WideShapes Go.ChangeAt Go.RowKit
/-- A place within the RAM. -/
def atP (k i : Nat) : Nat := 2147483648 + 4096 * k + i
/-- The document's memory in a block: 256 pages, each empty or of 4096 bytes. -/
structure Rm (R : Fp) (w : World) (r : Nat) (F : Nat → Nat) (pb : Nat) (A : Nat → Option Addr) (n c g : Nat → Nat) : Prop where
  lt : r < w.heap.size
  c0 : w.cell? ⟨r, 0, none⟩ = some (.slice (some ⟨pb, 0, none⟩) 256 256)
  f0 : w.frozen? ⟨r, 0, none⟩ = false
  pl : pb < w.heap.size
  pc : ∀ k, k < 256 → w.cell? ⟨pb, k, none⟩ = some (.slice (A k) (n k) (c k)) ∧ w.frozen? ⟨pb, k, none⟩ = false
  pg : ∀ k, k < 256 → (n k = 0 ∧ ∀ i, i < 4096 → F (atP k i) = 0) ∨ (n k = 4096 ∧ 4096 ≤ c k ∧ A k = some ⟨g k, 0, none⟩ ∧ PageIs w (g k) (fun i => F (atP k i)))
  f8 : ∀ x, F x < 256
  rr : ∀ j, R r j
  rp : ∀ j, R pb j
  rg : ∀ k j, k < 256 → n k = 4096 → R (g k) j
  rlt : ∀ k j, R k j → k < w.heap.size
  pr : pb ≠ r
  gr : ∀ k, k < 256 → n k = 4096 → g k ≠ r ∧ g k ≠ pb
  gg : ∀ k l, k < 256 → l < 256 → k ≠ l → n k = 4096 → n l = 4096 → g k ≠ g l
def IsRm (R : Fp) (w : World) (r : Nat) (F : Nat → Nat) : Prop := ∃ pb A n c g, Rm R w r F pb A n c g
section
variable {R T R2 : Fp} {w w' : World} {r : Nat} {F : Nat → Nat} {pb : Nat} {A : Nat → Option Addr} {n c g : Nat → Nat}
theorem page_ch {p : Nat} {f : Nat → Nat} (h : PageIs w p f) (hc : Ch T w w') (hn : ∀ j, ¬ T p j) : PageIs w' p f :=
  ⟨Nat.lt_of_lt_of_le h.1 hc.size, fun i hi => ⟨(hc.cell p i h.1 (hn i)).trans (h.2 i hi).1, (hc.frozen p i h.1).trans (h.2 i hi).2⟩⟩
theorem Rm.kept (x : Rm R w r F pb A n c g) (hc : Ch T w w') (hd : Dj T R) : Rm R w' r F pb A n c g :=
  { x with
    lt := Nat.lt_of_lt_of_le x.lt hc.size
    c0 := (hc.cell r 0 x.lt (fun ht => hd _ _ ht (x.rr 0))).trans x.c0
    f0 := (hc.frozen r 0 x.lt).trans x.f0
    pl := Nat.lt_of_lt_of_le x.pl hc.size
    pc := fun k hk => ⟨(hc.cell pb k x.pl (fun ht => hd _ _ ht (x.rp k))).trans (x.pc k hk).1, (hc.frozen pb k x.pl).trans (x.pc k hk).2⟩
    pg := fun k hk => (x.pg k hk).imp id (fun ⟨h1, h2, h3, h4⟩ => ⟨h1, h2, h3, page_ch h4 hc (fun j ht => hd _ _ ht (x.rg k j hk h1))⟩)
    rlt := fun k j hk => Nat.lt_of_lt_of_le (x.rlt k j hk) hc.size }
theorem Rm.mono (x : Rm R w r F pb A n c g) (hR : ∀ k j, R k j → R2 k j) (hlt : ∀ k j, R2 k j → k < w.heap.size) : Rm R2 w r F pb A n c g :=
  { x with rr := fun j => hR _ _ (x.rr j), rp := fun j => hR _ _ (x.rp j), rg := fun k j hk hn => hR _ _ (x.rg k j hk hn), rlt := hlt }
theorem Rm.up (x : Rm R w' r F pb A n c g) (w : World) : Rm (Up R w w') w' r F pb A n c g := x.mono (fun _ _ => .inl) (fun k j hk => hk.elim (x.rlt k j) (·.2))
end
end Go.Proofs.Ytkmbhhgkajmfjaa.M
namespace Go.Proofs.Ytkmbhhgkajmfjaa.M
set_option linter.unusedVariables false
set_option linter.unusedSimpArgs false
set_option maxRecDepth 20000
open Go.ChangeShapes Go.WideShapes Go.ChangeAt Go.RowKit
section
variable {R : Fp} {w w' : World} {r : Nat} {F : Nat → Nat} {pb : Nat} {A : Nat → Option Addr} {n c g : Nat → Nat}
end
end Go.Proofs.Ytkmbhhgkajmfjaa.M
namespace Go.Proofs.Ytkmbhhgkajmfjaa.M
set_option linter.unusedVariables false
set_option linter.unusedSimpArgs false
set_option maxRecDepth 20000
open Go.ChangeShapes Go.WideShapes Go.ChangeAt Go.RowKit
end Go.Proofs.Ytkmbhhgkajmfjaa.M
namespace Go.Proofs.Ytkmbhhgkajmfjaa.M
set_option linter.unusedVariables false
set_option linter.unusedSimpArgs false
set_option maxRecDepth 20000
open Go.ChangeShapes Go.WideShapes Go.ChangeAt Go.RowKit
section
variable {R : Fp} {w w1 w2 : World} {r : Nat} {F : Nat → Nat}
theorem IsRm.kept {T : Fp} (h : IsRm R w r F) (hc : Ch T w w1) (hd : Dj T R) : IsRm R w1 r F := by
  obtain ⟨pb, A, n, c, g, x⟩ := h
  exact ⟨pb, A, n, c, g, x.kept hc hd⟩
theorem IsRm.below (h : IsRm R w r F) (hb : Below w.heap.size w w1) : IsRm (Up R w w1) w1 r F := by
  obtain ⟨pb, A, n, c, g, x⟩ := h
  exact ⟨pb, A, n, c, g, (x.kept (Ch.of_below (fun _ _ => False) hb) (fun _ _ h => h.elim)).up w⟩
end
end Go.Proofs.Ytkmbhhgkajmfjaa.M
