/- What a Tlb's six functions must do; the document's do; rows among things. -/
import Derived.Test.YtdplcdgdndeopaaR8
namespace Go.Proofs.Ytdplcdgdndeopaa
open Go.ChangeShapes Go.WideShapes Go.ChangeAt Go.RowKit Go.Sort
set_option linter.unusedVariables false
set_option linter.unusedSimpArgs false
/-- WHAT THE SIX FUNCTIONS OF A Tlb MUST DO, T being what stands at a block. -/
structure TOk (fN fF fP fX fA fC : FuncId) (tE : TypeId) (T : Nat → St → Th) : Prop where
  new : ∀ (sd : Nat) (w : World), sd < 18446744073709551616 → Calls Try.prog fN #[.int .u64 (sd : Nat)] w (NewT T sd w)
  find : ∀ {b : Nat} {X : St} {S : Nat → Prop} {w : World}, (T b X).P S w → X.Ok → ∀ s a : Nat, s < 18446744073709551616 → a < 18446744073709551616 → Calls Try.prog fF #[.pointer (some ⟨b, 0, none⟩), .int .u64 (s : Nat), .int .u64 (a : Nat)] w (RetF (findE X s a) (findB X s a) w)
  put : ∀ {b : Nat} {X : St} {S : Nat → Prop} {w : World}, (T b X).P S w → X.Ok → ∀ x : En, x.Wf → Calls Try.prog fP #[.pointer (some ⟨b, 0, none⟩), .agg x.v] w (Upd (.bool (okP x)) (T b (putS X x)) S w)
  fence : ∀ {b : Nat} {X : St} {S : Nat → Prop} {w : World}, (T b X).P S w → X.Ok → ∀ (bA : Bool) (a : Nat) (bS : Bool) (s : Nat), a < 18446744073709551616 → s < 18446744073709551616 → Calls Try.prog fX #[.pointer (some ⟨b, 0, none⟩), .bool bA, .int .u64 (a : Nat), .bool bS, .int .u64 (s : Nat)] w (Upd (.tuple #[]) (T b (fenceS X bA a bS s)) S w)
  all : ∀ {b : Nat} {X : St} {S : Nat → Prop} {w : World}, (T b X).P S w → X.Ok → Calls Try.prog fA #[.pointer (some ⟨b, 0, none⟩)] w (RetL tE (allS X) w)
  copy : ∀ {b : Nat} {X : St} {S : Nat → Prop} {w : World}, (T b X).P S w → X.Ok → Calls Try.prog fC #[.pointer (some ⟨b, 0, none⟩)] w (CopyT T X w)
theorem upd_of {b L cl I ci : Nat} {X' : St} {S : Nat → Prop} {w : World} {f : FuncId} {args : Array Value} {v : Value} (hS : ∀ k, S k ↔ k = b ∨ k = L ∨ k = I) (h : Calls Try.prog f args w (RetPt b L cl I ci X' v w)) : Calls Try.prog f args w (Upd v (eTR b X') S w) := by
  refine h.mono ?_
  rintro e w' ⟨rfl, h1, h2⟩
  exact ⟨rfl, S, ⟨L, cl, I, ci, h1, hS⟩, h2.more (fun i q => (hS i).2 q), fun k q => .inl q⟩
/-- The document's do. -/
theorem tr_ok : TOk 10 15 13 17 21 19 36 eTR where
  new sd w _ := newr_c sd w
  find := fun ⟨L, cl, I, ci, h, hS⟩ hX s a hs ha => findr_c _ L cl I ci _ (Lib.hid hX) s a (Lib.hid hs) (Lib.hid ha) _ (Lib.hid h)
  put := fun ⟨L, cl, I, ci, h, hS⟩ hX x hx => upd_of hS (put_c _ L cl I ci _ hX x hx _ (Lib.hid h))
  fence := fun ⟨L, cl, I, ci, h, hS⟩ hX bA a bS s ha hs => upd_of hS (fence_c _ L cl I ci _ (Lib.hid hX) bA a bS s (Lib.hid ha) (Lib.hid hs) _ (Lib.hid h))
  all := fun ⟨L, cl, I, ci, h, hS⟩ hX => all_c _ L cl I ci _ _ (Lib.hid h)
  copy := fun ⟨L, cl, I, ci, h, hS⟩ hX => copyr_c _ L cl I ci _ _ (Lib.hid h)
/-- A row as a thing. -/
def eRow (b : Nat) (t : TypeId) (ce : Array Value) : Th where
  P S w := (∀ k, S k ↔ k = b) ∧ b < w.heap.size ∧ Row w b t ce
  kept := fun ⟨h1, h2, h3⟩ ho hd => ⟨h1, Nat.lt_of_lt_of_le h2 ho.size, ho.row h3 h2 (hd _ ((h1 _).2 rfl))⟩
  lt := fun ⟨h1, h2, h3⟩ i q => by rw [(h1 i).1 q]; exact h2
section
variable {w0 w : World} {l : List Th}
theorem rowAt (h : Grp w0 l w) (i : Nat) {b : Nat} {t : TypeId} {ce : Array Value} (hi : l[i]? = some (eRow b t ce)) : b < w.heap.size ∧ Row w b t ce := by
  obtain ⟨S, q⟩ := h.get i hi
  exact ⟨q.2.1, q.2.2⟩
/-- A variable that is made and laid at once. -/
theorem newRow (h : Grp w0 l w) (t : TypeId) (c0 ce : Array Value) : Grp w0 (l ++ [eRow w.heap.size t ce]) ((w.alloc (Obj.cells c0 t)).setRow w.heap.size ce) :=
  h.push (below_setRow ((Below.refl _ _).alloc (Nat.le_refl _) _) (Nat.le_refl _) _) (S1 := fun k => k = w.heap.size) ⟨fun k => Iff.rfl, by rw [sz_setRow, sz_alloc]; exact Nat.lt_succ_self _, (row_new _ _ _).setRow _⟩ (fun k hk => Nat.le_of_eq hk.symm)
theorem newBox (h : Grp w0 l w) (t : TypeId) (ce : Array Value) : Grp w0 (l ++ [eRow w.heap.size t ce]) (w.alloc (Obj.cells ce t)) :=
  h.push ((Below.refl _ _).alloc (Nat.le_refl _) _) (S1 := fun k => k = w.heap.size) ⟨fun k => Iff.rfl, by rw [sz_alloc]; exact Nat.lt_succ_self _, row_new _ _ _⟩ (fun k hk => Nat.le_of_eq hk.symm)
variable {fN fF fP fX fA fC : FuncId} {tE : TypeId} {T : Nat → St → Th} (O : TOk fN fF fP fX fA fC tE T)
include O
theorem newG (h : Grp w0 l w) (sd : Nat) (hs : sd < 18446744073709551616) : Calls Try.prog fN #[.int .u64 (sd : Nat)] w (fun e w' => ∃ b, e = .returned (.pointer (some ⟨b, 0, none⟩)) ∧ Grp w0 (l ++ [T b (S0 sd)]) w') := by
  refine (O.new sd w hs).mono ?_
  rintro e w' ⟨b, S, rfl, h1, h2, h3⟩
  exact ⟨b, rfl, h.push h3 h1 h2⟩
theorem findG (h : Grp w0 l w) (i : Nat) {b : Nat} {X : St} (hi : l[i]? = some (T b X)) (hX : X.Ok) (s a : Nat) (hs : s < 18446744073709551616) (ha : a < 18446744073709551616) : Calls Try.prog fF #[.pointer (some ⟨b, 0, none⟩), .int .u64 (s : Nat), .int .u64 (a : Nat)] w (fun e w' => e = .returned (.tuple #[.agg (findE X s a).v, .bool (findB X s a)]) ∧ Grp w0 l w') := by
  obtain ⟨S, q⟩ := h.get i hi
  refine (O.find q hX s a hs ha).mono ?_
  rintro e w' ⟨rfl, hb⟩
  exact ⟨rfl, h.below hb⟩
theorem putG (h : Grp w0 l w) (i : Nat) {b : Nat} {X : St} (hi : l[i]? = some (T b X)) (hX : X.Ok) (x : En) (hx : x.Wf) : Calls Try.prog fP #[.pointer (some ⟨b, 0, none⟩), .agg x.v] w (fun e w' => e = .returned (.bool (okP x)) ∧ Grp w0 (l.set i (T b (putS X x))) w') :=
  h.step i hi _ (fun S q => O.put q hX x hx)
theorem fenceG (h : Grp w0 l w) (i : Nat) {b : Nat} {X : St} (hi : l[i]? = some (T b X)) (hX : X.Ok) (bA : Bool) (a : Nat) (bS : Bool) (s : Nat) (ha : a < 18446744073709551616) (hs : s < 18446744073709551616) : Calls Try.prog fX #[.pointer (some ⟨b, 0, none⟩), .bool bA, .int .u64 (a : Nat), .bool bS, .int .u64 (s : Nat)] w (fun e w' => e = .returned (.tuple #[]) ∧ Grp w0 (l.set i (T b (fenceS X bA a bS s))) w') :=
  h.step i hi _ (fun S q => O.fence q hX bA a bS s ha hs)
theorem copyG (h : Grp w0 l w) (i : Nat) {b : Nat} {X : St} (hi : l[i]? = some (T b X)) (hX : X.Ok) : Calls Try.prog fC #[.pointer (some ⟨b, 0, none⟩)] w (fun e w' => ∃ b', e = .returned (.pointer (some ⟨b', 0, none⟩)) ∧ Grp w0 (l ++ [T b' X]) w') := by
  obtain ⟨S, q⟩ := h.get i hi
  refine (O.copy q hX).mono ?_
  rintro e w' ⟨b', S', rfl, h1, h2, h3⟩
  exact ⟨b', rfl, h.push h3 h1 h2⟩
/-- A slice of entries as a thing. -/
theorem allG (h : Grp w0 l w) (i : Nat) {b : Nat} {X : St} (hi : l[i]? = some (T b X)) (hX : X.Ok) : Calls Try.prog fA #[.pointer (some ⟨b, 0, none⟩)] w (fun e w' => ∃ v, e = .returned v ∧ OwnE tE w' w.heap.size v (allS X) ∧ Grp w0 l w' ∧ Below w.heap.size w w') := by
  obtain ⟨S, q⟩ := h.get i hi
  refine (O.all q hX).mono ?_
  rintro e w' ⟨v, rfl, h1, h2⟩
  exact ⟨v, rfl, h1, h.below h2, h2⟩
end
end Go.Proofs.Ytdplcdgdndeopaa
