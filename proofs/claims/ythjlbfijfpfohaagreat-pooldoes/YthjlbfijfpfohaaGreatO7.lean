/-
  A block and its cells; steps of several owners. No program in this text.
-/
import Derived.Test.YthjlbfijfpfohaaGreatGB
namespace Go.Proofs.YthjlbfijfpfohaaGreat
open Go.RowKit

/-- block B has these cells -/
def At (w : World) (B : Nat) (cs : Array Value) (T : TypeId) : Prop := w.heap[B]? = some (.cells cs T (0, 0))
section
variable {w w' : World} {B g n : Nat} {cs : Array Value} {T : TypeId}
theorem At.new (w : World) (cs : Array Value) (T : TypeId) : At (w.alloc (.cells cs T)) w.heap.size cs T := (MapKept.heap_alloc w _).1
theorem At.cell (h : At w B cs T) (j : Nat) : w.cell? ⟨B, j, none⟩ = cs[j]? := Lib.cell_of_heap h j
theorem At.fz (h : At w B cs T) (j : Nat) : w.frozen? ⟨B, j, none⟩ = false := Lib.frozen_of_heap h j
theorem At.lt (h : At w B cs T) : B < w.heap.size := (Array.getElem?_eq_some_iff.1 h).1
theorem At.drew (h : At w B cs T) : At w.drew B cs T := h
theorem At.below (h : At w B cs T) (b : Below n w w') (hB : B < n) : At w' B cs T := (b.block B hB).trans h
theorem At.reads (h : At w B cs T) (b : Below w.heap.size w w') : At w' B cs T := h.below b h.lt
theorem At.set (h : At w B cs T) (j : Nat) (v : Value) : At (w.setCell ⟨B, j, none⟩ v) B (cs.setIfInBounds j v) T := heap_setCell_at w B j cs T v h
theorem At.setOther (h : At w B cs T) (j : Nat) (v : Value) (hne : g ≠ B) : At (w.setCell ⟨g, j, none⟩ v) B cs T :=
  (Below.heap_setCell w ⟨g, j, none⟩ v B (fun e => hne e.symm)).trans h
theorem bdrew (h : Below n w.drew w') : Below n w w' := ⟨h.os, h.tape, h.output, h.size, h.block⟩
end
/-- steps, each of an owner that X allows -/
def Moves (X : Nat → Prop) (o : Nat → Nat) (w : World) (o' : Nat → Nat) (w' : World) : Prop := ∀ Q : (Nat → Nat) → World → Prop, (∀ o1 w1 i o2 w2, X i → Stp o1 i w1 o2 w2 → Q o1 w1 → Q o2 w2) → Q o w → Q o' w'
theorem Moves.of {X : Nat → Prop} {o o' : Nat → Nat} {w w' : World} {i : Nat} (hi : X i) (s : Stp o i w o' w') : Moves X o w o' w' := fun _ hs h => hs _ _ _ _ _ hi s h
theorem Moves.trans {X : Nat → Prop} {o o1 o2 : Nat → Nat} {w w1 w2 : World} (a : Moves X o w o1 w1) (b : Moves X o1 w1 o2 w2) : Moves X o w o2 w2 := fun Q hs h => b Q hs (a Q hs h)
theorem Moves.refl (X : Nat → Prop) (o : Nat → Nat) (w : World) : Moves X o w o w := fun _ _ h => h
theorem Moves.wide {X Y : Nat → Prop} {o o' : Nat → Nat} {w w' : World} (h : Moves X o w o' w') (hxy : ∀ i, X i → Y i) : Moves Y o w o' w' := fun Q hs hq => h Q (fun o1 w1 i o2 w2 hi => hs o1 w1 i o2 w2 (hxy i hi)) hq
section
variable {X : Nat → Prop} {o o' : Nat → Nat} {w w' w0 : World} {j : Nat}
theorem Row.moves {e sz n : Nat} {v : Value} {xs : List Value} (h : Row w o j e sz v n xs) (M : Moves X o w o' w') (hj : ¬ X j) : Row w' o' j e sz v n xs :=
  M (fun o w => Row w o j e sz v n xs) (fun _ _ _i _ _ hi s h => Row.other h s (fun e => hj (e ▸ hi))) h
theorem At.moves {B : Nat} {cs : Array Value} {T : TypeId} (h : At w B cs T) (ho : o B = j) (M : Moves X o w o' w') (hj : ¬ X j) : At w' B cs T ∧ o' B = j :=
  M (fun o w => At w B cs T ∧ o B = j) (fun _ _ _i _ _ hi s h => ⟨(s.blk B h.1.lt (by rw [h.2]; exact fun e => hj (e ▸ hi))).trans h.1, (s.own B h.1.lt).trans h.2⟩) ⟨h, ho⟩
theorem IsD.moves {p : Nat} {S : List ByteArray} {Ws : Wrs} (h : IsD w o j p S Ws) (M : Moves X o w o' w') (hj : ¬ X j) : IsD w' o' j p S Ws :=
  M (fun o w => IsD w o j p S Ws) (fun _ _ _i _ _ hi s h => h.other s (fun e => hj (e ▸ hi))) h
theorem Since.moves (h : Since w0 o w) (M : Moves X o w o' w') (hj : ¬ X 0) : Since w0 o' w' :=
  M (fun o w => Since w0 o w) (fun _ _ _i _ _ hi s h => h.step s (fun e => hj (e ▸ hi))) h
end
/-- the one's, and the other's -/
def Two (j q : Nat) (i : Nat) : Prop := i = j ∨ i = q
end Go.Proofs.YthjlbfijfpfohaaGreat
