/-
  A block and its cells. No program in this text.
-/
import Derived.Test.YtajbnfobmnibjaaO1
import Derived.Lib.Builder
import Derived.Deep.Draws
namespace Go.Proofs.Ytajbnfobmnibjaa
open Go.RowKit

/-- block B has these cells -/
def At (w : World) (B : Nat) (cs : Array Value) (T : TypeId) : Prop := w.heap[B]? = some (.cells cs T (0, 0))
section
variable {w w' : World} {B g n : Nat} {cs : Array Value} {T : TypeId}
theorem At.new (w : World) (cs : Array Value) (T : TypeId) : At (w.alloc (.cells cs T)) w.heap.size cs T := (MapKept.heap_alloc w _).1
theorem At.cell (h : At w B cs T) (j : Nat) : w.cell? ⟨B, j, none⟩ = cs[j]? := Lib.cell_of_heap h j
theorem At.fz (h : At w B cs T) (j : Nat) : w.frozen? ⟨B, j, none⟩ = false := Lib.frozen_of_heap h j
theorem At.lt (h : At w B cs T) : B < w.heap.size := (Array.getElem?_eq_some_iff.1 h).1
theorem At.drew (h : At w B cs T) : At w.drew B cs T := h
theorem At.drewN (h : At w B cs T) (q : Nat) : At (w.drewN q) B cs T := h
theorem At.same (h : At w B cs T) (hb : w'.heap[B]? = w.heap[B]?) : At w' B cs T := hb.trans h
theorem At.below (h : At w B cs T) (b : Below n w w') (hB : B < n) : At w' B cs T := (b.block B hB).trans h
theorem At.reads (h : At w B cs T) (b : Below w.heap.size w w') : At w' B cs T := h.below b h.lt
theorem At.set (h : At w B cs T) (j : Nat) (v : Value) : At (w.setCell ⟨B, j, none⟩ v) B (cs.setIfInBounds j v) T := by
  obtain ⟨hlt, hk⟩ := Array.getElem?_eq_some_iff.1 h
  show (w.heap.modify B _)[B]? = _
  rw [Array.getElem?_eq_getElem (by rw [Array.size_modify]; exact hlt), Array.getElem_modify_self, hk]
  rfl
theorem At.setOther (h : At w B cs T) (j : Nat) (v : Value) (hne : g ≠ B) : At (w.setCell ⟨g, j, none⟩ v) B cs T :=
  (Below.heap_setCell w ⟨g, j, none⟩ v B (fun e => hne e.symm)).trans h
theorem bdrew (h : Below n w.drew w') : Below n w w' := ⟨h.os, h.tape, h.output, h.size, h.block⟩
theorem below_drewN (w : World) (q : Nat) : Below w.heap.size w (w.drewN q) := ⟨rfl, rfl, rfl, Nat.le_refl _, fun _ _ => rfl⟩
end
end Go.Proofs.Ytajbnfobmnibjaa
