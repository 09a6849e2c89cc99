/-
  Package disk: the contracts of Dirty, Copy.
-/
import Derived.Test.YtdbniiggbjmfoaaD3
namespace Go.Proofs.Ytdbniiggbjmfoaa
open Go.RowKit Go.ChangeMaps

/-- a []int that reads as l -/
def IsInts (w : World) (v : Value) (l : List Int) : Prop :=
  (v = .slice none 0 0 ∧ l = []) ∨ ∃ g C, v = .slice (some ⟨g, 0, none⟩) l.length C ∧ ∀ j x, l[j]? = some x → w.cell? ⟨g, j, none⟩ = some (.int .i64 x)
theorem IsInts.below {w w' : World} {v : Value} {l : List Int} (h : IsInts w v l) (b : Below w.heap.size w w') : IsInts w' v l := by
  rcases h with h | ⟨g, C, h1, h2⟩
  · exact .inl h
  · refine .inr ⟨g, C, h1, fun j x hj => ?_⟩
    have := h2 j x hj
    exact (b.cell (p := ⟨g, j, none⟩) (World.block_lt_of_cell? w _ this)).trans this
theorem isInts_of_row {w : World} {base : Nat} {v : Value} {l : List Int} (h : w.ownsRow base 3 1 v l.length (l.map (Value.int .i64))) : IsInts w v l := by
  rcases h.2 with ⟨rfl, h0⟩ | ⟨g, cap, cur, rfl, _, hg, h1, _, h3, h4⟩
  · exact .inl ⟨rfl, List.eq_nil_of_length_eq_zero h0⟩
  · refine .inr ⟨g, cap, rfl, fun j x hj => ?_⟩
    have hlt : j < l.length := (List.getElem?_eq_some_iff.1 hj).1
    have e1 : (cur.toList.take (l.length * 1))[j]? = (l.map (Value.int .i64))[j]? := by rw [h4]
    rw [List.getElem?_take_of_lt (by omega), Array.getElem?_toList, List.getElem?_map, hj] at e1
    simp [World.cell?, hg, e1]
theorem IsInts.len {w : World} {v : Value} {l : List Int} (h : IsInts w v l) : ∃ a C, v = .slice a l.length C := by
  rcases h with ⟨rfl, rfl⟩ | ⟨g, C, rfl, _⟩
  · exact ⟨none, 0, rfl⟩
  · exact ⟨_, _, rfl⟩
/-- the pages of writes -/
def dirtyOf (Ws : Wrs) : List Int := Ws.map (fun x => (x.1 : Int))
theorem below_append {a W w1 : World} {n base : Nat} {e : TypeId} {size : Nat} {v : Value} {k : Nat} {xs : List Value} {tmp : Obj} (hB : Below n a W) (hrow : W.ownsRow base e size v k xs) (hgrow : (W.alloc tmp).grownBy w1 v.ownBlock) (hn : n ≤ base) (hs : n ≤ W.heap.size := by omega) : Below n a w1 := by
  refine (hB.alloc hs tmp).grown hgrow (by simp; omega) (fun j ej => ?_)
  rcases hrow.2 with ⟨rfl, _⟩ | ⟨g, cap, cur, rfl, hb, _⟩
  · simp [Value.ownBlock] at ej
  · obtain rfl : g = j := by simpa [Value.ownBlock] using ej
    omega
section
variable {w : World} {o : Nat → Nat} {i p m : Nat} {v : Value} {L : Pgs} {Ws : Wrs} {S : List ByteArray}
theorem Row.made (w : World) (o : Nat → Nat) (i : Nat) (e : TypeId) (sz : Nat) : Row (w.alloc (.cells #[] e)) (gives o w.heap.size i) i e sz (.slice (some ⟨w.heap.size, 0, none⟩) 0 0) 0 [] :=
  ⟨World.ownsRow_made w #[] 0 (Nat.zero_le _) (by decide) (by simp), fun g hg => by cases hg; exact gives_new (Nat.le_refl _)⟩

theorem below_undrew {w w' : World} (h : Below w.drew.heap.size w.drew w') : Below w.heap.size w w' := ⟨h.os, h.tape, h.output, h.size, h.block⟩
end
end Go.Proofs.Ytdbniiggbjmfoaa
