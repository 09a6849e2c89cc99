/-
  Rows that a call owns, of any one type, beside a block of another type: what an append leaves. No program in this text.
-/
import Derived.Test.YtajbnfobmnibjaaO10
import Derived.Maps.AppendAt
namespace Go.Proofs.Ytajbnfobmnibjaa
open Go.RowKit

section
variable {base n z : Nat} {w w' : World} {v : Value} {T : TypeId} {xs : List Value}
theorem own_other (h : w.ownsRow base T z v n xs) {B : Nat} {cs : Array Value} {T' : TypeId} (hA : At w B cs T') (hT : T' ≠ T) : v.ownBlock ≠ some B := by
  intro e
  rcases h.2 with ⟨rfl, _⟩ | ⟨g, C, cur, rfl, _, hg, _⟩
  · cases e
  · cases e; rw [hA] at hg; cases hg; exact hT rfl
theorem At.grown {B : Nat} {cs : Array Value} {T : TypeId} (hA : At w B cs T) {r : Option Nat} (g : w.grownBy w' r) (hne : r ≠ some B) : At w' B cs T := (g.block B hA.lt (fun e => hne e.symm)).trans hA
theorem own_below (h : w.ownsRow base T z v n xs) (b : Below w.heap.size w w') : w'.ownsRow base T z v n xs := ownsRow_same h (fun g hg => b.block g (h.lt g hg).2)
theorem own_grown (h : w.ownsRow base T z v n xs) {r : Option Nat} (g : w.grownBy w' r) (hne : ∀ b, v.ownBlock = some b → r ≠ some b) : w'.ownsRow base T z v n xs := ownsRow_same h (fun b hb => g.block b (h.lt b hb).2 (fun e => hne b hb e.symm))
theorem own_set (h : w.ownsRow base T z v n xs) {B j : Nat} {u : Value} (hne : v.ownBlock ≠ some B) : (w.setCell ⟨B, j, none⟩ u).ownsRow base T z v n xs :=
  ownsRow_same h (fun b hb => Below.heap_setCell w ⟨B, j, none⟩ u b (fun e => hne (by rw [hb, e])))
theorem below_grown {w0 : World} (h : w.ownsRow w0.heap.size T z v n xs) (b : Below w0.heap.size w0 w) (g : w.grownBy w' v.ownBlock) : Below w0.heap.size w0 w' := b.grown g b.size (fun k e => (h.lt k e).1)
theorem own_slice (h : w.ownsRow base T z v n xs) : ∃ a C, v = .slice a n C ∧ n ≤ C ∧ C ≤ 9223372036854775807 ∧ (a = none → C = 0) ∧ (∀ x, a = some x → x.spot = none ∧ x.off = 0 ∧ base ≤ x.block) := by
  rcases h.2 with ⟨rfl, rfl⟩ | ⟨g, C, cur, rfl, hb, _, h1, h2, _⟩
  · exact ⟨none, 0, rfl, Nat.le_refl _, by omega, fun _ => rfl, fun x hx => (by cases hx)⟩
  · exact ⟨_, C, rfl, h1, (by unfold maxLen at h2; omega), fun e => (by cases e), fun x hx => (by cases hx; exact ⟨rfl, rfl, hb⟩)⟩
end
theorem own_fresh (base : Nat) (w : World) (T : TypeId) (z : Nat) (hb : base ≤ w.heap.size) : (w.alloc (.cells #[] T)).ownsRow base T z (.slice (some ⟨w.heap.size, 0, none⟩) 0 0) 0 [] :=
  ⟨by simp, .inr ⟨w.heap.size, 0, #[], rfl, hb, heap_alloc_new w _, Nat.le_refl _, by decide, by simp, by simp⟩⟩
theorem addr_zero10 (g k : Nat) : Addr.add ⟨g, 0, none⟩ k = ⟨g, k, none⟩ := by unfold Addr.add; split <;> simp_all
end Go.Proofs.Ytajbnfobmnibjaa
