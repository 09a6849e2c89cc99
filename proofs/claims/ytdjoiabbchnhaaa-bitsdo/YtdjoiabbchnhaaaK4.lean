/-
  Pages side by side: plain facts; TakeAt whatever the page.
-/
import Derived.Test.YtdjoiabbchnhaaaK3
import Derived.Test.YtdjoiabbchnhaaaA2
namespace Go.Proofs.Ytdjoiabbchnhaaa
open Go.RowKit Go.Shelf
theorem freeAt_of_ge (L : List Bool) (n m : Nat) (h : n ≤ runc L m) : freeAt L n (m - n) := fun s hs => by
  have h2 := runc_le L m
  have := runc_free L m (n - 1 - s) (by omega)
  rwa [show m - 1 - (n - 1 - s) = m - n + s by omega] at this
theorem block_lt_of_cell' {w : World} {p : Addr} {v : Value} (h : w.cell? p = some v) : p.block < w.heap.size := by
  obtain ⟨o, ho, _⟩ := cells_of_cell h
  exact (Array.getElem?_eq_some_iff.1 ho).1
section
variable {w0 w w' : World} {p b q g : Nat} {L M : List Bool}
/-- what TakeAt leaves -/
def tookAt (L : List Bool) (i : Nat) : List Bool := if i < L.length then L.set i true else L
theorem tookAt_length (L : List Bool) (i : Nat) : (tookAt L i).length = L.length := by unfold tookAt; split <;> simp
theorem st_takeAt_any (S : St w0 w p b L) (i : Nat) :
    Calls Try.prog 13 #[.pointer (some ⟨p, 0, none⟩), .int .i64 (i : Int)] w fun e w' => ∃ x : Int, e = .returned (.int .i64 x) ∧ St w0 w' p b (tookAt L i) ∧ w.grownBy w' (some b) := by
  unfold tookAt
  by_cases h : i < L.length
  · rw [if_pos h]
    cases ht : tk L i
    · exact (st_takeAt S i h ht).mono fun e w' ⟨he, r⟩ => ⟨0, he, r⟩
    · refine (st_takeAt_twice S i h ht).mono fun e w' ⟨he, r⟩ => ⟨8, he, ?_⟩
      have : L.set i true = L := by rw [← ht, ← tk_get L i h, List.set_getElem_self]
      rw [this]; exact r
  · rw [if_neg h]
    exact (st_takeAt_arg S i (.inr (by omega))).mono fun e w' ⟨he, r⟩ => ⟨1, he, r⟩
end
end Go.Proofs.Ytdjoiabbchnhaaa
