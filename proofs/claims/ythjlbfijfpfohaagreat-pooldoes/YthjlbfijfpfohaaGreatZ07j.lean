/-
  The document's pool: the contracts of New, and of Pin of no page.
-/
import Derived.Test.YthjlbfijfpfohaaGreatZ07i
namespace Go.Proofs.YthjlbfijfpfohaaGreat
open Go.RowKit Go.MapKept
section
variable {w w' : World} {o o' : Nat → Nat} {i j g x n q : Nat} {su : Int} {v : Value} {E : List Qn} {S : List ByteArray} {Ws : Wrs}
set_option maxRecDepth 100000 in
set_option maxHeartbeats 1000000 in
theorem qnew_arg (w : World) (p : Value) (x : Int) (hx : x < 1 ∨ 64 < x) :
    Calls Tryz.prog 7 #[p, .int .i64 x] w fun e w' => e = .returned (.tuple #[.pointer none, .int .i64 1]) ∧ w = w' := by
  by_cases h1 : x < 1
  · clear hx
    go_enter Tryz.func7, Tryz.ntmps7
    go_wp2_with fail
    go_ret2
    exact ⟨rfl, rfl⟩
  · have h2 : 64 < x := by omega
    clear hx
    go_enter Tryz.func7, Tryz.ntmps7
    go_wp2_with fail
    go_ret2
    exact ⟨rfl, rfl⟩
set_option maxRecDepth 100000 in
set_option maxHeartbeats 1000000 in
theorem qnew_ok (w : World) (o : Nat → Nat) (j x n : Nat) (h1 : 1 ≤ n) (h2 : n ≤ 64) :
    Calls Tryz.prog 7 #[.pointer (some ⟨x, 0, none⟩), .int .i64 (n : Int)] w fun e w' => ∃ g, e = .returned (.tuple #[.pointer (some ⟨g, 0, none⟩), .int .i64 0]) ∧ ∃ v o', IsQ w' o' j g x n 0 v [] ∧ Stp o j w o' w' ∧ Below w.heap.size w w' := by
  have k1 : ¬ ((n : Int) < 1) := by omega
  have k2 : ¬ (64 < (n : Int)) := by omega
  clear h1 h2
  go_enter Tryz.func7, Tryz.ntmps7
  go_wp2_with fail
  go_ret2
  have b1 : Below w.heap.size w (w.alloc (.cells #[.pointer (some ⟨x, 0, none⟩), .int .i64 (n : Int), .int .i64 0, .slice none 0 0] 66)) := (Below.refl _ w).alloc (Nat.le_refl _) _
  refine ⟨_, rfl, .slice none 0 0, gives o w.heap.size j, ⟨At.new w _ _, ?_, by simp, gives_new (Nat.le_refl _), by simp, by simp, by simp⟩, stp_giveNew b1 o j j, b1⟩
  exact ⟨⟨by simp, .inl ⟨rfl, rfl⟩⟩, fun g hg => by cases hg⟩
set_option maxRecDepth 100000 in
set_option maxHeartbeats 1000000 in
theorem qpin_arg (h : IsQ w o j g x n su v E) (D : IsR w o q x S Ws) (k : Int) (hk : k < 0 ∨ (S.length : Int) ≤ k) :
    Calls Tryz.prog 25 #[.pointer (some ⟨g, 0, none⟩), .int .i64 k] w fun y w' => y = .returned (.tuple #[.string ⟨#[]⟩, .int .i64 1]) ∧ w = w' := by
  obtain ⟨vl, vw, D⟩ := D
  obtain ⟨a, C, b, DD, rfl, rfl⟩ := D.slots
  have c0 := D.c0
  have e0 : w.cell? ⟨g, 0, none⟩ = some (.pointer (some ⟨x, 0, none⟩)) := h.hp.cell 0
  clear h D
  by_cases h1 : k < 0
  · clear hk
    go_enter Tryz.func25, Tryz.ntmps25
    go_wp2_with fail
    go_ret2
    exact ⟨rfl, rfl⟩
  · have h2 : (S.length : Int) ≤ k := by omega
    clear hk
    go_enter Tryz.func25, Tryz.ntmps25
    go_wp2_with fail
    go_ret2
    exact ⟨rfl, rfl⟩
end
end Go.Proofs.YthjlbfijfpfohaaGreat
