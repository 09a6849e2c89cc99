/-
  The document's log: the contracts of Room, Write.
-/
import Derived.Test.YthjlbfijfpfohaaV06d
import Derived.BigQuiet
namespace Go.Proofs.Ythjlbfijfpfohaa
open Go.RowKit Go.ChangeMaps
section
variable {w w' : World} {o o' : Nat → Nat} {i j g q p m : Nat} {S : List ByteArray} {Ws : Wrs} {L : LogP}
set_option maxRecDepth 100000 in
theorem vroom (H : IsV w o j g p L) (D : IsR w o q p S Ws) (hm : S.length / 2 = m) (hn : L.n ≤ m) : Calls Try.prog 42 #[.pointer (some ⟨g, 0, none⟩)] w fun e w' => e = .returned (.int .i64 ((m - L.n : Nat) : Int)) ∧ Below w.heap.size w w' := by
  obtain ⟨v, H⟩ := H
  obtain ⟨vl, vw, D⟩ := D
  have hn2 := D.n2
  obtain ⟨da, dC, db, dD, rfl, rfl⟩ := D.slots
  have c0 : w.drew.cell? ⟨g, 0, none⟩ = some (.pointer (some ⟨p, 0, none⟩)) := H.at'.cell 0
  have c3 : w.drew.cell? ⟨g, 3, none⟩ = some (.int .i64 (L.n : Int)) := H.at'.cell 3
  have d0 : w.drew.cell? ⟨p, 0, none⟩ = some (.slice da S.length dC) := D.c0
  have c0' : w.cell? ⟨g, 0, none⟩ = some (.pointer (some ⟨p, 0, none⟩)) := H.at'.cell 0
  have c3' : w.cell? ⟨g, 3, none⟩ = some (.int .i64 (L.n : Int)) := H.at'.cell 3
  have d0' : w.cell? ⟨p, 0, none⟩ = some (.slice da S.length dC) := D.c0
  have hmI : Int.tdiv (S.length : Int) 2 = (m : Int) := by rw [Int.tdiv_eq_ediv_of_nonneg (by omega)]; omega
  have e1 : (m : Int) - (L.n : Int) = ((m - L.n : Nat) : Int) := by omega
  generalize L.n = n at *
  obtain ⟨r, hr⟩ : ∃ r, m - n = r := ⟨_, rfl⟩
  rw [hr] at e1 ⊢
  have hwm : IntKind.i64.wrap (m : Int) = (m : Int) := IntWalk.i64_in _ (by omega)
  have hwr : IntKind.i64.wrap (r : Int) = (r : Int) := IntWalk.i64_in _ (by omega)
  clear H D hr
  generalize S.length = sl at *
  go_enter Try.func42, Try.ntmps42
  go_wp2_with fail
  go_quiet (fail)
  go_wp2_with fail
  go_ret
  refine ⟨?_, below_drew _ _⟩
  first | rfl | (congr 2)
set_option maxRecDepth 100000 in
theorem vwrite_state (H : IsV w o j g p L) (t : ByteArray) (ht : L.tu = some t) (hz : 1 ≤ t.size) : Calls Try.prog 13 #[.pointer (some ⟨g, 0, none⟩)] w fun e w' => e = .returned (.int .i64 9) ∧ w = w' := by
  obtain ⟨v, H⟩ := H
  have A0 := H.at'
  rw [ht] at A0
  have c7 : w.cell? ⟨g, 7, none⟩ = some (.string t) := A0.cell 7
  have n1 := toList_ne t (by omega)
  have n0 := toList_nonempty t (by omega)
  have n2 : (t.toList == ([] : List UInt8)) = false := by cases h : t.toList with
    | nil => exact absurd h n1
    | cons a l => rfl
  have n3 : (t.toList != ([] : List UInt8)) = true := by rw [bne, n2]; rfl
  have n4 : t.toList.isEmpty = false := by cases h : t.toList with
    | nil => exact absurd h n1
    | cons a l => rfl
  clear H ht A0 hz
  go_enter Try.func13, Try.ntmps13
  go_wp2_with fail
  go_ret
  exact ⟨rfl, rfl⟩
end
end Go.Proofs.Ythjlbfijfpfohaa
