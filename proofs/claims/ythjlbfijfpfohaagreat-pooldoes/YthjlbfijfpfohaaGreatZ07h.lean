/-
  The document's pool: the contract of Least.
-/
import Derived.Test.YthjlbfijfpfohaaGreatZ07g
namespace Go.Proofs.YthjlbfijfpfohaaGreat
open Go.RowKit Go.MapKept
/-- one place more is looked at -/
def lstepQ (a : Int × Bool) (e : Qn) : Int × Bool := if e.d && (!a.2 || decide (e.fi < a.1)) then (e.fi, true) else a
/-- the least first number of the dirty ones of a row -/
def leastQ (E : List Qn) : Int × Bool := E.foldl lstepQ (0, false)
theorem leastQ_take {E : List Qn} {k : Nat} (h : k < E.length) : leastQ (E.take (k + 1)) = lstepQ (leastQ (E.take k)) E[k] := by
  unfold leastQ
  rw [List.take_succ_eq_append_getElem h, List.foldl_append]; rfl
section
variable {w w' : World} {o o' : Nat → Nat} {i j g x n : Nat} {su : Int} {v : Value} {E : List Qn}
set_option maxRecDepth 100000 in
set_option maxHeartbeats 2000000 in
theorem qleast (h : IsQ w o j g x n su v E) (hl : E.length ≤ 1000) :
    Calls Tryz.prog 10 #[.pointer (some ⟨g, 0, none⟩)] w fun y w' => y = .returned (.tuple #[.int .i64 (leastQ E).1, .bool (leastQ E).2]) ∧ w = w' := by
  obtain ⟨va, vC, rfl⟩ := h.slot
  have HH := Lib.hid h
  have c3 : w.cell? ⟨g, 3, none⟩ = some (.slice va E.length vC) := h.hp.cell 3
  clear h
  go_enter Tryz.func10, Tryz.ntmps10
  go_wp2_with fail
  go_loopw [4, 5, 6] (fun a b u wr => ∃ k : Nat, k ≤ E.length ∧ a = .int .i64 (leastQ (E.take k)).1 ∧ b = .bool (leastQ (E.take k)).2 ∧ u = .int .i64 (k : Int) ∧ wr = w) (fun _ _ u _ => E.length - (intOf u).toNat)
  case atStart => exact ⟨0, by omega, rfl, rfl, rfl, rfl⟩
  case round =>
    obtain ⟨k, hk, rfl, rfl, rfl, rfl⟩ := hrel
    by_cases hlt : k < E.length
    · have h1 : (k : Int) < (E.length : Int) := by omega
      have h0 : (0 : Int) ≤ (k : Int) := by omega
      have he := List.getElem?_eq_getElem hlt
      obtain ⟨gb, C, hv, cc⟩ := HH.out.at' he
      cases hv
      have hm := List.mem_of_getElem? he
      have b3 : wr.cell? ⟨E[k].b, 3, none⟩ = some (.bool E[k].d) := (HH.out.hb _ hm).cell 3
      have b4 : wr.cell? ⟨E[k].b, 4, none⟩ = some (.int .i64 E[k].fi) := (HH.out.hb _ hm).cell 4
      have HT := Lib.hid (leastQ_take hlt)
      unfold qptr at cc
      clear he hm
      generalize leastQ (E.take k) = A at *
      obtain ⟨A1, A2⟩ := A
      generalize E[k] = e at *
      obtain ⟨epg, es, epins, ed, efi, ela, eb⟩ := e
      dsimp only at b3 b4 cc
      cases ed with
      | false =>
        go_wp2_with fail
        exact ⟨⟨k + 1, by omega, by rw [HT.out]; rfl, by rw [HT.out]; rfl, by go_num, trivial⟩, by simp [intOf]; omega⟩
      | true =>
        cases A2 with
        | false =>
          go_wp2_with fail
          exact ⟨⟨k + 1, by omega, by rw [HT.out]; rfl, by rw [HT.out]; rfl, by go_num, trivial⟩, by simp [intOf]; omega⟩
        | true =>
          by_cases hf : efi < A1
          · have hd : decide (efi < A1) = true := decide_eq_true hf
            go_wp2_with fail
            exact ⟨⟨k + 1, by omega, by rw [HT.out]; simp [lstepQ, hf], by rw [HT.out]; simp [lstepQ, hf], by go_num, trivial⟩, by simp [intOf]; omega⟩
          · have hd : decide (efi < A1) = false := decide_eq_false hf
            go_wp2_with fail
            exact ⟨⟨k + 1, by omega, by rw [HT.out]; simp [lstepQ, hf], by rw [HT.out]; simp [lstepQ, hf], by go_num, trivial⟩, by simp [intOf]; omega⟩
    · have h1 : ¬ (k : Int) < (E.length : Int) := by omega
      have hke : E.take k = E := List.take_of_length_le (by omega)
      rw [hke]
      go_wp2_with fail
      go_ret2
      exact ⟨rfl, rfl⟩
end
end Go.Proofs.YthjlbfijfpfohaaGreat
