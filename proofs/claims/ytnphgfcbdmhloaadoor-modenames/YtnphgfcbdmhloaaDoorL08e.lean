/-
  ModeNames, walked.
-/
import Derived.Test.YtnphgfcbdmhloaaDoorK08
namespace Go.Proofs.YtnphgfcbdmhloaaDoor
open Go.RowKit

theorem pa_name : ∀ a, a < 7 → paN (nmS a) 7 = some a := by decide +kernel
theorem pa_empty : paN ⟨#[]⟩ 7 = none := by decide +kernel
theorem nm_some : ∀ a, a < 7 → nmS a ≠ ⟨#[]⟩ := by decide +kernel
theorem nm_some' : ∀ a, a < 7 → (nmS a).data.toList.isEmpty = false := by decide +kernel
theorem nmV_nat (a : Nat) (h : a < 7) : nmV (a : Int) = nmS a := by unfold nmV; rw [md_nat, decide_eq_true h]; rfl
theorem nmV_no (m : Int) (h : md m = false) : nmV m = ⟨#[]⟩ := by unfold nmV; rw [h]; rfl
set_option maxRecDepth 100000 in
set_option maxHeartbeats 8000000 in
theorem walk_ModeNames (m : Int) (_ : (Lit.int .i64 m).wf = true) (s : ByteArray) (hs : s.size ≤ maxLen) (w : World) (hL : Laid8 w) :
    Calls Tryd.prog 6 #[.int .i64 m, .string s] w fun e w' => e = .returned (.bool true) ∧ Below w.heap.size w w' := by
  have hx : (s.extract 0 20).size ≤ 20 := by rw [ByteArray.size_extract]; omega
  have hmx : (s.size : Int) ≤ 9223372036854775807 := by simp [maxLen] at hs; omega
  have HX := Lib.hid hx; clear hx hs
  have HL := Lib.hid hL
  have CF := Lib.hid fixed8
  clear hL
  go_enter Tryd.func6, Tryd.ntmps6
  go_upto_region 1 with fail
  go_cut [1] (fun s0 wx => wx = w ∧ ∃ T : ByteArray, s0 = .string T ∧ T.size ≤ 20)
  case first =>
    go_wp2
    · go_meet; exact ⟨rfl, _, rfl, HX.out⟩
    · go_meet; exact ⟨rfl, _, rfl, by omega⟩
  case rest =>
    obtain ⟨rfl, T, rfl, hT⟩ := hcut
    clear HX hmx
    have N1 := fun W hW => name_any m W hW
    have P1 := fun W hW => parse_any (nmV m) W hW
    have P2 := fun W hW => parse_any T W hW
    have ee := toList_beq8 ⟨#[]⟩ ⟨#[]⟩
    rw [decide_eq_true rfl] at ee
    have HB := Lib.hid (Below.refl wc.heap.size wc)
    clear hT
    cases hp : paN T 7
    case' some k =>
      have hk := paN_is T 7 (by decide) k hp
      have N2 := fun W hW => name_any (k : Int) W hW
      rw [nmV_nat k hk.1, hk.2] at N2
      have N2 := Lib.hid N2
      have et := toList_beq8 T T
      rw [decide_eq_true rfl] at et
      clear hk
    all_goals
      rw [hp] at P2
      simp only [paV, paE] at P2
      have P2 := Lib.hid P2
      clear hp
      cases hm : md m
    case' none.false | some.false =>
      have hm' : m < 0 ∨ 7 ≤ m := by
        by_cases h1 : 0 ≤ m
        · by_cases h2 : m < 7
          · rw [show md m = true from decide_eq_true ⟨h1, h2⟩] at hm; cases hm
          · exact Or.inr (by omega)
        · exact Or.inl (by omega)
      rw [nmV_no m hm] at N1 P1
      rw [pa_empty] at P1
      clear hm
      obtain hm' | hm' := hm'
    case' none.true | some.true =>
      obtain ⟨a, ha, em⟩ := md_in hm
      rw [em, nmV_nat a ha, ← em] at N1
      rw [em, nmV_nat a ha] at P1
      rw [pa_name a ha] at P1
      simp only [paV] at P1
      rw [← em] at P1
      have h0 : 0 ≤ m := by omega
      have h7 : m < 7 := by omega
      have en := toList_beq8 (nmS a) ⟨#[]⟩
      rw [decide_eq_false (nm_some a ha)] at en
      have ei : (nmS a).toList.isEmpty = false := by rw [Lib.toList_data]; exact nm_some' a ha
      generalize nmS a = NA at *
      clear hm ha em
    all_goals
      simp only [paE] at P1
      try simp only [paV] at P1
      have N1 := Lib.hid N1
      have P1 := Lib.hid P1
      repeat
        go_wp2_with fail
        first
        | (with_reducible refine (N1.out _ HL.out).mono ?_); rintro e wx ⟨rfl, rfl⟩
        | (with_reducible refine (P1.out _ HL.out).mono ?_); rintro e wx ⟨rfl, rfl⟩
        | (with_reducible refine (P2.out _ HL.out).mono ?_); rintro e wx ⟨rfl, rfl⟩
        | (with_reducible refine (N2.out _ HL.out).mono ?_); rintro e wx ⟨rfl, rfl⟩
        | (with_reducible refine (CF.out _ HL.out).mono ?_); rintro e wx ⟨rfl, bx⟩; have HB := Lib.hid (HB.out.trans (bx.mono HB.out.size)); have HL := Lib.hid (HL.out.step bx); clear bx
      go_wp2_with fail
      go_ret
      exact ⟨by first | rfl | (simp; done) | decide, HB.out⟩
end Go.Proofs.YtnphgfcbdmhloaaDoor
