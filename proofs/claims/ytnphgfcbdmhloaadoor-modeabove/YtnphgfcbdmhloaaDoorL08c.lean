/-
  ModeAbove, walked.
-/
import Derived.Test.YtnphgfcbdmhloaaDoorK08
namespace Go.Proofs.YtnphgfcbdmhloaaDoor
open Go.RowKit

set_option maxRecDepth 100000 in
set_option maxHeartbeats 8000000 in
theorem walk_ModeAbove (x0 : Int) (_ : (Lit.int .i64 x0).wf = true) (x1 : Int) (_ : (Lit.int .i64 x1).wf = true) (w : World) (hL : Laid8 w) :
    Calls Tryd.prog 8 #[.int .i64 x0, .int .i64 x1] w fun e w' => e = .returned (.bool true) ∧ Below w.heap.size w w' := by
  obtain ⟨a, ha, ea, ea'⟩ := cut7 x0
  obtain ⟨b, hb, eb, eb'⟩ := cut7 x1
  have A1 := fun W => above_any (a : Int) W
  rw [abV_nat a ha, okE_nat a ha] at A1
  have A2 := fun W => above_any (b : Int) W
  rw [abV_nat b hb, okE_nat b hb] at A2
  have C1 := fun W hW => covers_any (a : Int) (b : Int) W hW
  rw [show covB (a : Int) (b : Int) = _ from covB_nat (a) (b) ha hb] at C1
  have C2 := fun W hW => covers_any (abN a : Int) (abN b : Int) W hW
  rw [show covB (abN a : Int) (abN b : Int) = _ from covB_nat (abN a) (abN b) (Nat.lt_of_le_of_lt (ab_lt a ha) (by decide)) (Nat.lt_of_le_of_lt (ab_lt b hb) (by decide))] at C2
  have F1 := fun W hW => fits_any (abN a : Int) (abN b : Int) W hW
  rw [show fitB (abN a : Int) (abN b : Int) = _ from fitB_nat (abN a) (abN b) (Nat.lt_of_le_of_lt (ab_lt a ha) (by decide)) (Nat.lt_of_le_of_lt (ab_lt b hb) (by decide))] at F1
  rw [ab_fit a ha b hb] at F1
  have cv := ab_cov a ha b hb
  have p2 : (abN a : Int) ≤ 2 := by have := ab_lt a ha; omega
  have pn := ab_none a ha
  generalize abN a = p at *
  generalize abN b = q at *
  have CF := Lib.hid fun W hW => fixed8 W hW
  have HL := Lib.hid hL
  have HB := Lib.hid (Below.refl w.heap.size w)
  clear hL
  cases g1 : covN a b <;> cases g2 : (decide (a = 0) : Bool)
  all_goals
    rw [g1] at C1
    try rw [cv g1] at C2
    have a0 : ((a : Int) == 0) = decide (a = 0) := by by_cases h : a = 0 <;> simp [h]
    have p0 : ((p : Int) == 0) = decide (a = 0) := by by_cases h : a = 0 <;> simp [h, pn]
    rw [g2] at a0 p0
    have A1 := Lib.hid A1
    have A2 := Lib.hid A2
    have C1 := Lib.hid C1
    have C2 := Lib.hid C2
    have F1 := Lib.hid F1
    clear g1 g2 pn cv
    go_enter Tryd.func8, Tryd.ntmps8
    repeat
      go_wp2_with fail
      first
      | (with_reducible refine (A1.out _).mono ?_); rintro e wx ⟨rfl, rfl⟩
      | (with_reducible refine (A2.out _).mono ?_); rintro e wx ⟨rfl, rfl⟩
      | (with_reducible refine (C1.out _ HL.out).mono ?_); rintro e wx ⟨rfl, bx⟩; have HB := Lib.hid (HB.out.trans (bx.mono HB.out.size)); have HL := Lib.hid (HL.out.step bx); clear bx
      | (with_reducible refine (C2.out _ HL.out).mono ?_); rintro e wx ⟨rfl, bx⟩; have HB := Lib.hid (HB.out.trans (bx.mono HB.out.size)); have HL := Lib.hid (HL.out.step bx); clear bx
      | (with_reducible refine (F1.out _ HL.out).mono ?_); rintro e wx ⟨rfl, rfl⟩
      | (with_reducible refine (CF.out _ HL.out).mono ?_); rintro e wx ⟨rfl, bx⟩; have HB := Lib.hid (HB.out.trans (bx.mono HB.out.size)); have HL := Lib.hid (HL.out.step bx); clear bx
    go_wp2_with fail
    go_ret
    exact ⟨by first | rfl | (simp; done) | decide, HB.out⟩
end Go.Proofs.YtnphgfcbdmhloaaDoor
