/-
  ModeLess, walked.
-/
import Derived.Test.YtnphgfcbdmhloaaDoorK08
namespace Go.Proofs.YtnphgfcbdmhloaaDoor
open Go.RowKit

set_option maxRecDepth 100000 in
set_option maxHeartbeats 4000000 in
theorem walk_ModeLess (x0 : Int) (_ : (Lit.int .i64 x0).wf = true) (x1 : Int) (_ : (Lit.int .i64 x1).wf = true) (x2 : Int) (_ : (Lit.int .i64 x2).wf = true) (w : World) (hL : Laid8 w) :
    Calls Tryd.prog 7 #[.int .i64 x0, .int .i64 x1, .int .i64 x2] w fun e w' => e = .returned (.bool true) ∧ Below w.heap.size w w' := by
  obtain ⟨a, ha, ea, ea'⟩ := cut7 x0
  obtain ⟨b, hb, eb, eb'⟩ := cut7 x1
  obtain ⟨c, hc, ec, ec'⟩ := cut7 x2
  have F1 := fun W hW => fits_any (c : Int) (a : Int) W hW
  have F2 := fun W hW => fits_any (c : Int) (b : Int) W hW
  have F3 := fun W hW => fits_any 0 (a : Int) W hW
  have F4 := fun W hW => fits_any (a : Int) 4 W hW
  have F5 := fun W hW => fits_any (a : Int) 6 W hW
  have C1 := fun W hW => covers_any (a : Int) (b : Int) W hW
  have C2 := fun W hW => covers_any (a : Int) 0 W hW
  have C3 := fun W hW => covers_any (a : Int) 6 W hW
  have C4 := fun W hW => covers_any 6 (a : Int) W hW
  rw [show fitB (c : Int) (a : Int) = _ from fitB_nat c a hc ha] at F1
  rw [show fitB (c : Int) (b : Int) = _ from fitB_nat c b hc hb] at F2
  rw [show fitB 0 (a : Int) = true from (fitB_nat 0 a (by decide) ha).trans (fit_none a ha)] at F3
  rw [show fitB (a : Int) 4 = _ from fitB_nat a 4 ha (by decide)] at F4
  rw [show fitB (a : Int) 6 = _ from fitB_nat a 6 ha (by decide)] at F5
  rw [show covB (a : Int) (b : Int) = _ from covB_nat a b ha hb] at C1
  rw [show covB (a : Int) 0 = true from (covB_nat a 0 ha (by decide)).trans (cov_none a ha)] at C2
  rw [show covB (a : Int) 6 = _ from (covB_nat a 6 ha (by decide)).trans (cov_rx a ha)] at C3
  rw [show covB 6 (a : Int) = true from (covB_nat 6 a (by decide) ha).trans (rx_cov a ha)] at C4
  have CF := Lib.hid fun W hW => fixed8 W hW
  have HL := Lib.hid hL
  have HB := Lib.hid (Below.refl w.heap.size w)
  clear hL
  have hs : a = 0 ∨ (a ≠ 0 ∧ a ≠ 6) ∨ a = 6 := by omega
  cases g1 : covN a b <;> cases g2 : fitN c a <;> obtain hs | hs | hs := hs
  all_goals
    rw [g1] at C1
    rw [g2] at F1
    try rw [less1 a ha b hb c hc g1 g2] at F2
    try rw [fit_x a ha hs.1] at F4
    try rw [fit_x a ha (by omega)] at F4
    try rw [fit_rx a ha hs.1] at F5
    try rw [fit_rx a ha (by omega)] at F5
    first | rw [decide_eq_true hs] at C3 | rw [decide_eq_false hs.2] at C3 | rw [decide_eq_false (by omega)] at C3
    have a6 : ((a : Int) == 6) = decide (a = 6) := by by_cases h : a = 6 <;> simp [h] <;> omega
    have a0 : ((a : Int) == 0) = decide (a = 0) := by by_cases h : a = 0 <;> simp [h]
    first | rw [decide_eq_true hs] at a6 | rw [decide_eq_false hs.2] at a6 | rw [decide_eq_false (by omega)] at a6
    first | rw [decide_eq_true hs] at a0 | rw [decide_eq_false hs.1] at a0 | rw [decide_eq_false (by omega)] at a0
    have F1 := Lib.hid F1
    have F2 := Lib.hid F2
    have F3 := Lib.hid F3
    have F4 := Lib.hid F4
    have F5 := Lib.hid F5
    have C1 := Lib.hid C1
    have C2 := Lib.hid C2
    have C3 := Lib.hid C3
    have C4 := Lib.hid C4
    clear g1 g2 hs
    go_enter Tryd.func7, Tryd.ntmps7
    repeat
      go_wp2_with fail
      first
      | (with_reducible refine (F1.out _ HL.out).mono ?_); rintro e wx ⟨rfl, rfl⟩
      | (with_reducible refine (F2.out _ HL.out).mono ?_); rintro e wx ⟨rfl, rfl⟩
      | (with_reducible refine (F3.out _ HL.out).mono ?_); rintro e wx ⟨rfl, rfl⟩
      | (with_reducible refine (F4.out _ HL.out).mono ?_); rintro e wx ⟨rfl, rfl⟩
      | (with_reducible refine (F5.out _ HL.out).mono ?_); rintro e wx ⟨rfl, rfl⟩
      | (with_reducible refine (C1.out _ HL.out).mono ?_); rintro e wx ⟨rfl, bx⟩; have HB := Lib.hid (HB.out.trans (bx.mono HB.out.size)); have HL := Lib.hid (HL.out.step bx); clear bx
      | (with_reducible refine (C2.out _ HL.out).mono ?_); rintro e wx ⟨rfl, bx⟩; have HB := Lib.hid (HB.out.trans (bx.mono HB.out.size)); have HL := Lib.hid (HL.out.step bx); clear bx
      | (with_reducible refine (C3.out _ HL.out).mono ?_); rintro e wx ⟨rfl, bx⟩; have HB := Lib.hid (HB.out.trans (bx.mono HB.out.size)); have HL := Lib.hid (HL.out.step bx); clear bx
      | (with_reducible refine (C4.out _ HL.out).mono ?_); rintro e wx ⟨rfl, bx⟩; have HB := Lib.hid (HB.out.trans (bx.mono HB.out.size)); have HL := Lib.hid (HL.out.step bx); clear bx
      | (with_reducible refine (CF.out _ HL.out).mono ?_); rintro e wx ⟨rfl, bx⟩; have HB := Lib.hid (HB.out.trans (bx.mono HB.out.size)); have HL := Lib.hid (HL.out.step bx); clear bx
    go_wp2_with fail
    go_ret
    exact ⟨by first | rfl | (simp; done) | decide, HB.out⟩
end Go.Proofs.YtnphgfcbdmhloaaDoor
