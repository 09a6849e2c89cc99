/-
  ModeFits, walked.
-/
import Derived.Test.YtnphgfcbdmhloaaDoorK08
namespace Go.Proofs.YtnphgfcbdmhloaaDoor
open Go.RowKit

set_option maxRecDepth 100000 in
set_option maxHeartbeats 8000000 in
theorem walk_ModeFits (x0 : Int) (_ : (Lit.int .i64 x0).wf = true) (x1 : Int) (_ : (Lit.int .i64 x1).wf = true) (x2 : Int) (_ : (Lit.int .i64 x2).wf = true) (w : World) (hL : Laid8 w) :
    Calls Tryd.prog 4 #[.int .i64 x0, .int .i64 x1, .int .i64 x2] w fun e w' => e = .returned (.bool true) ∧ Below w.heap.size w w' := by
  obtain ⟨a, ha, ea, ea'⟩ := cut7 x0
  obtain ⟨b, hb, eb, eb'⟩ := cut7 x1
  obtain ⟨c, hc, ec, ec'⟩ := cut7 x2
  have A1 := fun W => above_any (a : Int) W
  rw [abV_nat a ha, okE_nat a ha] at A1
  have A2 := fun W => above_any (b : Int) W
  rw [abV_nat b hb, okE_nat b hb] at A2
  have F1 := fun W hW => fits_any (a : Int) (b : Int) W hW
  rw [show fitB (a : Int) (b : Int) = _ from fitB_nat (a) (b) ha hb] at F1
  have F2 := fun W hW => fits_any (b : Int) (a : Int) W hW
  rw [show fitB (b : Int) (a : Int) = _ from fitB_nat (b) (a) hb ha] at F2
  rw [fit_swap a ha b hb] at F2
  have C1 := fun W hW => covers_any (a : Int) (b : Int) W hW
  rw [show covB (a : Int) (b : Int) = _ from covB_nat (a) (b) ha hb] at C1
  have F3 := fun W hW => fits_any (a : Int) (c : Int) W hW
  rw [show fitB (a : Int) (c : Int) = _ from fitB_nat (a) (c) ha hc] at F3
  have F4 := fun W hW => fits_any (b : Int) (c : Int) W hW
  rw [show fitB (b : Int) (c : Int) = _ from fitB_nat (b) (c) hb hc] at F4
  have F5 := fun W hW => fits_any (abN a : Int) (abN b : Int) W hW
  rw [show fitB (abN a : Int) (abN b : Int) = _ from fitB_nat (abN a) (abN b) (Nat.lt_of_le_of_lt (ab_lt a ha) (by decide)) (Nat.lt_of_le_of_lt (ab_lt b hb) (by decide))] at F5
  rw [ab_fit a ha b hb] at F5
  have C2 := fun W hW => covers_any (a : Int) (a : Int) W hW
  rw [show covB (a : Int) (a : Int) = _ from covB_nat (a) (a) ha ha] at C2
  rw [cov_self a ha] at C2
  have C3 := fun W hW => covers_any (b : Int) (c : Int) W hW
  rw [show covB (b : Int) (c : Int) = _ from covB_nat (b) (c) hb hc] at C3
  have C4 := fun W hW => covers_any (a : Int) (c : Int) W hW
  rw [show covB (a : Int) (c : Int) = _ from covB_nat (a) (c) ha hc] at C4
  generalize abN a = p at *
  generalize abN b = q at *
  have CF := Lib.hid fun W hW => fixed8 W hW
  have HL := Lib.hid hL
  have HB := Lib.hid (Below.refl w.heap.size w)
  clear hL
  cases g1 : covN a b
  case' true => cases g2 : fitN a c <;> cases g4 : covN b c
  all_goals cases g3 : fitN a b
  all_goals
    rw [g1] at C1
    try rw [g2] at F3
    rw [g3] at F1 F2
    try rw [g4] at C3
    try rw [fits1 a ha b hb c hc g1 g2] at F4
    try rw [covs1 a ha b hb c hc g1 g4] at C4
    have A1 := Lib.hid A1
    have A2 := Lib.hid A2
    have F1 := Lib.hid F1
    have F2 := Lib.hid F2
    have C1 := Lib.hid C1
    have F3 := Lib.hid F3
    have F4 := Lib.hid F4
    have F5 := Lib.hid F5
    have C2 := Lib.hid C2
    have C3 := Lib.hid C3
    have C4 := Lib.hid C4
    try clear g2 g4
    clear g1 g3
    go_enter Tryd.func4, Tryd.ntmps4
    repeat
      go_wp2_with fail
      first
      | (with_reducible refine (A1.out _).mono ?_); rintro e wx ⟨rfl, rfl⟩
      | (with_reducible refine (A2.out _).mono ?_); rintro e wx ⟨rfl, rfl⟩
      | (with_reducible refine (F1.out _ HL.out).mono ?_); rintro e wx ⟨rfl, rfl⟩
      | (with_reducible refine (F2.out _ HL.out).mono ?_); rintro e wx ⟨rfl, rfl⟩
      | (with_reducible refine (C1.out _ HL.out).mono ?_); rintro e wx ⟨rfl, bx⟩; have HB := Lib.hid (HB.out.trans (bx.mono HB.out.size)); have HL := Lib.hid (HL.out.step bx); clear bx
      | (with_reducible refine (F3.out _ HL.out).mono ?_); rintro e wx ⟨rfl, rfl⟩
      | (with_reducible refine (F4.out _ HL.out).mono ?_); rintro e wx ⟨rfl, rfl⟩
      | (with_reducible refine (F5.out _ HL.out).mono ?_); rintro e wx ⟨rfl, rfl⟩
      | (with_reducible refine (C2.out _ HL.out).mono ?_); rintro e wx ⟨rfl, bx⟩; have HB := Lib.hid (HB.out.trans (bx.mono HB.out.size)); have HL := Lib.hid (HL.out.step bx); clear bx
      | (with_reducible refine (C3.out _ HL.out).mono ?_); rintro e wx ⟨rfl, bx⟩; have HB := Lib.hid (HB.out.trans (bx.mono HB.out.size)); have HL := Lib.hid (HL.out.step bx); clear bx
      | (with_reducible refine (C4.out _ HL.out).mono ?_); rintro e wx ⟨rfl, bx⟩; have HB := Lib.hid (HB.out.trans (bx.mono HB.out.size)); have HL := Lib.hid (HL.out.step bx); clear bx
      | (with_reducible refine (CF.out _ HL.out).mono ?_); rintro e wx ⟨rfl, bx⟩; have HB := Lib.hid (HB.out.trans (bx.mono HB.out.size)); have HL := Lib.hid (HL.out.step bx); clear bx
    go_wp2_with fail
    go_ret
    exact ⟨by first | rfl | (simp; done) | decide, HB.out⟩
end Go.Proofs.YtnphgfcbdmhloaaDoor
