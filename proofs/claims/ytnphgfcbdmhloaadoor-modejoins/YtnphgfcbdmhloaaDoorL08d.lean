/-
  ModeJoins, walked.
-/
import Derived.Test.YtnphgfcbdmhloaaDoorK08
namespace Go.Proofs.YtnphgfcbdmhloaaDoor
open Go.RowKit

set_option maxRecDepth 100000 in
set_option maxHeartbeats 8000000 in
theorem walk_ModeJoins (x0 : Int) (_ : (Lit.int .i64 x0).wf = true) (x1 : Int) (_ : (Lit.int .i64 x1).wf = true) (x2 : Int) (_ : (Lit.int .i64 x2).wf = true) (w : World) (hL : Laid8 w) :
    Calls Tryd.prog 5 #[.int .i64 x0, .int .i64 x1, .int .i64 x2] w fun e w' => e = .returned (.bool true) ∧ Below w.heap.size w w' := by
  obtain ⟨a, ha, ea, ea'⟩ := cut7 x0
  obtain ⟨b, hb, eb, eb'⟩ := cut7 x1
  obtain ⟨c, hc, ec, ec'⟩ := cut7 x2
  have J1 := fun W hW => join_in a b ha hb W hW
  have J2 := fun W hW => join_in b a hb ha W hW
  rw [jn_swap a ha b hb] at J2
  have J3 := fun W hW => join_in (jn a b 7) c (jn_lt a b 7 (by decide)) hc W hW
  rw [jn_group a ha b hb c hc] at J3
  have J4 := fun W hW => join_in b c hb hc W hW
  have J5 := fun W hW => join_in a (jn b c 7) ha (jn_lt b c 7 (by decide)) W hW
  have J6 := fun W hW => join_in a a ha ha W hW
  rw [jn_self a ha] at J6
  have C1 := fun W hW => covers_in (jn a b 7) a (jn_lt a b 7 (by decide)) ha W hW
  rw [jn_left a ha b hb] at C1
  have C2 := fun W hW => covers_in (jn a b 7) b (jn_lt a b 7 (by decide)) hb W hW
  rw [jn_right a ha b hb] at C2
  have C3 := fun W hW => covers_in c a hc ha W hW
  have C4 := fun W hW => covers_in c b hc hb W hW
  have C5 := fun W hW => covers_in c (jn a b 7) hc (jn_lt a b 7 (by decide)) W hW
  have cv := jn_least a ha b hb c hc
  generalize jn a (jn b c 7) 7 = l at *
  generalize jn b c 7 = z at *
  generalize jn a b 7 = x at *
  have CF := Lib.hid fun W hW => fixed8 W hW
  have HL := Lib.hid hL
  have HB := Lib.hid (Below.refl w.heap.size w)
  clear hL
  cases g1 : covN c a <;> cases g2 : covN c b
  all_goals
    rw [g1] at C3
    rw [g2] at C4
    try rw [cv g1 g2] at C5
    have J1 := Lib.hid J1
    have J2 := Lib.hid J2
    have J3 := Lib.hid J3
    have J4 := Lib.hid J4
    have J5 := Lib.hid J5
    have J6 := Lib.hid J6
    have C1 := Lib.hid C1
    have C2 := Lib.hid C2
    have C3 := Lib.hid C3
    have C4 := Lib.hid C4
    have C5 := Lib.hid C5
    clear g1 g2 cv
    go_enter Tryd.func5, Tryd.ntmps5
    repeat
      go_wp2_with fail
      first
      | (with_reducible refine (J1.out _ HL.out).mono ?_); rintro e wx ⟨rfl, bx⟩; have HB := Lib.hid (HB.out.trans (bx.mono HB.out.size)); have HL := Lib.hid (HL.out.step bx); clear bx
      | (with_reducible refine (J2.out _ HL.out).mono ?_); rintro e wx ⟨rfl, bx⟩; have HB := Lib.hid (HB.out.trans (bx.mono HB.out.size)); have HL := Lib.hid (HL.out.step bx); clear bx
      | (with_reducible refine (J3.out _ HL.out).mono ?_); rintro e wx ⟨rfl, bx⟩; have HB := Lib.hid (HB.out.trans (bx.mono HB.out.size)); have HL := Lib.hid (HL.out.step bx); clear bx
      | (with_reducible refine (J4.out _ HL.out).mono ?_); rintro e wx ⟨rfl, bx⟩; have HB := Lib.hid (HB.out.trans (bx.mono HB.out.size)); have HL := Lib.hid (HL.out.step bx); clear bx
      | (with_reducible refine (J5.out _ HL.out).mono ?_); rintro e wx ⟨rfl, bx⟩; have HB := Lib.hid (HB.out.trans (bx.mono HB.out.size)); have HL := Lib.hid (HL.out.step bx); clear bx
      | (with_reducible refine (J6.out _ HL.out).mono ?_); rintro e wx ⟨rfl, bx⟩; have HB := Lib.hid (HB.out.trans (bx.mono HB.out.size)); have HL := Lib.hid (HL.out.step bx); clear bx
      | (with_reducible refine (C1.out _ HL.out).mono ?_); rintro e wx ⟨rfl, bx⟩; have HB := Lib.hid (HB.out.trans (bx.mono HB.out.size)); have HL := Lib.hid (HL.out.step bx); clear bx
      | (with_reducible refine (C2.out _ HL.out).mono ?_); rintro e wx ⟨rfl, bx⟩; have HB := Lib.hid (HB.out.trans (bx.mono HB.out.size)); have HL := Lib.hid (HL.out.step bx); clear bx
      | (with_reducible refine (C3.out _ HL.out).mono ?_); rintro e wx ⟨rfl, bx⟩; have HB := Lib.hid (HB.out.trans (bx.mono HB.out.size)); have HL := Lib.hid (HL.out.step bx); clear bx
      | (with_reducible refine (C4.out _ HL.out).mono ?_); rintro e wx ⟨rfl, bx⟩; have HB := Lib.hid (HB.out.trans (bx.mono HB.out.size)); have HL := Lib.hid (HL.out.step bx); clear bx
      | (with_reducible refine (C5.out _ HL.out).mono ?_); rintro e wx ⟨rfl, bx⟩; have HB := Lib.hid (HB.out.trans (bx.mono HB.out.size)); have HL := Lib.hid (HL.out.step bx); clear bx
      | (with_reducible refine (CF.out _ HL.out).mono ?_); rintro e wx ⟨rfl, bx⟩; have HB := Lib.hid (HB.out.trans (bx.mono HB.out.size)); have HL := Lib.hid (HL.out.step bx); clear bx
    go_wp2_with fail
    go_ret
    exact ⟨by first | rfl | (simp; done) | decide, HB.out⟩
end Go.Proofs.YtnphgfcbdmhloaaDoor
