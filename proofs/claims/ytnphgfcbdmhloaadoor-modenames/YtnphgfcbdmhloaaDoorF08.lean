/-
  Calls whose answers the document fixes (law08's fixed).
-/
import Derived.Test.YtnphgfcbdmhloaaDoorE08b
namespace Go.Proofs.YtnphgfcbdmhloaaDoor
open Go.RowKit

set_option maxRecDepth 100000 in
set_option maxHeartbeats 4000000 in
theorem fixed8 (w : World) (hL : Laid8 w) :
    Calls Tryd.prog 21 #[] w fun e w' => e = .returned (.bool true) ∧ Below w.heap.size w w' := by
  have C0 := fun W hW => join_any 2 3 W hW
  simp only [show joV 2 3 = 4 by decide, show okE (md 2 && md 3) = 0 by decide] at C0
  have C1 := fun W hW => join_any 1 5 W hW
  simp only [show joV 1 5 = 5 by decide, show okE (md 1 && md 5) = 0 by decide] at C1
  have C2 := fun W hW => join_any 4 6 W hW
  simp only [show joV 4 6 = 6 by decide, show okE (md 4 && md 6) = 0 by decide] at C2
  have C3 := fun W hW => join_any 7 0 W hW
  simp only [show joV 7 0 = 0 by decide, show okE (md 7 && md 0) = 1 by decide] at C3
  have C4 := fun W => above_any 3 W
  simp only [show abV 3 = 1 by decide, show okE (md 3) = 0 by decide] at C4
  have C5 := fun W hW => parse_any ⟨#[82, 88]⟩ W hW
  simp only [show paV (paN ⟨#[82, 88]⟩ 7) = 6 by decide, show paE (paN ⟨#[82, 88]⟩ 7) = 0 by decide] at C5
  have C6 := fun W hW => parse_any ⟨#[114, 120]⟩ W hW
  simp only [show paV (paN ⟨#[114, 120]⟩ 7) = 0 by decide, show paE (paN ⟨#[114, 120]⟩ 7) = 4 by decide] at C6
  have C7 := fun W => above_any (-1) W
  simp only [show abV (-1) = 0 by decide, show okE (md (-1)) = 1 by decide] at C7
  have C8 := fun W hW => fits_any 3 5 W hW
  simp only [show fitB 3 5 = true by decide] at C8
  have C9 := fun W hW => fits_any 5 5 W hW
  simp only [show fitB 5 5 = false by decide] at C9
  have C10 := fun W hW => fits_any 0 6 W hW
  simp only [show fitB 0 6 = true by decide] at C10
  have C11 := fun W hW => name_any 5 W hW
  simp only [show nmV 5 = ⟨#[82]⟩ by decide] at C11
  have C12 := fun W hW => name_any 7 W hW
  simp only [show nmV 7 = ⟨#[]⟩ by decide] at C12
  have C13 := fun W hW => covers_any 4 3 W hW
  simp only [show covB 4 3 = true by decide] at C13
  have C14 := fun W hW => covers_any 4 6 W hW
  simp only [show covB 4 6 = false by decide] at C14
  have H0 := Lib.hid C0
  have H1 := Lib.hid C1
  have H2 := Lib.hid C2
  have H3 := Lib.hid C3
  have H4 := Lib.hid C4
  have H5 := Lib.hid C5
  have H6 := Lib.hid C6
  have H7 := Lib.hid C7
  have H8 := Lib.hid C8
  have H9 := Lib.hid C9
  have H10 := Lib.hid C10
  have H11 := Lib.hid C11
  have H12 := Lib.hid C12
  have H13 := Lib.hid C13
  have H14 := Lib.hid C14
  clear C0 C1 C2 C3 C4 C5 C6 C7 C8 C9 C10 C11 C12 C13 C14
  have HL0 := Lib.hid hL
  have HB0 := Lib.hid (Below.refl w.heap.size w)
  clear hL
  go_enter Tryd.func21, Tryd.ntmps21
  go_wp2_with fail
  refine (H0.out _ HL0.out).mono ?_; rintro e w1 ⟨rfl, b1⟩
  have HL1 := Lib.hid (HL0.out.step b1)
  have HB1 := Lib.hid (HB0.out.trans (b1.mono HB0.out.size))
  clear b1 HL0 HB0
  go_wp2_with fail
  refine (H1.out _ HL1.out).mono ?_; rintro e w2 ⟨rfl, b2⟩
  have HL2 := Lib.hid (HL1.out.step b2)
  have HB2 := Lib.hid (HB1.out.trans (b2.mono HB1.out.size))
  clear b2 HL1 HB1
  go_wp2_with fail
  refine (H2.out _ HL2.out).mono ?_; rintro e w3 ⟨rfl, b3⟩
  have HL3 := Lib.hid (HL2.out.step b3)
  have HB3 := Lib.hid (HB2.out.trans (b3.mono HB2.out.size))
  clear b3 HL2 HB2
  go_wp2_with fail
  refine (H3.out _ HL3.out).mono ?_; rintro e w4 ⟨rfl, b4⟩
  have HL4 := Lib.hid (HL3.out.step b4)
  have HB4 := Lib.hid (HB3.out.trans (b4.mono HB3.out.size))
  clear b4 HL3 HB3
  go_wp2_with fail
  refine (H4.out _).mono ?_; rintro e wx ⟨rfl, rfl⟩
  go_wp2_with fail
  refine (H5.out _ HL4.out).mono ?_; rintro e wx ⟨rfl, rfl⟩
  go_wp2_with fail
  refine (H6.out _ HL4.out).mono ?_; rintro e wx ⟨rfl, rfl⟩
  go_wp2_with fail
  refine (H7.out _).mono ?_; rintro e wx ⟨rfl, rfl⟩
  go_wp2_with fail
  refine (H8.out _ HL4.out).mono ?_; rintro e wx ⟨rfl, rfl⟩
  go_wp2_with fail
  refine (H9.out _ HL4.out).mono ?_; rintro e wx ⟨rfl, rfl⟩
  go_wp2_with fail
  refine (H10.out _ HL4.out).mono ?_; rintro e wx ⟨rfl, rfl⟩
  go_wp2_with fail
  refine (H11.out _ HL4.out).mono ?_; rintro e wx ⟨rfl, rfl⟩
  go_wp2_with fail
  refine (H12.out _ HL4.out).mono ?_; rintro e wx ⟨rfl, rfl⟩
  go_wp2_with fail
  refine (H13.out _ HL4.out).mono ?_; rintro e w5 ⟨rfl, b5⟩
  have HL5 := Lib.hid (HL4.out.step b5)
  have HB5 := Lib.hid (HB4.out.trans (b5.mono HB4.out.size))
  clear b5 HL4 HB4
  go_wp2_with fail
  refine (H14.out _ HL5.out).mono ?_; rintro e w6 ⟨rfl, b6⟩
  have HL6 := Lib.hid (HL5.out.step b6)
  have HB6 := Lib.hid (HB5.out.trans (b6.mono HB5.out.size))
  clear b6 HL5 HB5
  go_wp2_with fail
  go_ret
  exact ⟨by first | rfl | (simp; done) | decide, HB6.out⟩
end Go.Proofs.YtnphgfcbdmhloaaDoor
