/-
  ModeTells, walked.
-/
import Derived.Test.YtnphgfcbdmhloaaDoorC08c
import Derived.Test.YtnphgfcbdmhloaaDoorF08
namespace Go.Proofs.YtnphgfcbdmhloaaDoor
open Go.RowKit

set_option maxRecDepth 100000 in
set_option maxHeartbeats 8000000 in
theorem walk_ModeTells (a : Int) (_ : (Lit.int .i64 a).wf = true) (b : Int) (_ : (Lit.int .i64 b).wf = true) (s : ByteArray) (_ : s.size ≤ maxLen) (w : World) (hL : Laid8 w) :
    Calls Tryd.prog 3 #[.int .i64 a, .int .i64 b, .string s] w fun e w' => e = .returned (.bool true) ∧ Below w.heap.size w w' := by
  have J1 := fun W hW => join_any a b W hW
  have J2 := fun W => rjoin_any a b W
  have A1 := fun W => above_any a W
  have A2 := fun W => rabove_any a W
  have P1 := fun W hW => parse_any s W hW
  have P2 := fun W => rparse_any s W
  have F1 := fun W hW => fits_any a b W hW
  have F2 := fun W => rfits_any a b W
  have C1 := fun W hW => covers_any a b W hW
  have C2 := fun W => rcovers_any a b W
  have N1 := fun W hW => name_any a W hW
  have N2 := fun W => rname_any a W
  have CF := fun W hW => fixed8 W hW
  have en := toList_beq8 (nmV a) (nmV a)
  rw [decide_eq_true rfl] at en
  generalize joV a b = x1 at *
  generalize okE (md a && md b) = x2 at *
  generalize abV a = x3 at *
  generalize okE (md a) = x4 at *
  generalize paV (paN s 7) = x5 at *
  generalize paE (paN s 7) = x6 at *
  generalize fitB a b = x7 at *
  generalize covB a b = x8 at *
  generalize nmV a = x9 at *
  have e7 : (x7 == x7) = true := by simp
  have e8 : (x8 == x8) = true := by simp
  have J1 := Lib.hid J1
  have J2 := Lib.hid J2
  have A1 := Lib.hid A1
  have A2 := Lib.hid A2
  have P1 := Lib.hid P1
  have P2 := Lib.hid P2
  have F1 := Lib.hid F1
  have F2 := Lib.hid F2
  have C1 := Lib.hid C1
  have C2 := Lib.hid C2
  have N1 := Lib.hid N1
  have N2 := Lib.hid N2
  have CF := Lib.hid CF
  have HL := Lib.hid hL
  have HB := Lib.hid (Below.refl w.heap.size w)
  clear hL
  go_enter Tryd.func3, Tryd.ntmps3
  repeat
    go_wp2_with fail
    first
    | (with_reducible refine (A1.out _).mono ?_); rintro e wx ⟨rfl, rfl⟩
    | (with_reducible refine (P1.out _ HL.out).mono ?_); rintro e wx ⟨rfl, rfl⟩
    | (with_reducible refine (F1.out _ HL.out).mono ?_); rintro e wx ⟨rfl, rfl⟩
    | (with_reducible refine (N1.out _ HL.out).mono ?_); rintro e wx ⟨rfl, rfl⟩
    | (with_reducible refine (J1.out _ HL.out).mono ?_); rintro e wx ⟨rfl, bx⟩; have HB := Lib.hid (HB.out.trans (bx.mono HB.out.size)); have HL := Lib.hid (HL.out.step bx); clear bx
    | (with_reducible refine (C1.out _ HL.out).mono ?_); rintro e wx ⟨rfl, bx⟩; have HB := Lib.hid (HB.out.trans (bx.mono HB.out.size)); have HL := Lib.hid (HL.out.step bx); clear bx
    | (with_reducible refine (CF.out _ HL.out).mono ?_); rintro e wx ⟨rfl, bx⟩; have HB := Lib.hid (HB.out.trans (bx.mono HB.out.size)); have HL := Lib.hid (HL.out.step bx); clear bx
    | (with_reducible refine (J2.out _).mono ?_); rintro e wx ⟨rfl, bx⟩; have HB := Lib.hid (HB.out.trans (bx.mono HB.out.size)); have HL := Lib.hid (HL.out.step bx); clear bx
    | (with_reducible refine (A2.out _).mono ?_); rintro e wx ⟨rfl, bx⟩; have HB := Lib.hid (HB.out.trans (bx.mono HB.out.size)); have HL := Lib.hid (HL.out.step bx); clear bx
    | (with_reducible refine (P2.out _).mono ?_); rintro e wx ⟨rfl, bx⟩; have HB := Lib.hid (HB.out.trans (bx.mono HB.out.size)); have HL := Lib.hid (HL.out.step bx); clear bx
    | (with_reducible refine (F2.out _).mono ?_); rintro e wx ⟨rfl, bx⟩; have HB := Lib.hid (HB.out.trans (bx.mono HB.out.size)); have HL := Lib.hid (HL.out.step bx); clear bx
    | (with_reducible refine (C2.out _).mono ?_); rintro e wx ⟨rfl, bx⟩; have HB := Lib.hid (HB.out.trans (bx.mono HB.out.size)); have HL := Lib.hid (HL.out.step bx); clear bx
    | (with_reducible refine (N2.out _).mono ?_); rintro e wx ⟨rfl, bx⟩; have HB := Lib.hid (HB.out.trans (bx.mono HB.out.size)); have HL := Lib.hid (HL.out.step bx); clear bx
  go_wp2_with fail
  go_ret
  exact ⟨by first | rfl | (simp; done) | decide, HB.out⟩
end Go.Proofs.YtnphgfcbdmhloaaDoor
