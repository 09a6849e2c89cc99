/-
  The law package's fixed(): its calls with literal arguments, and that it answers true.
-/
import Derived.Test.YthekbhhmbjjdgaaS3
import Derived.Test.YthekbhhmbjjdgaaS4
import Derived.Test.YthekbhhmbjjdgaaS5
namespace Go.Proofs.Ythekbhhmbjjdgaa
open Go.RowKit

def zeros (n : Nat) : ByteArray := ⟨(List.replicate n 0).toArray⟩
theorem zeros_size (n : Nat) : (zeros n).size = n := by rw [Lib.size_eq]; show (List.replicate n (0 : UInt8)).length = n; simp
theorem zeros256 : okPage (zeros 256) = false := by decide +kernel
theorem crc_digits : crcOf [49, 50, 51, 52, 53, 54, 55, 56, 57] = 3808858755 := by decide +kernel
theorem crc_nil : crcOf [] = 0 := by decide +kernel

section
variable (w : World)
theorem fx1 : Calls Try.prog 9 #[.string ⟨#[97, 98]⟩] w fun e w' => e = .returned (.tuple #[.string (pageOf ⟨#[97, 98]⟩), .int .i64 0]) ∧ Below w.heap.size w w' := seal_ok ⟨#[97, 98]⟩ w (by decide)
theorem fx2 : Calls Try.prog 11 #[.string (pageOf ⟨#[97, 98]⟩)] w fun e w' => e = .returned (.tuple #[.string (padOf ⟨#[97, 98]⟩ 252), .int .i64 0]) ∧ Below w.heap.size w w' := by
  have h := open_ok (pageOf ⟨#[97, 98]⟩) w (pageOf_size _ (by decide)) (okPage_pageOf _ (by decide))
  rw [pageOf_extract _ (by decide)] at h; exact h
theorem fx3 : Calls Try.prog 9 #[.string (zeros 253)] w fun e w' => e = .returned (.tuple #[.string ⟨#[]⟩, .int .i64 2]) ∧ w = w' := seal_big (zeros 253) w (by rw [zeros_size]; omega)
theorem fx4 : Calls Try.prog 11 #[.string ⟨#[97, 98]⟩] w fun e w' => e = .returned (.tuple #[.string ⟨#[]⟩, .int .i64 4]) ∧ w = w' := open_form ⟨#[97, 98]⟩ w (by decide) (by decide)
theorem fx5 : Calls Try.prog 11 #[.string (zeros 256)] w fun e w' => e = .returned (.tuple #[.string ⟨#[]⟩, .int .i64 5]) ∧ Below w.heap.size w w' := open_sum (zeros 256) w (zeros_size _) zeros256
theorem fx6 : Calls Try.prog 18 #[.string ⟨#[97, 98]⟩, .int .i64 252] w fun e w' => e = .returned (.tuple #[.string (padOf ⟨#[97, 98]⟩ 252), .int .i64 0]) ∧ Below w.heap.size w w' := rpad252 ⟨#[97, 98]⟩ w (by decide)
theorem fx7 : Calls Try.prog 13 #[.string ⟨#[49, 50, 51, 52, 53, 54, 55, 56, 57]⟩] w fun e w' => e = .returned (.int .u32 3808858755) ∧ Below w.heap.size w w' := by
  have h := of_any ⟨#[49, 50, 51, 52, 53, 54, 55, 56, 57]⟩ w (by decide)
  rw [show crcOf (⟨#[49, 50, 51, 52, 53, 54, 55, 56, 57]⟩ : ByteArray).data.toList = 3808858755 from crc_digits] at h; exact h
theorem fx8 : Calls Try.prog 13 #[.string ⟨#[]⟩] w fun e w' => e = .returned (.int .u32 0) ∧ Below w.heap.size w w' := by
  have h := of_any ⟨#[]⟩ w (by decide)
  rw [show crcOf (⟨#[]⟩ : ByteArray).data.toList = 0 from crc_nil] at h; exact h
theorem fx9 : Calls Try.prog 15 #[.string ⟨#[97, 98]⟩, .string ⟨#[120, 121, 122]⟩] w fun e w' => e = .returned (.string ⟨#[97, 98]⟩) ∧ Below w.heap.size w w' := by
  have h := torn_any ⟨#[97, 98]⟩ ⟨#[120, 121, 122]⟩ w (by decide) (by decide)
  rw [show tornOf ⟨#[97, 98]⟩ ⟨#[120, 121, 122]⟩ = ⟨#[97, 98]⟩ by decide +kernel] at h; exact h
theorem mk_zeros (n : Nat) (k : Int) (hk : k = n) (hn : n ≤ 1000000) : (Instr.makeSlice 32 (.int .i64 k) (.int .i64 k)).run Try.prog w = .ok (.slice (some ⟨w.heap.size, 0, none⟩) n n) (w.alloc (.cells (brow (List.replicate n 0)) 5)) := by
  subst hk
  obtain ⟨ib, hi, hz0, hz1, hz2⟩ := Try.info_byte
  exact run_make_bytes (P := Try.prog) w 32 5 ib Try.underlying32 hi hz0 hz1 hz2 n (by omega)
theorem st_zeros (n : Nat) : (convert 32 9 (.slice (some ⟨w.heap.size, 0, none⟩) n n)).run Try.prog (w.alloc (.cells (brow (List.replicate n 0)) 5)) = .ok (.string (zeros n)) (w.alloc (.cells (brow (List.replicate n 0)) 5)) :=
  run_string_bytes (P := Try.prog) w 32 9 5 n n (List.replicate n 0) (by simp) Try.underlying32 Try.underlying5 Try.underlying9
theorem st_zeros' (n g : Nat) (hg : g = w.heap.size) : (convert 32 9 (.slice (some ⟨g, 0, none⟩) n n)).run Try.prog (w.alloc (.cells (brow (List.replicate n 0)) 5)) = .ok (.string (zeros n)) (w.alloc (.cells (brow (List.replicate n 0)) 5)) := by
  subst hg; exact st_zeros w n
end

set_option maxRecDepth 100000 in
set_option maxHeartbeats 1000000 in
theorem fixed_true (w : World) : Calls Try.prog 17 #[] w fun e w' => e = .returned (.bool true) ∧ Below w.heap.size w w' := by
  have c1 := fx1; have c2 := fx2; have c3 := fx3; have c5 := fx5; have c6 := fx6
  have hsz := pageOf_size ⟨#[97, 98]⟩ (by decide)
  have m1 := fun W => mk_zeros W 253 253 rfl (by omega)
  have m2 := fun W => mk_zeros W 256 256 rfl (by omega)
  have t1 := fun W => st_zeros W 253
  have t2 := fun W g hg => st_zeros' W 256 g hg
  generalize zeros 253 = Z1 at *
  generalize zeros 256 = Z2 at *
  generalize List.replicate 253 (0 : UInt8) = l1 at *
  generalize List.replicate 256 (0 : UInt8) = l2 at *
  generalize pageOf ⟨#[97, 98]⟩ = P at *
  generalize padOf ⟨#[97, 98]⟩ 252 = B at *
  have C1 := Lib.hid c1; have C2 := Lib.hid c2; have C3 := Lib.hid c3; have C5 := Lib.hid c5; have C6 := Lib.hid c6
  clear c1 c2 c3 c5 c6
  go_enter Try.func17, Try.ntmps17
  go_wp2_with fail
  refine (C1.out _).mono ?_; rintro e w1 ⟨rfl, b1⟩
  go_wp2_with fail
  refine (C2.out _).mono ?_; rintro e w2 ⟨rfl, b2⟩
  go_wp2_with fail
  refine (C3.out _).mono ?_; rintro e _ ⟨rfl, rfl⟩
  go_wp2_with fail
  refine (fx4 _).mono ?_; rintro e _ ⟨rfl, rfl⟩
  go_wp2_with fail
  refine (C5.out _).mono ?_; rintro e w3 ⟨rfl, b3⟩
  go_wp2_with fail
  refine (C6.out _).mono ?_; rintro e w4 ⟨rfl, b4⟩
  go_wp2_with fail
  refine (fx7 _).mono ?_; rintro e w5 ⟨rfl, b5⟩
  go_wp2_with fail
  refine (fx8 _).mono ?_; rintro e w6 ⟨rfl, b6⟩
  go_wp2_with fail
  refine (fx9 _).mono ?_; rintro e w7 ⟨rfl, b7⟩
  go_wp2_with fail
  go_ret
  have s1 := b1.size; have s2 := b2.size
  have B2 := b1.trans (b2.mono s1)
  have B3 := (B2.alloc (by omega) (.cells (brow l1) 5)).alloc (by simp; omega) (.cells (brow l2) 5)
  have B4 := B3.trans (b3.mono (by simp; omega))
  have B5 := B4.trans (b4.mono B4.size)
  have B6 := B5.trans (b5.mono B5.size)
  have B7 := B6.trans (b6.mono B6.size)
  exact ⟨rfl, B7.trans (b7.mono B7.size)⟩
end Go.Proofs.Ythekbhhmbjjdgaa
