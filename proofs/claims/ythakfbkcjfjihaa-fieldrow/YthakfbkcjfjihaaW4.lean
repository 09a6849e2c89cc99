/-
  The law package's fixed(): its calls with literal arguments, and that it answers true.
-/
import Derived.Test.YthakfbkcjfjihaaW3
namespace Go.Proofs.Ythakfbkcjfjihaa
open Go.RowKit

section
variable (w : World)
theorem fx1 : Calls Try.prog 12 #[.string ⟨#[97, 98, 99, 100]⟩, .int .i64 1, .int .i64 2, .int .u64 16961] w fun e w' => e = .returned (.tuple #[.string ⟨#[97, 65, 66, 100]⟩, .int .i64 0]) ∧ Below w.heap.size w w' :=
  put_ok ⟨#[97, 98, 99, 100]⟩ 1 2 16961 w (by decide) (by decide) (by decide) (by decide)
theorem fx2 : Calls Try.prog 10 #[.string ⟨#[97, 65, 66, 100]⟩, .int .i64 1, .int .i64 2] w fun e w' => e = .returned (.tuple #[.int .u64 16961, .int .i64 0]) ∧ w = w' :=
  get_ok ⟨#[97, 65, 66, 100]⟩ 1 2 w (by decide) (by decide)
theorem fx3 : Calls Try.prog 12 #[.string ⟨#[97, 98, 99, 100]⟩, .int .i64 3, .int .i64 2, .int .u64 1] w fun e w' => e = .returned (.tuple #[.string ⟨#[]⟩, .int .i64 3]) ∧ w = w' :=
  put_bad ⟨#[97, 98, 99, 100]⟩ 3 2 1 3 w (by decide) (by decide) (by decide)
theorem fx4 : Calls Try.prog 12 #[.string ⟨#[97, 98, 99, 100]⟩, .int .i64 1, .int .i64 1, .int .u64 256] w fun e w' => e = .returned (.tuple #[.string ⟨#[]⟩, .int .i64 2]) ∧ w = w' :=
  put_big ⟨#[97, 98, 99, 100]⟩ 1 1 256 w (by decide) (by decide) (by decide) (by decide)
theorem fx5 : Calls Try.prog 10 #[.string ⟨#[97, 98, 99, 100]⟩, .int .i64 0, .int .i64 9] w fun e w' => e = .returned (.tuple #[.int .u64 0, .int .i64 1]) ∧ w = w' :=
  get_bad ⟨#[97, 98, 99, 100]⟩ 0 9 1 w (by decide) (by decide) (by decide)
theorem fx6 : Calls Try.prog 15 #[.string ⟨#[2, 97, 98, 99]⟩, .int .i64 0] w fun e w' => e = .returned (.tuple #[.string ⟨#[97, 98]⟩, .int .i64 3, .int .i64 0]) ∧ Below w.heap.size w w' :=
  text_ok ⟨#[2, 97, 98, 99]⟩ 0 w (by decide) (by decide)
theorem fx7 : Calls Try.prog 15 #[.string ⟨#[4, 97, 98, 99]⟩, .int .i64 0] w fun e w' => e = .returned (.tuple #[.string ⟨#[]⟩, .int .i64 0, .int .i64 3]) ∧ w = w' :=
  text_bad ⟨#[4, 97, 98, 99]⟩ 0 3 w (by decide) (by decide) (by decide)
theorem fx8 : Calls Try.prog 17 #[.string ⟨#[97, 98, 99, 100]⟩, .int .i64 1, .string ⟨#[120]⟩] w fun e w' => e = .returned (.tuple #[.string ⟨#[97, 1, 120, 100]⟩, .int .i64 3, .int .i64 0]) ∧ Below w.heap.size w w' :=
  putText_ok ⟨#[97, 98, 99, 100]⟩ ⟨#[120]⟩ 1 w (by decide) (by decide)
theorem fx9 : Calls Try.prog 17 #[.string ⟨#[97, 98, 99, 100]⟩, .int .i64 2, .string ⟨#[120, 121]⟩] w fun e w' => e = .returned (.tuple #[.string ⟨#[]⟩, .int .i64 0, .int .i64 3]) ∧ w = w' :=
  putText_bad ⟨#[97, 98, 99, 100]⟩ ⟨#[120, 121]⟩ 2 3 w (by decide) (by decide) (by decide) (by decide)
theorem fx10 : Calls Try.prog 21 #[.string ⟨#[97]⟩, .int .i64 3] w fun e w' => e = .returned (.tuple #[.string ⟨#[97, 0, 0]⟩, .int .i64 0]) ∧ Below w.heap.size w w' :=
  pad_ok ⟨#[97]⟩ 3 w (by decide) (by decide)
theorem fx11 : Calls Try.prog 21 #[.string ⟨#[97, 98, 99]⟩, .int .i64 2] w fun e w' => e = .returned (.tuple #[.string ⟨#[]⟩, .int .i64 2]) ∧ w = w' :=
  pad_big ⟨#[97, 98, 99]⟩ 2 w (by decide) (by decide) (by decide)
theorem fx12 : Calls Try.prog 19 #[.string ⟨#[97, 0, 0]⟩] w fun e w' => e = .returned (.string ⟨#[97]⟩) ∧ Below w.heap.size w w' :=
  bare_any ⟨#[97, 0, 0]⟩ w (by decide)
end

set_option maxRecDepth 100000 in
set_option maxHeartbeats 1000000 in
theorem fixed_true (w : World) : Calls Try.prog 14 #[] w fun e w' => e = .returned (.bool true) ∧ Below w.heap.size w w' := by
  go_enter Try.func14, Try.ntmps14
  go_wp2_with fail
  refine (fx1 _).mono ?_; rintro e w1 ⟨rfl, b1⟩
  go_wp2_with fail
  refine (fx2 _).mono ?_; rintro e _ ⟨rfl, rfl⟩
  go_wp2_with fail
  refine (fx3 _).mono ?_; rintro e _ ⟨rfl, rfl⟩
  go_wp2_with fail
  refine (fx4 _).mono ?_; rintro e _ ⟨rfl, rfl⟩
  go_wp2_with fail
  refine (fx5 _).mono ?_; rintro e _ ⟨rfl, rfl⟩
  go_wp2_with fail
  refine (fx6 _).mono ?_; rintro e w2 ⟨rfl, b2⟩
  go_wp2_with fail
  refine (fx7 _).mono ?_; rintro e _ ⟨rfl, rfl⟩
  go_wp2_with fail
  refine (fx8 _).mono ?_; rintro e w3 ⟨rfl, b3⟩
  go_wp2_with fail
  refine (fx9 _).mono ?_; rintro e _ ⟨rfl, rfl⟩
  go_wp2_with fail
  refine (fx10 _).mono ?_; rintro e w4 ⟨rfl, b4⟩
  go_wp2_with fail
  refine (fx11 _).mono ?_; rintro e _ ⟨rfl, rfl⟩
  go_wp2_with fail
  refine (fx12 _).mono ?_; rintro e w5 ⟨rfl, b5⟩
  go_wp2_with fail
  go_ret
  have s1 := b1.size; have s2 := b2.size; have s3 := b3.size; have s4 := b4.size
  exact ⟨rfl, (((b1.trans (b2.mono s1)).trans (b3.mono (by omega))).trans (b4.mono (by omega))).trans (b5.mono (by omega))⟩
end Go.Proofs.Ythakfbkcjfjihaa
