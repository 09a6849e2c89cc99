/-
  FieldNumbers: the walk.
-/
import Derived.Test.YthakfbkcjfjihaaW4
import Derived.Test.YthakfbkcjfjihaaW6
import Derived.OpenShut
namespace Go.Proofs.Ythakfbkcjfjihaa
open Go.RowKit

theorem pow_cast (k : Nat) : ((256 ^ k : Nat) : Int) = (256 : Int) ^ k := by simp
theorem get_both (s : ByteArray) (a z : Int) (hs : s.size ≤ 1000000) : ∃ x k : Int,
    (∀ w, Calls Try.prog 10 #[.string s, .int .i64 a, .int .i64 z] w fun e w' => e = .returned (.tuple #[.int .u64 x, .int .i64 k]) ∧ w = w') ∧
    (∀ w, Calls Try.prog 11 #[.string s, .int .i64 a, .int .i64 z] w fun e w' => e = .returned (.tuple #[.int .u64 x, .int .i64 k]) ∧ w = w') := by
  rcases errAt_cases s.size a z with h | h | h
  · exact ⟨_, 0, fun w => get_ok s a z w hs h, fun w => rget_ok s a z w hs h⟩
  · exact ⟨0, 1, fun w => get_bad s a z 1 w hs h (by decide), fun w => rget_bad s a z 1 w hs h (by decide)⟩
  · exact ⟨0, 3, fun w => get_bad s a z 3 w hs h (by decide), fun w => rget_bad s a z 3 w hs h (by decide)⟩

theorem put_both (s : ByteArray) (a z : Int) (v : Nat) (hs : s.size ≤ 1000000) (hv : v < 18446744073709551616) : ∃ (x : ByteArray) (k : Int),
    (∀ w, Calls Try.prog 12 #[.string s, .int .i64 a, .int .i64 z, .int .u64 v] w fun e w' => e = .returned (.tuple #[.string x, .int .i64 k]) ∧ Below w.heap.size w w') ∧
    (∀ w, Calls Try.prog 13 #[.string s, .int .i64 a, .int .i64 z, .int .u64 v] w fun e w' => e = .returned (.tuple #[.string x, .int .i64 k]) ∧ Below w.heap.size w w') := by
  rcases errAt_cases s.size a z with h | h | h
  · by_cases hc : v < 256 ^ z.toNat
    · refine ⟨_, 0, fun w => put_ok s a z v w hs h (by omega) (pow_cast z.toNat ▸ Int.ofNat_lt.2 hc), fun w => rput_ok s a z v w hs h hv hc⟩
    · exact ⟨_, 2, fun w => (put_big s a z v w hs h (by omega) (pow_cast z.toNat ▸ Int.ofNat_le.2 (Nat.le_of_not_lt hc))).mono fun e w' ⟨he, hb⟩ => ⟨he, hb ▸ Below.refl _ _⟩, fun w => rput_big s a z v w hs h hv (Nat.le_of_not_lt hc)⟩
  · exact ⟨_, 1, fun w => (put_bad s a z v 1 w hs h (by decide)).mono fun e w' ⟨he, hb⟩ => ⟨he, hb ▸ Below.refl _ _⟩, fun w => (rput_bad s a z v 1 w hs h (by decide)).mono fun e w' ⟨he, hb⟩ => ⟨he, hb ▸ Below.refl _ _⟩⟩
  · exact ⟨_, 3, fun w => (put_bad s a z v 3 w hs h (by decide)).mono fun e w' ⟨he, hb⟩ => ⟨he, hb ▸ Below.refl _ _⟩, fun w => (rput_bad s a z v 3 w hs h (by decide)).mono fun e w' ⟨he, hb⟩ => ⟨he, hb ▸ Below.refl _ _⟩⟩

set_option maxRecDepth 100000 in
set_option maxHeartbeats 400000 in
theorem numbers_walk (s : ByteArray) (hs : s.size ≤ 2 ^ 63 - 1) (a z : Int) (v : Nat) (HV : Hid (v < 18446744073709551616)) (w : World) :
    Calls Try.prog 3 #[.string s, .agg #[.int .i64 a, .int .i64 z], .int .u64 v] w fun e w' => e = .returned (.bool true) ∧ Below w.heap.size w w' := by
  have hx : (s.extract 0 300).size ≤ 300 := by rw [ByteArray.size_extract]; omega
  have HX := Lib.hid hx; clear hx
  go_enter Try.func3, Try.ntmps3
  go_upto_region 1 with fail
  go_cut [0] (fun s0 wx => wx = w.alloc (.cells #[.int .i64 a, .int .i64 z] 22) ∧ ∃ T : ByteArray, s0 = .string T ∧ T.size ≤ 300)
  case first =>
    go_wp2
    · go_meet; exact ⟨rfl, _, rfl, HX.out⟩
    · go_meet; exact ⟨rfl, _, rfl, by omega⟩
  case rest =>
    obtain ⟨rfl, T, rfl, hT⟩ := hcut
    obtain ⟨x, k, c1, c2⟩ := get_both T a z (by omega)
    obtain ⟨y, m, c3, c4⟩ := put_both T a z v (by omega) HV.out
    have C1 := Lib.hid c1; have C2 := Lib.hid c2; have C3 := Lib.hid c3; have C4 := Lib.hid c4
    clear c1 c2 c3 c4
    go_wp2_with fail
    refine (C1.out _).mono ?_; rintro e _ ⟨rfl, rfl⟩
    go_wp2_with fail
    refine (C2.out _).mono ?_; rintro e _ ⟨rfl, rfl⟩
    go_wp2_with fail
    refine (C3.out _).mono ?_; rintro e w1 ⟨rfl, b1⟩
    have hc := bcell b1
    have s1 := b1.size
    go_wp2_with fail
    refine (C4.out _).mono ?_; rintro e w2 ⟨rfl, b2⟩
    go_wp2_with fail
    refine (fixed_true _).mono ?_; rintro e w3 ⟨rfl, b3⟩
    go_wp2_with fail
    go_ret
    have s2 := b2.size
    have hz : (w.alloc (.cells #[.int .i64 a, .int .i64 z] 22)).heap.size = w.heap.size + 1 := by simp
    exact ⟨rfl, ((((Below.refl _ _).alloc (Nat.le_refl _) _).trans (b1.mono (by omega))).trans (b2.mono (by omega))).trans (b3.mono (by omega))⟩

theorem walk_FieldNumbers (s : ByteArray) (hs : s.size ≤ maxLen) (a z : Int) (_ : (Lit.int .i64 a).wf = true) (_ : (Lit.int .i64 z).wf = true) (n : Int) (hn : (Lit.int .u64 n).wf = true) (w : World) :
    Calls Try.prog 3 #[.string s, .agg #[.int .i64 a, .int .i64 z], .int .u64 n] w fun e w' => e = .returned (.bool true) ∧ Below w.heap.size w w' := by
  have hb := bounds_u64 hn
  obtain ⟨v, rfl⟩ := Int.eq_ofNat_of_zero_le hb.1
  exact numbers_walk s hs a z v (Lib.hid (by omega)) w
end Go.Proofs.Ythakfbkcjfjihaa
