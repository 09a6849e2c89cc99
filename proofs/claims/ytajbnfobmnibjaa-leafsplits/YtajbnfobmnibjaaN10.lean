/-
  The lowest bits of a number. No program in this text.
-/
import Derived.Test.YtajbnfobmnibjaaO10
import Derived.Test.YtajbnfobmnibjaaM1
namespace Go.Proofs.Ytajbnfobmnibjaa

theorem i64_and_low10 (n : Int) (m : Nat) (hm : m < 60) (c : Int) (hc : c = 2 ^ m - 1) : bits .and .i64 n c = n % 2 ^ m := by
  subst hc
  have hp : (2 : Nat) ^ m < 2 ^ 60 := Nat.pow_lt_pow_right (by omega) hm
  have hp0 : 0 < (2 : Nat) ^ m := Nat.pow_pos (by omega)
  have hcast : ((2 : Int) ^ m - 1) = ((2 ^ m - 1 : Nat) : Int) := by
    rw [Int.natCast_sub hp0]; simp
  have h7 : (BitVec.ofInt 64 (2 ^ m - 1)).toNat = 2 ^ m - 1 := by
    rw [hcast, BitVec.ofInt_natCast, BitVec.toNat_ofNat]; exact Nat.mod_eq_of_lt (by omega)
  have key : (BitVec.ofInt 64 n &&& BitVec.ofInt 64 (2 ^ m - 1)).toNat = (n % ((2 ^ 64 : Nat) : Int)).toNat % 2 ^ m := by
    rw [BitVec.toNat_and, BitVec.toNat_ofInt, h7, Nat.and_two_pow_sub_one_eq_mod]
  show IntKind.i64.wrap ((BitVec.ofInt 64 n &&& BitVec.ofInt 64 (2 ^ m - 1)).toNat : Nat) = n % 2 ^ m
  rw [key]
  have e1 : (n % ((2 ^ 64 : Nat) : Int)).toNat % 2 ^ m < 2 ^ m := Nat.mod_lt _ hp0
  rw [IntWalk.i64_in _ (by omega), Int.natCast_emod, Int.toNat_of_nonneg (Int.emod_nonneg _ (by decide))]
  rw [show ((2 ^ m : Nat) : Int) = (2 : Int) ^ m by simp]
  apply Int.emod_emod_of_dvd
  exact ⟨2 ^ (64 - m), by rw [← Int.pow_add, show m + (64 - m) = 64 by omega]; rfl⟩
theorem i64_and1023 (n : Int) : bits .and .i64 n 1023 = n % 1024 := i64_and_low10 n 10 (by omega) 1023 rfl
theorem i64_and65535x (n : Int) : bits .and .i64 n 65535 = n % 65536 := i64_and_low10 n 16 (by omega) 65535 rfl
end Go.Proofs.Ytajbnfobmnibjaa
