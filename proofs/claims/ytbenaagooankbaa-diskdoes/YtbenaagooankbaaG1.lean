/-
  The law package's act(): one call of a disk.
-/
import Derived.Test.YtbenaagooankbaaD7
import Derived.Test.YtbenaagooankbaaA3
import Derived.Test.YtbenaagooankbaaM1
namespace Go.Proofs.Ytbenaagooankbaa
open Go.RowKit Go.ChangeMaps

theorem i64_and_low (n : Int) (m : Nat) (hm : m < 60) (c : Int) (hc : c = 2 ^ m - 1) : bits .and .i64 n c = n % 2 ^ m := by
  subst hc
  have hp : (2 : Nat) ^ m < 2 ^ 60 := Nat.pow_lt_pow_right (by omega) hm
  have hp0 : 0 < (2 : Nat) ^ m := Nat.pow_pos (by omega)
  have hcast : ((2 : Int) ^ m - 1) = ((2 ^ m - 1 : Nat) : Int) := by
    rw [Int.natCast_sub hp0]; simp
  have h7 : (BitVec.ofInt 64 (2 ^ m - 1)).toNat = 2 ^ m - 1 := by
    rw [hcast, BitVec.ofInt_natCast, BitVec.toNat_ofNat]; exact Nat.mod_eq_of_lt (by omega)
  have key : (BitVec.ofInt 64 n &&& BitVec.ofInt 64 (2 ^ m - 1)).toNat = (n % ((2 ^ 64 : Nat) : Int)).toNat % 2 ^ m := by
    rw [BitVec.toNat_and, BitVec.toNat_ofInt, h7, Nat.and_two_pow_sub_one_eq_mod]
  show IntKind.i64.wrap ((BitVec.ofInt 64 n &&& BitVec.ofInt 64 (2 ^ m - 1)).toNat : Nat) = n % 2 ^ m
  rw [key]
  have e1 : (n % ((2 ^ 64 : Nat) : Int)).toNat % 2 ^ m < 2 ^ m := Nat.mod_lt _ hp0
  rw [IntWalk.i64_in _ (by omega), Int.natCast_emod, Int.toNat_of_nonneg (Int.emod_nonneg _ (by decide))]
  rw [show ((2 ^ m : Nat) : Int) = (2 : Int) ^ m by simp]
  apply Int.emod_emod_of_dvd
  exact ⟨2 ^ (64 - m), by rw [← Int.pow_add, show m + (64 - m) = 64 by omega]; rfl⟩
theorem i64_and15 (n : Int) : bits .and .i64 n 15 = n % 16 := i64_and_low n 4 (by omega) 15 rfl

/-- the page that a number names, of eight -/
def pg8 (x : Int) : Nat := (x % 8).toNat
theorem pg8_lt (x : Int) : pg8 x < 8 := by unfold pg8; omega
theorem and7 (x : Int) : bits .and .i64 x 7 = (pg8 x : Int) := by rw [i64_and7]; unfold pg8; omega
/-- at most n bytes of a text -/
def cutOf (s : ByteArray) (n : Nat) : ByteArray := s.extract 0 n
theorem cutOf_size (s : ByteArray) (n : Nat) : (cutOf s n).size ≤ n := by unfold cutOf; rw [ByteArray.size_extract]; omega

/-- min(len(s), c) in a walk, under one letter -/
theorem cut_at (s : ByteArray) (c : Nat) : ∃ n : Nat, (if (c : Int) < (s.size : Int) then (c : Int) else (s.size : Int)) = (n : Int) ∧ (0 : Int) ≤ (n : Int) ∧ (n : Int) ≤ (s.size : Int) ∧ s.extract 0 n = cutOf s c := by
  refine ⟨min s.size c, by split <;> omega, by omega, by omega, ?_⟩
  unfold cutOf
  apply ba_ext
  rw [extract_list, extract_list]
  simp only [List.drop_zero, Nat.sub_zero]
  by_cases h : s.size ≤ c
  · rw [Nat.min_eq_left h, List.take_of_length_le (by rw [← Lib.size_eq]; omega), List.take_of_length_le (by rw [← Lib.size_eq]; exact h)]
  · rw [Nat.min_eq_right (by omega)]
theorem min_at (l c : Nat) : ∃ n : Nat, (if (c : Int) < (l : Int) then (c : Int) else (l : Int)) = (n : Int) ∧ (0 : Int) ≤ (n : Int) ∧ n = min l c := ⟨min l c, by split <;> omega, by omega, rfl⟩
theorem FInts.take {w : World} {o : Nat → Nat} {i : Nat} {a : Option Addr} {len : Nat} {fs : List Int} (h : FInts w o i a len fs) (n : Nat) : FInts w o i a (min len n) (fs.take n) := by
  refine ⟨by rw [List.length_take, h.1]; omega, fun t x hx => h.2 t x ?_⟩
  rw [List.getElem?_take] at hx
  split at hx
  · exact hx
  · cases hx
theorem fints_of_arg {w0 w : World} {o : Nat → Nat} {i : Nat} {a : Option Addr} {len : Nat} {fs : List Int} (h : ArgInts w0 a len fs) (Z : Since w0 o w) (hi : i ≠ 0) : FInts w o i a len fs :=
  ⟨h.1, fun t x hx => by
    obtain ⟨b, off, e, hc⟩ := h.2 t x hx
    exact ⟨b, off, e, Z.cell hc, by rw [Z.own b (World.block_lt_of_cell? w0 _ hc)]; exact fun h => hi h.symm⟩⟩

/-- what a call does to pages and writes -/
def actOf (x : OpA) (D : List ByteArray × Wrs) : List ByteArray × Wrs :=
  if x.k = 0 then (D.1, D.2 ++ [(pg8 x.p, pageOf (cutOf x.s 252))]) else if x.k = 1 then (syncOf D.1 D.2, []) else if x.k = 2 then (crashOf D.1 D.2 (x.fs.take 60), []) else D
theorem actOf_length (x : OpA) (D : List ByteArray × Wrs) : (actOf x D).1.length = D.1.length := by
  unfold actOf; split
  · rfl
  · split
    · exact syncOf_length _ _
    · split
      · exact crashOf_length _ _ _
      · rfl
theorem actOf_writes (x : OpA) (D : List ByteArray × Wrs) : (actOf x D).2.length ≤ D.2.length + 1 := by
  unfold actOf; split
  · simp
  · split
    · simp
    · split <;> simp

end Go.Proofs.Ytbenaagooankbaa
