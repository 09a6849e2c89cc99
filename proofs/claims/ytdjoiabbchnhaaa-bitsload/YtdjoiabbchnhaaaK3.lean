/-
  Going round pages, and how many are taken: plain facts.
-/
import Derived.Test.YtdjoiabbchnhaaaS2
import Derived.Test.YtdjoiabbchnhaaaM1
namespace Go.Proofs.Ytdjoiabbchnhaaa

theorem i64_and_low (n : Int) (m : Nat) (hm : m < 60) (c : Int) (hc : c = 2 ^ m - 1) : bits .and .i64 n c = n % 2 ^ m := by
  subst hc
  have hp : (2 : Nat) ^ m < 2 ^ 60 := Nat.pow_lt_pow_right (by omega) hm
  have hp0 : 0 < (2 : Nat) ^ m := Nat.pow_pos (by omega)
  have hcast : ((2 : Int) ^ m - 1) = ((2 ^ m - 1 : Nat) : Int) := by
    rw [Int.natCast_sub hp0]; simp
  have h7 : (BitVec.ofInt 64 (2 ^ m - 1)).toNat = 2 ^ m - 1 := by
    rw [hcast, BitVec.ofInt_natCast, BitVec.toNat_ofNat]; exact Nat.mod_eq_of_lt (by omega)
  have key : (BitVec.ofInt 64 n &&& BitVec.ofInt 64 (2 ^ m - 1)).toNat = (n % ((2 ^ 64 : Nat) : Int)).toNat % 2 ^ m := by
    rw [BitVec.toNat_and, BitVec.toNat_ofInt, h7, Nat.and_two_pow_sub_one_eq_mod]
  show IntKind.i64.wrap ((BitVec.ofInt 64 n &&& BitVec.ofInt 64 (2 ^ m - 1)).toNat : Nat) = n % 2 ^ m
  rw [key]
  have e1 : (n % ((2 ^ 64 : Nat) : Int)).toNat % 2 ^ m < 2 ^ m := Nat.mod_lt _ hp0
  rw [IntWalk.i64_in _ (by omega), Int.natCast_emod, Int.toNat_of_nonneg (Int.emod_nonneg _ (by decide))]
  rw [show ((2 ^ m : Nat) : Int) = (2 : Int) ^ m by simp]
  apply Int.emod_emod_of_dvd
  exact ⟨2 ^ (64 - m), by rw [← Int.pow_add, show m + (64 - m) = 64 by omega]; rfl⟩
theorem i64_and63 (n : Int) : bits .and .i64 n 63 = n % 64 := i64_and_low n 6 (by omega) 63 rfl
theorem i64_and15 (n : Int) : bits .and .i64 n 15 = n % 16 := i64_and_low n 4 (by omega) 15 rfl
theorem i64_and65535 (n : Int) : bits .and .i64 n 65535 = n % 65536 := i64_and_low n 16 (by omega) 65535 rfl

theorem mod_two (x k : Nat) (h : x < 2 * k) : x % k = if x < k then x else x - k := by
  split
  · exact Nat.mod_eq_of_lt (by assumption)
  · rw [Nat.mod_eq_sub_mod (by omega)]; exact Nat.mod_eq_of_lt (by omega)
theorem round_inj (at' k s i : Nat) (ha : at' < k) (hs : s < k) (hi : i < k) (h : (at' + s) % k = (at' + i) % k) : s = i := by
  rw [mod_two _ _ (by omega), mod_two _ _ (by omega)] at h
  split at h <;> split at h <;> omega
/-- how many steps it is from at' to j -/
def stepsTo (at' k j : Nat) : Nat := if at' ≤ j then j - at' else j + k - at'
theorem stepsTo_lt (at' k j : Nat) (ha : at' < k) (hj : j < k) : stepsTo at' k j < k := by unfold stepsTo; split <;> omega
theorem stepsTo_eq (at' k j : Nat) (ha : at' < k) (hj : j < k) : (at' + stepsTo at' k j) % k = j := by
  rw [mod_two _ _ (by have := stepsTo_lt at' k j ha hj; omega)]
  unfold stepsTo
  split <;> split <;> omega

theorem takenOf_snoc (L : List Bool) (x : Bool) : takenOf (L ++ [x]) = takenOf L ++ (if x then [L.length] else []) := by
  unfold takenOf
  rw [List.length_append, List.length_singleton, List.range_succ, List.filter_append]
  congr 1
  · apply List.filter_congr
    intro i hi
    rw [List.mem_range] at hi
    unfold tk
    rw [List.getElem?_append_left hi]
  · have : tk (L ++ [x]) L.length = x := by unfold tk; simp
    cases x <;> simp [this]
theorem cnt_eq (L : List Bool) : cnt L = L.countP id := by
  rw [← List.reverse_reverse L]
  induction L.reverse with
  | nil => rfl
  | cons x q ih =>
    rw [List.reverse_cons, List.countP_append]
    unfold cnt at ih ⊢
    rw [takenOf_snoc, List.length_append, ih]
    cases x <;> simp
theorem tk_get (L : List Bool) (i : Nat) (h : i < L.length) : L[i] = tk L i := by
  have := tk_eq L i h
  rw [List.getElem?_eq_getElem h] at this
  exact Option.some_inj.1 this
theorem cnt_take (L : List Bool) (i : Nat) (h : i < L.length) (ht : tk L i = false) : cnt (L.set i true) = cnt L + 1 := by
  rw [cnt_eq, cnt_eq, List.countP_set h, tk_get L i h, ht]; simp
theorem cnt_give (L : List Bool) (i : Nat) (h : i < L.length) (ht : tk L i = true) : cnt (L.set i false) + 1 = cnt L := by
  have h1 : cnt ((L.set i false).set i true) = cnt (L.set i false) + 1 := cnt_take _ i (by simpa using h) (by rw [tk_set _ _ _ _ h, if_pos rfl])
  rw [← h1, List.set_set]
  congr 1
  rw [← ht, ← tk_get L i h, List.set_getElem_self]
theorem cnt_all (L : List Bool) (h : ∀ i, i < L.length → tk L i = true) : cnt L = L.length := by
  rw [cnt_eq, List.countP_eq_length]
  intro a ha
  obtain ⟨i, hi, rfl⟩ := List.getElem_of_mem ha
  rw [tk_get L i hi, h i hi]; rfl
theorem cnt_zero (n : Nat) : cnt (List.replicate n false) = 0 := by
  rw [cnt_eq, List.countP_replicate]; rfl
end Go.Proofs.Ytdjoiabbchnhaaa
