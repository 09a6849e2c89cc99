/-
  Pages that are taken, as bytes: plain facts (no program).
-/
import Derived.Test.YtdjoiabbchnhaaaB1
import Derived.Laws.BitsAllLaws
namespace Go.Proofs.Ytdjoiabbchnhaaa

/-- the number whose bits below k are g's -/
def pk (g : Nat → Bool) : Nat → Nat
  | 0 => 0
  | k + 1 => pk g k + (if g k then 2 ^ k else 0)
theorem pk_lt (g : Nat → Bool) (k : Nat) : pk g k < 2 ^ k := by
  induction k with
  | zero => simp [pk]
  | succ k ih => unfold pk; rw [Nat.pow_succ]; split <;> omega
theorem pk_testBit (g : Nat → Bool) (k i : Nat) : (pk g k).testBit i = (decide (i < k) && g i) := by
  induction k with
  | zero => simp [pk]
  | succ k ih =>
    unfold pk
    have e : pk g k + (if g k then 2 ^ k else 0) = 2 ^ k * (g k).toNat ||| pk g k := by
      rw [← Nat.two_pow_add_eq_or_of_lt (pk_lt g k)]
      cases g k <;> simp [Nat.add_comm]
    rw [e, Nat.testBit_or, ih, Nat.testBit_two_pow_mul]
    by_cases h1 : i < k
    · simp [h1, show ¬ k ≤ i by omega, show i < k + 1 by omega]
    · by_cases h2 : i = k
      · subst h2; cases g i <;> simp
      · have h3 : ¬ i < k + 1 := by omega
        have h4 : (g k).toNat.testBit (i - k) = false := by
          apply Nat.testBit_lt_two_pow
          have : (g k).toNat ≤ 1 := by cases g k <;> simp
          have : 2 ^ 1 ≤ 2 ^ (i - k) := Nat.pow_le_pow_right (by omega) (by omega)
          omega
        simp [h1, h3, h4]
theorem pk_short (g : Nat → Bool) (m k : Nat) (h : ∀ i, m ≤ i → g i = false) (hm : m ≤ k) : pk g k = pk g m := by
  induction k with
  | zero => obtain rfl : m = 0 := by omega
            rfl
  | succ k ih =>
    by_cases e : m = k + 1
    · rw [e]
    · show pk g k + (if g k then 2 ^ k else 0) = _
      rw [h k (by omega), ih (by omega)]; simp
theorem pk_eq (g : Nat → Bool) (k x : Nat) (hx : x < 2 ^ k) (h : ∀ i, i < k → x.testBit i = g i) : x = pk g k := by
  apply Nat.eq_of_testBit_eq
  intro i
  rw [pk_testBit]
  by_cases hi : i < k
  · simp [hi, h i hi]
  · simp [hi]
    apply Nat.testBit_lt_two_pow
    exact Nat.lt_of_lt_of_le hx (Nat.pow_le_pow_right (by omega) (by omega))

/-- is page i taken? -/
def tk (L : List Bool) (i : Nat) : Bool := L[i]?.getD false
/-- byte j of pages -/
def bt (L : List Bool) (j : Nat) : Nat := pk (fun i => tk L (8 * j + i)) 8
/-- pages as bytes -/
def pack (L : List Bool) : List UInt8 := (List.range ((L.length + 7) / 8)).map fun j => UInt8.ofNat (bt L j)

theorem bt_lt (L : List Bool) (j : Nat) : bt L j < 256 := pk_lt _ 8
theorem bt_testBit (L : List Bool) (j i : Nat) (h : i < 8) : (bt L j).testBit i = tk L (8 * j + i) := by
  unfold bt; rw [pk_testBit]; simp [h]
theorem pack_length (L : List Bool) : (pack L).length = (L.length + 7) / 8 := by simp [pack]
theorem pack_get (L : List Bool) (j : Nat) (h : j < (L.length + 7) / 8) : (pack L)[j]? = some (UInt8.ofNat (bt L j)) := by
  simp [pack, h]
theorem u8_nat (x : Nat) (h : x < 256) : (UInt8.ofNat x).toNat = x := by simp; omega
theorem brow_pack (L : List Bool) (j : Nat) (h : j < (L.length + 7) / 8) : (brow (pack L))[j]? = some (.int .u8 (bt L j)) := by
  rw [brow_get, pack_get L j h, Option.map_some, u8_nat _ (bt_lt L j)]
theorem brow_pack_size (L : List Bool) : (brow (pack L)).size = (L.length + 7) / 8 := by rw [brow_size, pack_length]

theorem tk_set (L : List Bool) (i k : Nat) (x : Bool) (h : i < L.length) : tk (L.set i x) k = if k = i then x else tk L k := by
  unfold tk
  rw [List.getElem?_set]
  by_cases e : i = k
  · subst e; simp [h]
  · simp [e, show ¬ k = i from fun e' => e e'.symm]
theorem tk_ge (L : List Bool) (i : Nat) (h : L.length ≤ i) : tk L i = false := by
  unfold tk; rw [List.getElem?_eq_none h]; rfl
theorem tk_eq (L : List Bool) (i : Nat) (h : i < L.length) : L[i]? = some (tk L i) := by
  unfold tk; rw [List.getElem?_eq_getElem h]; rfl
theorem bt_set_other (L : List Bool) (i j : Nat) (x : Bool) (h : i < L.length) (hj : j ≠ i / 8) : bt (L.set i x) j = bt L j := by
  apply Nat.eq_of_testBit_eq
  intro k
  by_cases hk : k < 8
  · rw [bt_testBit _ _ _ hk, bt_testBit _ _ _ hk, tk_set _ _ _ _ h, if_neg (by omega)]
  · have e : ∀ M, (bt M j).testBit k = false := fun M => by
      apply Nat.testBit_lt_two_pow
      exact Nat.lt_of_lt_of_le (bt_lt M j) (Nat.pow_le_pow_right (show 2 > 0 by omega) (show 8 ≤ k by omega))
    rw [e, e]
theorem bt_set_true (L : List Bool) (i : Nat) (h : i < L.length) : bt (L.set i true) (i / 8) = bt L (i / 8) ||| 2 ^ (i % 8) := by
  symm
  apply pk_eq
  · apply Nat.or_lt_two_pow (bt_lt L _)
    exact Nat.pow_lt_pow_right (by omega) (by omega)
  · intro k hk
    rw [Nat.testBit_or, bt_testBit _ _ _ hk, Nat.testBit_two_pow, tk_set _ _ _ _ h]
    by_cases e : i % 8 = k
    · rw [if_pos (by omega)]; simp [e]
    · rw [if_neg (by omega)]; simp [e]
theorem bt_set_false (L : List Bool) (i : Nat) (h : i < L.length) : bt (L.set i false) (i / 8) = bt L (i / 8) &&& (255 - 2 ^ (i % 8)) := by
  symm
  apply pk_eq
  · exact Nat.lt_of_le_of_lt Nat.and_le_left (bt_lt L _)
  · intro k hk
    have hp : 2 ^ (i % 8) < 2 ^ 8 := Nat.pow_lt_pow_right (by omega) (by omega)
    have e1 : (255 - 2 ^ (i % 8)).testBit k = !decide (i % 8 = k) := by
      rw [show 255 - 2 ^ (i % 8) = 2 ^ 8 - (2 ^ (i % 8) + 1) by omega, Nat.testBit_two_pow_sub_succ hp, Nat.testBit_two_pow]
      simp [hk]
    rw [Nat.testBit_and, bt_testBit _ _ _ hk, e1, tk_set _ _ _ _ h]
    by_cases e : i % 8 = k
    · rw [if_pos (by omega)]; simp [e]
    · rw [if_neg (by omega)]; simp [e]
theorem bt_and (L : List Bool) (i : Nat) : (bt L (i / 8) &&& 2 ^ (i % 8) = 0) ↔ tk L i = false := by
  have e : bt L (i / 8) &&& 2 ^ (i % 8) = if tk L i then 2 ^ (i % 8) else 0 := by
    apply Nat.eq_of_testBit_eq
    intro k
    rw [Nat.testBit_and, Nat.testBit_two_pow]
    by_cases h : i % 8 = k
    · have : (bt L (i / 8)).testBit k = tk L i := by rw [bt_testBit _ _ _ (by omega)]; congr 1; omega
      rw [this]; cases tk L i <;> simp [h]
    · cases tk L i <;> simp [h, Nat.testBit_two_pow]
  rw [e]
  have : 0 < 2 ^ (i % 8) := Nat.pow_pos (by omega)
  cases tk L i <;> simp
theorem pack_set (L : List Bool) (i : Nat) (x : Bool) (h : i < L.length) : pack (L.set i x) = (pack L).set (i / 8) (UInt8.ofNat (bt (L.set i x) (i / 8))) := by
  apply List.ext_getElem?
  intro j
  rw [List.getElem?_set, pack_length]
  by_cases hj : j < (L.length + 7) / 8
  · rw [pack_get _ _ (by simpa using hj)]
    by_cases e : i / 8 = j
    · subst e; simp [hj]
    · rw [if_neg e, pack_get _ _ hj, bt_set_other _ _ _ _ h (fun e' => e e'.symm)]
  · rw [List.getElem?_eq_none (by rw [pack_length]; simp; omega), if_neg (by omega), List.getElem?_eq_none (by rw [pack_length]; omega)]
theorem brow_pack_set (L : List Bool) (i : Nat) (x : Bool) (h : i < L.length) :
    (brow (pack L)).setIfInBounds (i / 8) (.int .u8 (bt (L.set i x) (i / 8))) = brow (pack (L.set i x)) := by
  have := bt_lt (L.set i x) (i / 8)
  rw [brow_set _ _ _ (by omega) (by omega), pack_set L i x h, Int.toNat_natCast]
theorem tk_replicate (n i : Nat) : tk (List.replicate n false) i = false := by
  unfold tk; rw [List.getElem?_replicate]; split <;> rfl
theorem pack_zero (n : Nat) : pack (List.replicate n false) = List.replicate ((n + 7) / 8) 0 := by
  apply List.ext_getElem?
  intro j
  rw [List.getElem?_replicate]
  by_cases hj : j < (n + 7) / 8
  · rw [pack_get _ _ (by simpa using hj), if_pos hj]
    have : bt (List.replicate n false) j = 0 := by
      rw [show 0 = pk (fun _ => false) 8 by simp [pk]]
      unfold bt; congr 1; funext i; exact tk_replicate _ _
    rw [this]; rfl
  · rw [if_neg hj, List.getElem?_eq_none (by rw [pack_length]; simp; omega)]
/-- the bits of a page in its byte -/
theorem shl_bit (m : Nat) (h : m < 8) : IntKind.u8.wrap ((1 : Int) * 2 ^ m) = ((2 ^ m : Nat) : Int) := by
  have : m = 0 ∨ m = 1 ∨ m = 2 ∨ m = 3 ∨ m = 4 ∨ m = 5 ∨ m = 6 ∨ m = 7 := by omega
  rcases this with rfl | rfl | rfl | rfl | rfl | rfl | rfl | rfl <;> decide
theorem pow_lt (i : Nat) : 2 ^ (i % 8) < 256 := Nat.pow_lt_pow_right (n := 8) (by omega) (by omega)
end Go.Proofs.Ytdjoiabbchnhaaa
