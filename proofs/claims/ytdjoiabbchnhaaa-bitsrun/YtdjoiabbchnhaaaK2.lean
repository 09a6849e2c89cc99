/-
  Which bytes are pages: plain facts.
-/
import Derived.Test.YtdjoiabbchnhaaaK1
namespace Go.Proofs.Ytdjoiabbchnhaaa

/-- the pages that bytes tell -/
def bitsOf (l : List UInt8) (n : Nat) : List Bool := (List.range n).map fun i => (l[i / 8]?.getD 0).toNat.testBit (i % 8)
theorem bitsOf_length (l : List UInt8) (n : Nat) : (bitsOf l n).length = n := by simp [bitsOf]
theorem tk_bitsOf (l : List UInt8) (n i : Nat) (h : i < n) : tk (bitsOf l n) i = (l[i / 8]?.getD 0).toNat.testBit (i % 8) := by
  simp [tk, bitsOf, h]
theorem bitsOf_pack (L : List Bool) : bitsOf (pack L) L.length = L := by
  apply List.ext_getElem?
  intro i
  by_cases h : i < L.length
  · rw [tk_eq _ i (by rw [bitsOf_length]; exact h), tk_eq L i h, tk_bitsOf _ _ _ h, pack_get L (i / 8) (by omega), Option.getD_some, u8_nat _ (bt_lt L _), bt_testBit _ _ _ (by omega)]
    congr 2; omega
  · rw [List.getElem?_eq_none (by rw [bitsOf_length]; omega), List.getElem?_eq_none (by omega)]
/-- are bytes n pages? -/
def okS (l : List UInt8) (n : Nat) : Prop := pack (bitsOf l n) = l
instance (l : List UInt8) (n : Nat) : Decidable (okS l n) := inferInstanceAs (Decidable (_ = _))
theorem okS_length {l : List UInt8} {n : Nat} (h : okS l n) : l.length = (n + 7) / 8 := by
  have := congrArg List.length h
  rw [pack_length, bitsOf_length] at this
  exact this.symm
theorem bt_last_lt (L : List Bool) (h : 1 ≤ L.length) : bt L ((L.length - 1) / 8) < 2 ^ ((L.length - 1) % 8 + 1) := by
  have e : bt L ((L.length - 1) / 8) = pk (fun i => tk L (8 * ((L.length - 1) / 8) + i)) ((L.length - 1) % 8 + 1) :=
    pk_short _ _ _ (fun i hi => tk_ge L _ (by omega)) (by omega)
  rw [e]; exact pk_lt _ _
theorem okS_iff (l : List UInt8) (n : Nat) (h : 1 ≤ n) (hl : l.length = (n + 7) / 8) : okS l n ↔ (l[(n - 1) / 8]?.getD 0).toNat < 2 ^ ((n - 1) % 8 + 1) := by
  constructor
  · intro ho
    have e := pack_get (bitsOf l n) ((n - 1) / 8) (by rw [bitsOf_length]; omega)
    rw [ho] at e
    rw [e, Option.getD_some, u8_nat _ (bt_lt _ _)]
    have := bt_last_lt (bitsOf l n) (by rw [bitsOf_length]; exact h)
    rwa [bitsOf_length] at this
  · intro ho
    apply List.ext_getElem?
    intro j
    by_cases hj : j < (n + 7) / 8
    · rw [pack_get _ _ (by rw [bitsOf_length]; exact hj), List.getElem?_eq_getElem (by omega)]
      congr 1
      have hx : (l[j]?.getD 0) = l[j]'(by omega) := by rw [List.getElem?_eq_getElem (by omega)]; rfl
      have hlt := (l[j]'(by omega)).toNat_lt
      have key : (l[j]'(by omega)).toNat = bt (bitsOf l n) j := by
        apply pk_eq _ _ _ (by omega)
        intro i hi
        by_cases hin : 8 * j + i < n
        · rw [tk_bitsOf _ _ _ hin, show (8 * j + i) / 8 = j by omega, show (8 * j + i) % 8 = i by omega, hx]
        · rw [tk_ge _ _ (by rw [bitsOf_length]; omega)]
          have hj2 : j = (n - 1) / 8 := by omega
          apply Nat.testBit_lt_two_pow
          rw [← hx, hj2]
          exact Nat.lt_of_lt_of_le ho (Nat.pow_le_pow_right (by omega) (by omega))
      rw [← key]; simp
    · rw [List.getElem?_eq_none (by rw [pack_length, bitsOf_length]; omega), List.getElem?_eq_none (by omega)]
theorem shr_le_one (x m : Nat) : x / 2 ^ m ≤ 1 ↔ x < 2 ^ (m + 1) := by
  have hp : 0 < 2 ^ m := Nat.pow_pos (by omega)
  rw [← Nat.lt_succ_iff, Nat.div_lt_iff_lt_mul hp, Nat.pow_succ]
  omega
end Go.Proofs.Ytdjoiabbchnhaaa
