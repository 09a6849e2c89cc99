/-
  Plain facts on bytes and numbers for package field: no program in this text.
-/
import Derived.Lib.Endian
import Derived.Lib.EndianBits
namespace Go.Proofs.Ytajbnfobmnibjaa

/-- may a place be one of n bytes (the one behind the last too)? -/
def inB (n : Nat) (a : Int) : Bool := decide (0 ≤ a ∧ a ≤ (n : Int))
/-- what keeps a number of z bytes from standing at a place of n bytes -/
def errAt (n : Nat) (a z : Int) : Int := if z < 1 ∨ z > 8 ∨ inB n a = false then 1 else if (n : Int) - a < z then 3 else 0

theorem errAt_ok {n : Nat} {a z : Int} : errAt n a z = 0 ↔ (1 ≤ z ∧ z ≤ 8 ∧ 0 ≤ a ∧ a + z ≤ n) := by
  unfold errAt inB; simp only [decide_eq_false_iff_not]; split
  · constructor
    · intro h; omega
    · omega
  · split
    · constructor
      · intro h; omega
      · omega
    · constructor
      · intro h; omega
      · intro h; rfl
theorem errAt_cases (n : Nat) (a z : Int) : errAt n a z = 0 ∨ errAt n a z = 1 ∨ errAt n a z = 3 := by
  unfold errAt; split
  · simp
  · split <;> simp

theorem leNat_snoc (l : List UInt8) (b : UInt8) : Lib.leNat (l ++ [b]) = Lib.leNat l + 256 ^ l.length * b.toNat := by
  induction l with
  | nil => simp [Lib.leNat]
  | cons c r ih =>
    simp only [List.cons_append, Lib.leNat, ih, List.length_cons, Nat.pow_succ, Nat.mul_add, Nat.mul_assoc, Nat.mul_comm]
    omega
theorem leNat_lt (l : List UInt8) : Lib.leNat l < 256 ^ l.length := by
  induction l with
  | nil => simp [Lib.leNat]
  | cons c r ih =>
    have := c.toNat_lt
    simp only [Lib.leNat, List.length_cons, Nat.pow_succ]
    omega
/-- one more byte, shifted up and joined -/
theorem or_byte (x b i : Nat) (hi : i < 8) (hx : x < 256 ^ i) (hb : b < 256) :
    bits .or .u64 (x : Int) ((b : Int) * 2 ^ (8 * i)) = ((x + 256 ^ i * b : Nat) : Int) := by
  have e : (256 : Nat) ^ i = 2 ^ (8 * i) := by rw [show (256 : Nat) = 2 ^ 8 from rfl, ← Nat.pow_mul]
  have hp : 2 ^ (8 * i) * 256 ≤ 2 ^ 64 := by
    have : 2 ^ (8 * i) * 256 = 2 ^ (8 * (i + 1)) := by rw [show (256 : Nat) = 2 ^ 8 from rfl, ← Nat.pow_add, Nat.mul_add]
    rw [this]; exact Nat.pow_le_pow_right (by decide) (by omega)
  have e2 : (b : Int) * 2 ^ (8 * i) = ((b * 2 ^ (8 * i) : Nat) : Int) := by simp
  rw [e2]
  have hle : b * 2 ^ (8 * i) + 2 ^ (8 * i) ≤ 2 ^ 64 := by
    calc b * 2 ^ (8 * i) + 2 ^ (8 * i) = (b + 1) * 2 ^ (8 * i) := by rw [Nat.add_mul, Nat.one_mul]
      _ ≤ 256 * 2 ^ (8 * i) := Nat.mul_le_mul_right _ (by omega)
      _ ≤ 2 ^ 64 := by rw [Nat.mul_comm]; exact hp
  have hpos : 0 < 2 ^ (8 * i) := Nat.pow_pos (by decide)
  rw [e] at hx ⊢
  have h := bits_join_low .u64 64 (by decide) wraps_u64 (8 * i) (x : Int) ((b * 2 ^ (8 * i) : Nat) : Int) (by omega) (by exact_mod_cast hx)
    (by have : x < 2 ^ 64 := by omega
        exact_mod_cast this) (by omega) (by exact_mod_cast Nat.mul_mod_left b (2 ^ (8 * i)))
    (by have : b * 2 ^ (8 * i) < 2 ^ 64 := by omega
        exact_mod_cast this)
  rw [h, Nat.mul_comm]; omega
theorem shl_byte (b i : Nat) (hi : i < 8) (hb : b < 256) : IntKind.u64.wrap ((b : Int) * 2 ^ min (8 * i) 64) = (b : Int) * 2 ^ (8 * i) := by
  rw [Nat.min_eq_left (by omega)]
  apply wraps_u64
  · have : (0 : Int) ≤ 2 ^ (8 * i) := Int.pow_nonneg (by decide)
    exact Int.mul_nonneg (by omega) this
  · have hp : 2 ^ (8 * i) * 256 ≤ 2 ^ 64 := by
      have : 2 ^ (8 * i) * 256 = 2 ^ (8 * (i + 1)) := by rw [show (256 : Nat) = 2 ^ 8 from rfl, ← Nat.pow_add, Nat.mul_add]
      rw [this]; exact Nat.pow_le_pow_right (by decide) (by omega)
    have h2 : b * 2 ^ (8 * i) < 2 ^ 64 := by
      have hpos : 0 < 2 ^ (8 * i) := Nat.pow_pos (by decide)
      calc b * 2 ^ (8 * i) < 256 * 2 ^ (8 * i) := by exact Nat.mul_lt_mul_of_pos_right hb hpos
        _ ≤ 2 ^ 64 := by rw [Nat.mul_comm]; exact hp
    exact_mod_cast h2
theorem byte_step (l : List UInt8) (k : Nat) (hk : k < 8) (h : k < l.length) :
    bits .or .u64 ((Lib.leNat (l.take k) : Nat) : Int) (IntKind.u64.wrap (IntKind.u64.wrap (l[k].toNat : Int) * 2 ^ (8 * k))) = ((Lib.leNat (l.take (k + 1)) : Nat) : Int) := by
  have hb : l[k].toNat < 256 := l[k].toNat_lt
  have e1 : IntKind.u64.wrap (l[k].toNat : Int) = (l[k].toNat : Int) := wraps_u64 _ (by omega) (by omega)
  have e2 := shl_byte l[k].toNat k hk hb
  rw [Nat.min_eq_left (by omega)] at e2
  have hl : (l.take k).length = k := by rw [List.length_take]; omega
  have hx := leNat_lt (l.take k)
  rw [hl] at hx
  rw [e1, e2, or_byte _ _ k hk hx hb, List.take_succ_eq_append_getElem h, leNat_snoc, hl]
theorem leBytes_snoc (k v : Nat) : Lib.leBytes (k + 1) v = Lib.leBytes k v ++ [(v / 256 ^ k % 256).toUInt8] := by
  induction k generalizing v with
  | zero => simp [Lib.leBytes]
  | succ k ih => rw [Lib.leBytes, ih (v / 256), Lib.leBytes, Nat.div_div_eq_div_mul, ← Nat.pow_succ', List.cons_append]
theorem pow256 (i : Nat) : (256 : Nat) ^ i = 2 ^ (8 * i) := by rw [show (256 : Nat) = 2 ^ 8 from rfl, ← Nat.pow_mul]
theorem byte_at (v k : Nat) : UInt8.ofNat (((v : Int) / 2 ^ (8 * k) % 256).toNat) = (v / 256 ^ k % 256).toUInt8 := by
  rw [pow256]
  have : ((v : Int) / 2 ^ (8 * k) % 256).toNat = v / 2 ^ (8 * k) % 256 := by
    have e : (v : Int) / 2 ^ (8 * k) % 256 = ((v / 2 ^ (8 * k) % 256 : Nat) : Int) := by simp
    rw [e, Int.toNat_natCast]
  rw [this]
/-- the byte at a place (0 beyond) -/
def byteAt (l : List UInt8) (p : Nat) : Nat := (l.getD p 0).toNat
/-- what keeps a text from being told at a place -/
def textErr (l : List UInt8) (a : Int) : Int := if inB l.length a = false then 1 else if (l.length : Int) - (a + 1) < byteAt l a.toNat then 3 else 0
theorem byteAt_lt (l : List UInt8) (p : Nat) : byteAt l p < 256 := (l.getD p 0).toNat_lt
theorem textErr_ok {l : List UInt8} {a : Int} : textErr l a = 0 ↔ (0 ≤ a ∧ a + 1 + byteAt l a.toNat ≤ l.length) := by
  unfold textErr inB; simp only [decide_eq_false_iff_not]; split
  · constructor
    · intro h; omega
    · omega
  · split
    · constructor
      · intro h; omega
      · omega
    · constructor
      · intro h; omega
      · intro h; rfl
theorem textErr_cases (l : List UInt8) (a : Int) : textErr l a = 0 ∨ textErr l a = 1 ∨ textErr l a = 3 := by
  unfold textErr; split
  · simp
  · split <;> simp
/-- what keeps a text of m bytes from being put at a place of n bytes -/
def putTextErr (n : Nat) (a : Int) (m : Nat) : Int := if inB n a = false then 1 else if m > 255 then 2 else if (n : Int) - a < m + 1 then 3 else 0
theorem putTextErr_ok {n m : Nat} {a : Int} : putTextErr n a m = 0 ↔ (0 ≤ a ∧ m ≤ 255 ∧ a + 1 + m ≤ n) := by
  unfold putTextErr inB; simp only [decide_eq_false_iff_not]; split
  · constructor
    · intro h; omega
    · omega
  · split
    · constructor
      · intro h; omega
      · omega
    · split
      · constructor
        · intro h; omega
        · omega
      · constructor
        · intro h; omega
        · intro h; rfl
/-- how many bytes are left without the bytes 0 at the end -/
def bareLen (l : List UInt8) : Nat := (l.reverse.dropWhile (· == 0)).length
theorem bareLen_le (l : List UInt8) : bareLen l ≤ l.length := by
  unfold bareLen
  have := (List.dropWhile_suffix (fun x : UInt8 => x == 0) (l := l.reverse)).length_le
  simpa using this
theorem bareLen_snoc (l : List UInt8) (b : UInt8) : bareLen (l ++ [b]) = if b = 0 then bareLen l else l.length + 1 := by
  unfold bareLen
  rw [List.reverse_append]
  by_cases h : b = 0 <;> simp [h]
theorem i64_and7 (n : Int) : bits .and .i64 n 7 = n % 8 := by
  have h7 : (BitVec.ofInt 64 7).toNat = 2 ^ 3 - 1 := by decide
  have key : (BitVec.ofInt 64 n &&& BitVec.ofInt 64 7).toNat = (n % ((2 ^ 64 : Nat) : Int)).toNat % 2 ^ 3 := by
    rw [BitVec.toNat_and, BitVec.toNat_ofInt, h7, Nat.and_two_pow_sub_one_eq_mod]
  show IntKind.i64.wrap ((BitVec.ofInt 64 n &&& BitVec.ofInt 64 7).toNat : Nat) = n % 8
  rw [key, IntKind.wrap_i64]
  omega
/-- the bytes of a number, from the highest on, joined again -/
theorem down_step (v i : Nat) (hv : v < 18446744073709551616) :
    bits .or .u64 (IntKind.u64.wrap (((v / 256 ^ (i + 1) : Nat) : Int) * 256)) ((v / 256 ^ i % 256 : Nat) : Int) = ((v / 256 ^ i : Nat) : Int) := by
  have e : v / 256 ^ (i + 1) = v / 256 ^ i / 256 := by rw [Nat.pow_succ, Nat.div_div_eq_div_mul]
  rw [e]
  have hle : v / 256 ^ i ≤ v := Nat.div_le_self _ _
  generalize v / 256 ^ i = u at *
  rw [wraps_u64 _ (by omega) (by omega)]
  have h := bits_join .u64 64 (by decide) wraps_u64 8 (((u / 256 : Nat) : Int) * 256) ((u % 256 : Nat) : Int) (by omega) (by omega) (by omega) (by omega) (by omega) (by omega)
  rw [h]; omega
theorem leBytes_get (k v i : Nat) (h : i < k) : (Lib.leBytes k v)[i]? = some (v / 256 ^ i % 256).toUInt8 := by
  induction k generalizing v i with
  | zero => omega
  | succ k ih =>
    cases i with
    | zero => simp [Lib.leBytes]
    | succ i => rw [Lib.leBytes, List.getElem?_cons_succ, ih _ _ (by omega), Nat.div_div_eq_div_mul, ← Nat.pow_succ']
theorem leNat_one (l : List UInt8) (i : Nat) (b : UInt8) (h : l[i]? = some b) : Lib.leNat ((l.drop i).take 1) = b.toNat := by
  obtain ⟨hi, hb⟩ := List.getElem?_eq_some_iff.1 h
  rw [List.drop_eq_getElem_cons hi, List.take_succ_cons, List.take_zero, hb]
  simp [Lib.leNat]
theorem leNat_byte (k v i : Nat) (h : i < k) : Lib.leNat (((Lib.leBytes k v).drop i).take 1) = v / 256 ^ i % 256 := by
  rw [leNat_one _ _ _ (leBytes_get k v i h), Lib.toUInt8_mod]
theorem take_snoc_get (l : List UInt8) (k : Nat) (h : k < l.length) : l.take (k + 1) = l.take k ++ [l[k]] := by
  rw [List.take_succ_eq_append_getElem h]
end Go.Proofs.Ytajbnfobmnibjaa
