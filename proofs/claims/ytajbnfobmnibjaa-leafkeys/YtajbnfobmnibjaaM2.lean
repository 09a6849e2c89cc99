/-
  Plain facts on what is bare and what is padded: no program in this text.
-/
import Derived.Test.YtajbnfobmnibjaaM1
import Derived.Lib.Strings
namespace Go.Proofs.Ytajbnfobmnibjaa

def bareOf (s : ByteArray) : ByteArray := ⟨(s.data.toList.take (bareLen s.data.toList)).toArray⟩
def padOf (s : ByteArray) (n : Nat) : ByteArray := ⟨(s.data.toList ++ List.replicate (n - s.size) 0).toArray⟩

theorem bareLen_nil : bareLen [] = 0 := rfl
theorem bareLen_pad (l : List UInt8) (k : Nat) : bareLen (l ++ List.replicate k 0) = bareLen l := by
  induction k with
  | zero => simp
  | succ k ih => rw [List.replicate_succ', ← List.append_assoc, bareLen_snoc, if_pos rfl, ih]
theorem bare_split (l : List UInt8) : l.take (bareLen l) ++ List.replicate (l.length - bareLen l) 0 = l := by
  suffices h : ∀ r : List UInt8, ∀ l, l = r.reverse → l.take (bareLen l) ++ List.replicate (l.length - bareLen l) 0 = l from h l.reverse l (by simp)
  intro r
  induction r with
  | nil => intro l h; subst h; rfl
  | cons b r ih =>
    intro l h
    rw [List.reverse_cons] at h
    subst h
    rw [bareLen_snoc]
    by_cases hb : b = 0
    · rw [if_pos hb, List.take_append_of_le_length (bareLen_le _)]
      have hle := bareLen_le r.reverse
      rw [List.length_append, List.length_singleton, show r.reverse.length + 1 - bareLen r.reverse = (r.reverse.length - bareLen r.reverse) + 1 by omega, List.replicate_succ', ← List.append_assoc, ih _ rfl, hb]
    · rw [if_neg hb, List.take_of_length_le (by simp)]
      simp
theorem bareLen_take (l : List UInt8) : bareLen (l.take (bareLen l)) = bareLen l := by
  have h := bareLen_pad (l.take (bareLen l)) (l.length - bareLen l)
  rw [bare_split] at h; exact h.symm
theorem bareLen_last (l : List UInt8) (k : Nat) (h : bareLen l = k + 1) (hk : l.length = k + 1) : l.getD k 0 ≠ 0 := by
  have e : l = l.take k ++ [l[k]] := by
    rw [← List.take_succ_eq_append_getElem (by omega), List.take_of_length_le (by omega)]
  intro h0
  rw [List.getD_eq_getElem?_getD, List.getElem?_eq_getElem (by omega)] at h0
  rw [Option.getD_some] at h0
  rw [e, bareLen_snoc, if_pos h0] at h
  have := bareLen_le (l.take k)
  rw [List.length_take] at this; omega

theorem bareOf_list (s : ByteArray) : (bareOf s).data.toList = s.data.toList.take (bareLen s.data.toList) := rfl
theorem bareOf_size (s : ByteArray) : (bareOf s).size = bareLen s.data.toList := by
  rw [Lib.size_eq, bareOf_list, List.length_take, Nat.min_eq_left (bareLen_le _)]
theorem bareOf_le (s : ByteArray) : (bareOf s).size ≤ s.size := by
  rw [bareOf_size, Lib.size_eq s]; exact bareLen_le _
theorem ba_ext {a b : ByteArray} (h : a.data.toList = b.data.toList) : a = b := by
  apply ByteArray.ext; exact Array.toList_inj.1 h
theorem padOf_bareOf (s : ByteArray) : padOf (bareOf s) s.size = s := by
  apply ba_ext
  show (bareOf s).data.toList ++ List.replicate (s.size - (bareOf s).size) 0 = _
  rw [bareOf_size, bareOf_list, Lib.size_eq, bare_split]
theorem padOf_size (s : ByteArray) (n : Nat) (h : s.size ≤ n) : (padOf s n).size = n := by
  rw [Lib.size_eq]
  show (s.data.toList ++ List.replicate (n - s.size) 0).length = n
  rw [List.length_append, List.length_replicate, ← Lib.size_eq]; omega
theorem bareOf_padOf (s : ByteArray) (n : Nat) : bareOf (padOf (bareOf s) n) = bareOf s := by
  apply ba_ext
  show ((bareOf s).data.toList ++ List.replicate (n - (bareOf s).size) 0).take (bareLen ((bareOf s).data.toList ++ List.replicate (n - (bareOf s).size) 0)) = _
  rw [bareLen_pad, bareOf_list, bareLen_take]
  apply List.take_left'
  rw [List.length_take, Nat.min_eq_left (bareLen_le _)]
theorem bareOf_last (s : ByteArray) (h : 0 < (bareOf s).size) : (bareOf s)[(bareOf s).size - 1].toNat ≠ 0 := by
  have h1 : bareLen (bareOf s).data.toList = (bareOf s).size := by rw [bareOf_list, bareLen_take, bareOf_size]
  have h2 := bareLen_last (bareOf s).data.toList ((bareOf s).size - 1) (by omega) (by rw [← Lib.size_eq]; omega)
  rw [List.getD_eq_getElem?_getD, List.getElem?_eq_getElem (by rw [← Lib.size_eq]; omega)] at h2
  intro h0
  exact h2 (UInt8.toNat_inj.1 h0)
theorem byteAt_get (s : ByteArray) (i : Nat) (h : i < s.size) : s[i].toNat = byteAt s.data.toList i := by
  unfold byteAt; rw [List.getD_eq_getElem?_getD, List.getElem?_eq_getElem (by rw [← Lib.size_eq]; exact h)]; rfl
theorem bareOf_last' (s : ByteArray) (h : 0 < (bareOf s).size) : byteAt (bareOf s).data.toList ((bareOf s).size - 1) ≠ 0 := by
  rw [← byteAt_get _ _ (by omega)]; exact bareOf_last s h
theorem toList_ne (s : ByteArray) (h : 0 < s.size) : ¬ s.toList = [] := by
  intro h0
  rw [Lib.toList_data] at h0
  rw [Lib.size_eq, h0] at h; simp at h
theorem toList_nonempty (s : ByteArray) (h : 0 < s.size) : (!s.toList.isEmpty) = true := by
  have := toList_ne s h
  simp [this]
theorem extract_bare (s : ByteArray) : s.extract 0 (bareLen s.data.toList) = bareOf s := by
  apply ba_ext
  rw [Lib.extract_data]; simp [bareOf_list]
end Go.Proofs.Ytajbnfobmnibjaa
