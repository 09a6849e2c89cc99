/-
  Plain facts on records: what the document guesses of bytes is, of a record's bytes, that record. No program in this text.
-/
import Derived.Test.YtajbnfobmnibjaaK05a
namespace Go.Proofs.Ytajbnfobmnibjaa

def txAt (s : ByteArray) (a : Int) : ByteArray × Int × Int :=
  if textErr s.data.toList a = 0 then (s.extract (a.toNat + 1) (a.toNat + 1 + byteAt s.data.toList a.toNat), a + 1 + byteAt s.data.toList a.toNat, 0) else (⟨#[]⟩, 0, textErr s.data.toList a)
def numAt (s : ByteArray) (a z : Int) : Int := if errAt s.size a z = 0 then (Lib.leNat ((s.data.toList.drop a.toNat).take z.toNat) : Int) else 0
def guessPairs (s : ByteArray) : Nat → Int → List (ByteArray × ByteArray)
  | 0, _ => []
  | n + 1, a => if a < (s.size : Int) then (if (txAt s (txAt s a).2.1).2.2 ≠ 0 ∨ (txAt s a).2.1 = 0 then [] else ((txAt s a).1, (txAt s (txAt s a).2.1).1) :: guessPairs s n (txAt s (txAt s a).2.1).2.1) else []
/-- what bytes may be -/
def guessP (s : ByteArray) : RecP :=
  if numAt s 0 1 > 5 then ⟨numAt s 0 1, 0, ⟨#[]⟩, ⟨#[]⟩, numAt s 1 6, numAt s 7 6, numAt s 13 6, if numAt s 0 1 = 7 then guessPairs s (numAt s 19 2).toNat 21 else []⟩
  else ⟨numAt s 0 1, numAt s 1 6, if numAt s 0 1 = 2 ∨ numAt s 0 1 = 3 then (txAt s 7).1 else ⟨#[]⟩, if numAt s 0 1 = 2 ∧ (txAt s 7).2.2 = 0 then (txAt s (txAt s 7).2.1).1 else ⟨#[]⟩, 0, 0, 0, []⟩
def encB (r : RecP) : ByteArray := ⟨(encL r).toArray⟩
theorem encB_list (r : RecP) : (encB r).data.toList = encL r := rfl
theorem numAt_at {s : ByteArray} {A B : List UInt8} {k v : Nat} (h : s.data.toList = A ++ (Lib.leBytes k v ++ B)) (hk : 1 ≤ k) (hk8 : k ≤ 8) (hv : v < 256 ^ k) (a z : Int) (ha : a = A.length) (hz : z = k) : numAt s a z = (v : Int) := by
  subst ha hz
  unfold numAt
  have hs : s.size = A.length + (k + B.length) := by rw [Lib.size_eq, h, List.length_append, List.length_append, Lib.leBytes_length]
  rw [if_pos (errAt_ok.2 ⟨by omega, by omega, by omega, by omega⟩)]
  rw [Int.toNat_natCast, Int.toNat_natCast, h, List.drop_left' rfl, List.take_left' (Lib.leBytes_length _ _), Lib.leNat_leBytes _ _ hv]
theorem txAt_at {s t : ByteArray} {A B : List UInt8} (h : s.data.toList = A ++ (txtL t ++ B)) (ht : t.size ≤ 255) (a : Int) (ha : a = A.length) : txAt s a = (t, (A.length : Int) + 1 + (t.size : Int), 0) := by
  subst ha
  have hb : byteAt s.data.toList A.length = t.size := by
    unfold byteAt
    rw [h, List.getD_eq_getElem?_getD, List.getElem?_append_right (Nat.le_refl _), Nat.sub_self]
    unfold txtL
    rw [List.cons_append, List.getElem?_cons_zero]
    show (t.size.toUInt8).toNat = t.size
    simp only [Nat.toUInt8, UInt8.toNat_ofNat']
    omega
  have hs : s.size = A.length + (1 + t.size + B.length) := by
    rw [Lib.size_eq, h, List.length_append, List.length_append]
    unfold txtL
    rw [List.length_cons, ← Lib.size_eq]; omega
  unfold txAt
  rw [if_pos (textErr_ok.2 ⟨by omega, by rw [Int.toNat_natCast, hb, ← Lib.size_eq, hs]; omega⟩), Int.toNat_natCast, hb]
  have : s.extract (A.length + 1) (A.length + 1 + t.size) = t := by
    apply ba_ext
    rw [Lib.extract_data, h, show A ++ (txtL t ++ B) = (A ++ [t.size.toUInt8]) ++ (t.data.toList ++ B) by simp [txtL], List.drop_left' (by simp), List.take_left' (by rw [← Lib.size_eq]; omega)]
  rw [this]
theorem guessPairs_at {s : ByteArray} : ∀ (l : List (ByteArray × ByteArray)) (A : List UInt8) (a : Int), s.data.toList = A ++ pairsL l → a = A.length → risesB l = true → guessPairs s l.length a = l
  | [], _, _, _, _, _ => rfl
  | (k, v) :: l, A, a, h, ha, hr => by
    obtain ⟨k1, v1, r1⟩ := risesB_head hr
    have s1 := keyB_size k1; have s3 := valB_size v1
    dsimp only at s1 s3
    have h' : s.data.toList = A ++ (txtL k ++ (txtL v ++ pairsL l)) := by rw [h]; simp [pairsL, pairL, List.append_assoc]
    have e1 := txAt_at h' (by omega) a ha
    have h2 : s.data.toList = (A ++ txtL k) ++ (txtL v ++ pairsL l) := by rw [h']; simp
    have hl2 : (A ++ txtL k).length = A.length + 1 + k.size := by rw [List.length_append]; unfold txtL; rw [List.length_cons, ← Lib.size_eq]; omega
    have e2 := txAt_at h2 (by omega) ((A.length : Int) + 1 + (k.size : Int)) (by rw [hl2]; omega)
    have h3 : s.data.toList = ((A ++ txtL k) ++ txtL v) ++ pairsL l := by rw [h2]; simp
    have hl3 : ((A ++ txtL k) ++ txtL v).length = A.length + 1 + k.size + 1 + v.size := by rw [List.length_append, hl2]; unfold txtL; rw [List.length_cons, ← Lib.size_eq]; omega
    have hlt : a < (s.size : Int) := by
      have : s.size = ((A ++ txtL k) ++ txtL v).length + (pairsL l).length := by rw [Lib.size_eq, h3, List.length_append]
      rw [hl3] at this; omega
    simp only [List.length_cons, guessPairs]
    rw [if_pos hlt, e1]
    dsimp only
    rw [e2]
    dsimp only
    rw [if_neg (by omega)]
    rw [guessPairs_at l ((A ++ txtL k) ++ txtL v) _ h3 (by rw [hl2, hl3]; omega) r1]
theorem guess_enc (r : RecP) (hr : RightP r) : guessP (encB r) = r := by
  have hE := encB_list r
  obtain ⟨k, t, ke, va, pa, un, nu, pr⟩ := r
  obtain ⟨a1, a2, a3, a4, a5, a6⟩ := hr
  dsimp only at a1 a2 a3 a4 a5 a6
  generalize encB ⟨k, t, ke, va, pa, un, nu, pr⟩ = s at *
  unfold encL at hE
  dsimp only at hE
  have hk : numAt s 0 1 = k := by
    have h1 : Lib.leBytes 1 k.toNat = [k.toNat.toUInt8] := by
      simp only [Lib.leBytes]
      congr 1
      simp only [Nat.toUInt8]
      congr 1
      omega
    obtain ⟨T, this⟩ : ∃ T, s.data.toList = [] ++ (Lib.leBytes 1 k.toNat ++ T) := ⟨_, by rw [hE, List.nil_append, h1]; rfl⟩
    rw [numAt_at this (by omega) (by omega) (by omega) 0 1 rfl rfl]
    omega
  have six : (256 : Nat) ^ 6 = 281474976710656 := rfl
  have two : (256 : Nat) ^ 2 = 65536 := rfl
  unfold guessP
  rw [hk]
  by_cases h5 : k ≤ 5
  · simp only [if_pos h5] at a3 hE
    obtain ⟨t1, t2, rfl, rfl, rfl⟩ := a3
    unfold top at t2
    rw [if_neg (by omega)]
    have h7 : ¬ k = 7 := by omega
    simp only [if_neg h7, List.append_nil] at a6 hE
    subst a6
    have e1 : numAt s 1 6 = t := by
      obtain ⟨T, this⟩ : ∃ T, s.data.toList = [k.toNat.toUInt8] ++ (Lib.leBytes 6 t.toNat ++ T) := ⟨_, by rw [hE]; rfl⟩
      rw [numAt_at this (by omega) (by omega) (by rw [six]; omega) 1 6 rfl rfl]; omega
    rw [e1]
    by_cases h23 : k = 2 ∨ k = 3
    · simp only [if_pos h23] at a4 hE ⊢
      have z1 := keyB_size a4
      have h' : s.data.toList = (k.toNat.toUInt8 :: num6 t) ++ (txtL ke ++ (if k = 2 then txtL va else [])) := by rw [hE]; simp
      have e2 := txAt_at h' (by omega) 7 (by simp [num6, Lib.leBytes_length])
      rw [e2]
      dsimp only
      by_cases h22 : k = 2
      · simp only [if_pos h22] at a5 h' ⊢
        have z3 := valB_size a5
        have h'' : s.data.toList = ((k.toNat.toUInt8 :: num6 t) ++ txtL ke) ++ (txtL va ++ []) := by rw [h']; simp
        have e3 := txAt_at h'' (by omega) (((k.toNat.toUInt8 :: num6 t).length : Int) + 1 + (ke.size : Int)) (by rw [List.length_append]; unfold txtL; rw [List.length_cons (as := ke.data.toList), ← Lib.size_eq]; omega)
        rw [e3]
        simp [h22]
      · simp only [if_neg h22] at a5
        subst a5
        simp [h22]
    · have h22 : ¬ k = 2 := fun e => h23 (.inl e)
      simp only [if_neg h23, if_neg h22] at a4 a5 ⊢
      subst a4 a5
      simp [h22]
  · simp only [if_neg h5] at a3 hE
    obtain ⟨rfl, p1, p2, p3, p4, p5, p6⟩ := a3
    unfold top at p4 p6
    have h23 : ¬ (k = 2 ∨ k = 3) := by omega
    have h22 : ¬ k = 2 := by omega
    simp only [if_neg h23, if_neg h22] at a4 a5 hE
    subst a4 a5
    rw [if_pos (by omega)]
    simp only [List.nil_append, List.append_assoc] at hE
    have e1 : numAt s 1 6 = pa := by
      obtain ⟨T, this⟩ : ∃ T, s.data.toList = [k.toNat.toUInt8] ++ (Lib.leBytes 6 pa.toNat ++ T) := ⟨_, by rw [hE]; rfl⟩
      rw [numAt_at this (by omega) (by omega) (by rw [six]; omega) 1 6 rfl rfl]; omega
    have e2 : numAt s 7 6 = un := by
      obtain ⟨T, this⟩ : ∃ T, s.data.toList = (k.toNat.toUInt8 :: num6 pa) ++ (Lib.leBytes 6 un.toNat ++ T) := ⟨_, by rw [hE]; rfl⟩
      rw [numAt_at this (by omega) (by omega) (by rw [six]; omega) 7 6 (by simp [num6, Lib.leBytes_length]) rfl]; omega
    have e3 : numAt s 13 6 = nu := by
      have : s.data.toList = (k.toNat.toUInt8 :: (num6 pa ++ num6 un)) ++ (Lib.leBytes 6 nu.toNat ++ (if k = 7 then Lib.leBytes 2 pr.length ++ pairsL pr else [])) := by rw [hE]; simp [num6]
      rw [numAt_at this (by omega) (by omega) (by rw [six]; omega) 13 6 (by simp [num6, Lib.leBytes_length]) rfl]; omega
    rw [e1, e2, e3]
    by_cases h7 : k = 7
    · simp only [if_pos h7] at a6 hE ⊢
      obtain ⟨l1, l2⟩ := rowB_parts a6
      have h1 : s.data.toList = (k.toNat.toUInt8 :: (num6 pa ++ (num6 un ++ num6 nu))) ++ (Lib.leBytes 2 pr.length ++ pairsL pr) := by rw [hE]; simp
      have e4 : numAt s 19 2 = (pr.length : Int) := numAt_at h1 (by omega) (by omega) (by rw [two]; omega) 19 2 (by simp [num6, Lib.leBytes_length]) rfl
      have h2 : s.data.toList = ((k.toNat.toUInt8 :: (num6 pa ++ (num6 un ++ num6 nu))) ++ Lib.leBytes 2 pr.length) ++ pairsL pr := by rw [h1]; simp
      rw [e4, Int.toNat_natCast, guessPairs_at pr _ 21 h2 (by simp [num6, Lib.leBytes_length]) l2]
    · simp only [if_neg h7] at a6 ⊢
      rw [a6]
end Go.Proofs.Ytajbnfobmnibjaa
