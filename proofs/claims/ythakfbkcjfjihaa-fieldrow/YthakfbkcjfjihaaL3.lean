/-
  FieldBack: what is put is got; the plain facts and the callees' contracts at what was put.
-/
import Derived.Test.YthakfbkcjfjihaaL6
import Derived.Deep.QuietTactic
import Derived.BigQuiet
namespace Go.Proofs.Ythakfbkcjfjihaa
open Go.RowKit

theorem spliceB_mid (l m : List UInt8) (o : Nat) (h : o + m.length ≤ l.length) : ((spliceB l o m).drop o).take m.length = m := by
  unfold spliceB
  have e1 : (l.take o).length = o := by rw [List.length_take]; omega
  rw [List.append_assoc, List.drop_left' e1, List.take_left' rfl]
theorem spliceB_head (l m : List UInt8) (o : Nat) (h : o + m.length ≤ l.length) : (spliceB l o m).take o = l.take o := by
  unfold spliceB
  have e1 : (l.take o).length = o := by rw [List.length_take]; omega
  rw [List.append_assoc, List.take_left' e1]
theorem spliceB_tail (l m : List UInt8) (o : Nat) (h : o + m.length ≤ l.length) : (spliceB l o m).drop (o + m.length) = l.drop (o + m.length) := by
  unfold spliceB
  have e1 : (l.take o ++ m).length = o + m.length := by rw [List.length_append, List.length_take]; omega
  rw [List.drop_left' e1]

theorem put_back (s : ByteArray) (p k v : Nat) (hs : s.size ≤ 1000000) (h : errAt s.size p k = 0) (hv : v < 256 ^ k) : ∃ X : ByteArray,
    (∀ w, Calls Try.prog 12 #[.string s, .int .i64 p, .int .i64 k, .int .u64 v] w fun e w' => e = .returned (.tuple #[.string X, .int .i64 0]) ∧ Below w.heap.size w w') ∧
    (∀ w, Calls Try.prog 10 #[.string X, .int .i64 p, .int .i64 k] w fun e w' => e = .returned (.tuple #[.int .u64 v, .int .i64 0]) ∧ w = w') ∧
    X.size = s.size ∧ X.extract 0 p = s.extract 0 p ∧ X.extract (p + k) s.size = s.extract (p + k) s.size := by
  obtain ⟨h1, h2, h3, h4⟩ := errAt_ok.1 h
  have hl : (Lib.leBytes k v).length = k := Lib.leBytes_length k v
  have hfit : p + (Lib.leBytes k v).length ≤ s.data.toList.length := by rw [hl, ← Lib.size_eq]; omega
  have hz := putB_size s p (Lib.leBytes k v) (by rw [hl]; omega)
  have hcast : (v : Int) < (256 : Int) ^ k := by
    have := Int.ofNat_lt.2 hv
    have e : ((256 ^ k : Nat) : Int) = (256 : Int) ^ k := by simp
    rw [← e]; exact this
  refine ⟨putB s p (Lib.leBytes k v), fun w => ?_, fun w => ?_, hz, ?_, ?_⟩
  · have c := put_ok s p k v w hs h (by omega) (by rw [Int.toNat_natCast]; exact hcast)
    simp only [Int.toNat_natCast] at c
    exact c
  · have c := get_ok (putB s p (Lib.leBytes k v)) p k w (by omega) (by rw [hz]; exact h)
    simp only [Int.toNat_natCast] at c
    have e : Lib.leNat (((putB s p (Lib.leBytes k v)).data.toList.drop p).take k) = v := by
      have := spliceB_mid s.data.toList (Lib.leBytes k v) p hfit
      rw [hl] at this
      show Lib.leNat (((spliceB s.data.toList p (Lib.leBytes k v)).drop p).take k) = v
      rw [this, Lib.leNat_leBytes k v hv]
    rw [e] at c
    exact c
  · apply ba_ext
    rw [Lib.extract_data, Lib.extract_data, List.drop_zero, List.drop_zero, Nat.sub_zero]
    exact spliceB_head _ _ _ hfit
  · apply ba_ext
    rw [Lib.extract_data, Lib.extract_data]
    have := spliceB_tail s.data.toList (Lib.leBytes k v) p hfit
    rw [hl] at this
    show ((spliceB s.data.toList p (Lib.leBytes k v)).drop (p + k)).take _ = _
    rw [this]

theorem put_fails (s : ByteArray) (p k v : Nat) (hs : s.size ≤ 1000000) (h : ¬ (errAt s.size p k = 0 ∧ v < 256 ^ k)) : ∃ m : Int, (m != 0) = true ∧
    ∀ w, Calls Try.prog 12 #[.string s, .int .i64 p, .int .i64 k, .int .u64 v] w fun e w' => e = .returned (.tuple #[.string ⟨#[]⟩, .int .i64 m]) ∧ Below w.heap.size w w' := by
  by_cases h0 : errAt s.size p k = 0
  · have hv : 256 ^ k ≤ v := by
      have : ¬ v < 256 ^ k := fun hc => h ⟨h0, hc⟩
      omega
    refine ⟨2, by decide, fun w => (put_big s p k v w hs h0 (by omega) ?_).mono fun e w' ⟨he, hb⟩ => ⟨he, hb ▸ Below.refl _ _⟩⟩
    have := Int.ofNat_le.2 hv
    have e : ((256 ^ k : Nat) : Int) = (256 : Int) ^ k := by simp
    rw [Int.toNat_natCast, ← e]; exact this
  · exact ⟨_, by simpa using h0, fun w => (put_bad s p k v _ w hs rfl (by simpa using h0)).mono fun e w' ⟨he, hb⟩ => ⟨he, hb ▸ Below.refl _ _⟩⟩

theorem putText_back (s t : ByteArray) (p : Nat) (hs : s.size ≤ 1000000) (h : putTextErr s.size p t.size = 0) : ∃ X : ByteArray,
    (∀ w, Calls Try.prog 17 #[.string s, .int .i64 p, .string t] w fun e w' => e = .returned (.tuple #[.string X, .int .i64 ((p : Int) + 1 + t.size), .int .i64 0]) ∧ Below w.heap.size w w') ∧
    (∀ w, Calls Try.prog 15 #[.string X, .int .i64 p] w fun e w' => e = .returned (.tuple #[.string t, .int .i64 ((p : Int) + 1 + t.size), .int .i64 0]) ∧ Below w.heap.size w w') ∧
    X.size = s.size ∧ X.extract 0 p = s.extract 0 p ∧ X.extract (p + 1 + t.size) s.size = s.extract (p + 1 + t.size) s.size := by
  obtain ⟨h1, h2, h3⟩ := putTextErr_ok.1 h
  obtain ⟨m, hm⟩ : ∃ m, m = UInt8.ofNat t.size :: t.data.toList := ⟨_, rfl⟩
  have hl : m.length = 1 + t.size := by rw [hm, List.length_cons, ← Lib.size_eq]; omega
  have hfit : p + m.length ≤ s.data.toList.length := by rw [hl, ← Lib.size_eq]; omega
  have hz := putB_size s p m (by rw [hl]; omega)
  have hmid := spliceB_mid s.data.toList m p hfit
  have hb0 : byteAt (putB s p m).data.toList p = t.size := by
    have e : (putB s p m).data.toList[p]? = some (UInt8.ofNat t.size) := by
      show (spliceB s.data.toList p m)[p]? = _
      rw [spliceB_get _ _ _ _ hfit, if_neg (by omega), if_pos (by omega), Nat.sub_self, hm]; rfl
    unfold byteAt; rw [List.getD_eq_getElem?_getD, e]
    simp [UInt8.toNat_ofNat', Nat.mod_eq_of_lt (show t.size < 256 by omega)]
  refine ⟨putB s p m, fun w => ?_, fun w => ?_, hz, ?_, ?_⟩
  · have c := putText_ok s t p w hs h
    rw [Int.toNat_natCast, ← hm] at c
    exact c
  · have c := text_ok (putB s p m) p w (by omega) (textErr_ok.2 (by rw [Int.toNat_natCast, hb0, ← Lib.size_eq, hz]; omega))
    rw [Int.toNat_natCast, hb0] at c
    have e : (putB s p m).extract (p + 1) (p + 1 + t.size) = t := by
      apply ba_ext
      rw [Lib.extract_data, show p + 1 + t.size - (p + 1) = t.size by omega]
      have h4 : ((spliceB s.data.toList p m).drop p).take (1 + t.size) = m := by rw [← hl]; exact hmid
      have h5 := congrArg (List.drop 1) h4
      rw [List.drop_take, List.drop_drop, hm, List.drop_succ_cons, List.drop_zero, show 1 + t.size - 1 = t.size by omega] at h5
      rw [← hm] at h5
      exact h5
    rw [e] at c
    exact c
  · apply ba_ext
    rw [Lib.extract_data, Lib.extract_data, List.drop_zero, List.drop_zero, Nat.sub_zero]
    exact spliceB_head _ _ _ hfit
  · apply ba_ext
    rw [Lib.extract_data, Lib.extract_data]
    have := spliceB_tail s.data.toList m p hfit
    rw [hl, ← Nat.add_assoc] at this
    show ((spliceB s.data.toList p m).drop (p + 1 + t.size)).take _ = _
    rw [this]
end Go.Proofs.Ythakfbkcjfjihaa
