/-
  FieldApart: the walk.
-/
import Derived.Test.YthakfbkcjfjihaaW4
import Derived.Test.YthakfbkcjfjihaaW5
import Derived.OpenShut
import Derived.Deep.DeepCutAuto
namespace Go.Proofs.Ythakfbkcjfjihaa
open Go.RowKit

def putB (s : ByteArray) (p : Nat) (m : List UInt8) : ByteArray := ⟨(spliceB s.data.toList p m).toArray⟩
theorem putB_size (s : ByteArray) (p : Nat) (m : List UInt8) (h : p + m.length ≤ s.size) : (putB s p m).size = s.size := by
  rw [Lib.size_eq]; show (spliceB s.data.toList p m).length = _; rw [spliceB_length _ _ _ (by rw [← Lib.size_eq]; exact h), ← Lib.size_eq]
theorem spliceB_get (l m : List UInt8) (o i : Nat) (h : o + m.length ≤ l.length) : (spliceB l o m)[i]? = if i < o then l[i]? else if i < o + m.length then m[i - o]? else l[i]? := by
  unfold spliceB
  have e1 : (l.take o).length = o := by rw [List.length_take]; omega
  by_cases h1 : i < o
  · rw [if_pos h1, List.append_assoc, List.getElem?_append_left (by omega), List.getElem?_take_of_lt h1]
  · rw [if_neg h1]
    by_cases h2 : i < o + m.length
    · rw [if_pos h2, List.getElem?_append_left (by rw [List.length_append]; omega), List.getElem?_append_right (by omega), e1]
    · rw [if_neg h2, List.getElem?_append_right (by rw [List.length_append]; omega), List.length_append, e1, List.getElem?_drop]
      congr 1; omega
theorem spliceB_comm (l m k : List UInt8) (a b : Nat) (h1 : a + m.length ≤ b) (h2 : b + k.length ≤ l.length) : spliceB (spliceB l a m) b k = spliceB (spliceB l b k) a m := by
  apply List.ext_getElem?
  intro i
  have e1 := spliceB_length l m a (by omega)
  have e2 := spliceB_length l k b (by omega)
  rw [spliceB_get _ _ _ _ (by omega), spliceB_get _ _ _ _ (by omega), spliceB_get _ _ _ _ (by omega), spliceB_get _ _ _ _ (by omega)]
  by_cases c1 : i < a
  · rw [if_pos (by omega), if_pos c1, if_pos c1, if_pos (by omega)]
  · by_cases c2 : i < a + m.length
    · rw [if_pos (by omega), if_neg c1, if_pos c2, if_neg c1, if_pos c2]
    · rw [if_neg c1, if_neg c2, if_neg c1, if_neg c2]
theorem putB_comm (s : ByteArray) (m k : List UInt8) (a b : Nat) (h1 : a + m.length ≤ b) (h2 : b + k.length ≤ s.size) : putB (putB s a m) b k = putB (putB s b k) a m := by
  apply ba_ext
  show spliceB (spliceB s.data.toList a m) b k = spliceB (spliceB s.data.toList b k) a m
  exact spliceB_comm _ _ _ _ _ h1 (by rw [← Lib.size_eq]; exact h2)
theorem put8_is (s : ByteArray) (p v : Nat) (a : Int) (ha : a = p) (hs : s.size ≤ 1000000) (hp : p + 8 ≤ s.size) (hv : v < 18446744073709551616) (w : World) :
    Calls Try.prog 12 #[.string s, .int .i64 a, .int .i64 8, .int .u64 v] w fun e w' => e = .returned (.tuple #[.string (putB s p (Lib.leBytes 8 v)), .int .i64 0]) ∧ Below w.heap.size w w' := by
  subst ha
  exact put_ok s p 8 v w hs (errAt_ok.2 (by omega)) (by omega) (by show (v : Int) < 256 ^ 8; omega)

set_option maxRecDepth 100000 in
set_option maxHeartbeats 400000 in
theorem apart_walk (s : ByteArray) (hs : s.size ≤ 2 ^ 63 - 1) (a0 a1 : Nat) (h0 : a0 ≤ 255) (v0 v1 : Nat) (HV0 : Hid (v0 < 18446744073709551616)) (HV1 : Hid (v1 < 18446744073709551616)) (w : World) :
    Calls Try.prog 8 #[.string s, .agg #[.int .u8 a0, .int .u8 a1], .agg #[.int .u64 v0, .int .u64 v1]] w fun e w' => e = .returned (.bool true) ∧ Below w.heap.size w w' := by
  have hx : (s.extract 0 300).size ≤ 300 := by rw [ByteArray.size_extract]; omega
  have HX := Lib.hid hx
  clear hx
  go_enter Try.func8, Try.ntmps8
  go_upto_region 1 with fail
  go_cut [0] (fun s0 wx => wx = (w.alloc (.cells #[.int .u8 a0, .int .u8 a1] 41)).alloc (.cells #[.int .u64 v0, .int .u64 v1] 42) ∧ ∃ S : ByteArray, s0 = .string S ∧ 16 ≤ S.size ∧ S.size ≤ 316)
  case first =>
    go_wp2
    · go_meet; exact ⟨rfl, _, rfl, by rw [ByteArray.size_append]; exact Nat.le_add_left 16 _, by rw [ByteArray.size_append]; exact Nat.add_le_add_right HX.out 16⟩
    · go_meet; exact ⟨rfl, _, rfl, by rw [ByteArray.size_append]; exact Nat.le_add_left 16 _, by rw [ByteArray.size_append]; exact Nat.add_le_add_right (by omega) 16⟩
  case rest =>
    obtain ⟨rfl, S, rfl, hS0, hS1⟩ := hcut
    have hp := Nat.mod_lt a0 (show S.size - 15 > 0 by omega)
    obtain ⟨p, hpe⟩ : ∃ p, p = a0 % (S.size - 15) := ⟨_, rfl⟩
    rw [← hpe] at hp
    have HP := Lib.hid hpe; clear hpe
    go_wp2_with fail
    have hA : (a0 : Int) % ((S.size : Int) - 15) = (p : Int) := by
      rw [show ((S.size : Int) - 15) = ((S.size - 15 : Nat) : Int) by omega, HP.out]; rfl
    have hB : (S.size : Int) - 8 = ((S.size - 8 : Nat) : Int) := by omega
    rw [hA, hB]
    clear hA hB HP
    obtain ⟨b, hb⟩ : ∃ b, b = S.size - 8 := ⟨_, rfl⟩
    rw [← hb]
    have l0 : (Lib.leBytes 8 v0).length = 8 := Lib.leBytes_length 8 v0
    have l1 : (Lib.leBytes 8 v1).length = 8 := Lib.leBytes_length 8 v1
    have z1 := putB_size S p (Lib.leBytes 8 v0) (by omega)
    have z2 := putB_size S b (Lib.leBytes 8 v1) (by omega)
    have c1 := fun w => put8_is S p v0 p rfl (by omega) (by omega) HV0.out w
    have c2 := fun w => put8_is (putB S p (Lib.leBytes 8 v0)) b v1 b rfl (by omega) (by omega) HV1.out w
    have c3 := fun w => put8_is S b v1 b rfl (by omega) (by omega) HV1.out w
    have c4 := fun w => put8_is (putB S b (Lib.leBytes 8 v1)) p v0 p rfl (by omega) (by omega) HV0.out w
    rw [← putB_comm S (Lib.leBytes 8 v0) (Lib.leBytes 8 v1) p b (by omega) (by omega)] at c4
    have C1 := Lib.hid c1; have C2 := Lib.hid c2; have C3 := Lib.hid c3; have C4 := Lib.hid c4
    clear c1 c2 c3 c4 z1 z2 l0 l1 hb
    generalize putB (putB S p (Lib.leBytes 8 v0)) b (Lib.leBytes 8 v1) = Y at *
    generalize putB S p (Lib.leBytes 8 v0) = X at *
    generalize putB S b (Lib.leBytes 8 v1) = Z at *
    refine (C1.out _).mono ?_; rintro e w1 ⟨rfl, b1⟩
    have s1 := b1.size
    have hz : ((w.alloc (.cells #[.int .u8 a0, .int .u8 a1] 41)).alloc (.cells #[.int .u64 v0, .int .u64 v1] 42)).heap.size = w.heap.size + 2 := by simp
    rw [hz] at s1
    have k10 : w1.cell? ⟨w.heap.size + 1, 0, none⟩ = some (.int .u64 v0) := by rw [bcell b1 _ _ (by omega)]; simp [go_sem]
    have k11 : w1.cell? ⟨w.heap.size + 1, 1, none⟩ = some (.int .u64 v1) := by rw [bcell b1 _ _ (by omega)]; simp [go_sem]
    have HZ := Lib.hid hz; clear hz
    go_wp2_with fail
    refine (C2.out _).mono ?_; rintro e w2 ⟨rfl, b2⟩
    have s2 := b2.size
    have k20 : w2.cell? ⟨w.heap.size + 1, 0, none⟩ = some (.int .u64 v0) := by rw [bcell b2 _ _ (by omega), k10]
    have k21 : w2.cell? ⟨w.heap.size + 1, 1, none⟩ = some (.int .u64 v1) := by rw [bcell b2 _ _ (by omega), k11]
    go_wp2_with fail
    refine (C3.out _).mono ?_; rintro e w3 ⟨rfl, b3⟩
    have s3 := b3.size
    have k30 : w3.cell? ⟨w.heap.size + 1, 0, none⟩ = some (.int .u64 v0) := by rw [bcell b3 _ _ (by omega), k20]
    go_wp2_with fail
    refine (C4.out _).mono ?_; rintro e w4 ⟨rfl, b4⟩
    have s4 := b4.size
    go_wp2_with fail
    refine (fixed_true _).mono ?_; rintro e w5 ⟨rfl, b5⟩
    go_wp2_with fail
    go_ret
    have hz := HZ.out
    exact ⟨rfl, (((((((Below.refl _ _).alloc (Nat.le_refl _) _).alloc (by simp) _).trans (b1.mono (by omega))).trans (b2.mono (by omega))).trans (b3.mono (by omega))).trans (b4.mono (by omega))).trans (b5.mono (by omega))⟩

theorem walk_FieldApart (s : ByteArray) (hs : s.size ≤ maxLen) (x y : Int) (hx : (Lit.int .u8 x).wf = true) (hy : (Lit.int .u8 y).wf = true) (n m : Int) (hn : (Lit.int .u64 n).wf = true) (hm : (Lit.int .u64 m).wf = true) (w : World) :
    Calls Try.prog 8 #[.string s, .agg #[.int .u8 x, .int .u8 y], .agg #[.int .u64 n, .int .u64 m]] w fun e w' => e = .returned (.bool true) ∧ Below w.heap.size w w' := by
  have h1 := bounds_u8 hx
  have h2 := bounds_u8 hy
  have h3 := bounds_u64 hn
  have h4 := bounds_u64 hm
  obtain ⟨a0, rfl⟩ := Int.eq_ofNat_of_zero_le h1.1
  obtain ⟨a1, rfl⟩ := Int.eq_ofNat_of_zero_le h2.1
  obtain ⟨v0, rfl⟩ := Int.eq_ofNat_of_zero_le h3.1
  obtain ⟨v1, rfl⟩ := Int.eq_ofNat_of_zero_le h4.1
  exact apart_walk s hs a0 a1 (by omega) v0 v1 (Lib.hid (by omega)) (Lib.hid (by omega)) w
end Go.Proofs.Ythakfbkcjfjihaa
