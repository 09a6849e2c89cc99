/-
  The contracts of package field's placeIn, numberAt and Get, for every string of at most a million bytes and every integer.
-/
import Derived.Test.YtajbnfobmnibjaaRows
import Derived.Test.YtajbnfobmnibjaaM1
import Derived.WalkKit
import Derived.WalkSpells
import Derived.WalkLawsBesides
import Derived.Lib.Hide
import Derived.Lib.Strings
import Derived.IntWalk
import Derived.Deep.Light
namespace Go.Proofs.Ytajbnfobmnibjaa
open Go.RowKit

set_option maxHeartbeats 400000 in
theorem placeIn_yes (s : ByteArray) (a : Int) (w : World) (h : inB s.size a = true) :
    Calls Try.prog 74 #[.string s, .int .i64 a] w fun e w' => e = .returned (.bool true) ∧ w = w' := by
  have h0 : 0 ≤ a ∧ a ≤ (s.size : Int) := of_decide_eq_true h
  obtain ⟨h0, h1⟩ := h0
  clear h
  go_enter Try.func74, Try.ntmps74
  go_wp2
  go_ret
  exact ⟨by simp, rfl⟩

set_option maxHeartbeats 400000 in
theorem placeIn_no (s : ByteArray) (a : Int) (w : World) (h : inB s.size a = false) :
    Calls Try.prog 74 #[.string s, .int .i64 a] w fun e w' => e = .returned (.bool false) ∧ w = w' := by
  have h0 : ¬ (0 ≤ a ∧ a ≤ (s.size : Int)) := of_decide_eq_false h
  clear h
  by_cases h1 : 0 ≤ a
  · have h2 : ¬ a ≤ (s.size : Int) := fun h2 => h0 ⟨h1, h2⟩
    clear h0
    go_enter Try.func74, Try.ntmps74
    go_wp2
    go_ret
    exact ⟨by simp, rfl⟩
  · clear h0
    go_enter Try.func74, Try.ntmps74
    go_wp2
    go_ret
    exact ⟨by simp, rfl⟩

set_option maxHeartbeats 400000 in
theorem numberAt_is (s : ByteArray) (a z k : Int) (w : World) (hs : s.size ≤ 1000000) (h : errAt s.size a z = k) :
    Calls Try.prog 67 #[.string s, .int .i64 a, .int .i64 z] w fun e w' => e = .returned (.int .i64 k) ∧ w = w' := by
  unfold errAt at h
  by_cases h1 : z < 1
  · rw [if_pos (Or.inl h1)] at h; subst h
    go_enter Try.func67, Try.ntmps67
    go_wp2
    go_ret
    exact ⟨rfl, rfl⟩
  by_cases h2 : 8 < z
  · rw [if_pos (Or.inr (Or.inl h2))] at h; subst h
    go_enter Try.func67, Try.ntmps67
    go_wp2
    go_ret
    exact ⟨rfl, rfl⟩
  cases hb : inB s.size a
  · rw [if_pos (Or.inr (Or.inr hb))] at h; subst h
    have H := Lib.hid hb; clear hb
    go_enter Try.func67, Try.ntmps67
    go_wp2_with (go_at_call 74; refine (placeIn_no _ _ _ H.out).mono ?_; rintro e w' ⟨rfl, rfl⟩)
    go_ret
    exact ⟨rfl, rfl⟩
  · rw [if_neg (by rw [hb]; simp; omega)] at h
    have H := Lib.hid hb
    obtain ⟨h3, h4⟩ : 0 ≤ a ∧ a ≤ (s.size : Int) := of_decide_eq_true hb
    clear hb
    by_cases h5 : (s.size : Int) - a < z
    · rw [if_pos h5] at h; subst h
      go_enter Try.func67, Try.ntmps67
      go_wp2_with (go_at_call 74; refine (placeIn_yes _ _ _ H.out).mono ?_; rintro e w' ⟨rfl, rfl⟩)
      go_ret
      exact ⟨rfl, rfl⟩
    · rw [if_neg h5] at h; subst h
      go_enter Try.func67, Try.ntmps67
      go_wp2_with (go_at_call 74; refine (placeIn_yes _ _ _ H.out).mono ?_; rintro e w' ⟨rfl, rfl⟩)
      go_ret
      exact ⟨rfl, rfl⟩

set_option maxHeartbeats 400000 in
theorem get_bad (s : ByteArray) (a z k : Int) (w : World) (hs : s.size ≤ 1000000) (h : errAt s.size a z = k) (hk : (k != 0) = true) :
    Calls Try.prog 64 #[.string s, .int .i64 a, .int .i64 z] w fun e w' => e = .returned (.tuple #[.int .u64 0, .int .i64 k]) ∧ w = w' := by
  have H := Lib.hid h; clear h
  go_enter Try.func64, Try.ntmps64
  go_wp2_with (go_at_call 67; refine (numberAt_is _ _ _ k _ hs H.out).mono ?_; rintro e w' ⟨rfl, rfl⟩)
  go_ret2
  exact ⟨rfl, rfl⟩

set_option maxHeartbeats 400000 in
theorem get_ok (s : ByteArray) (a z : Int) (w : World) (hs : s.size ≤ 1000000) (h : errAt s.size a z = 0) :
    Calls Try.prog 64 #[.string s, .int .i64 a, .int .i64 z] w fun e w' => e = .returned (.tuple #[.int .u64 (Lib.leNat ((s.data.toList.drop a.toNat).take z.toNat)), .int .i64 0]) ∧ w = w' := by
  have H := Lib.hid h
  obtain ⟨h1, h2, h3, h4⟩ := errAt_ok.1 h
  clear h
  obtain ⟨p, rfl⟩ := Int.eq_ofNat_of_zero_le h3
  obtain ⟨q, rfl⟩ := Int.eq_ofNat_of_zero_le (show 0 ≤ z by omega)
  simp only [Int.toNat_natCast]
  go_enter Try.func64, Try.ntmps64
  go_wp2_with (go_at_call 67; refine (numberAt_is _ _ _ 0 _ hs H.out).mono ?_; rintro e w' ⟨rfl, rfl⟩)
  go_loop [9, 19] (fun n i => ∃ k : Nat, k ≤ q ∧ i = .int .i64 k ∧ n = .int .u64 (Lib.leNat ((s.data.toList.drop p).take k))) (fun _ i => q - (intOf i).toNat)
  case atStart => exact ⟨0, Nat.zero_le _, rfl, rfl⟩
  case round =>
    obtain ⟨k, hk, rfl, rfl⟩ := hrel
    by_cases hlt : k < q
    · go_wp2
      go_round
      case rel =>
        have hl : k < (s.data.toList.drop p).length := by rw [List.length_drop, ← Lib.size_eq]; omega
        have hst := byte_step (s.data.toList.drop p) k (by omega) hl
        have hg : (s.data.toList.drop p)[k] = s[p + k]'(by omega) := by rw [List.getElem_drop]; rfl
        rw [hg] at hst
        exact ⟨k + 1, hlt, by go_num, by rw [hst]⟩
      case measure => simp [intOf]; omega
    · go_wp2
      go_ret2
      obtain rfl : k = q := by omega
      exact ⟨rfl, rfl⟩
end Go.Proofs.Ytajbnfobmnibjaa
