/-
  The contracts of the document's answer for layer 1: Text, PutText, Pad, Bare.
-/
import Derived.Test.YtajbnfobmnibjaaW5
namespace Go.Proofs.Ytajbnfobmnibjaa
open Go.RowKit

set_option maxHeartbeats 400000 in
theorem rtext_bad (s : ByteArray) (a k : Int) (w : World) (hs : s.size ≤ 1000000) (h : textErr s.data.toList a = k) (hk : (k != 0) = true) :
    Calls Try.prog 41 #[.string s, .int .i64 a] w fun e w' => e = .returned (.tuple #[.string ⟨#[]⟩, .int .i64 0, .int .i64 k]) ∧ w = w' := by
  unfold textErr at h
  rw [← Lib.size_eq] at h
  cases hb : inB s.size a
  · rw [if_pos hb] at h; subst h
    have h0 : ¬ (0 ≤ a ∧ a ≤ (s.size : Int)) := of_decide_eq_false hb
    clear hb hk
    by_cases h1 : a < 0
    · clear h0
      go_enter Try.func41, Try.ntmps41
      go_wp2
      go_ret3
      exact ⟨rfl, rfl⟩
    · have h2 : (s.size : Int) < a := by omega
      clear h0
      go_enter Try.func41, Try.ntmps41
      go_wp2
      go_ret3
      exact ⟨rfl, rfl⟩
  · rw [if_neg (by rw [hb]; simp)] at h
    obtain ⟨h3, h4⟩ : 0 ≤ a ∧ a ≤ (s.size : Int) := of_decide_eq_true hb
    clear hb
    obtain ⟨p, rfl⟩ := Int.eq_ofNat_of_zero_le h3
    rw [Int.toNat_natCast] at h
    by_cases h6 : (s.size : Int) - (p + 1) < byteAt s.data.toList p
    · rw [if_pos h6] at h; subst h
      clear hk
      by_cases h7 : p = s.size
      · subst h7
        clear h6 h4
        go_enter Try.func41, Try.ntmps41
        go_wp2
        go_ret3
        exact ⟨rfl, rfl⟩
      · have hlt : p < s.size := by omega
        have hne : ((p : Int) == (s.size : Int)) = false := by simp; omega
        have h8 : (s.size : Int) < p + 1 + s[p].toNat := by rw [byteAt_get _ _ hlt]; omega
        have h9 : s[p].toNat < 256 := s[p].toNat_lt
        clear h6 h7 h4
        go_enter Try.func41, Try.ntmps41
        go_wp2
        go_ret3
        exact ⟨rfl, rfl⟩
    · rw [if_neg h6] at h; subst h; simp at hk

set_option maxHeartbeats 400000 in
theorem rtext_ok (s : ByteArray) (a : Int) (w : World) (hs : s.size ≤ 1000000) (h : textErr s.data.toList a = 0) :
    Calls Try.prog 41 #[.string s, .int .i64 a] w fun e w' => e = .returned (.tuple #[.string (s.extract (a.toNat + 1) (a.toNat + 1 + byteAt s.data.toList a.toNat)), .int .i64 (a + 1 + byteAt s.data.toList a.toNat), .int .i64 0]) ∧ w = w' := by
  obtain ⟨h3, h4⟩ := textErr_ok.1 h
  clear h
  obtain ⟨p, rfl⟩ := Int.eq_ofNat_of_zero_le h3
  rw [Int.toNat_natCast, ← Lib.size_eq] at h4
  rw [Int.toNat_natCast]
  have hlt : p < s.size := by omega
  have hne : ((p : Int) == (s.size : Int)) = false := by simp; omega
  rw [← byteAt_get _ _ hlt] at h4 ⊢
  have h9 : s[p].toNat < 256 := s[p].toNat_lt
  go_enter Try.func41, Try.ntmps41
  go_wp2
  go_ret3
  exact ⟨rfl, rfl⟩




set_option maxHeartbeats 400000 in
theorem rpad_arg (s : ByteArray) (n : Int) (w : World) (h : n < 0 ∨ 65536 < n) :
    Calls Try.prog 33 #[.string s, .int .i64 n] w fun e w' => e = .returned (.tuple #[.string ⟨#[]⟩, .int .i64 1]) ∧ w = w' := by
  by_cases h0 : n < 0
  · clear h
    go_enter Try.func33, Try.ntmps33
    go_wp2
    go_ret2
    exact ⟨rfl, rfl⟩
  · have h1 : 65536 < n := by omega
    clear h
    go_enter Try.func33, Try.ntmps33
    go_wp2
    go_ret2
    exact ⟨rfl, rfl⟩

set_option maxHeartbeats 400000 in
theorem rpad_big (s : ByteArray) (n : Int) (w : World) (h0 : 0 ≤ n) (h1 : n ≤ 65536) (h2 : n < (s.size : Int)) :
    Calls Try.prog 33 #[.string s, .int .i64 n] w fun e w' => e = .returned (.tuple #[.string ⟨#[]⟩, .int .i64 2]) ∧ w = w' := by
  go_enter Try.func33, Try.ntmps33
  go_wp2
  go_ret2
  exact ⟨rfl, rfl⟩

theorem leBytes_zero (k : Nat) : Lib.leBytes k 0 = List.replicate k 0 := by
  induction k with
  | zero => rfl
  | succ k ih => rw [Lib.leBytes, Nat.zero_div, ih, List.replicate_succ]; rfl

set_option maxHeartbeats 400000 in
theorem rpad_ok (s : ByteArray) (n : Int) (w : World) (h1 : n ≤ 65536) (h2 : (s.size : Int) ≤ n) :
    Calls Try.prog 33 #[.string s, .int .i64 n] w fun e w' => e = .returned (.tuple #[.string ⟨(s.data.toList ++ List.replicate (n.toNat - s.size) 0).toArray⟩, .int .i64 0]) ∧ Below w.heap.size w w' := by
  obtain ⟨m, rfl⟩ := Int.eq_ofNat_of_zero_le (show 0 ≤ n by omega)
  rw [Int.toNat_natCast]
  have IH := Lib.hid fun w => little_any (m - s.size) (by omega) 0 w (by decide)
  rw [leBytes_zero] at IH
  have ec : ((m - s.size : Nat) : Int) = (m : Int) - (s.size : Int) := by omega
  rw [ec] at IH
  obtain ⟨L, hL⟩ : ∃ L : ByteArray, L = ⟨(List.replicate (m - s.size) 0).toArray⟩ := ⟨_, rfl⟩
  rw [← hL] at IH
  have hLs : L.size ≤ 65536 := by rw [hL, Lib.size_eq]; show (List.replicate (m - s.size) (0 : UInt8)).length ≤ _; rw [List.length_replicate]; omega
  have hfin : (⟨(s.data.toList ++ List.replicate (m - s.size) 0).toArray⟩ : ByteArray) = s ++ L := by
    apply ba_ext
    rw [ByteArray.data_append, hL]; simp
  rw [hfin]
  clear hfin hL ec
  go_enter Try.func33, Try.ntmps33
  go_wp2_with (go_at_call 62; refine (IH.out _).mono ?_; rintro e w' ⟨rfl, hb⟩)
  go_ret2
  exact ⟨rfl, hb⟩
end Go.Proofs.Ytajbnfobmnibjaa
