/-
  The contracts of the document's answer for layer 1: Text, PutText, Pad, Bare.
-/
import Derived.Test.YtdbniiggbjmfoaaW5
namespace Go.Proofs.Ytdbniiggbjmfoaa
open Go.RowKit






set_option maxHeartbeats 400000 in
theorem rpad_arg (s : ByteArray) (n : Int) (w : World) (h : n < 0 ∨ 65536 < n) :
    Calls Try.prog 18 #[.string s, .int .i64 n] w fun e w' => e = .returned (.tuple #[.string ⟨#[]⟩, .int .i64 1]) ∧ w = w' := by
  by_cases h0 : n < 0
  · clear h
    go_enter Try.func18, Try.ntmps18
    go_wp2
    go_ret2
    exact ⟨rfl, rfl⟩
  · have h1 : 65536 < n := by omega
    clear h
    go_enter Try.func18, Try.ntmps18
    go_wp2
    go_ret2
    exact ⟨rfl, rfl⟩

set_option maxHeartbeats 400000 in
theorem rpad_big (s : ByteArray) (n : Int) (w : World) (h0 : 0 ≤ n) (h1 : n ≤ 65536) (h2 : n < (s.size : Int)) :
    Calls Try.prog 18 #[.string s, .int .i64 n] w fun e w' => e = .returned (.tuple #[.string ⟨#[]⟩, .int .i64 2]) ∧ w = w' := by
  go_enter Try.func18, Try.ntmps18
  go_wp2
  go_ret2
  exact ⟨rfl, rfl⟩

theorem leBytes_zero (k : Nat) : Lib.leBytes k 0 = List.replicate k 0 := by
  induction k with
  | zero => rfl
  | succ k ih => rw [Lib.leBytes, Nat.zero_div, ih, List.replicate_succ]; rfl

set_option maxHeartbeats 400000 in
theorem rpad_ok (s : ByteArray) (n : Int) (w : World) (h1 : n ≤ 65536) (h2 : (s.size : Int) ≤ n) :
    Calls Try.prog 18 #[.string s, .int .i64 n] w fun e w' => e = .returned (.tuple #[.string ⟨(s.data.toList ++ List.replicate (n.toNat - s.size) 0).toArray⟩, .int .i64 0]) ∧ Below w.heap.size w w' := by
  obtain ⟨m, rfl⟩ := Int.eq_ofNat_of_zero_le (show 0 ≤ n by omega)
  rw [Int.toNat_natCast]
  have IH := Lib.hid fun w => little_any (m - s.size) (by omega) 0 w (by decide)
  rw [leBytes_zero] at IH
  have ec : ((m - s.size : Nat) : Int) = (m : Int) - (s.size : Int) := by omega
  rw [ec] at IH
  obtain ⟨L, hL⟩ : ∃ L : ByteArray, L = ⟨(List.replicate (m - s.size) 0).toArray⟩ := ⟨_, rfl⟩
  rw [← hL] at IH
  have hLs : L.size ≤ 65536 := by rw [hL, Lib.size_eq]; show (List.replicate (m - s.size) (0 : UInt8)).length ≤ _; rw [List.length_replicate]; omega
  have hfin : (⟨(s.data.toList ++ List.replicate (m - s.size) 0).toArray⟩ : ByteArray) = s ++ L := by
    apply ba_ext
    rw [ByteArray.data_append, hL]; simp
  rw [hfin]
  clear hfin hL ec
  go_enter Try.func18, Try.ntmps18
  go_wp2_with (go_at_call 37; refine (IH.out _).mono ?_; rintro e w' ⟨rfl, hb⟩)
  go_ret2
  exact ⟨rfl, hb⟩
end Go.Proofs.Ytdbniiggbjmfoaa
