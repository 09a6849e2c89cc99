/-
  The contracts of the document's answer for layer 1: Text, PutText, Pad, Bare.
-/
import Derived.Test.YthakfbkcjfjihaaW5
namespace Go.Proofs.Ythakfbkcjfjihaa
open Go.RowKit

set_option maxHeartbeats 400000 in
theorem rtext_bad (s : ByteArray) (a k : Int) (w : World) (hs : s.size ≤ 1000000) (h : textErr s.data.toList a = k) (hk : (k != 0) = true) :
    Calls Try.prog 16 #[.string s, .int .i64 a] w fun e w' => e = .returned (.tuple #[.string ⟨#[]⟩, .int .i64 0, .int .i64 k]) ∧ w = w' := by
  unfold textErr at h
  rw [← Lib.size_eq] at h
  cases hb : inB s.size a
  · rw [if_pos hb] at h; subst h
    have h0 : ¬ (0 ≤ a ∧ a ≤ (s.size : Int)) := of_decide_eq_false hb
    clear hb hk
    by_cases h1 : a < 0
    · clear h0
      go_enter Try.func16, Try.ntmps16
      go_wp2
      go_ret3
      exact ⟨rfl, rfl⟩
    · have h2 : (s.size : Int) < a := by omega
      clear h0
      go_enter Try.func16, Try.ntmps16
      go_wp2
      go_ret3
      exact ⟨rfl, rfl⟩
  · rw [if_neg (by rw [hb]; simp)] at h
    obtain ⟨h3, h4⟩ : 0 ≤ a ∧ a ≤ (s.size : Int) := of_decide_eq_true hb
    clear hb
    obtain ⟨p, rfl⟩ := Int.eq_ofNat_of_zero_le h3
    rw [Int.toNat_natCast] at h
    by_cases h6 : (s.size : Int) - (p + 1) < byteAt s.data.toList p
    · rw [if_pos h6] at h; subst h
      clear hk
      by_cases h7 : p = s.size
      · subst h7
        clear h6 h4
        go_enter Try.func16, Try.ntmps16
        go_wp2
        go_ret3
        exact ⟨rfl, rfl⟩
      · have hlt : p < s.size := by omega
        have hne : ((p : Int) == (s.size : Int)) = false := by simp; omega
        have h8 : (s.size : Int) < p + 1 + s[p].toNat := by rw [byteAt_get _ _ hlt]; omega
        have h9 : s[p].toNat < 256 := s[p].toNat_lt
        clear h6 h7 h4
        go_enter Try.func16, Try.ntmps16
        go_wp2
        go_ret3
        exact ⟨rfl, rfl⟩
    · rw [if_neg h6] at h; subst h; simp at hk

set_option maxHeartbeats 400000 in
theorem rtext_ok (s : ByteArray) (a : Int) (w : World) (hs : s.size ≤ 1000000) (h : textErr s.data.toList a = 0) :
    Calls Try.prog 16 #[.string s, .int .i64 a] w fun e w' => e = .returned (.tuple #[.string (s.extract (a.toNat + 1) (a.toNat + 1 + byteAt s.data.toList a.toNat)), .int .i64 (a + 1 + byteAt s.data.toList a.toNat), .int .i64 0]) ∧ w = w' := by
  obtain ⟨h3, h4⟩ := textErr_ok.1 h
  clear h
  obtain ⟨p, rfl⟩ := Int.eq_ofNat_of_zero_le h3
  rw [Int.toNat_natCast, ← Lib.size_eq] at h4
  rw [Int.toNat_natCast]
  have hlt : p < s.size := by omega
  have hne : ((p : Int) == (s.size : Int)) = false := by simp; omega
  rw [← byteAt_get _ _ hlt] at h4 ⊢
  have h9 : s[p].toNat < 256 := s[p].toNat_lt
  go_enter Try.func16, Try.ntmps16
  go_wp2
  go_ret3
  exact ⟨rfl, rfl⟩

set_option maxHeartbeats 400000 in
theorem rputText_bad (s t : ByteArray) (a k : Int) (w : World) (hs : s.size ≤ 1000000) (ht : t.size ≤ 1000000) (h : putTextErr s.size a t.size = k) (hk : (k != 0) = true) :
    Calls Try.prog 18 #[.string s, .int .i64 a, .string t] w fun e w' => e = .returned (.tuple #[.string ⟨#[]⟩, .int .i64 0, .int .i64 k]) ∧ w = w' := by
  unfold putTextErr at h
  cases hb : inB s.size a
  · rw [if_pos hb] at h; subst h
    have h0 : ¬ (0 ≤ a ∧ a ≤ (s.size : Int)) := of_decide_eq_false hb
    clear hb hk
    by_cases h1 : a < 0
    · clear h0
      go_enter Try.func18, Try.ntmps18
      go_wp2
      go_ret3
      exact ⟨rfl, rfl⟩
    · have h2 : (s.size : Int) < a := by omega
      clear h0
      go_enter Try.func18, Try.ntmps18
      go_wp2
      go_ret3
      exact ⟨rfl, rfl⟩
  · rw [if_neg (by rw [hb]; simp)] at h
    obtain ⟨h3, h4⟩ : 0 ≤ a ∧ a ≤ (s.size : Int) := of_decide_eq_true hb
    clear hb
    by_cases h5 : t.size > 255
    · rw [if_pos h5] at h; subst h
      clear hk
      go_enter Try.func18, Try.ntmps18
      go_wp2
      go_ret3
      exact ⟨rfl, rfl⟩
    rw [if_neg h5] at h
    by_cases h6 : (s.size : Int) - a < t.size + 1
    · rw [if_pos h6] at h; subst h
      clear hk
      have h7 : (s.size : Int) < a + 1 + t.size := by omega
      go_enter Try.func18, Try.ntmps18
      go_wp2
      go_ret3
      exact ⟨rfl, rfl⟩
    · rw [if_neg h6] at h; subst h; simp at hk

set_option maxHeartbeats 1000000 in
theorem rputText_ok (s t : ByteArray) (a : Int) (w : World) (hs : s.size ≤ 1000000) (h : putTextErr s.size a t.size = 0) :
    Calls Try.prog 18 #[.string s, .int .i64 a, .string t] w fun e w' =>
      e = .returned (.tuple #[.string ⟨(spliceB s.data.toList a.toNat (UInt8.ofNat t.size :: t.data.toList)).toArray⟩, .int .i64 (a + 1 + t.size), .int .i64 0]) ∧ Below w.heap.size w w' := by
  obtain ⟨h3, h4, h5⟩ := putTextErr_ok.1 h
  clear h
  obtain ⟨p, rfl⟩ := Int.eq_ofNat_of_zero_le h3
  rw [Int.toNat_natCast]
  obtain ⟨m, hm⟩ : ∃ m, m = t.size := ⟨_, rfl⟩
  obtain ⟨B, hB⟩ : ∃ B : ByteArray, B = ⟨#[UInt8.ofNat m]⟩ := ⟨_, rfl⟩
  have hBs : B.size ≤ 1 := by rw [hB]; exact Nat.le_refl _
  have hfin : (⟨(spliceB s.data.toList p (UInt8.ofNat t.size :: t.data.toList)).toArray⟩ : ByteArray) = s.extract 0 p ++ B ++ t ++ s.extract (p + 1 + t.size) s.size := by
    apply ba_ext
    simp only [ByteArray.data_append, Array.toList_append, Lib.extract_data, hB, spliceB, List.drop_zero, Nat.sub_zero, List.length_cons, ← Lib.size_eq, hm]
    rw [List.take_of_length_le (l := s.data.toList.drop (p + 1 + t.size)) (by rw [List.length_drop, ← Lib.size_eq]; omega)]
    simp [Nat.add_assoc, Nat.add_comm 1]
  rw [hfin]
  have hx1 : (s.extract 0 p).size ≤ 1000000 := by rw [ByteArray.size_extract]; omega
  have hx2 : (s.extract (p + 1 + t.size) s.size).size ≤ 1000000 := by rw [ByteArray.size_extract]; omega
  have hx3 : (s.extract 0 p ++ B).size ≤ 1000008 := by rw [ByteArray.size_append]; omega
  have hx4 : (s.extract 0 p ++ B ++ t).size ≤ 1001008 := by rw [ByteArray.size_append]; omega
  have hm1 : m < 256 := by omega
  have hst := fun W g c hc => run_string_one (P := Try.prog) 47 9 5 Try.underlying47 Try.underlying5 Try.underlying9 W g c m hm1 hc
  rw [← hB, hm] at hst
  have e1 : IntKind.i64.wrap ((p : Int) + 1 + (t.size : Int)) = (p : Int) + 1 + (t.size : Int) := IntWalk.i64_in _ (by omega)
  have e2 : (0 : Int) ≤ (p : Int) + 1 + (t.size : Int) := by omega
  have e3 : ((p : Int) + 1 + (t.size : Int)).toNat = p + 1 + t.size := by omega
  have e4 : (p : Int) ≤ (s.size : Int) := by omega
  have e5 : IntKind.u8.wrap (t.size : Int) = (t.size : Int) := by rw [IntKind.wrap_u8]; omega
  clear hB hm hfin
  go_enter Try.func18, Try.ntmps18
  go_wp2_with fail
  go_region_with fail
  all_goals
    go_wp2
    go_ret3
    exact ⟨rfl, ((Below.refl _ _).alloc (Nat.le_refl _) _).drew⟩

set_option maxHeartbeats 400000 in
theorem rbare_any (k : Nat) : ∀ (s : ByteArray) (w : World), s.size = k → s.size ≤ 1000000 →
    Calls Try.prog 20 #[.string s] w fun e w' => e = .returned (.string (bareOf s)) ∧ w = w' := by
  induction k with
  | zero =>
    intro s w h0 _
    have hB : s = ⟨#[]⟩ := by
      apply ByteArray.ext
      exact Array.eq_empty_of_size_eq_zero h0
    subst hB
    clear h0
    go_enter Try.func20, Try.ntmps20
    go_wp2
    go_ret
    exact ⟨rfl, rfl⟩
  | succ k ih =>
    intro s w h0 hs
    have hx : (s.extract 0 k).size = k := by rw [ByteArray.size_extract]; omega
    have IH := Lib.hid fun w => ih (s.extract 0 k) w hx (by omega)
    clear ih
    have hl : s.data.toList.length = k + 1 := by rw [← Lib.size_eq]; exact h0
    have hsn : s.data.toList = s.data.toList.take k ++ [s[k]] := by
      have := take_snoc_get s.data.toList k (by omega)
      rw [List.take_of_length_le (by omega)] at this; exact this
    have hbl : bareLen s.data.toList = if s[k] = 0 then bareLen (s.data.toList.take k) else k + 1 := by
      have := congrArg bareLen hsn
      rw [bareLen_snoc, List.length_take, Nat.min_eq_left (by omega)] at this; exact this
    have hn1 := toList_ne s (by omega)
    have hn2 := toList_nonempty s (by omega)
    by_cases hz : s[k] = 0
    · rw [if_pos hz] at hbl
      have he : bareOf (s.extract 0 k) = bareOf s := by
        apply ba_ext
        rw [bareOf_list, bareOf_list, Lib.extract_data, hbl]
        simp only [List.drop_zero, Nat.sub_zero, List.take_take]
        congr 1
        have := bareLen_le (s.data.toList.take k)
        rw [List.length_take] at this; omega
      rw [he] at IH
      have ht : ((s[k].toNat : Int) == 0) = true := by rw [hz]; rfl
      clear hz hbl hsn hl he hx
      go_enter Try.func20, Try.ntmps20
      go_wp2_with (go_at_call 20; refine (IH.out _).mono ?_; rintro e w' ⟨rfl, rfl⟩)
      go_ret
      exact ⟨rfl, rfl⟩
    · rw [if_neg hz] at hbl
      have he : bareOf s = s := by
        apply ba_ext
        rw [bareOf_list, hbl, List.take_of_length_le (by omega)]
      rw [he]
      have ht : ((s[k].toNat : Int) == 0) = false := by
        rw [beq_eq_false_iff_ne]; intro h0; exact hz (UInt8.toNat_inj.1 (by simpa using h0))
      clear hz hbl hsn hl he hx IH
      go_enter Try.func20, Try.ntmps20
      go_wp2
      go_ret
      exact ⟨rfl, rfl⟩

set_option maxHeartbeats 400000 in
theorem rpad_arg (s : ByteArray) (n : Int) (w : World) (h : n < 0 ∨ 65536 < n) :
    Calls Try.prog 22 #[.string s, .int .i64 n] w fun e w' => e = .returned (.tuple #[.string ⟨#[]⟩, .int .i64 1]) ∧ w = w' := by
  by_cases h0 : n < 0
  · clear h
    go_enter Try.func22, Try.ntmps22
    go_wp2
    go_ret2
    exact ⟨rfl, rfl⟩
  · have h1 : 65536 < n := by omega
    clear h
    go_enter Try.func22, Try.ntmps22
    go_wp2
    go_ret2
    exact ⟨rfl, rfl⟩

set_option maxHeartbeats 400000 in
theorem rpad_big (s : ByteArray) (n : Int) (w : World) (h0 : 0 ≤ n) (h1 : n ≤ 65536) (h2 : n < (s.size : Int)) :
    Calls Try.prog 22 #[.string s, .int .i64 n] w fun e w' => e = .returned (.tuple #[.string ⟨#[]⟩, .int .i64 2]) ∧ w = w' := by
  go_enter Try.func22, Try.ntmps22
  go_wp2
  go_ret2
  exact ⟨rfl, rfl⟩

theorem leBytes_zero (k : Nat) : Lib.leBytes k 0 = List.replicate k 0 := by
  induction k with
  | zero => rfl
  | succ k ih => rw [Lib.leBytes, Nat.zero_div, ih, List.replicate_succ]; rfl

set_option maxHeartbeats 400000 in
theorem rpad_ok (s : ByteArray) (n : Int) (w : World) (h1 : n ≤ 65536) (h2 : (s.size : Int) ≤ n) :
    Calls Try.prog 22 #[.string s, .int .i64 n] w fun e w' => e = .returned (.tuple #[.string ⟨(s.data.toList ++ List.replicate (n.toNat - s.size) 0).toArray⟩, .int .i64 0]) ∧ Below w.heap.size w w' := by
  obtain ⟨m, rfl⟩ := Int.eq_ofNat_of_zero_le (show 0 ≤ n by omega)
  rw [Int.toNat_natCast]
  have IH := Lib.hid fun w => little_any (m - s.size) (by omega) 0 w (by decide)
  rw [leBytes_zero] at IH
  have ec : ((m - s.size : Nat) : Int) = (m : Int) - (s.size : Int) := by omega
  rw [ec] at IH
  obtain ⟨L, hL⟩ : ∃ L : ByteArray, L = ⟨(List.replicate (m - s.size) 0).toArray⟩ := ⟨_, rfl⟩
  rw [← hL] at IH
  have hLs : L.size ≤ 65536 := by rw [hL, Lib.size_eq]; show (List.replicate (m - s.size) (0 : UInt8)).length ≤ _; rw [List.length_replicate]; omega
  have hfin : (⟨(s.data.toList ++ List.replicate (m - s.size) 0).toArray⟩ : ByteArray) = s ++ L := by
    apply ba_ext
    rw [ByteArray.data_append, hL]; simp
  rw [hfin]
  clear hfin hL ec
  go_enter Try.func22, Try.ntmps22
  go_wp2_with (go_at_call 25; refine (IH.out _).mono ?_; rintro e w' ⟨rfl, hb⟩)
  go_ret2
  exact ⟨rfl, hb⟩
end Go.Proofs.Ythakfbkcjfjihaa
