/-
  The contracts of the document's answer for layer 1: bad, Get, Put.
-/
import Derived.Test.YtdbniiggbjmfoaaW5
namespace Go.Proofs.Ytdbniiggbjmfoaa
open Go.RowKit

set_option maxHeartbeats 400000 in
theorem rbad_is (s : ByteArray) (a z k : Int) (w : World) (hs : s.size ≤ 1000000) (h : errAt s.size a z = k) :
    Calls Try.prog 35 #[.string s, .int .i64 a, .int .i64 z] w fun e w' => e = .returned (.int .i64 k) ∧ w = w' := by
  unfold errAt inB at h
  simp only [decide_eq_false_iff_not] at h
  by_cases h1 : z < 1
  · rw [if_pos (Or.inl h1)] at h; subst h
    go_enter Try.func35, Try.ntmps35
    go_wp2
    go_ret
    exact ⟨rfl, rfl⟩
  by_cases h2 : 8 < z
  · rw [if_pos (Or.inr (Or.inl h2))] at h; subst h
    go_enter Try.func35, Try.ntmps35
    go_wp2
    go_ret
    exact ⟨rfl, rfl⟩
  by_cases h3 : a < 0
  · rw [if_pos (by omega)] at h; subst h
    go_enter Try.func35, Try.ntmps35
    go_wp2
    go_ret
    exact ⟨rfl, rfl⟩
  by_cases h4 : (s.size : Int) < a
  · rw [if_pos (by omega)] at h; subst h
    go_enter Try.func35, Try.ntmps35
    go_wp2
    go_ret
    exact ⟨rfl, rfl⟩
  rw [if_neg (by omega)] at h
  by_cases h5 : (s.size : Int) < a + z
  · rw [if_pos (by omega)] at h; subst h
    go_enter Try.func35, Try.ntmps35
    go_wp2
    go_ret
    exact ⟨rfl, rfl⟩
  · rw [if_neg (by omega)] at h; subst h
    go_enter Try.func35, Try.ntmps35
    go_wp2
    go_ret
    exact ⟨rfl, rfl⟩

set_option maxHeartbeats 400000 in
theorem rget_bad (s : ByteArray) (a z k : Int) (w : World) (hs : s.size ≤ 1000000) (h : errAt s.size a z = k) (hk : (k != 0) = true) :
    Calls Try.prog 16 #[.string s, .int .i64 a, .int .i64 z] w fun e w' => e = .returned (.tuple #[.int .u64 0, .int .i64 k]) ∧ w = w' := by
  have H := Lib.hid h; clear h
  go_enter Try.func16, Try.ntmps16
  go_wp2_with (go_at_call 35; refine (rbad_is _ _ _ k _ hs H.out).mono ?_; rintro e w' ⟨rfl, rfl⟩)
  go_ret2
  exact ⟨rfl, rfl⟩

set_option maxHeartbeats 400000 in
theorem rget_ok (s : ByteArray) (a z : Int) (w : World) (hs : s.size ≤ 1000000) (h : errAt s.size a z = 0) :
    Calls Try.prog 16 #[.string s, .int .i64 a, .int .i64 z] w fun e w' => e = .returned (.tuple #[.int .u64 (Lib.leNat ((s.data.toList.drop a.toNat).take z.toNat)), .int .i64 0]) ∧ w = w' := by
  have H := Lib.hid h
  obtain ⟨h1, h2, h3, h4⟩ := errAt_ok.1 h
  clear h
  obtain ⟨p, rfl⟩ := Int.eq_ofNat_of_zero_le h3
  obtain ⟨q, rfl⟩ := Int.eq_ofNat_of_zero_le (show 0 ≤ z by omega)
  simp only [Int.toNat_natCast]
  obtain ⟨M, hM⟩ : ∃ M, M = (s.data.toList.drop p).take q := ⟨_, rfl⟩
  rw [← hM]
  have hMl : M.length = q := by rw [hM, List.length_take, List.length_drop, ← Lib.size_eq]; omega
  have hMg : ∀ k (hk : k < M.length) (h2 : p + k < s.size), M[k] = s[p + k] := by
    intro k hk h2; subst hM; rw [List.getElem_take, List.getElem_drop]; rfl
  have HMl := Lib.hid hMl; have HMg := Lib.hid hMg
  clear hM hMl hMg
  go_enter Try.func16, Try.ntmps16
  go_wp2_with (go_at_call 35; refine (rbad_is _ _ _ 0 _ hs H.out).mono ?_; rintro e w' ⟨rfl, rfl⟩)
  go_loop [9, 10] (fun n i => ∃ k : Nat, k ≤ q ∧ i = .int .i64 ((k : Int) - 1) ∧ n = .int .u64 (Lib.leNat (M.drop k))) (fun _ i => (intOf i + 1).toNat)
  case atStart => exact ⟨q, Nat.le_refl _, rfl, by rw [List.drop_of_length_le (by rw [HMl.out]; exact Nat.le_refl _)]; rfl⟩
  case round =>
    obtain ⟨k, hk, rfl, rfl⟩ := hrel
    cases k with
    | zero =>
      rw [List.drop_zero]
      go_wp2
      go_ret2
      exact ⟨rfl, rfl⟩
    | succ k =>
      have e1 : ((k + 1 : Nat) : Int) - 1 = (k : Int) := by omega
      rw [e1]; clear e1
      have hst : Lib.leNat (M.drop k) = s[p + k].toNat + 256 * Lib.leNat (M.drop (k + 1)) := by
        rw [List.drop_eq_getElem_cons (by rw [HMl.out]; omega), Lib.leNat, HMg.out k (by rw [HMl.out]; omega) (by omega)]
      have hlt := leNat_lt (M.drop k)
      have hpw : 256 ^ (M.drop k).length ≤ 256 ^ 8 := Nat.pow_le_pow_right (by decide) (by rw [List.length_drop, HMl.out]; omega)
      have HB := Lib.hid (show Lib.leNat (M.drop k) < 18446744073709551616 from Nat.lt_of_lt_of_le hlt (Nat.le_trans hpw (by decide)))
      have HS := Lib.hid hst
      clear hst hlt hpw
      generalize Lib.leNat (M.drop (k + 1)) = u at *
      have hw : IntKind.u64.wrap (IntKind.u64.wrap (256 * (u : Int)) + IntKind.u64.wrap (s[p + k].toNat : Int)) = ((Lib.leNat (M.drop k) : Nat) : Int) := by
        have h0 := HB.out; have h1 := HS.out
        rw [wraps_u64 (256 * (u : Int)) (by omega) (by omega), wraps_u64 (s[p + k].toNat : Int) (by omega) (by omega), wraps_u64 _ (by omega) (by omega)]
        omega
      have HW := Lib.hid hw; clear hw
      go_wp2
      exact ⟨⟨k, by omega, rfl, by rw [HW.out]⟩, by simp [intOf]⟩

set_option maxHeartbeats 400000 in
theorem rput_bad (s : ByteArray) (a z n k : Int) (w : World) (hs : s.size ≤ 1000000) (h : errAt s.size a z = k) (hk : (k != 0) = true) :
    Calls Try.prog 31 #[.string s, .int .i64 a, .int .i64 z, .int .u64 n] w fun e w' => e = .returned (.tuple #[.string ⟨#[]⟩, .int .i64 k]) ∧ w = w' := by
  have H := Lib.hid h; clear h
  go_enter Try.func31, Try.ntmps31
  go_wp2_with (go_at_call 35; refine (rbad_is _ _ _ k _ hs H.out).mono ?_; rintro e w' ⟨rfl, rfl⟩)
  go_ret2
  exact ⟨rfl, rfl⟩

set_option maxHeartbeats 2000000 in
theorem rput_ok (s : ByteArray) (a z : Int) (v : Nat) (w : World) (hs : s.size ≤ 1000000) (h : errAt s.size a z = 0) (hv : v < 18446744073709551616) (hc : v < 256 ^ z.toNat) :
    Calls Try.prog 31 #[.string s, .int .i64 a, .int .i64 z, .int .u64 v] w fun e w' => e = .returned (.tuple #[.string ⟨(spliceB s.data.toList a.toNat (Lib.leBytes z.toNat v)).toArray⟩, .int .i64 0]) ∧ Below w.heap.size w w' := by
  have H := Lib.hid h
  obtain ⟨h1, h2, h3, h4⟩ := errAt_ok.1 h
  clear h
  obtain ⟨p, rfl⟩ := Int.eq_ofNat_of_zero_le h3
  obtain ⟨q, rfl⟩ := Int.eq_ofNat_of_zero_le (show 0 ≤ z by omega)
  simp only [Int.toNat_natCast] at hc ⊢
  have HV := Lib.hid hv; clear hv
  have HC := Lib.hid hc; clear hc
  have IH := Lib.hid fun w => little_any q (by omega) v w HV.out
  obtain ⟨L, hL⟩ : ∃ L : ByteArray, L = ⟨(Lib.leBytes q v).toArray⟩ := ⟨_, rfl⟩
  have hLs : L.size ≤ 8 := by rw [hL, Lib.size_eq]; show (Lib.leBytes q v).length ≤ _; rw [Lib.leBytes_length]; omega
  rw [← hL] at IH
  have hfin : (⟨(spliceB s.data.toList p (Lib.leBytes q v)).toArray⟩ : ByteArray) = s.extract 0 p ++ L ++ s.extract (p + q) s.size := by
    apply ba_ext
    simp only [ByteArray.data_append, Array.toList_append, Lib.extract_data, hL, spliceB, Lib.leBytes_length, List.drop_zero, Nat.sub_zero]
    rw [List.take_of_length_le (l := s.data.toList.drop (p + q)) (by rw [List.length_drop, ← Lib.size_eq]; omega)]
  have hx1 : (s.extract 0 p).size ≤ 1000000 := by rw [ByteArray.size_extract]; omega
  have hx2 : (s.extract (p + q) s.size).size ≤ 1000000 := by rw [ByteArray.size_extract]; omega
  have hx3 : (s.extract 0 p ++ L).size ≤ 1000008 := by rw [ByteArray.size_append]; omega
  rw [hfin]
  clear hfin hL
  go_enter Try.func31, Try.ntmps31
  go_wp2_with (go_at_call 35; refine (rbad_is _ _ _ 0 _ hs H.out).mono ?_; rintro e w' ⟨rfl, rfl⟩)
  go_loop [11, 12] (fun n i => ∃ k : Nat, k ≤ q ∧ i = .int .i64 k ∧ n = .int .u64 ((v / 256 ^ k : Nat) : Int)) (fun _ i => q - (intOf i).toNat)
  case atStart => exact ⟨0, Nat.zero_le _, rfl, by simp⟩
  case round =>
    obtain ⟨k, hk, rfl, rfl⟩ := hrel
    by_cases hlt : k < q
    · have hst : v / 256 ^ (k + 1) = v / 256 ^ k / 256 := by rw [Nat.pow_succ, Nat.div_div_eq_div_mul]
      have HS := Lib.hid hst; clear hst
      have HB := Lib.hid (show v / 256 ^ k < 18446744073709551616 from Nat.lt_of_le_of_lt (Nat.div_le_self _ _) HV.out)
      generalize v / 256 ^ k = u at *
      have hw : IntKind.u64.wrap ((u : Int) / 256) = ((u / 256 : Nat) : Int) := by
        have := HB.out
        rw [wraps_u64 _ (by omega) (by omega)]; omega
      have HW := Lib.hid hw; clear hw
      go_wp2
      exact ⟨⟨k + 1, hlt, by go_num, by rw [HS.out, ← HW.out]; try rfl⟩, by simp [intOf]; omega⟩
    · obtain rfl : k = q := by omega
      rw [Nat.div_eq_of_lt HC.out]
      go_wp2_with fail
      have e1 : IntKind.i64.wrap ((p : Int) + (k : Int)) = (p : Int) + (k : Int) := IntWalk.i64_in _ (by omega)
      have e2 : (0 : Int) ≤ (p : Int) + (k : Int) := by omega
      have e3 : ((p : Int) + (k : Int)).toNat = p + k := by omega
      have e4 : (p : Int) ≤ (s.size : Int) := by omega
      go_region_with (go_at_call 37; refine (IH.out _).mono ?_; rintro e w' ⟨rfl, hb⟩)
      all_goals
        go_wp2
        go_ret2
        exact ⟨rfl, (Below.refl _ _).drew.trans hb⟩

set_option maxHeartbeats 400000 in
theorem rput_big (s : ByteArray) (a z : Int) (v : Nat) (w : World) (hs : s.size ≤ 1000000) (h : errAt s.size a z = 0) (hv : v < 18446744073709551616) (hc : 256 ^ z.toNat ≤ v) :
    Calls Try.prog 31 #[.string s, .int .i64 a, .int .i64 z, .int .u64 v] w fun e w' => e = .returned (.tuple #[.string ⟨#[]⟩, .int .i64 2]) ∧ Below w.heap.size w w' := by
  have H := Lib.hid h
  obtain ⟨h1, h2, h3, h4⟩ := errAt_ok.1 h
  clear h
  obtain ⟨p, rfl⟩ := Int.eq_ofNat_of_zero_le h3
  obtain ⟨q, rfl⟩ := Int.eq_ofNat_of_zero_le (show 0 ≤ z by omega)
  simp only [Int.toNat_natCast] at hc ⊢
  have HV := Lib.hid hv; clear hv
  have HC := Lib.hid hc; clear hc
  have IH := Lib.hid fun w => little_any q (by omega) v w HV.out
  obtain ⟨L, hL⟩ : ∃ L : ByteArray, L = ⟨(Lib.leBytes q v).toArray⟩ := ⟨_, rfl⟩
  have hLs : L.size ≤ 8 := by rw [hL, Lib.size_eq]; show (Lib.leBytes q v).length ≤ _; rw [Lib.leBytes_length]; omega
  rw [← hL] at IH
  have hfin : (⟨(spliceB s.data.toList p (Lib.leBytes q v)).toArray⟩ : ByteArray) = s.extract 0 p ++ L ++ s.extract (p + q) s.size := by
    apply ba_ext
    simp only [ByteArray.data_append, Array.toList_append, Lib.extract_data, hL, spliceB, Lib.leBytes_length, List.drop_zero, Nat.sub_zero]
    rw [List.take_of_length_le (l := s.data.toList.drop (p + q)) (by rw [List.length_drop, ← Lib.size_eq]; omega)]
  have hx1 : (s.extract 0 p).size ≤ 1000000 := by rw [ByteArray.size_extract]; omega
  have hx2 : (s.extract (p + q) s.size).size ≤ 1000000 := by rw [ByteArray.size_extract]; omega
  have hx3 : (s.extract 0 p ++ L).size ≤ 1000008 := by rw [ByteArray.size_append]; omega
  clear hfin hL
  go_enter Try.func31, Try.ntmps31
  go_wp2_with (go_at_call 35; refine (rbad_is _ _ _ 0 _ hs H.out).mono ?_; rintro e w' ⟨rfl, rfl⟩)
  go_loop [11, 12] (fun n i => ∃ k : Nat, k ≤ q ∧ i = .int .i64 k ∧ n = .int .u64 ((v / 256 ^ k : Nat) : Int)) (fun _ i => q - (intOf i).toNat)
  case atStart => exact ⟨0, Nat.zero_le _, rfl, by simp⟩
  case round =>
    obtain ⟨k, hk, rfl, rfl⟩ := hrel
    by_cases hlt : k < q
    · have hst : v / 256 ^ (k + 1) = v / 256 ^ k / 256 := by rw [Nat.pow_succ, Nat.div_div_eq_div_mul]
      have HS := Lib.hid hst; clear hst
      have HB := Lib.hid (show v / 256 ^ k < 18446744073709551616 from Nat.lt_of_le_of_lt (Nat.div_le_self _ _) HV.out)
      generalize v / 256 ^ k = u at *
      have hw : IntKind.u64.wrap ((u : Int) / 256) = ((u / 256 : Nat) : Int) := by
        have := HB.out
        rw [wraps_u64 _ (by omega) (by omega)]; omega
      have HW := Lib.hid hw; clear hw
      go_wp2
      exact ⟨⟨k + 1, hlt, by go_num, by rw [HS.out, ← HW.out]; try rfl⟩, by simp [intOf]; omega⟩
    · obtain rfl : k = q := by omega
      have hu : 0 < v / 256 ^ k := Nat.div_pos HC.out (Nat.pow_pos (by decide))
      generalize v / 256 ^ k = u at *
      go_wp2
      go_ret2
      exact ⟨rfl, Below.refl _ _⟩
end Go.Proofs.Ytdbniiggbjmfoaa
