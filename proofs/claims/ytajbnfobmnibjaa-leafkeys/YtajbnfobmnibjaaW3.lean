/-
  The contracts of strings.Clone and of package field's Pad, Text, PutText and Bare.
-/
import Derived.Test.YtajbnfobmnibjaaW2
namespace Go.Proofs.Ytajbnfobmnibjaa
open Go.RowKit

set_option maxHeartbeats 400000 in
theorem sliteClone_any (s : ByteArray) (w : World) (hs : s.size ≤ 1000000) :
    Calls Try.prog 72 #[.string s] w fun e w' => e = .returned (.string s) ∧ Below w.heap.size w w' := by
  by_cases h0 : s.size = 0
  · have hs : s = ⟨#[]⟩ := by
      apply ByteArray.ext
      exact Array.eq_empty_of_size_eq_zero h0
    subst hs
    go_enter Try.func72, Try.ntmps72
    go_wp2
    go_ret
    exact ⟨rfl, Below.refl _ _⟩
  · obtain ⟨ib, hi, hz0, hz1, hz2⟩ := Try.info_byte
    have hinfo : (Try.prog.info? 5).map (·.size) = some 1 := by rw [hi]; simp [hz1]
    have hco : Try.prog.cellsOf 5 = 1 := by simp [Program.cellsOf, hi, hz1]
    have hmk := fun W => run_make_bytes (P := Try.prog) W 80 5 ib Try.underlying80 hi hz0 hz1 hz2 s.size (by omega)
    have hcp := fun W => run_copy_bytes (P := Try.prog) W 80 9 3 5 0 s.size s.size s (List.replicate s.size 0) Try.underlying80 hinfo (Nat.le_refl _) (by simp)
    rw [spliceB_whole _ _ (by rw [List.length_replicate, Lib.size_eq]; exact Nat.le_refl _)] at hcp
    have hne : s.data.toList ≠ [] := fun e => h0 (by rw [Lib.size_eq, e]; rfl)
    have hUS := Lib.run_unsafeString_row (P := Try.prog) (w.alloc (.cells (brow s.data.toList) 5)) 99 3 9 5 Try.underlying99 hco w.heap.size s.size
      (by unfold World.shape?; rw [heap_alloc_new]; simp [brow_size]) s.data.toList hne (by rw [← Lib.size_eq]; omega) (by rw [← Lib.size_eq]; omega)
      (fun j x hx => by
        have ea : Addr.add ⟨w.heap.size, 0, none⟩ j = ⟨w.heap.size, j, none⟩ := by simp [Addr.add]; exact fun h => h.symm
        rw [ea, World.cell?_alloc_at _ _ _ _ rfl, brow_get, hx]; rfl)
    rw [← Lib.size_eq] at hUS
    clear hi hz0 hz1 hz2 hinfo hco hne
    go_enter Try.func72, Try.ntmps72
    go_wp2
    go_ret
    exact ⟨rfl, Lib.below_freeze ((Below.refl _ w).alloc (Nat.le_refl _) _) (p := ⟨w.heap.size, 0, none⟩) (Nat.le_refl _) _⟩

set_option maxHeartbeats 400000 in
theorem clone_any (s : ByteArray) (w : World) (hs : s.size ≤ 1000000) :
    Calls Try.prog 54 #[.string s] w fun e w' => e = .returned (.string s) ∧ Below w.heap.size w w' := by
  go_enter Try.func54, Try.ntmps54
  go_wp2_with (go_at_call 72; refine (sliteClone_any _ _ hs).mono ?_; rintro e w' ⟨rfl, hb⟩)
  go_ret
  exact ⟨rfl, hb⟩

set_option maxHeartbeats 400000 in
theorem pad_arg (s : ByteArray) (n : Int) (w : World) (h : n < 0 ∨ 65536 < n) :
    Calls Try.prog 47 #[.string s, .int .i64 n] w fun e w' => e = .returned (.tuple #[.string ⟨#[]⟩, .int .i64 1]) ∧ w = w' := by
  by_cases h0 : n < 0
  · clear h
    go_enter Try.func47, Try.ntmps47
    go_wp2
    go_ret2
    exact ⟨rfl, rfl⟩
  · have h1 : 65536 < n := by omega
    clear h
    go_enter Try.func47, Try.ntmps47
    go_wp2
    go_ret2
    exact ⟨rfl, rfl⟩

set_option maxHeartbeats 400000 in
theorem pad_big (s : ByteArray) (n : Int) (w : World) (h0 : 0 ≤ n) (h1 : n ≤ 65536) (h2 : n < (s.size : Int)) :
    Calls Try.prog 47 #[.string s, .int .i64 n] w fun e w' => e = .returned (.tuple #[.string ⟨#[]⟩, .int .i64 2]) ∧ w = w' := by
  go_enter Try.func47, Try.ntmps47
  go_wp2
  go_ret2
  exact ⟨rfl, rfl⟩

set_option maxHeartbeats 400000 in
theorem pad_ok (s : ByteArray) (n : Int) (w : World) (h1 : n ≤ 65536) (h2 : (s.size : Int) ≤ n) :
    Calls Try.prog 47 #[.string s, .int .i64 n] w fun e w' => e = .returned (.tuple #[.string ⟨(s.data.toList ++ List.replicate (n.toNat - s.size) 0).toArray⟩, .int .i64 0]) ∧ Below w.heap.size w w' := by
  obtain ⟨m, rfl⟩ := Int.eq_ofNat_of_zero_le (show 0 ≤ n by omega)
  rw [Int.toNat_natCast]
  obtain ⟨ib, hi, hz0, hz1, hz2⟩ := Try.info_byte
  have hinfo : (Try.prog.info? 5).map (·.size) = some 1 := by rw [hi]; simp [hz1]
  have hmk := fun W => run_make_bytes (P := Try.prog) W 80 5 ib Try.underlying80 hi hz0 hz1 hz2 m (by omega)
  have hcp := fun W => run_copy_bytes (P := Try.prog) W 80 9 3 5 0 m m s (List.replicate m 0) Try.underlying80 hinfo (by omega) (by simp; omega)
  have he : spliceB (List.replicate m 0) 0 s.data.toList = s.data.toList ++ List.replicate (m - s.size) 0 := by
    simp [spliceB]
  rw [he] at hcp
  have hst := fun W => run_string_bytes (P := Try.prog) W 80 9 5 m m (s.data.toList ++ List.replicate (m - s.size) 0) (by rw [List.length_append, List.length_replicate, ← Lib.size_eq]; omega) Try.underlying80 Try.underlying5 Try.underlying9
  clear hi hz0 hz1 hz2 hinfo he
  generalize s.data.toList ++ List.replicate (m - s.size) 0 = l at *
  go_enter Try.func47, Try.ntmps47
  go_wp2
  go_ret2
  exact ⟨rfl, (Below.refl _ _).alloc (Nat.le_refl _) _⟩

set_option maxHeartbeats 400000 in
theorem text_bad (s : ByteArray) (a k : Int) (w : World) (hs : s.size ≤ 1000000) (h : textErr s.data.toList a = k) (hk : (k != 0) = true) :
    Calls Try.prog 65 #[.string s, .int .i64 a] w fun e w' => e = .returned (.tuple #[.string ⟨#[]⟩, .int .i64 0, .int .i64 k]) ∧ w = w' := by
  unfold textErr at h
  rw [← Lib.size_eq] at h
  cases hb : inB s.size a
  · rw [if_pos hb] at h; subst h
    have H := Lib.hid hb; clear hb hk
    go_enter Try.func65, Try.ntmps65
    go_wp2_with (go_at_call 74; refine (placeIn_no _ _ _ H.out).mono ?_; rintro e w' ⟨rfl, rfl⟩)
    go_ret3
    exact ⟨rfl, rfl⟩
  · rw [if_neg (by rw [hb]; simp)] at h
    have H := Lib.hid hb
    obtain ⟨h3, h4⟩ : 0 ≤ a ∧ a ≤ (s.size : Int) := of_decide_eq_true hb
    clear hb
    obtain ⟨p, rfl⟩ := Int.eq_ofNat_of_zero_le h3
    rw [Int.toNat_natCast] at h
    by_cases h6 : (s.size : Int) - (p + 1) < byteAt s.data.toList p
    · rw [if_pos h6] at h; subst h
      clear hk
      by_cases h7 : p = s.size
      · subst h7
        clear h6 h4
        go_enter Try.func65, Try.ntmps65
        go_wp2_with (go_at_call 74; refine (placeIn_yes _ _ _ H.out).mono ?_; rintro e w' ⟨rfl, rfl⟩)
        go_ret3
        exact ⟨rfl, rfl⟩
      · have hlt : p < s.size := by omega
        have hne : ((p : Int) == (s.size : Int)) = false := by simp; omega
        have hv : (s[p].toNat) = byteAt s.data.toList p := by
          unfold byteAt; rw [List.getD_eq_getElem?_getD, List.getElem?_eq_getElem (by rw [← Lib.size_eq]; exact hlt)]; rfl
        have h8 : (s.size : Int) - (p + 1) < s[p].toNat := by rw [hv]; exact h6
        have h9 : s[p].toNat < 256 := s[p].toNat_lt
        clear hv h6 h7 h4
        go_enter Try.func65, Try.ntmps65
        go_wp2_with (go_at_call 74; refine (placeIn_yes _ _ _ H.out).mono ?_; rintro e w' ⟨rfl, rfl⟩)
        go_ret3
        exact ⟨rfl, rfl⟩
    · rw [if_neg h6] at h; subst h; simp at hk

set_option maxHeartbeats 400000 in
theorem text_ok (s : ByteArray) (a : Int) (w : World) (hs : s.size ≤ 1000000) (h : textErr s.data.toList a = 0) :
    Calls Try.prog 65 #[.string s, .int .i64 a] w fun e w' => e = .returned (.tuple #[.string (s.extract (a.toNat + 1) (a.toNat + 1 + byteAt s.data.toList a.toNat)), .int .i64 (a + 1 + byteAt s.data.toList a.toNat), .int .i64 0]) ∧ Below w.heap.size w w' := by
  obtain ⟨h3, h4⟩ := textErr_ok.1 h
  clear h
  obtain ⟨p, rfl⟩ := Int.eq_ofNat_of_zero_le h3
  rw [Int.toNat_natCast, ← Lib.size_eq] at h4
  rw [Int.toNat_natCast]
  have hlt : p < s.size := by omega
  have H := Lib.hid (show inB s.size p = true by simp [inB]; omega)
  have hne : ((p : Int) == (s.size : Int)) = false := by simp; omega
  have hv : byteAt s.data.toList p = s[p].toNat := by
    unfold byteAt; rw [List.getD_eq_getElem?_getD, List.getElem?_eq_getElem (by rw [← Lib.size_eq]; exact hlt)]; rfl
  rw [hv] at h4 ⊢
  clear hv
  have h9 : s[p].toNat < 256 := s[p].toNat_lt
  go_enter Try.func65, Try.ntmps65
  go_wp2_with (first | (go_at_call 74; refine (placeIn_yes _ _ _ H.out).mono ?_; rintro e w' ⟨rfl, rfl⟩) | (go_at_call 54; refine (clone_any _ _ (by rw [ByteArray.size_extract]; omega)).mono ?_; rintro e w' ⟨rfl, hb⟩))
  go_ret3
  exact ⟨rfl, hb⟩

set_option maxHeartbeats 400000 in
theorem putText_bad (s t : ByteArray) (a k : Int) (w : World) (_hs : s.size ≤ 1000000) (ht : t.size ≤ 1000000) (h : putTextErr s.size a t.size = k) (hk : (k != 0) = true) :
    Calls Try.prog 68 #[.string s, .int .i64 a, .string t] w fun e w' => e = .returned (.tuple #[.string ⟨#[]⟩, .int .i64 0, .int .i64 k]) ∧ w = w' := by
  unfold putTextErr at h
  cases hb : inB s.size a
  · rw [if_pos hb] at h; subst h
    have H := Lib.hid hb; clear hb hk
    go_enter Try.func68, Try.ntmps68
    go_wp2_with (go_at_call 74; refine (placeIn_no _ _ _ H.out).mono ?_; rintro e w' ⟨rfl, rfl⟩)
    go_ret3
    exact ⟨rfl, rfl⟩
  · rw [if_neg (by rw [hb]; simp)] at h
    have H := Lib.hid hb
    obtain ⟨h3, h4⟩ : 0 ≤ a ∧ a ≤ (s.size : Int) := of_decide_eq_true hb
    clear hb
    by_cases h5 : t.size > 255
    · rw [if_pos h5] at h; subst h
      clear hk
      go_enter Try.func68, Try.ntmps68
      go_wp2_with (go_at_call 74; refine (placeIn_yes _ _ _ H.out).mono ?_; rintro e w' ⟨rfl, rfl⟩)
      go_ret3
      exact ⟨rfl, rfl⟩
    rw [if_neg h5] at h
    by_cases h6 : (s.size : Int) - a < t.size + 1
    · rw [if_pos h6] at h; subst h
      clear hk
      go_enter Try.func68, Try.ntmps68
      go_wp2_with (go_at_call 74; refine (placeIn_yes _ _ _ H.out).mono ?_; rintro e w' ⟨rfl, rfl⟩)
      go_ret3
      exact ⟨rfl, rfl⟩
    · rw [if_neg h6] at h; subst h; simp at hk

set_option maxHeartbeats 400000 in
theorem putText_ok (s t : ByteArray) (a : Int) (w : World) (hs : s.size ≤ 1000000) (h : putTextErr s.size a t.size = 0) :
    Calls Try.prog 68 #[.string s, .int .i64 a, .string t] w fun e w' =>
      e = .returned (.tuple #[.string ⟨(spliceB s.data.toList a.toNat (UInt8.ofNat t.size :: t.data.toList)).toArray⟩, .int .i64 (a + 1 + t.size), .int .i64 0]) ∧ Below w.heap.size w w' := by
  obtain ⟨h3, h4, h5⟩ := putTextErr_ok.1 h
  clear h
  obtain ⟨p, rfl⟩ := Int.eq_ofNat_of_zero_le h3
  rw [Int.toNat_natCast]
  have H := Lib.hid (show inB s.size p = true by simp [inB]; omega)
  obtain ⟨ib, hi, hz0, hz1, hz2⟩ := Try.info_byte
  have hinfo : (Try.prog.info? 5).map (·.size) = some 1 := by rw [hi]; simp [hz1]
  have hmk := fun W => run_make_bytes (P := Try.prog) W 80 5 ib Try.underlying80 hi hz0 hz1 hz2 s.size (by omega)
  have hcp := fun W => run_copy_bytes (P := Try.prog) W 80 9 3 5 0 s.size s.size s (List.replicate s.size 0) Try.underlying80 hinfo (Nat.le_refl _) (by simp)
  rw [spliceB_whole _ _ (by rw [List.length_replicate, Lib.size_eq]; exact Nat.le_refl _)] at hcp
  have hps : p < s.data.toList.length := by rw [← Lib.size_eq]; omega
  obtain ⟨x, hx⟩ := brow_some s.data.toList p hps
  have hset := brow_set s.data.toList p (t.size : Int) (by omega) (by omega)
  rw [Int.toNat_natCast] at hset
  have hfin := spliceB_cons s.data.toList t.data.toList p (UInt8.ofNat t.size) hps
  have hls : (s.data.toList.set p (UInt8.ofNat t.size)).length = s.size := by rw [List.length_set, ← Lib.size_eq]
  clear hi hz0 hz1 hz2
  by_cases ht0 : t.size = 0
  · have hcp2 := fun W d n c => Lib.run_copy_empty_string (P := Try.prog) W 80 9 3 5 d n c t Try.underlying80 (by rw [hinfo]; rfl) ht0
    have hte : t.data.toList = [] := List.eq_nil_of_length_eq_zero (by rw [← Lib.size_eq]; exact ht0)
    rw [hte, spliceB_nil] at hfin
    have hst := fun W => run_string_bytes (P := Try.prog) W 80 9 5 s.size s.size (s.data.toList.set p (UInt8.ofNat t.size)) hls Try.underlying80 Try.underlying5 Try.underlying9
    have he : t = ⟨#[]⟩ := by
      apply ByteArray.ext
      exact Array.eq_empty_of_size_eq_zero ht0
    rw [hte, ← hfin]
    clear hfin hinfo hls hps hte ht0
    generalize s.data.toList.set p (UInt8.ofNat t.size) = L at *
    have h5' : (p : Int) + 1 ≤ s.size := by omega
    clear h5
    subst he
    have hset0 : (brow s.data.toList).setIfInBounds p (.int .u8 0) = brow L := hset
    clear hset h4
    show Calls Try.prog _ _ w fun e w' => e = .returned (.tuple #[.string ⟨L.toArray⟩, .int .i64 ((p : Int) + 1 + (0 : Nat)), .int .i64 0]) ∧ Below w.heap.size w w'
    rw [show ((p : Int) + 1 + (0 : Nat)) = (p : Int) + 1 by omega]
    by_cases h1 : s.size = p + 1
    · have ec : ((p + 1 : Nat) : Int) = (p : Int) + 1 := by omega
      rw [h1] at hst hcp hmk
      rw [ec] at hcp hmk
      go_enter Try.func68, Try.ntmps68
      go_wp2_with (go_at_call 74; refine (placeIn_yes _ _ _ H.out).mono ?_; rintro e w' ⟨rfl, rfl⟩)
      go_ret3
      exact ⟨rfl, (Below.refl _ _).alloc (Nat.le_refl _) _⟩
    · go_enter Try.func68, Try.ntmps68
      go_wp2_with (go_at_call 74; refine (placeIn_yes _ _ _ H.out).mono ?_; rintro e w' ⟨rfl, rfl⟩)
      go_ret3
      exact ⟨rfl, (Below.refl _ _).alloc (Nat.le_refl _) _⟩
  · have hcp2 := fun W => run_copy_bytes (P := Try.prog) W 80 9 3 5 (p + 1) (s.size - (p + 1)) (s.size - (p + 1)) t (s.data.toList.set p (UInt8.ofNat t.size)) Try.underlying80 hinfo (by omega) (by omega)
    rw [hfin] at hcp2
    have hst := fun W => run_string_bytes (P := Try.prog) W 80 9 5 s.size s.size (spliceB s.data.toList p (UInt8.ofNat t.size :: t.data.toList))
      (by rw [spliceB_length _ _ _ (by rw [List.length_cons, ← Lib.size_eq, ← Lib.size_eq]; omega), ← Lib.size_eq]) Try.underlying80 Try.underlying5 Try.underlying9
    clear hfin hinfo hls hps
    have hne : ¬ s.size = p + 1 := by omega
    generalize spliceB s.data.toList p (UInt8.ofNat t.size :: t.data.toList) = L at *
    generalize s.data.toList.set p (UInt8.ofNat t.size) = L0 at *
    go_enter Try.func68, Try.ntmps68
    go_wp2_with (go_at_call 74; refine (placeIn_yes _ _ _ H.out).mono ?_; rintro e w' ⟨rfl, rfl⟩)
    go_ret3
    exact ⟨rfl, (Below.refl _ _).alloc (Nat.le_refl _) _⟩

set_option maxHeartbeats 400000 in
theorem bare_any (s : ByteArray) (w : World) (hs : s.size ≤ 1000000) :
    Calls Try.prog 40 #[.string s] w fun e w' => e = .returned (.string (s.extract 0 (bareLen s.data.toList))) ∧ Below w.heap.size w w' := by
  go_enter Try.func40, Try.ntmps40
  go_wp2
  go_loop [3] (fun n => ∃ k : Nat, k ≤ s.size ∧ n = .int .i64 k ∧ bareLen s.data.toList = bareLen (s.data.toList.take k)) (fun n => (intOf n).toNat)
  case atStart => exact ⟨s.size, Nat.le_refl _, rfl, by rw [List.take_of_length_le (by rw [← Lib.size_eq]; exact Nat.le_refl _)]⟩
  case round =>
    obtain ⟨k, hk, rfl, hrel⟩ := hrel
    have HR := Lib.hid hrel; clear hrel
    cases k with
    | zero =>
      go_wp2_with (go_at_call 54; refine (clone_any _ _ (by simp)).mono ?_; rintro e w' ⟨rfl, hb⟩)
      go_ret
      rw [HR.out]
      exact ⟨by simp [bareLen], hb⟩
    | succ k =>
      have hg : s.data.toList[k]'(by rw [← Lib.size_eq]; omega) = s[k]'(by omega) := rfl
      have hsn : bareLen (s.data.toList.take (k + 1)) = if s[k] = 0 then bareLen (s.data.toList.take k) else k + 1 := by
        rw [take_snoc_get _ _ (by rw [← Lib.size_eq]; omega), bareLen_snoc, hg, List.length_take, Nat.min_eq_left (by rw [← Lib.size_eq]; omega)]
      have HS := Lib.hid hsn; clear hsn hg
      by_cases hz : s[k] = 0
      · have HZ := Lib.hid hz
        have ht : ((s[k].toNat : Int) == 0) = true := by rw [hz]; rfl
        clear hz
        go_wp2
        exact ⟨⟨k, by omega, rfl, by rw [HR.out, HS.out, if_pos HZ.out]⟩, by simp [intOf]⟩
      · have HZ := Lib.hid hz
        have ht : ((s[k].toNat : Int) == 0) = false := by
          rw [beq_eq_false_iff_ne]; intro h0; exact hz (UInt8.toNat_inj.1 (by simpa using h0))
        clear hz
        go_wp2_with (go_at_call 54; refine (clone_any _ _ (by rw [ByteArray.size_extract]; omega)).mono ?_; rintro e w' ⟨rfl, hb⟩)
        go_ret
        rw [HR.out, HS.out, if_neg HZ.out]
        exact ⟨rfl, hb⟩
end Go.Proofs.Ytajbnfobmnibjaa
