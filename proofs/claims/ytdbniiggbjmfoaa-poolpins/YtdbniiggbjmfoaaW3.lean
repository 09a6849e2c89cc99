/-
  The contracts of strings.Clone and of package field's Pad, Text, PutText and Bare.
-/
import Derived.Test.YtdbniiggbjmfoaaW2
namespace Go.Proofs.Ytdbniiggbjmfoaa
open Go.RowKit

set_option maxHeartbeats 400000 in
theorem sliteClone_any (s : ByteArray) (w : World) (hs : s.size ≤ 1000000) :
    Calls Try.prog 44 #[.string s] w fun e w' => e = .returned (.string s) ∧ Below w.heap.size w w' := by
  by_cases h0 : s.size = 0
  · have hs : s = ⟨#[]⟩ := by
      apply ByteArray.ext
      exact Array.eq_empty_of_size_eq_zero h0
    subst hs
    go_enter Try.func44, Try.ntmps44
    go_wp2
    go_ret
    exact ⟨rfl, Below.refl _ _⟩
  · obtain ⟨ib, hi, hz0, hz1, hz2⟩ := Try.info_byte
    have hinfo : (Try.prog.info? 5).map (·.size) = some 1 := by rw [hi]; simp [hz1]
    have hco : Try.prog.cellsOf 5 = 1 := by simp [Program.cellsOf, hi, hz1]
    have hmk := fun W => run_make_bytes (P := Try.prog) W 84 5 ib Try.underlying84 hi hz0 hz1 hz2 s.size (by omega)
    have hcp := fun W => run_copy_bytes (P := Try.prog) W 84 9 3 5 0 s.size s.size s (List.replicate s.size 0) Try.underlying84 hinfo (Nat.le_refl _) (by simp)
    rw [spliceB_whole _ _ (by rw [List.length_replicate, Lib.size_eq]; exact Nat.le_refl _)] at hcp
    have hne : s.data.toList ≠ [] := fun e => h0 (by rw [Lib.size_eq, e]; rfl)
    have hUS := Lib.run_unsafeString_row (P := Try.prog) (w.alloc (.cells (brow s.data.toList) 5)) 94 3 9 5 Try.underlying94 hco w.heap.size s.size
      (by unfold World.shape?; rw [heap_alloc_new]; simp [brow_size]) s.data.toList hne (by rw [← Lib.size_eq]; omega) (by rw [← Lib.size_eq]; omega)
      (fun j x hx => by
        have ea : Addr.add ⟨w.heap.size, 0, none⟩ j = ⟨w.heap.size, j, none⟩ := by simp [Addr.add]; exact fun h => h.symm
        rw [ea, World.cell?_alloc_at _ _ _ _ rfl, brow_get, hx]; rfl)
    rw [← Lib.size_eq] at hUS
    clear hi hz0 hz1 hz2 hinfo hco hne
    go_enter Try.func44, Try.ntmps44
    go_wp2
    go_ret
    exact ⟨rfl, Lib.below_freeze ((Below.refl _ w).alloc (Nat.le_refl _) _) (p := ⟨w.heap.size, 0, none⟩) (Nat.le_refl _) _⟩

set_option maxHeartbeats 400000 in
theorem clone_any (s : ByteArray) (w : World) (hs : s.size ≤ 1000000) :
    Calls Try.prog 27 #[.string s] w fun e w' => e = .returned (.string s) ∧ Below w.heap.size w w' := by
  go_enter Try.func27, Try.ntmps27
  go_wp2_with (go_at_call 44; refine (sliteClone_any _ _ hs).mono ?_; rintro e w' ⟨rfl, hb⟩)
  go_ret
  exact ⟨rfl, hb⟩

set_option maxHeartbeats 400000 in
theorem pad_arg (s : ByteArray) (n : Int) (w : World) (h : n < 0 ∨ 65536 < n) :
    Calls Try.prog 40 #[.string s, .int .i64 n] w fun e w' => e = .returned (.tuple #[.string ⟨#[]⟩, .int .i64 1]) ∧ w = w' := by
  by_cases h0 : n < 0
  · clear h
    go_enter Try.func40, Try.ntmps40
    go_wp2
    go_ret2
    exact ⟨rfl, rfl⟩
  · have h1 : 65536 < n := by omega
    clear h
    go_enter Try.func40, Try.ntmps40
    go_wp2
    go_ret2
    exact ⟨rfl, rfl⟩

set_option maxHeartbeats 400000 in
theorem pad_big (s : ByteArray) (n : Int) (w : World) (h0 : 0 ≤ n) (h1 : n ≤ 65536) (h2 : n < (s.size : Int)) :
    Calls Try.prog 40 #[.string s, .int .i64 n] w fun e w' => e = .returned (.tuple #[.string ⟨#[]⟩, .int .i64 2]) ∧ w = w' := by
  go_enter Try.func40, Try.ntmps40
  go_wp2
  go_ret2
  exact ⟨rfl, rfl⟩

set_option maxHeartbeats 400000 in
theorem pad_ok (s : ByteArray) (n : Int) (w : World) (h1 : n ≤ 65536) (h2 : (s.size : Int) ≤ n) :
    Calls Try.prog 40 #[.string s, .int .i64 n] w fun e w' => e = .returned (.tuple #[.string ⟨(s.data.toList ++ List.replicate (n.toNat - s.size) 0).toArray⟩, .int .i64 0]) ∧ Below w.heap.size w w' := by
  obtain ⟨m, rfl⟩ := Int.eq_ofNat_of_zero_le (show 0 ≤ n by omega)
  rw [Int.toNat_natCast]
  obtain ⟨ib, hi, hz0, hz1, hz2⟩ := Try.info_byte
  have hinfo : (Try.prog.info? 5).map (·.size) = some 1 := by rw [hi]; simp [hz1]
  have hmk := fun W => run_make_bytes (P := Try.prog) W 84 5 ib Try.underlying84 hi hz0 hz1 hz2 m (by omega)
  have hcp := fun W => run_copy_bytes (P := Try.prog) W 84 9 3 5 0 m m s (List.replicate m 0) Try.underlying84 hinfo (by omega) (by simp; omega)
  have he : spliceB (List.replicate m 0) 0 s.data.toList = s.data.toList ++ List.replicate (m - s.size) 0 := by
    simp [spliceB]
  rw [he] at hcp
  have hst := fun W => run_string_bytes (P := Try.prog) W 84 9 5 m m (s.data.toList ++ List.replicate (m - s.size) 0) (by rw [List.length_append, List.length_replicate, ← Lib.size_eq]; omega) Try.underlying84 Try.underlying5 Try.underlying9
  clear hi hz0 hz1 hz2 hinfo he
  generalize s.data.toList ++ List.replicate (m - s.size) 0 = l at *
  go_enter Try.func40, Try.ntmps40
  go_wp2
  go_ret2
  exact ⟨rfl, (Below.refl _ _).alloc (Nat.le_refl _) _⟩





end Go.Proofs.Ytdbniiggbjmfoaa
