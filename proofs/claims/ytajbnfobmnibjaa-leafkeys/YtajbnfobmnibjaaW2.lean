/-
  The contract of package field's Put.
-/
import Derived.Test.YtajbnfobmnibjaaW1
import Derived.Test.YtajbnfobmnibjaaB1
namespace Go.Proofs.Ytajbnfobmnibjaa
open Go.RowKit

theorem Try.info_byte : ∃ i, Try.prog.info? 5 = some i ∧ i.zero = some (.int .u8 0) ∧ i.size = 1 ∧ i.bytes = 1 := by
  have h : (Try.prog.info? 5).map (fun i => (i.zero, i.size, i.bytes)) = some (some (.int .u8 0), 1, 1) := by kernel_rfl
  cases hi : Try.prog.info? 5 with
  | none => rw [hi] at h; cases h
  | some i => rw [hi] at h; simp at h; exact ⟨i, rfl, h.1, h.2.1, h.2.2⟩

set_option maxHeartbeats 400000 in
theorem put_bad (s : ByteArray) (a z n k : Int) (w : World) (hs : s.size ≤ 1000000) (h : errAt s.size a z = k) (hk : (k != 0) = true) :
    Calls Try.prog 48 #[.string s, .int .i64 a, .int .i64 z, .int .u64 n] w fun e w' => e = .returned (.tuple #[.string ⟨#[]⟩, .int .i64 k]) ∧ w = w' := by
  have H := Lib.hid h; clear h
  go_enter Try.func48, Try.ntmps48
  go_wp2_with (go_at_call 67; refine (numberAt_is _ _ _ k _ hs H.out).mono ?_; rintro e w' ⟨rfl, rfl⟩)
  go_ret2
  exact ⟨rfl, rfl⟩

set_option maxHeartbeats 400000 in
theorem put_big (s : ByteArray) (a z n : Int) (w : World) (hs : s.size ≤ 1000000) (h : errAt s.size a z = 0) (_h0 : 0 ≤ n) (hn : (256 : Int) ^ z.toNat ≤ n) :
    Calls Try.prog 48 #[.string s, .int .i64 a, .int .i64 z, .int .u64 n] w fun e w' => e = .returned (.tuple #[.string ⟨#[]⟩, .int .i64 2]) ∧ w = w' := by
  have H := Lib.hid h
  obtain ⟨h1, h2, h3, h4⟩ := errAt_ok.1 h
  clear h
  have hb : (n / 2 ^ (8 * z).toNat != 0) = true := by
    have e : (2 : Int) ^ (8 * z).toNat = 256 ^ z.toNat := by
      rw [show (8 * z).toNat = 8 * z.toNat by omega, Int.pow_mul]; rfl
    have hp : (0 : Int) < 256 ^ z.toNat := Int.pow_pos (by decide)
    have := Int.le_ediv_of_mul_le hp (show 1 * (256 : Int) ^ z.toNat ≤ n by omega)
    rw [e, bne_iff_ne]; omega
  clear hn
  go_enter Try.func48, Try.ntmps48
  go_wp2_with (go_at_call 67; refine (numberAt_is _ _ _ 0 _ hs H.out).mono ?_; rintro e w' ⟨rfl, rfl⟩)
  go_ret2
  exact ⟨rfl, rfl⟩

set_option maxHeartbeats 400000 in
theorem put_ok (s : ByteArray) (a z n : Int) (w : World) (hs : s.size ≤ 1000000) (h : errAt s.size a z = 0) (h0 : 0 ≤ n) (hn : n < (256 : Int) ^ z.toNat) :
    Calls Try.prog 48 #[.string s, .int .i64 a, .int .i64 z, .int .u64 n] w fun e w' =>
      e = .returned (.tuple #[.string ⟨(spliceB s.data.toList a.toNat (Lib.leBytes z.toNat n.toNat)).toArray⟩, .int .i64 0]) ∧ Below w.heap.size w w' := by
  have H := Lib.hid h
  obtain ⟨h1, h2, h3, h4⟩ := errAt_ok.1 h
  clear h
  obtain ⟨p, rfl⟩ := Int.eq_ofNat_of_zero_le h3
  obtain ⟨q, rfl⟩ := Int.eq_ofNat_of_zero_le (show 0 ≤ z by omega)
  obtain ⟨v, rfl⟩ := Int.eq_ofNat_of_zero_le h0
  simp only [Int.toNat_natCast] at hn ⊢
  obtain ⟨ib, hi, hz0, hz1, hz2⟩ := Try.info_byte
  have hinfo : (Try.prog.info? 5).map (·.size) = some 1 := by rw [hi]; simp [hz1]
  have hmk := fun W => run_make_bytes (P := Try.prog) W 80 5 ib Try.underlying80 hi hz0 hz1 hz2 s.size (by omega)
  have hcp := fun W => run_copy_bytes (P := Try.prog) W 80 9 3 5 0 s.size s.size s (List.replicate s.size 0) Try.underlying80 hinfo (Nat.le_refl _) (by simp)
  rw [spliceB_whole _ _ (by rw [List.length_replicate, Lib.size_eq]; exact Nat.le_refl _)] at hcp
  clear hi hz0 hz1 hz2 hinfo
  have hb : ((v : Int) / 2 ^ (8 * q) != 0) = false := by
    have e : (2 : Int) ^ (8 * q) = 256 ^ q := by rw [Int.pow_mul]; rfl
    rw [e, bne_eq_false_iff_eq]; exact Int.ediv_eq_zero_of_lt (by omega) hn
  have HN := Lib.hid hn; clear hn
  go_enter Try.func48, Try.ntmps48
  go_wp2_with (go_at_call 67; refine (numberAt_is _ _ _ 0 _ hs H.out).mono ?_; rintro e w' ⟨rfl, rfl⟩)
  go_loopw [32] (fun i wx => ∃ k : Nat, k ≤ q ∧ i = .int .i64 k ∧ wx = w.alloc (.cells (brow (spliceB s.data.toList p (Lib.leBytes k v))) 5)) (fun i _ => q - (intOf i).toNat)
  case atStart => exact ⟨0, Nat.zero_le _, rfl, by rw [Lib.leBytes, spliceB_nil]⟩
  case round =>
    obtain ⟨k, hk, rfl, rfl⟩ := hrel
    by_cases hlt : k < q
    · have hle : (Lib.leBytes k v).length = k := Lib.leBytes_length k v
      have hsl : p + k < (spliceB s.data.toList p (Lib.leBytes k v)).length := by rw [spliceB_length _ _ _ (by rw [hle, ← Lib.size_eq]; omega), ← Lib.size_eq]; omega
      obtain ⟨x, hx⟩ := brow_some _ _ hsl
      have HS := Lib.hid hsl; have HL := Lib.hid hle; clear hsl hle
      go_wp2
      have hstep : (brow (spliceB s.data.toList p (Lib.leBytes k v))).setIfInBounds (p + k) (Value.int .u8 ((v : Int) / 2 ^ (8 * k) % 256)) = brow (spliceB s.data.toList p (Lib.leBytes (k + 1) v)) := by
        rw [brow_set _ _ _ (by omega) (by omega), byte_at, leBytes_snoc]
        have := spliceB_snoc s.data.toList (Lib.leBytes k v) p (v / 256 ^ k % 256).toUInt8 (by rw [HL.out, ← Lib.size_eq]; omega)
        rw [HL.out] at this; rw [this]
      exact ⟨⟨k + 1, hlt, by go_num, by rw [hstep]⟩, by simp [intOf]; omega⟩
    · have hst := fun W => run_string_bytes (P := Try.prog) W 80 9 5 s.size s.size (spliceB s.data.toList p (Lib.leBytes k v)) (by rw [spliceB_length _ _ _ (by rw [Lib.leBytes_length, ← Lib.size_eq]; omega), ← Lib.size_eq]) Try.underlying80 Try.underlying5 Try.underlying9
      go_wp2
      go_ret2
      obtain rfl : k = q := by omega
      exact ⟨rfl, (Below.refl _ _).alloc (Nat.le_refl _) _⟩
end Go.Proofs.Ytajbnfobmnibjaa
