/-
  The contract of package sum's Of.
-/
import Derived.Test.YtdbniiggbjmfoaaS1
import Derived.Deep.Cut
import Derived.Deep.DeepCutAuto
namespace Go.Proofs.Ytdbniiggbjmfoaa
open Go.RowKit

theorem take_snoc_ba (s : ByteArray) (k : Nat) (h : k < s.size) : s.data.toList.take (k + 1) = s.data.toList.take k ++ [s[k]] := by
  rw [List.take_succ_eq_append_getElem (by simpa using h)]; rfl

set_option maxHeartbeats 1000000 in
theorem of_any (s : ByteArray) (w : World) (hs : s.size ≤ 1000000) :
    Calls Try.prog 42 #[.string s] w fun e w' => e = .returned (.int .u32 ((crcOf s.data.toList : Nat) : Int)) ∧ Below w.heap.size w w' := by
  go_enter Try.func42, Try.ntmps42
  go_wp2_with fail
  refine (sums_any _).mono ?_; rintro e w1 ⟨rfl, b1⟩
  rw [tab16]
  go_upto_region 2 with fail
  rw [← tab16]
  have hA : ∀ i, i < 16 → (tab 16)[i]? = some (.int .u32 ((steps 4 i : Nat) : Int)) := fun i hi => by rw [tab_get _ _ hi, if_pos hi]
  have HA := Lib.hid hA; clear hA
  generalize tab 16 = A at *
  go_wp2
  go_loop [4, 5, 9] (fun n _ i => ∃ k : Nat, k ≤ s.size ∧ i = .int .i64 k ∧ n = .int .u32 ((crcRaw 4294967295 (s.data.toList.take k) : Nat) : Int)) (fun _ _ i => s.size - (intOf i).toNat)
  case atStart => exact ⟨0, Nat.zero_le _, rfl, rfl⟩
  case round =>
    obtain ⟨k, hk, rfl, rfl⟩ := hrel
    have hlt := crcRaw_lt (s.data.toList.take k) (n := 4294967295) (by omega)
    by_cases hk2 : k < s.size
    · have hst := crcRaw_snoc 4294967295 (s.data.toList.take k) s[k]
      rw [← take_snoc_ba s k hk2] at hst
      generalize crcRaw 4294967295 (s.data.toList.take k) = n at *
      have hb := s[k].toNat_lt
      have q1 : bits .xor .u32 (n : Int) ((s[k].toNat : Int) % 4294967296) = ((n ^^^ s[k].toNat : Nat) : Int) := by
        rw [show (s[k].toNat : Int) % 4294967296 = s[k].toNat by omega, w_byte n hlt s[k]]
      have hlt1 := xor_lt hlt (show s[k].toNat < 4294967296 by omega)
      generalize n ^^^ s[k].toNat = n1 at *
      have hlt2 := steps_lt 4 hlt1
      have q2 := w_and15 n1 hlt1
      have q3 := w_half n1 hlt1
      have q4 := w_and15 _ hlt2
      have q5 := w_half _ hlt2
      rw [← steps_add 4 4 n1, ← hst] at q5
      have a1 := HA.out (n1 % 16) (by omega)
      have a2 := HA.out (steps 4 n1 % 16) (by omega)
      generalize steps 4 (n1 % 16) = t1 at *
      generalize steps 4 (steps 4 n1 % 16) = t2 at *
      have hm1 : n1 % 16 < 16 := by omega
      have hm2 : steps 4 n1 % 16 < 16 := by omega
      generalize n1 % 16 = m1 at *
      generalize steps 4 n1 % 16 = m2 at *
      generalize steps 4 n1 = n2 at *
      generalize hv : crcRaw 4294967295 (s.data.toList.take (k + 1)) = n3 at *
      have HV := Lib.hid hv; clear hv hst hb
      go_wp2
      exact ⟨⟨k + 1, by omega, by go_num, by rw [HV.out]⟩, by simp [intOf]; omega⟩
    · have e : s.data.toList.take k = s.data.toList := List.take_of_length_le (by simp; omega)
      have q1 := w_not _ hlt
      rw [e] at q1 hlt ⊢
      have HE := Lib.hid (show crcOf s.data.toList = 4294967295 - crcRaw 4294967295 s.data.toList from rfl)
      clear e
      generalize crcRaw 4294967295 s.data.toList = n at *
      go_wp2
      go_ret
      refine ⟨?_, b1.alloc b1.size _⟩
      rw [HE.out, ← q1]; rfl

end Go.Proofs.Ytdbniiggbjmfoaa
