/-
  SumWhole: the walk.
-/
import Derived.Test.YthekbhhmbjjdgaaS6
import Derived.OpenShut
import Derived.Deep.DeepCutAuto
namespace Go.Proofs.Ythekbhhmbjjdgaa
open Go.RowKit

theorem padOf_succ (S : ByteArray) (k : Nat) : padOf S (S.size + k) ++ ⟨#[0]⟩ = padOf S (S.size + (k + 1)) := by
  apply ba_ext
  rw [ByteArray.data_append, Array.toList_append, padOf_list, padOf_list, List.append_assoc, Nat.add_sub_cancel_left, Nat.add_sub_cancel_left, List.replicate_succ']
theorem padOf_zero (S : ByteArray) : padOf S (S.size + 0) = S := padOf_full S _ rfl
theorem padOf_more (S : ByteArray) (k : Nat) (h : S.size + k ≤ 252) : padOf (padOf S (S.size + k)) 252 = padOf S 252 := by
  apply ba_ext
  rw [padOf_list, padOf_size S _ (by omega), padOf_list, padOf_list, List.append_assoc, List.replicate_append_replicate]
  congr 2; omega
theorem padOf_front (S : ByteArray) (n : Nat) : (padOf S n).extract 0 S.size = S := by
  apply ba_ext
  rw [extract_list, List.drop_zero, Nat.sub_zero, padOf_list, List.take_left' (by rw [← Lib.size_eq])]

set_option maxRecDepth 100000 in
set_option maxHeartbeats 1000000 in
theorem whole_walk (s : ByteArray) (hs : s.size ≤ 2 ^ 63 - 1) (n : Nat) (hn : n ≤ 255) (w : World) :
    Calls Try.prog 7 #[.string s, .int .u8 n] w fun e w' => e = .returned (.bool true) ∧ Below w.heap.size w w' := by
  have hx : (s.extract 0 240).size ≤ 240 := by rw [ByteArray.size_extract]; omega
  have HX := Lib.hid hx; clear hx
  go_enter Try.func7, Try.ntmps7
  go_upto_region 1 with fail
  go_cut [0] (fun s0 wx => wx = w ∧ ∃ T : ByteArray, s0 = .string T ∧ T.size ≤ 240)
  case first =>
    go_wp2
    · go_meet; exact ⟨rfl, _, rfl, HX.out⟩
    · go_meet; exact ⟨rfl, _, rfl, by omega⟩
  case rest =>
    obtain ⟨rfl, S, rfl, hS⟩ := hcut
    clear HX hs
    go_wp2
    go_loop [5, 6] (fun t i => ∃ k : Nat, k ≤ n % 12 ∧ i = .int .i64 k ∧ t = .string (padOf S (S.size + k))) (fun _ i => 12 - (intOf i).toNat)
    case atStart => exact ⟨0, Nat.zero_le _, rfl, by rw [padOf_zero]⟩
    case round =>
      obtain ⟨k, hk, rfl, rfl⟩ := hrel
      have hsz := padOf_size S (S.size + k) (by omega)
      have hk12 : k ≤ 11 := by omega
      by_cases hlt : k < n % 12
      · have hsu := Lib.hid (padOf_succ S k)
        have hT : (padOf S (S.size + k)).size ≤ 300 := by omega
        clear hsz
        generalize padOf S (S.size + k) = T at *
        go_wp2
        exact ⟨⟨k + 1, by omega, by go_num, by rw [hsu.out]⟩, by simp [intOf]; omega⟩
      · have c1 := fun w => seal_ok S w (by omega)
        have c2 := fun w => seal_ok (padOf S (S.size + k)) w (by omega)
        have hpp : pageOf (padOf S (S.size + k)) = pageOf S := by unfold pageOf; rw [padOf_more S k (by omega)]
        rw [hpp] at c2
        have z1 := pageOf_size S (by omega)
        have c3 := fun w => open_ok (pageOf S) w z1 (okPage_pageOf S (by omega))
        rw [pageOf_extract S (by omega)] at c3
        have z2 := padOf_size S 252 (by omega)
        have z3 := padOf_front S 252
        clear hpp hsz
        generalize pageOf S = P at *
        generalize padOf S 252 = B at *
        generalize padOf S (S.size + k) = T at *
        have C1 := Lib.hid c1; have C2 := Lib.hid c2; have C3 := Lib.hid c3
        clear c1 c2 c3
        go_wp2_with fail
        refine (C1.out _).mono ?_; rintro e w1 ⟨rfl, b1⟩
        go_wp2_with fail
        refine (C2.out _).mono ?_; rintro e w2 ⟨rfl, b2⟩
        go_wp2_with fail
        refine (C3.out _).mono ?_; rintro e w3 ⟨rfl, b3⟩
        go_wp2_with fail
        refine (fixed_true _).mono ?_; rintro e w4 ⟨rfl, b4⟩
        go_wp2_with fail
        go_ret
        have B2 := b1.trans (b2.mono b1.size)
        have B3 := B2.trans (b3.mono B2.size)
        exact ⟨rfl, B3.trans (b4.mono B3.size)⟩

theorem walk_SumWhole (s : ByteArray) (hs : s.size ≤ maxLen) (n : Int) (hn : (Lit.int .u8 n).wf = true) (w : World) :
    Calls Try.prog 7 #[.string s, .int .u8 n] w fun e w' => e = .returned (.bool true) ∧ Below w.heap.size w w' := by
  have hb := bounds_u8 hn
  obtain ⟨v, rfl⟩ := Int.eq_ofNat_of_zero_le hb.1
  exact whole_walk s hs v (by omega) w
end Go.Proofs.Ythekbhhmbjjdgaa
