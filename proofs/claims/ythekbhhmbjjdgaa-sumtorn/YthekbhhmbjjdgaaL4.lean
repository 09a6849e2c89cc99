/-
  SumTorn: the walk.
-/
import Derived.Test.YthekbhhmbjjdgaaS6
import Derived.OpenShut
import Derived.Deep.DeepCutAuto
import Derived.Deep.RegionWith
import Derived.Deep.RegionHeld3
import Derived.StillTailTactics
namespace Go.Proofs.Ythekbhhmbjjdgaa
open Go.RowKit

theorem torn_list (a b : ByteArray) : (tornOf a b).data.toList = a.data.toList.take 128 ++ b.data.toList.drop 128 := by
  unfold tornOf
  rw [ByteArray.data_append, Array.toList_append, extract_list, extract_list, List.drop_zero, Nat.sub_zero]
  rw [List.take_of_length_le (l := b.data.toList.drop 128) (by rw [List.length_drop, ← Lib.size_eq]; exact Nat.le_refl _)]
theorem torn_self (a : ByteArray) : tornOf a a = a := by
  apply ba_ext; rw [torn_list, List.take_append_drop]
theorem take128 (a : ByteArray) (h : a.size = 256) : (a.data.toList.take 128).length = 128 := by rw [List.length_take, ← Lib.size_eq]; omega
theorem torn_right (a b : ByteArray) (ha : a.size = 256) : tornOf a (tornOf a b) = tornOf a b := by
  apply ba_ext; rw [torn_list, torn_list, List.drop_left' (take128 a ha)]
theorem torn_left (a b : ByteArray) (ha : a.size = 256) : tornOf (tornOf a b) b = tornOf a b := by
  apply ba_ext; rw [torn_list, torn_list, List.take_left' (take128 a ha)]
theorem torn_front (a b : ByteArray) (ha : a.size = 256) : (tornOf a b).extract 0 128 = a.extract 0 128 := by
  apply ba_ext; rw [extract_list, extract_list, torn_list, List.drop_zero, List.drop_zero, Nat.sub_zero, List.take_left' (take128 a ha)]
theorem torn_behind (a b : ByteArray) (ha : a.size = 256) (hb : b.size = 256) : (tornOf a b).extract 128 256 = b.extract 128 256 := by
  apply ba_ext; rw [extract_list, extract_list, torn_list, List.drop_left' (take128 a ha)]
theorem torn_same (a b : ByteArray) (ha : a.size = 256) (h : a.extract 0 128 = b.extract 0 128) : tornOf a b = b := by
  apply ba_ext
  have := congrArg (fun x : ByteArray => x.data.toList) h
  simp only [extract_list, List.drop_zero, Nat.sub_zero] at this
  rw [torn_list, this, List.take_append_drop]
theorem open_some (X : ByteArray) (h : X.size = 256) : ∃ (x : ByteArray) (k : Int), (k = 0 ∨ k = 5) ∧
    (∀ w, Calls Try.prog 11 #[.string X] w fun e w' => e = .returned (.tuple #[.string x, .int .i64 k]) ∧ Below w.heap.size w w') := by
  cases ho : okPage X
  · exact ⟨_, _, .inr rfl, fun w => open_sum X w h ho⟩
  · exact ⟨_, _, .inl rfl, fun w => open_ok X w h ho⟩

set_option maxRecDepth 100000 in
set_option maxHeartbeats 1000000 in
theorem torn_walk (s t : ByteArray) (hs : s.size ≤ 2 ^ 63 - 1) (ht : t.size ≤ 2 ^ 63 - 1) (w : World) :
    Calls Try.prog 6 #[.string s, .string t] w fun e w' => e = .returned (.bool true) ∧ Below w.heap.size w w' := by
  have cut : ∀ s : ByteArray, s.size ≤ 2 ^ 63 - 1 → ∃ S : ByteArray, S.size ≤ 252 ∧ ((s.size ≤ 252 ∧ S = s) ∨ (252 < s.size ∧ S = s.extract 0 252)) := by
    intro s hs
    by_cases h : s.size ≤ 252
    · exact ⟨s, h, .inl ⟨h, rfl⟩⟩
    · exact ⟨s.extract 0 252, by rw [ByteArray.size_extract]; omega, .inr ⟨by omega, rfl⟩⟩
  go_enter Try.func6, Try.ntmps6
  go_upto_region 1 with fail
  go_cut [5, 6] from 12 to 20 (fun s5 s6 wx => Below w.heap.size w wx ∧ ∃ P : ByteArray, s5 = .string P ∧ s6 = .int .i64 0 ∧ P.size = 256)
  case first =>
    obtain ⟨S, hS, hor⟩ := cut s hs
    have c1 := fun w => seal_ok S w hS
    have z1 := Lib.hid (pageOf_size S hS)
    generalize pageOf S = P at *
    rcases hor with ⟨h, rfl⟩ | ⟨h, rfl⟩
    all_goals
      have C1 := Lib.hid c1
      clear c1 hS
      go_wp2_with fail
      refine (C1.out _).mono ?_; rintro e w1 ⟨rfl, b1⟩
      go_wp2_with fail
      go_meet
      exact ⟨b1, _, rfl, rfl, z1.out⟩
  case rest =>
    obtain ⟨hb0, P, rfl, rfl, hP⟩ := hcut
    have HB0 := Lib.hid hb0; have HP := Lib.hid hP
    clear hb0 hP
    go_upto_region 2 with fail
    go_cut [7, 8] from 21 to 29 (fun s5 s6 wx => Below w.heap.size w wx ∧ ∃ P : ByteArray, s5 = .string P ∧ s6 = .int .i64 0 ∧ P.size = 256)
    case first =>
      obtain ⟨S, hS, hor⟩ := cut t ht
      have c1 := fun w => seal_ok S w hS
      have z1 := Lib.hid (pageOf_size S hS)
      generalize pageOf S = Q at *
      rcases hor with ⟨h, rfl⟩ | ⟨h, rfl⟩
      all_goals
        have C1 := Lib.hid c1
        clear c1 hS
        go_wp2_with fail
        refine (C1.out _).mono ?_; rintro e w1 ⟨rfl, b1⟩
        go_wp2_with fail
        go_meet
        exact ⟨HB0.out.trans (b1.mono HB0.out.size), _, rfl, rfl, z1.out⟩
    case rest =>
      obtain ⟨hb1, Q, rfl, rfl, hQ⟩ := hcut
      have HB1 := Lib.hid hb1
      clear hb1 HB0 cut hs ht
      have hP := HP.out
      have c1 := fun w => torn_any P Q w (by omega) (by omega)
      have c2 := fun w => torn_any P P w (by omega) (by omega)
      rw [torn_self] at c2
      have hX := tornOf_size P Q hP hQ
      have c3 := fun w => torn_any P (tornOf P Q) w (by omega) (by omega)
      rw [torn_right P Q hP] at c3
      have c4 := fun w => torn_any (tornOf P Q) Q w (by omega) (by omega)
      rw [torn_left P Q hP] at c4
      obtain ⟨x, k, hk, c5⟩ := open_some (tornOf P Q) hX
      have e1 := torn_front P Q hP
      have e2 := torn_behind P Q hP hQ
      have HS := Lib.hid (torn_same P Q hP)
      generalize tornOf P Q = X at *
      have C1 := Lib.hid c1; have C2 := Lib.hid c2; have C3 := Lib.hid c3; have C4 := Lib.hid c4; have C5 := Lib.hid c5
      clear c1 c2 c3 c4 c5 HP
      go_wp2_with fail
      refine (C1.out _).mono ?_; rintro e w1 ⟨rfl, b1⟩
      have HB2 := Lib.hid (HB1.out.trans (b1.mono HB1.out.size))
      clear b1
      go_upto_region 6 with fail
      have i1 : (128 : Int) ≤ (X.size : Int) := by omega
      have i2 : (128 : Int) ≤ (P.size : Int) := by omega
      have i3 : (128 : Int) ≤ (Q.size : Int) := by omega
      go_cut [86] from 49 to 85 (fun s86 wx => s86 = .bool false ∧ Below w.heap.size w wx)
      case first =>
        go_region_held3 (fun _ => True) (first | trivial) (first | (go_at_call 15; ((with_reducible refine (C2.out _).mono ?_); rintro e w2 ⟨rfl, b2⟩)) | (go_at_call 15; ((with_reducible refine (C3.out _).mono ?_); rintro e w3 ⟨rfl, b3⟩)) | (go_at_call 15; ((with_reducible refine (C4.out _).mono ?_); rintro e w4 ⟨rfl, b4⟩)))
        all_goals
          go_wp2_with fail
          go_meet
          have D2 := (HB2.out.drew).trans (b2.mono HB2.out.drew.size)
          have D3 := D2.trans (b3.mono D2.size)
          exact ⟨rfl, D3.trans (b4.mono D3.size)⟩
      case rest =>
        obtain ⟨rfl, hb3⟩ := hcut
        have HB3 := Lib.hid hb3
        clear hb3 HB2 HB1 C1 C2 C3 C4
        go_wp2_with fail
        refine (C5.out _).mono ?_; rintro e w5 ⟨rfl, b5⟩
        have HB5 := Lib.hid (HB3.out.trans (b5.mono HB3.out.size))
        clear b5 HB3 C5
        go_upto_region 9 with fail
        by_cases hpq : P.extract 0 128 = Q.extract 0 128
        · obtain rfl := HS.out hpq
          clear HS e1 e2
          rcases hk with rfl | rfl
          all_goals
            go_still_tail 19, (by kernel_rfl)
            change wpList _ _ _ _ _ w5.drew
            go_wp2_with fail
            refine (fixed_true _).mono ?_; rintro e w6 ⟨rfl, b6⟩
            go_wp2_with fail
            go_ret
            exact ⟨rfl, (HB5.out.drew).trans (b6.mono HB5.out.drew.size)⟩
        · have n1 : ((P.extract 0 128).toList == (Q.extract 0 128).toList) = false := by rw [toList_beq]; simp [hpq]
          have n2 : ((P.extract 0 128).toList != (Q.extract 0 128).toList) = true := by rw [bne, n1]; rfl
          clear HS hpq e1 e2
          rcases hk with rfl | rfl
          all_goals
            go_still_tail 19, (by kernel_rfl)
            change wpList _ _ _ _ _ w5.drew
            go_wp2_with fail
            refine (fixed_true _).mono ?_; rintro e w6 ⟨rfl, b6⟩
            go_wp2_with fail
            go_ret
            exact ⟨rfl, (HB5.out.drew).trans (b6.mono HB5.out.drew.size)⟩

theorem walk_SumTorn (s : ByteArray) (hs : s.size ≤ maxLen) (t : ByteArray) (ht : t.size ≤ maxLen) (w : World) :
    Calls Try.prog 6 #[.string s, .string t] w fun e w' => e = .returned (.bool true) ∧ Below w.heap.size w w' :=
  torn_walk s t hs ht w
end Go.Proofs.Ythekbhhmbjjdgaa
