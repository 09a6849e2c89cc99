/-
  SumPages, SumBack: the walks.
-/
import Derived.Test.YthekbhhmbjjdgaaS6
import Derived.OpenShut
import Derived.Deep.DeepCutAuto
namespace Go.Proofs.Ythekbhhmbjjdgaa
open Go.RowKit

theorem below_of_eq {P : Program} {f : Nat} {args : Array Value} {v : Value} {w : World} (h : Calls P f args w fun e w' => e = .returned v ∧ w = w') :
    Calls P f args w fun e w' => e = .returned v ∧ Below w.heap.size w w' :=
  h.mono fun e w' (hh : e = .returned v ∧ w = w') => (show e = Ending.returned v ∧ Below w.heap.size w w' from ⟨hh.1, hh.2 ▸ Below.refl _ _⟩)

theorem seal_both (S : ByteArray) (h : S.size ≤ 1000000) : ∃ (x : ByteArray) (k : Int),
    (∀ w, Calls Try.prog 9 #[.string S] w fun e w' => e = .returned (.tuple #[.string x, .int .i64 k]) ∧ Below w.heap.size w w') ∧
    (∀ w, Calls Try.prog 10 #[.string S] w fun e w' => e = .returned (.tuple #[.string x, .int .i64 k]) ∧ Below w.heap.size w w') := by
  by_cases hs : S.size ≤ 252
  · exact ⟨_, _, fun w => seal_ok S w hs, fun w => rseal_ok S w hs⟩
  · exact ⟨_, _, fun w => below_of_eq (seal_big S w (by omega)), fun w => below_of_eq (rseal_big S w (by omega) h)⟩
theorem open_both (S : ByteArray) (h : S.size ≤ 1000000) : ∃ (x : ByteArray) (k : Int),
    (∀ w, Calls Try.prog 11 #[.string S] w fun e w' => e = .returned (.tuple #[.string x, .int .i64 k]) ∧ Below w.heap.size w w') ∧
    (∀ w, Calls Try.prog 12 #[.string S] w fun e w' => e = .returned (.tuple #[.string x, .int .i64 k]) ∧ Below w.heap.size w w') := by
  by_cases hs : S.size = 256
  · cases ho : okPage S
    · exact ⟨_, _, fun w => open_sum S w hs ho, fun w => ropen_sum S w hs ho⟩
    · exact ⟨_, _, fun w => open_ok S w hs ho, fun w => ropen_ok S w hs ho⟩
  · exact ⟨_, _, fun w => below_of_eq (open_form S w hs h), fun w => below_of_eq (ropen_form S w hs h)⟩

set_option maxRecDepth 100000 in
set_option maxHeartbeats 1000000 in
theorem pages_walk (s t : ByteArray) (hs : s.size ≤ 2 ^ 63 - 1) (ht : t.size ≤ 2 ^ 63 - 1) (w : World) :
    Calls Try.prog 3 #[.string s, .string t] w fun e w' => e = .returned (.bool true) ∧ Below w.heap.size w w' := by
  have hx : (s.extract 0 300).size ≤ 300 := by rw [ByteArray.size_extract]; omega
  have hy : (t.extract 0 300).size ≤ 300 := by rw [ByteArray.size_extract]; omega
  have HX := Lib.hid hx; have HY := Lib.hid hy; clear hx hy
  go_enter Try.func3, Try.ntmps3
  go_upto_region 1 with fail
  go_cut [0] (fun s0 wx => wx = w ∧ ∃ T : ByteArray, s0 = .string T ∧ T.size ≤ 300)
  case first =>
    go_wp2
    · go_meet; exact ⟨rfl, _, rfl, HX.out⟩
    · go_meet; exact ⟨rfl, _, rfl, by omega⟩
  case rest =>
    obtain ⟨rfl, S, rfl, hS⟩ := hcut
    clear HX hs
    go_upto_region 2 with fail
    go_cut [1] (fun s0 wx => wx = wc ∧ ∃ T : ByteArray, s0 = .string T ∧ T.size ≤ 300)
    case first =>
      go_wp2
      · go_meet; exact ⟨rfl, _, rfl, HY.out⟩
      · go_meet; exact ⟨rfl, _, rfl, by omega⟩
    case rest =>
      obtain ⟨rfl, T, rfl, hT⟩ := hcut
      clear HY ht
      obtain ⟨x1, k1, c1, c2⟩ := seal_both S (by omega)
      obtain ⟨x2, k2, c3, c4⟩ := open_both S (by omega)
      have c5 := fun w => of_any S w (by omega)
      have c6 := fun w => rof_any S w (by omega)
      have c7 := fun w => torn_any S T w (by omega) (by omega)
      have c8 := fun w => rtorn_any S T w (by omega) (by omega)
      generalize crcOf S.data.toList = c at *
      generalize tornOf S T = x3 at *
      have C1 := Lib.hid c1; have C2 := Lib.hid c2; have C3 := Lib.hid c3; have C4 := Lib.hid c4
      have C5 := Lib.hid c5; have C6 := Lib.hid c6; have C7 := Lib.hid c7; have C8 := Lib.hid c8
      clear c1 c2 c3 c4 c5 c6 c7 c8
      go_wp2_with fail
      refine (C1.out _).mono ?_; rintro e w1 ⟨rfl, b1⟩
      go_wp2_with fail
      refine (C2.out _).mono ?_; rintro e w2 ⟨rfl, b2⟩
      go_wp2_with fail
      refine (C3.out _).mono ?_; rintro e w3 ⟨rfl, b3⟩
      go_wp2_with fail
      refine (C4.out _).mono ?_; rintro e w4 ⟨rfl, b4⟩
      go_wp2_with fail
      refine (C5.out _).mono ?_; rintro e w5 ⟨rfl, b5⟩
      go_wp2_with fail
      refine (C6.out _).mono ?_; rintro e _ ⟨rfl, rfl⟩
      go_wp2_with fail
      refine (C7.out _).mono ?_; rintro e w6 ⟨rfl, b6⟩
      go_wp2_with fail
      refine (C8.out _).mono ?_; rintro e _ ⟨rfl, rfl⟩
      go_wp2_with fail
      refine (fixed_true _).mono ?_; rintro e w7 ⟨rfl, b7⟩
      go_wp2_with fail
      go_ret
      have B2 := b1.trans (b2.mono b1.size)
      have B3 := B2.trans (b3.mono B2.size)
      have B4 := B3.trans (b4.mono B3.size)
      have B5 := B4.trans (b5.mono B4.size)
      have B6 := B5.trans (b6.mono B5.size)
      exact ⟨rfl, B6.trans (b7.mono B6.size)⟩

theorem walk_SumPages (s : ByteArray) (hs : s.size ≤ maxLen) (t : ByteArray) (ht : t.size ≤ maxLen) (w : World) :
    Calls Try.prog 3 #[.string s, .string t] w fun e w' => e = .returned (.bool true) ∧ Below w.heap.size w w' :=
  pages_walk s t hs ht w

set_option maxRecDepth 100000 in
set_option maxHeartbeats 1000000 in
theorem back_walk (s : ByteArray) (hs : s.size ≤ 2 ^ 63 - 1) (w : World) :
    Calls Try.prog 4 #[.string s] w fun e w' => e = .returned (.bool true) ∧ Below w.heap.size w w' := by
  have hx : (s.extract 0 300).size ≤ 300 := by rw [ByteArray.size_extract]; omega
  have HX := Lib.hid hx; clear hx
  go_enter Try.func4, Try.ntmps4
  go_upto_region 1 with fail
  go_cut [0] (fun s0 wx => wx = w ∧ ∃ T : ByteArray, s0 = .string T ∧ T.size ≤ 300)
  case first =>
    go_wp2
    · go_meet; exact ⟨rfl, _, rfl, HX.out⟩
    · go_meet; exact ⟨rfl, _, rfl, by omega⟩
  case rest =>
    obtain ⟨rfl, S, rfl, hS⟩ := hcut
    clear HX hs
    by_cases h : 252 < S.size
    · have C1 := Lib.hid fun w => seal_big S w h
      go_wp2_with fail
      refine (C1.out _).mono ?_; rintro e _ ⟨rfl, rfl⟩
      go_wp2_with fail
      refine (fixed_true _).mono ?_; rintro e w7 ⟨rfl, b7⟩
      go_wp2_with fail
      go_ret
      exact ⟨rfl, b7⟩
    · have h' : S.size ≤ 252 := by omega
      have c1 := fun w => seal_ok S w h'
      have c2 := fun w => open_ok (pageOf S) w (pageOf_size S h') (okPage_pageOf S h')
      rw [pageOf_extract S h'] at c2
      have c3 := fun w => rpad252 S w h'
      have c4 := fun w => seal_ok (padOf S 252) w (by rw [padOf_size S 252 h']; omega)
      rw [pageOf_padOf S h'] at c4
      generalize pageOf S = P at *
      generalize padOf S 252 = B at *
      have C1 := Lib.hid c1; have C2 := Lib.hid c2; have C3 := Lib.hid c3; have C4 := Lib.hid c4
      clear c1 c2 c3 c4
      go_wp2_with fail
      refine (C1.out _).mono ?_; rintro e w1 ⟨rfl, b1⟩
      go_wp2_with fail
      refine (C2.out _).mono ?_; rintro e w2 ⟨rfl, b2⟩
      go_wp2_with fail
      refine (C3.out _).mono ?_; rintro e w3 ⟨rfl, b3⟩
      go_wp2_with fail
      refine (C4.out _).mono ?_; rintro e w4 ⟨rfl, b4⟩
      go_wp2_with fail
      refine (fixed_true _).mono ?_; rintro e w5 ⟨rfl, b5⟩
      go_wp2_with fail
      go_ret
      have B2 := b1.trans (b2.mono b1.size)
      have B3 := B2.trans (b3.mono B2.size)
      have B4 := B3.trans (b4.mono B3.size)
      exact ⟨rfl, B4.trans (b5.mono B4.size)⟩

theorem walk_SumBack (s : ByteArray) (hs : s.size ≤ maxLen) (w : World) :
    Calls Try.prog 4 #[.string s] w fun e w' => e = .returned (.bool true) ∧ Below w.heap.size w w' :=
  back_walk s hs w
end Go.Proofs.Ythekbhhmbjjdgaa
