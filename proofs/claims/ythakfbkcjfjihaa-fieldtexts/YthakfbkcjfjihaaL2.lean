/-
  FieldTexts: the walk.
-/
import Derived.Test.YthakfbkcjfjihaaW4
import Derived.Test.YthakfbkcjfjihaaW7
import Derived.OpenShut
namespace Go.Proofs.Ythakfbkcjfjihaa
open Go.RowKit

theorem text_both (s : ByteArray) (a : Int) (hs : s.size ≤ 1000000) : ∃ (x : ByteArray) (p k : Int),
    (∀ w, Calls Try.prog 15 #[.string s, .int .i64 a] w fun e w' => e = .returned (.tuple #[.string x, .int .i64 p, .int .i64 k]) ∧ Below w.heap.size w w') ∧
    (∀ w, Calls Try.prog 16 #[.string s, .int .i64 a] w fun e w' => e = .returned (.tuple #[.string x, .int .i64 p, .int .i64 k]) ∧ w = w') := by
  rcases textErr_cases s.data.toList a with h | h | h
  · exact ⟨_, _, 0, fun w => text_ok s a w hs h, fun w => rtext_ok s a w hs h⟩
  · exact ⟨_, 0, 1, fun w => (text_bad s a 1 w hs h (by decide)).mono fun e w' ⟨he, hb⟩ => ⟨he, hb ▸ Below.refl _ _⟩, fun w => rtext_bad s a 1 w hs h (by decide)⟩
  · exact ⟨_, 0, 3, fun w => (text_bad s a 3 w hs h (by decide)).mono fun e w' ⟨he, hb⟩ => ⟨he, hb ▸ Below.refl _ _⟩, fun w => rtext_bad s a 3 w hs h (by decide)⟩

theorem putText_both (s t : ByteArray) (a : Int) (hs : s.size ≤ 1000000) (ht : t.size ≤ 1000000) : ∃ (x : ByteArray) (p k : Int),
    (∀ w, Calls Try.prog 17 #[.string s, .int .i64 a, .string t] w fun e w' => e = .returned (.tuple #[.string x, .int .i64 p, .int .i64 k]) ∧ Below w.heap.size w w') ∧
    (∀ w, Calls Try.prog 18 #[.string s, .int .i64 a, .string t] w fun e w' => e = .returned (.tuple #[.string x, .int .i64 p, .int .i64 k]) ∧ Below w.heap.size w w') := by
  by_cases h : putTextErr s.size a t.size = 0
  · exact ⟨_, _, 0, fun w => putText_ok s t a w hs h, fun w => rputText_ok s t a w hs h⟩
  · exact ⟨_, 0, _, fun w => (putText_bad s t a _ w hs ht rfl (by simpa using h)).mono fun e w' ⟨he, hb⟩ => ⟨he, hb ▸ Below.refl _ _⟩, fun w => (rputText_bad s t a _ w hs ht rfl (by simpa using h)).mono fun e w' ⟨he, hb⟩ => ⟨he, hb ▸ Below.refl _ _⟩⟩

theorem pad_both (s : ByteArray) (n : Int) : ∃ (x : ByteArray) (k : Int),
    (∀ w, Calls Try.prog 21 #[.string s, .int .i64 n] w fun e w' => e = .returned (.tuple #[.string x, .int .i64 k]) ∧ Below w.heap.size w w') ∧
    (∀ w, Calls Try.prog 22 #[.string s, .int .i64 n] w fun e w' => e = .returned (.tuple #[.string x, .int .i64 k]) ∧ Below w.heap.size w w') := by
  by_cases h : n < 0 ∨ 65536 < n
  · exact ⟨_, 1, fun w => (pad_arg s n w h).mono fun e w' ⟨he, hb⟩ => ⟨he, hb ▸ Below.refl _ _⟩, fun w => (rpad_arg s n w h).mono fun e w' ⟨he, hb⟩ => ⟨he, hb ▸ Below.refl _ _⟩⟩
  · by_cases h2 : n < (s.size : Int)
    · exact ⟨_, 2, fun w => (pad_big s n w (by omega) (by omega) h2).mono fun e w' ⟨he, hb⟩ => ⟨he, hb ▸ Below.refl _ _⟩, fun w => (rpad_big s n w (by omega) (by omega) h2).mono fun e w' ⟨he, hb⟩ => ⟨he, hb ▸ Below.refl _ _⟩⟩
    · exact ⟨_, 0, fun w => pad_ok s n w (by omega) (by omega), fun w => rpad_ok s n w (by omega) (by omega)⟩

set_option maxRecDepth 100000 in
set_option maxHeartbeats 400000 in
theorem texts_walk (s t : ByteArray) (hs : s.size ≤ 2 ^ 63 - 1) (ht : t.size ≤ 2 ^ 63 - 1) (a : Int) (w : World) :
    Calls Try.prog 4 #[.string s, .string t, .int .i64 a] w fun e w' => e = .returned (.bool true) ∧ Below w.heap.size w w' := by
  have hx : (s.extract 0 300).size ≤ 300 := by rw [ByteArray.size_extract]; omega
  have hy : (t.extract 0 300).size ≤ 300 := by rw [ByteArray.size_extract]; omega
  have HX := Lib.hid hx; have HY := Lib.hid hy; clear hx hy
  go_enter Try.func4, Try.ntmps4
  go_upto_region 1 with fail
  go_cut [0] (fun s0 wx => wx = w ∧ ∃ T : ByteArray, s0 = .string T ∧ T.size ≤ 300)
  case first =>
    go_wp2
    · go_meet; exact ⟨rfl, _, rfl, HX.out⟩
    · go_meet; exact ⟨rfl, _, rfl, by omega⟩
  case rest =>
    obtain ⟨rfl, S, rfl, hS⟩ := hcut
    clear HX hs
    go_upto_region 2 with fail
    go_cut [1] (fun s0 wx => wx = wc ∧ ∃ T : ByteArray, s0 = .string T ∧ T.size ≤ 300)
    case first =>
      go_wp2
      · go_meet; exact ⟨rfl, _, rfl, HY.out⟩
      · go_meet; exact ⟨rfl, _, rfl, by omega⟩
    case rest =>
      obtain ⟨rfl, T, rfl, hT⟩ := hcut
      clear HY ht
      obtain ⟨x1, p1, k1, c1, c2⟩ := text_both S a (by omega)
      obtain ⟨x2, p2, k2, c3, c4⟩ := putText_both S T a (by omega) (by omega)
      obtain ⟨x3, k3, c7, c8⟩ := pad_both S a
      have c5 := fun w => (bare_any S w (by omega)).mono fun e w' (hh : e = .returned (.string (S.extract 0 (bareLen S.data.toList))) ∧ Below w.heap.size w w') => (show e = Ending.returned (.string (bareOf S)) ∧ Below w.heap.size w w' from ⟨by rw [hh.1, extract_bare], hh.2⟩)
      have c6 := fun w => rbare_any S.size S w rfl (by omega)
      have C1 := Lib.hid c1; have C2 := Lib.hid c2; have C3 := Lib.hid c3; have C4 := Lib.hid c4
      have C5 := Lib.hid c5; have C6 := Lib.hid c6; have C7 := Lib.hid c7; have C8 := Lib.hid c8
      clear c1 c2 c3 c4 c5 c6 c7 c8
      generalize bareOf S = B at *
      go_wp2_with fail
      refine (C1.out _).mono ?_; rintro e w1 ⟨rfl, b1⟩
      go_wp2_with fail
      refine (C2.out _).mono ?_; rintro e _ ⟨rfl, rfl⟩
      go_wp2_with fail
      refine (C3.out _).mono ?_; rintro e w2 ⟨rfl, b2⟩
      go_wp2_with fail
      refine (C4.out _).mono ?_; rintro e w3 ⟨rfl, b3⟩
      go_wp2_with fail
      refine (C5.out _).mono ?_; rintro e w4 ⟨rfl, b4⟩
      go_wp2_with fail
      refine (C6.out _).mono ?_; rintro e _ ⟨rfl, rfl⟩
      have s1 := b1.size; have s2 := b2.size; have s3 := b3.size; have s4 := b4.size
      have hfin : Below wc.heap.size wc w4 := ((b1.trans (b2.mono s1)).trans (b3.mono (by omega))).trans (b4.mono (by omega))
      clear b1 b2 b3 b4 s1 s2 s3 s4 C1 C2 C3 C4 C5 C6
      by_cases hr : 1000 < a ∧ a ≤ 65536
      · obtain ⟨hr1, hr2⟩ := hr
        go_wp2_with fail
        refine (fixed_true _).mono ?_; rintro e w5 ⟨rfl, b5⟩
        go_wp2_with fail
        go_ret
        exact ⟨rfl, hfin.trans (b5.mono hfin.size)⟩
      · by_cases hr1 : 1000 < a
        · have hr2 : 65536 < a := by omega
          clear hr
          go_wp2_with fail
          refine (C7.out _).mono ?_; rintro e w5 ⟨rfl, b5⟩
          go_wp2_with fail
          refine (C8.out _).mono ?_; rintro e w6 ⟨rfl, b6⟩
          go_wp2_with fail
          refine (fixed_true _).mono ?_; rintro e w7 ⟨rfl, b7⟩
          go_wp2_with fail
          go_ret
          have s1 := hfin.size; have s2 := b5.size; have s3 := b6.size
          exact ⟨rfl, ((hfin.trans (b5.mono s1)).trans (b6.mono (by omega))).trans (b7.mono (by omega))⟩
        · clear hr
          go_wp2_with fail
          refine (C7.out _).mono ?_; rintro e w5 ⟨rfl, b5⟩
          go_wp2_with fail
          refine (C8.out _).mono ?_; rintro e w6 ⟨rfl, b6⟩
          go_wp2_with fail
          refine (fixed_true _).mono ?_; rintro e w7 ⟨rfl, b7⟩
          go_wp2_with fail
          go_ret
          have s1 := hfin.size; have s2 := b5.size; have s3 := b6.size
          exact ⟨rfl, ((hfin.trans (b5.mono s1)).trans (b6.mono (by omega))).trans (b7.mono (by omega))⟩

theorem walk_FieldTexts (s : ByteArray) (hs : s.size ≤ maxLen) (t : ByteArray) (ht : t.size ≤ maxLen) (a : Int) (_ : (Lit.int .i64 a).wf = true) (w : World) :
    Calls Try.prog 4 #[.string s, .string t, .int .i64 a] w fun e w' => e = .returned (.bool true) ∧ Below w.heap.size w w' :=
  texts_walk s t hs ht a w
end Go.Proofs.Ythakfbkcjfjihaa
