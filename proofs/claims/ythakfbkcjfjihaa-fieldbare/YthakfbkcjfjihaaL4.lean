/-
  FieldBare: the walk.
-/
import Derived.Test.YthakfbkcjfjihaaW4
import Derived.Test.YthakfbkcjfjihaaM2
import Derived.OpenShut
import Derived.Deep.DeepCutAuto
namespace Go.Proofs.Ythakfbkcjfjihaa
open Go.RowKit

section
variable (T : ByteArray) (n : Nat) (w : World)
theorem bare_is (h : T.size ≤ 1000000) : Calls Try.prog 19 #[.string T] w fun e w' => e = .returned (.string (bareOf T)) ∧ Below w.heap.size w w' :=
  (bare_any T w h).mono fun e w' ⟨he, hb⟩ => ⟨by rw [he, extract_bare], hb⟩
theorem pad_is (k : Int) (h0 : k = (n : Int)) (h1 : n ≤ 65536) (h : T.size ≤ n) : Calls Try.prog 21 #[.string T, .int .i64 k] w fun e w' => e = .returned (.tuple #[.string (padOf T n), .int .i64 0]) ∧ Below w.heap.size w w' := by
  subst h0
  exact (pad_ok T n w (by omega) (by omega)).mono fun e w' ⟨he, hb⟩ => ⟨by rw [he, Int.toNat_natCast]; rfl, hb⟩
end

set_option maxRecDepth 100000 in
set_option maxHeartbeats 400000 in
theorem bare_walk (s : ByteArray) (hs : s.size ≤ 2 ^ 63 - 1) (n : Nat) (hn : n ≤ 255) (w : World) :
    Calls Try.prog 6 #[.string s, .int .u8 n] w fun e w' => e = .returned (.bool true) ∧ Below w.heap.size w w' := by
  have hx : (s.extract 0 300).size ≤ 300 := by rw [ByteArray.size_extract]; omega
  have HX := Lib.hid hx; clear hx
  go_enter Try.func6, Try.ntmps6
  go_upto_region 1 with fail
  go_cut [0] (fun s0 wx => wx = w ∧ ∃ T : ByteArray, s0 = .string T ∧ T.size ≤ 300)
  case first =>
    go_wp2
    · go_meet; exact ⟨rfl, _, rfl, HX.out⟩
    · go_meet; exact ⟨rfl, _, rfl, by omega⟩
  case rest =>
    obtain ⟨rfl, T, rfl, hT⟩ := hcut
    have hT0 := bareOf_le T
    have hl := bareOf_last' T
    have c1 := fun w => bare_is T w (by omega)
    have c2 := fun w => pad_is (bareOf T) T.size w T.size rfl (by omega) (by omega)
    rw [padOf_bareOf] at c2
    have c3 := fun w => pad_is (bareOf T) ((bareOf T).size + n) w ((bareOf T).size + n) (by omega) (by omega) (by omega)
    have q1 := padOf_size (bareOf T) ((bareOf T).size + n) (by omega)
    have c4 := fun w => bare_is (padOf (bareOf T) ((bareOf T).size + n)) w (by omega)
    rw [bareOf_padOf] at c4
    have C1 := Lib.hid c1; have C2 := Lib.hid c2; have C3 := Lib.hid c3; have C4 := Lib.hid c4
    clear c1 c2 c3 c4
    generalize padOf (bareOf T) ((bareOf T).size + n) = Q at *
    generalize bareOf T = B at *
    have Q1 := Lib.hid q1; clear q1
    have HL := Lib.hid hl; clear hl
    go_wp2_with fail
    refine (C1.out _).mono ?_; rintro e w1 ⟨rfl, b1⟩
    go_wp2_with fail
    refine (C2.out _).mono ?_; rintro e w2 ⟨rfl, b2⟩
    go_wp2_with fail
    refine (C3.out _).mono ?_; rintro e w3 ⟨rfl, b3⟩
    go_wp2_with fail
    refine (C4.out _).mono ?_; rintro e w4 ⟨rfl, b4⟩
    have s1 := b1.size; have s2 := b2.size; have s3 := b3.size; have s4 := b4.size
    have hfin : Below wc.heap.size wc w4 := ((b1.trans (b2.mono s1)).trans (b3.mono (by omega))).trans (b4.mono (by omega))
    clear b1 b2 b3 b4 s1 s2 s3 s4 C1 C2 C3 C4
    by_cases h0 : B.size = 0
    · have hB : B = ⟨#[]⟩ := by
        apply ByteArray.ext
        exact Array.eq_empty_of_size_eq_zero h0
      clear HL h0
      subst hB
      have hq : Q.size = n := by rw [Q1.out]; show 0 + n = n; omega
      go_wp2_with fail
      refine (fixed_true _).mono ?_; rintro e w5 ⟨rfl, b5⟩
      go_wp2_with fail
      go_ret
      exact ⟨rfl, hfin.trans (b5.mono hfin.size)⟩
    · have hl1 := HL.out (by omega)
      obtain ⟨m, hm⟩ : ∃ m, B.size = m + 1 := ⟨B.size - 1, by omega⟩
      rw [hm, Nat.add_sub_cancel, ← byteAt_get _ _ (by omega)] at hl1
      have hnb : ((B[m].toNat : Int) != 0) = true := by rw [bne_iff_ne]; omega
      have hq : (Q.size : Int) = (m : Int) + 1 + n := by rw [Q1.out]; omega
      go_wp2_with fail
      all_goals
        refine (fixed_true _).mono ?_; rintro e w5 ⟨rfl, b5⟩
        go_wp2_with fail
        go_ret
        exact ⟨by simp [hnb], hfin.trans (b5.mono hfin.size)⟩

theorem walk_FieldBare (s : ByteArray) (hs : s.size ≤ maxLen) (n : Int) (hn : (Lit.int .u8 n).wf = true) (w : World) :
    Calls Try.prog 6 #[.string s, .int .u8 n] w fun e w' => e = .returned (.bool true) ∧ Below w.heap.size w w' := by
  have hb := bounds_u8 hn
  obtain ⟨v, rfl⟩ := Int.eq_ofNat_of_zero_le hb.1
  exact bare_walk s hs v (by omega) w
end Go.Proofs.Ythakfbkcjfjihaa
