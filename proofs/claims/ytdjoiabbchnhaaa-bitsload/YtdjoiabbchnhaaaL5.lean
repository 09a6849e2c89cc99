/-
  BitsLoad: the walk.
-/
import Derived.Test.YtdjoiabbchnhaaaS3
import Derived.Deep.DeepCutAuto
namespace Go.Proofs.Ytdjoiabbchnhaaa
open Go.RowKit Go.Shelf

theorem cnt_len (L : List Bool) : ((takenOf L).map (fun i : Nat => (i : Int))).length = cnt L := by simp [cnt]
theorem cnt_len_le (L : List Bool) (h : L.length ≤ 1024) : ((takenOf L).map (fun i : Nat => (i : Int))).length ≤ 1000000 := by rw [cnt_len]; have := cnt_le L; omega
set_option maxRecDepth 100000 in
set_option maxHeartbeats 2000000 in
theorem walk_BitsLoad (s : ByteArray) (hs : s.size ≤ maxLen) (n : Int) (hn : (Lit.int .i64 n).wf = true) (w : World) :
    Calls Try.prog 4 #[.string s, .int .i64 n] w fun e w' => e = .returned (.bool true) ∧ Below w.heap.size w w' := by
  clear hn
  go_enter Try.func4, Try.ntmps4
  go_upto_region 1 with fail
  go_cut [0] (fun s0 wx => wx = w ∧ ∃ T : ByteArray, s0 = .string T ∧ T.size ≤ 140)
  case first =>
    go_wp2
    all_goals go_meet
    all_goals exact ⟨rfl, _, rfl, by first | (rw [ByteArray.size_extract]; omega) | omega⟩
  case rest =>
    obtain ⟨rfl, T, rfl, hT⟩ := hcut
    clear hs
    by_cases hr : n < 1 ∨ 1024 < n
    · have HR := Lib.hid hr; clear hr
      go_wp2_with fail
      refine (load_arg T n _ HR.out).mono ?_; rintro e _ ⟨rfl, rfl⟩
      go_wp2_with fail
      refine (rload_arg T n _ HR.out).mono ?_; rintro e _ ⟨rfl, rfl⟩
      go_wp2_with fail
      refine (fixed_true _).mono ?_; rintro e w7 ⟨rfl, b7⟩
      go_wp2_with fail
      go_ret
      exact ⟨rfl, b7⟩
    · obtain ⟨N, rfl⟩ := Int.eq_ofNat_of_zero_le (show 0 ≤ n by omega)
      have n1 : 1 ≤ N := by omega
      have n2 : N ≤ 1024 := by omega
      clear hr
      by_cases hok : okS T.data.toList N
      · have HOK := Lib.hid hok
        have hpk : (⟨(pack (bitsOf T.data.toList N)).toArray⟩ : ByteArray) = T := by
          rw [show pack (bitsOf T.data.toList N) = T.data.toList from hok]
        have hLN := bitsOf_length T.data.toList N
        clear hok
        go_wp2_with fail
        refine (st_load (w0 := wc) T N n1 n2 HOK.out (Below.refl _ _)).mono ?_; rintro e w1 ⟨p, b, rfl, S1, _, _, b1⟩
        go_wp2_with fail
        refine (rload_any T N w1 n1 n2 (by omega)).mono ?_
        rintro e w2 ⟨⟨_, rfl, hi2⟩ | ⟨hno, _⟩, b2⟩
        · have S2 := S1.reads b2
          clear HOK S1 b1
          generalize bitsOf T.data.toList N = L at *
          go_wp2_with fail
          refine (st_save S2).mono ?_; rintro e w3 ⟨rfl, S3, b3⟩
          have hi3 := hi2.grew b3
          rw [hpk]
          clear S2 hi2 b3
          go_wp2_with fail
          refine (st_taken S3).mono ?_; rintro e w4 ⟨v1, rfl, hv1, S4, b4⟩
          have hi4 := hi3.grew b4
          clear S3 hi3 b4
          go_wp2_with fail
          refine (rtaken_any _ _ _ _ hi4).mono ?_; rintro e w5 ⟨v2, rfl, hv2, b5⟩
          have S5 := S4.reads b5
          have hv1' := hv1.below b5
          clear S4 hi4 b5 hv1
          go_wp2_with fail
          refine (ints_eq _ v1 v2 _ hv1' hv2 (cnt_len_le L (by omega))).mono ?_; rintro e w6 ⟨rfl, b6⟩
          have S6 := S5.reads b6
          clear S5 b6 hv1' hv2
          go_wp2_with fail
          refine (st_len S6).mono ?_; rintro e w7 ⟨rfl, S7, _⟩
          clear S6
          rw [hLN]
          go_wp2_with fail
          refine (fixed_true _).mono ?_; rintro e w8 ⟨rfl, b8⟩
          go_wp2_with fail
          go_ret
          exact ⟨rfl, S7.bel.trans (b8.mono S7.bel.size)⟩
        · exact absurd HOK.out hno
      · have HOK := Lib.hid hok
        clear hok
        go_wp2_with fail
        refine (load_form T N _ n1 n2 HOK.out).mono ?_; rintro e w1 ⟨rfl, b1⟩
        go_wp2_with fail
        refine (rload_any T N w1 n1 n2 (by omega)).mono ?_
        rintro e w2 ⟨⟨hyes, _⟩ | ⟨_, rfl⟩, b2⟩
        · exact absurd hyes HOK.out
        · have B2 := b1.trans (b2.mono b1.size)
          clear b1 b2
          go_wp2_with fail
          refine (fixed_true _).mono ?_; rintro e w8 ⟨rfl, b8⟩
          go_wp2_with fail
          go_ret
          exact ⟨rfl, B2.trans (b8.mono B2.size)⟩
end Go.Proofs.Ytdjoiabbchnhaaa
