/-
  FieldBack: the walk.
-/
import Derived.Test.YthakfbkcjfjihaaL3
import Derived.StillTailTactics
namespace Go.Proofs.Ythakfbkcjfjihaa
open Go.RowKit

theorem u64_and65535 (v : Nat) : bits .and .u64 (v : Int) 65535 = ((v % 65536 : Nat) : Int) := by
  have h7 : (BitVec.ofInt 64 65535).toNat = 2 ^ 16 - 1 := by decide
  have key : (BitVec.ofInt 64 (v : Int) &&& BitVec.ofInt 64 65535).toNat = ((v : Int) % ((2 ^ 64 : Nat) : Int)).toNat % 2 ^ 16 := by
    rw [BitVec.toNat_and, BitVec.toNat_ofInt, h7, Nat.and_two_pow_sub_one_eq_mod]
  show IntKind.u64.wrap ((BitVec.ofInt 64 (v : Int) &&& BitVec.ofInt 64 65535).toNat : Nat) = _
  rw [key, IntKind.wrap_u64]
  omega

set_option maxRecDepth 100000 in
set_option maxHeartbeats 800000 in
theorem back_walk (s t : ByteArray) (hs : s.size ≤ 2 ^ 63 - 1) (ht : t.size ≤ 2 ^ 63 - 1) (v : Nat) (w : World) :
    Calls Try.prog 5 #[.string s, .string t, .int .u64 v] w fun e w' => e = .returned (.bool true) ∧ Below w.heap.size w w' := by
  have hx : (s.extract 0 300).size ≤ 300 := by rw [ByteArray.size_extract]; omega
  have hy : (t.extract 0 300).size ≤ 300 := by rw [ByteArray.size_extract]; omega
  have HX := Lib.hid hx; have HY := Lib.hid hy; clear hx hy
  go_enter Try.func5, Try.ntmps5
  go_upto_region 1 with fail
  go_cut [0] (fun s0 wx => wx = w ∧ ∃ T : ByteArray, s0 = .string T ∧ T.size ≤ 300)
  case first =>
    go_wp2
    · go_meet; exact ⟨rfl, _, rfl, HX.out⟩
    · go_meet; exact ⟨rfl, _, rfl, by omega⟩
  case rest =>
    obtain ⟨rfl, S, rfl, hS⟩ := hcut
    clear HX hs
    go_upto_region 2 with fail
    go_cut [1] (fun s0 wx => wx = wc ∧ ∃ T : ByteArray, s0 = .string T ∧ T.size ≤ 300)
    case first =>
      go_wp2
      · go_meet; exact ⟨rfl, _, rfl, HY.out⟩
      · go_meet; exact ⟨rfl, _, rfl, by omega⟩
    case rest =>
      obtain ⟨rfl, T, rfl, hT⟩ := hcut
      clear HY ht
      have hp0 := Nat.mod_lt T.size (show S.size + 1 > 0 by omega)
      obtain ⟨p, hpe⟩ : ∃ p, p = T.size % (S.size + 1) := ⟨_, rfl⟩
      rw [← hpe] at hp0
      have hpA : (T.size : Int) % ((S.size : Int) + 1) = (p : Int) := by rw [hpe]; rfl
      have HPA := Lib.hid hpA; clear hpA hpe
      go_wp2_with fail
      go_loopw [7] (fun i wx => ∃ k : Nat, 1 ≤ k ∧ k ≤ 9 ∧ i = .int .i64 k ∧ Below wc.heap.size wc wx) (fun i _ => 9 - (intOf i).toNat)
      case atStart => exact ⟨1, by omega, by omega, rfl, Below.refl _ _⟩
      case round =>
        obtain ⟨k, hk1, hk2, rfl, hbw⟩ := hrel
        have HBW := Lib.hid hbw; clear hbw
        by_cases hlt : k ≤ 8
        · by_cases hok : errAt S.size p k = 0 ∧ v < 256 ^ k
          · obtain ⟨he, hv⟩ := hok
            obtain ⟨X, c1, c2, x0, x1, x2⟩ := put_back S p k v (by omega) he hv
            have h4 := (errAt_ok.1 he).2.2.2
            have C1 := Lib.hid c1; have C2 := Lib.hid c2
            clear c1 c2 he hv
            go_wp2_with fail
            rw [HPA.out]
            refine (C1.out _).mono ?_; rintro e w1 ⟨rfl, b1⟩
            have HB1 := Lib.hid b1; clear b1
            go_wp2_with fail
            refine (C2.out _).mono ?_; rintro e _ ⟨rfl, rfl⟩
            go_wp2_with fail
            have e1 : IntKind.i64.wrap ((p : Int) + (k : Int)) = (p : Int) + (k : Int) := IntWalk.i64_in _ (by omega)
            have e2 : (0 : Int) ≤ (p : Int) + (k : Int) := by omega
            have e3 : ((p : Int) + (k : Int)).toNat = p + k := by omega
            have e4 : (p : Int) ≤ (S.size : Int) := by omega
            go_quiet (fail)
            clear e1 e2 e3
            go_wp2_with fail
            exact ⟨⟨k + 1, by omega, by omega, by go_num, by first | exact HBW.out.trans (HB1.out.mono HBW.out.size) | exact (HBW.out.trans (HB1.out.mono HBW.out.size)).drew | exact below_drewN (HBW.out.trans (HB1.out.mono HBW.out.size)) _⟩, by simp [intOf]; omega⟩
          · obtain ⟨m, hm, c1⟩ := put_fails S p k v (by omega) hok
            have C1 := Lib.hid c1
            clear c1 hok
            go_wp2_with fail
            rw [HPA.out]
            refine (C1.out _).mono ?_; rintro e w1 ⟨rfl, b1⟩
            have HB1 := Lib.hid b1; clear b1
            go_wp2_with fail
            exact ⟨⟨k + 1, by omega, by omega, by go_num, HBW.out.trans (HB1.out.mono HBW.out.size)⟩, by simp [intOf]; omega⟩
        · obtain rfl : k = 9 := by omega
          obtain ⟨M, hM, hM1⟩ : ∃ M : Nat, bits .and .u64 (v : Int) 65535 = (M : Int) ∧ M < 65536 := ⟨v % 65536, u64_and65535 v, Nat.mod_lt _ (by decide)⟩
          clear hp0 HPA
          have hq0 := Nat.mod_lt M (show S.size + 1 > 0 by omega)
          obtain ⟨q, hqe⟩ : ∃ q, q = M % (S.size + 1) := ⟨_, rfl⟩
          rw [← hqe] at hq0
          have hqA : (M : Int) % ((S.size : Int) + 1) = (q : Int) := by rw [hqe]; rfl
          clear hqe
          by_cases hok : putTextErr S.size q T.size = 0
          · obtain ⟨h0, h1, h2⟩ := putTextErr_ok.1 hok
            obtain ⟨X, c1, c2, x0, x1, x2⟩ := putText_back S T q (by omega) hok
            have C1 := Lib.hid c1; have C2 := Lib.hid c2
            clear c1 c2 hok
            go_wp2_with fail
            refine (C1.out _).mono ?_; rintro e w1 ⟨rfl, b1⟩
            have HB1 := Lib.hid b1; clear b1
            go_wp2_with fail
            refine (C2.out _).mono ?_; rintro e w2 ⟨rfl, b2⟩
            have HB2 := Lib.hid b2; clear b2
            go_wp2_with fail
            have e1 : IntKind.i64.wrap ((q : Int) + 1 + (T.size : Int)) = (q : Int) + 1 + (T.size : Int) := IntWalk.i64_in _ (by omega)
            have e0 : IntKind.i64.wrap ((q : Int) + 1) = (q : Int) + 1 := IntWalk.i64_in _ (by omega)
            have e2 : (0 : Int) ≤ (q : Int) + 1 + (T.size : Int) := by omega
            have e3 : ((q : Int) + 1 + (T.size : Int)).toNat = q + 1 + T.size := by omega
            have e4 : (q : Int) ≤ (S.size : Int) := by omega
            go_still_tail 47, (by kernel_rfl)
            change wpList _ _ _ _ _ w2.drew
            clear e0 e1 e2 e3
            go_wp2_with fail
            refine (fixed_true _).mono ?_; rintro e w3 ⟨rfl, b3⟩
            go_wp2_with fail
            go_ret
            have s1 := HBW.out.size; have s2 := HB1.out.size; have s3 := HB2.out.size
            exact ⟨rfl, (((HBW.out.trans (HB1.out.mono s1)).trans (HB2.out.mono (by omega))).drew).trans (b3.mono (by show wc.heap.size ≤ w2.heap.size; omega))⟩
          · have hm : ((putTextErr S.size q T.size) != 0) = true := by simpa using hok
            have c1 := fun w => putText_bad S T q _ w (by omega) (by omega) rfl hm
            have C1 := Lib.hid c1; clear c1 hok
            generalize putTextErr S.size q T.size = m at *
            go_wp2_with fail
            refine (C1.out _).mono ?_; rintro e _ ⟨rfl, rfl⟩
            go_wp2_with fail
            refine (fixed_true _).mono ?_; rintro e w1 ⟨rfl, b1⟩
            go_wp2_with fail
            go_ret
            exact ⟨rfl, HBW.out.trans (b1.mono HBW.out.size)⟩

theorem walk_FieldBack (s : ByteArray) (hs : s.size ≤ maxLen) (t : ByteArray) (ht : t.size ≤ maxLen) (n : Int) (hn : (Lit.int .u64 n).wf = true) (w : World) :
    Calls Try.prog 5 #[.string s, .string t, .int .u64 n] w fun e w' => e = .returned (.bool true) ∧ Below w.heap.size w w' := by
  have hb := bounds_u64 hn
  obtain ⟨v, rfl⟩ := Int.eq_ofNat_of_zero_le hb.1
  exact back_walk s t hs ht v w
end Go.Proofs.Ythakfbkcjfjihaa
