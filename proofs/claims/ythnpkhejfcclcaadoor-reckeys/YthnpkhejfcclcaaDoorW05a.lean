/-
  RecKeys, walked.
-/
import Derived.Test.YthnpkhejfcclcaaDoorF05
import Derived.Deep.DeepCutAuto
namespace Go.Proofs.YthnpkhejfcclcaaDoor
open Go.RowKit

theorem wf_u8 (x : Int) (h : (Lit.int .u8 x).wf = true) : 0 ≤ x ∧ x < 256 := by
  have h' : decide (0 ≤ x) = true ∧ decide (x ≤ 255) = true := by simpa [Lit.wf, IntKind.min, IntKind.max, IntKind.signed, IntKind.bits] using h
  simp at h'
  omega
def keysOf (n : Nat) (c : UInt8) : ByteArray := baL (List.replicate n c)
theorem keysOf_size (n : Nat) (c : UInt8) : (keysOf n c).size = n := by unfold keysOf; rw [baL_size, List.length_replicate]
theorem keysOf_next (n : Nat) (c : UInt8) : keysOf n c ++ baL [c] = keysOf (n + 1) c := by
  unfold keysOf; rw [baL_append, List.replicate_succ']
theorem right_del (s : ByteArray) : rightB ⟨3, 1, s, ⟨#[]⟩, 0, 0, 0, []⟩ = keyB s := by
  have := rightB_parts 3 (by decide) (by decide) 1 s ⟨#[]⟩ 0 0 0 []
  rw [show ((3 : Nat) : Int) = 3 from rfl] at this
  rw [this]
  simp [txnB, farB, kyB, vlB, prB, hasT, hasF, hasK, hasV, hasL, inR]
theorem right_put (s : ByteArray) : rightB ⟨2, 1, ⟨#[107]⟩, s, 0, 0, 0, []⟩ = valB s := by
  have := rightB_parts 2 (by decide) (by decide) 1 ⟨#[107]⟩ s 0 0 0 []
  rw [show ((2 : Nat) : Int) = 2 from rfl] at this
  rw [this]
  have : keyB ⟨#[107]⟩ = true := by decide
  simp [txnB, farB, kyB, vlB, prB, hasT, hasF, hasK, hasV, hasL, inR, this]
set_option maxRecDepth 100000 in
set_option maxHeartbeats 4000000 in
theorem walk_RecKeys (x : Int) (wx : (Lit.int .u8 x).wf = true) (y : Int) (wy : (Lit.int .u8 y).wf = true) (w : World) (hL : Laid5 w) :
    Calls Tryd.prog 8 #[.int .u8 x, .int .u8 y] w fun e w' => e = .returned (.bool true) ∧ Below w.heap.size w w' := by
  have hx := wf_u8 x wx
  have hy := wf_u8 y wy
  obtain ⟨v, rfl⟩ := Int.eq_ofNat_of_zero_le hx.1
  obtain ⟨u, rfl⟩ := Int.eq_ofNat_of_zero_le hy.1
  clear wx wy
  have hu : u < 256 := by omega
  have hv : v < 256 := by omega
  obtain ⟨m, hm⟩ : ∃ m, u % 40 = m := ⟨_, rfl⟩
  have hm1 : ((u : Int) % 40) = (m : Int) := by omega
  have hm2 : (Int.tmod (u : Int) 40) = (m : Int) := by rw [Int.tmod_eq_emod_of_nonneg (by omega)]; exact hm1
  have hm3 : m < 40 := by omega
  have HST := Lib.hid (fun W => str_one W v hv)
  have HL := Lib.hid hL
  clear hx hy hm hL
  go_enter Tryd.func8, Tryd.ntmps8
  go_wp2
  go_loopw [5, 6] (fun s i wr => ∃ k : Nat, k ≤ m ∧ i = .int .i64 (k : Int) ∧ s = .string (keysOf k v.toUInt8) ∧ Below w.heap.size w wr) (fun _ i _ => m - (intOf i).toNat)
  case atStart => exact ⟨0, by omega, rfl, rfl, Below.refl _ _⟩
  case round =>
    obtain ⟨k, hk, rfl, rfl, bel⟩ := hrel
    have HB := Lib.hid bel
    clear bel
    have hks := keysOf_size k v.toUInt8
    by_cases hc : k < m
    · have c1 : (k : Int) < (m : Int) := by omega
      have hN := Lib.hid (keysOf_next k v.toUInt8)
      have hst := HST.out wr
      have hB1 := Lib.hid (HB.out.trans (((Below.refl wr.heap.size wr).alloc (Nat.le_refl _) (.cells #[.int .u8 (v : Int)] 5)).mono HB.out.size))
      have hz : (baL [v.toUInt8]).size = 1 := rfl
      generalize baL [v.toUInt8] = Z at *
      generalize keysOf k v.toUInt8 = S at *
      go_wp2
      exact ⟨⟨k + 1, by omega, by go_num, by rw [← hN.out], hB1.out⟩, by simp [intOf]; omega⟩
    · obtain rfl : k = m := by omega
      have L1 := HL.out.step HB.out
      generalize hS : keysOf k v.toUInt8 = S at *
      have CK := fun W => key_any S W (by omega)
      have CV := fun W => value_any S W (by omega)
      have CR := right_any wr ⟨3, 1, S, ⟨#[]⟩, 0, 0, 0, []⟩ none 0 L1 (pairsAt_nil _ _) smallP_nil (by dsimp only; decide) (by dsimp only; omega) (by dsimp only; decide)
      have CP := fun W hW => right_any W ⟨2, 1, ⟨#[107]⟩, S, 0, 0, 0, []⟩ none 0 hW (pairsAt_nil _ _) smallP_nil (by dsimp only; decide) (by dsimp only; decide) (by dsimp only; omega)
      rw [right_del] at CR
      simp only [right_put] at CP
      have ek : keyB S = decide (1 ≤ k ∧ k ≤ 16) := by unfold keyB; rw [hks]
      have ev : valB S = decide (k ≤ 32) := by unfold valB; rw [hks]
      dsimp only [recV, List.length_nil] at CR CP
      have CF := Lib.hid (fun W hW => fixed_any W hW)
      have HL1 := Lib.hid L1
      have HS := Lib.hid hS
      have ls : (S.size : Int) = (k : Int) := by omega
      clear hS L1 HL HST
      obtain h | h | h | h : k = 0 ∨ (1 ≤ k ∧ k ≤ 16) ∨ (17 ≤ k ∧ k ≤ 32) ∨ 33 ≤ k := by omega
      · have g1 : (k : Int) < 1 := by omega
        have g2 : (k : Int) ≤ 32 := by omega
        rw [ek, decide_eq_false (by omega)] at CK CR
        rw [ev, decide_eq_true (by omega)] at CV
        simp only [ev] at CP
        rw [decide_eq_true (show k ≤ 32 by omega)] at CP
        have HK := Lib.hid CK; have HV := Lib.hid CV; have HR := Lib.hid CR; have HP := Lib.hid CP
        clear CK CV CR CP ek ev
        go_wp2_with fail
        refine (HK.out _).mono ?_; rintro e w1 ⟨rfl, rfl⟩
        go_wp2_with fail
        refine (HV.out _).mono ?_; rintro e w1 ⟨rfl, rfl⟩
        go_wp2_with fail
        refine HR.out.mono ?_; rintro e w1 ⟨rfl, b1⟩
        have L2 := HL1.out.step b1
        have B2 := HB.out.trans (b1.mono HB.out.size)
        go_wp2_with fail
        refine (HP.out _ L2).mono ?_; rintro e w2 ⟨rfl, b2⟩
        have L3 := L2.step b2
        have B3 := B2.trans (b2.mono B2.size)
        go_wp2_with fail
        refine (CF.out _ L3).mono ?_; rintro e w3 ⟨rfl, b3⟩
        have B4 := Lib.hid (B3.trans (b3.mono B3.size))
        go_wp2
        go_ret
        exact ⟨by first | (simp; done) | (simp; omega), B4.out⟩
      · have g1 : (1 : Int) ≤ (k : Int) := by omega
        have g2 : (k : Int) ≤ 16 := by omega
        have g3 : (k : Int) ≤ 32 := by omega
        rw [ek, decide_eq_true (by omega)] at CK CR
        rw [ev, decide_eq_true (by omega)] at CV
        simp only [ev] at CP
        rw [decide_eq_true (show k ≤ 32 by omega)] at CP
        have HK := Lib.hid CK; have HV := Lib.hid CV; have HR := Lib.hid CR; have HP := Lib.hid CP
        clear CK CV CR CP ek ev
        go_wp2_with fail
        refine (HK.out _).mono ?_; rintro e w1 ⟨rfl, rfl⟩
        go_wp2_with fail
        refine (HV.out _).mono ?_; rintro e w1 ⟨rfl, rfl⟩
        go_wp2_with fail
        refine HR.out.mono ?_; rintro e w1 ⟨rfl, b1⟩
        have L2 := HL1.out.step b1
        have B2 := HB.out.trans (b1.mono HB.out.size)
        go_wp2_with fail
        refine (HP.out _ L2).mono ?_; rintro e w2 ⟨rfl, b2⟩
        have L3 := L2.step b2
        have B3 := B2.trans (b2.mono B2.size)
        go_wp2_with fail
        refine (CF.out _ L3).mono ?_; rintro e w3 ⟨rfl, b3⟩
        have B4 := Lib.hid (B3.trans (b3.mono B3.size))
        go_wp2
        go_ret
        exact ⟨by first | (simp; done) | (simp; omega), B4.out⟩
      · have g1 : (1 : Int) ≤ (k : Int) := by omega
        have g2 : (16 : Int) < (k : Int) := by omega
        have g3 : (k : Int) ≤ 32 := by omega
        rw [ek, decide_eq_false (by omega)] at CK CR
        rw [ev, decide_eq_true (by omega)] at CV
        simp only [ev] at CP
        rw [decide_eq_true (show k ≤ 32 by omega)] at CP
        have HK := Lib.hid CK; have HV := Lib.hid CV; have HR := Lib.hid CR; have HP := Lib.hid CP
        clear CK CV CR CP ek ev
        go_wp2_with fail
        refine (HK.out _).mono ?_; rintro e w1 ⟨rfl, rfl⟩
        go_wp2_with fail
        refine (HV.out _).mono ?_; rintro e w1 ⟨rfl, rfl⟩
        go_wp2_with fail
        refine HR.out.mono ?_; rintro e w1 ⟨rfl, b1⟩
        have L2 := HL1.out.step b1
        have B2 := HB.out.trans (b1.mono HB.out.size)
        go_wp2_with fail
        refine (HP.out _ L2).mono ?_; rintro e w2 ⟨rfl, b2⟩
        have L3 := L2.step b2
        have B3 := B2.trans (b2.mono B2.size)
        go_wp2_with fail
        refine (CF.out _ L3).mono ?_; rintro e w3 ⟨rfl, b3⟩
        have B4 := Lib.hid (B3.trans (b3.mono B3.size))
        go_wp2
        go_ret
        exact ⟨by first | (simp; done) | (simp; omega), B4.out⟩
      · have g1 : (1 : Int) ≤ (k : Int) := by omega
        have g2 : (16 : Int) < (k : Int) := by omega
        have g3 : (32 : Int) < (k : Int) := by omega
        rw [ek, decide_eq_false (by omega)] at CK CR
        rw [ev, decide_eq_false (by omega)] at CV
        simp only [ev] at CP
        rw [decide_eq_false (show ¬ k ≤ 32 by omega)] at CP
        have HK := Lib.hid CK; have HV := Lib.hid CV; have HR := Lib.hid CR; have HP := Lib.hid CP
        clear CK CV CR CP ek ev
        go_wp2_with fail
        refine (HK.out _).mono ?_; rintro e w1 ⟨rfl, rfl⟩
        go_wp2_with fail
        refine (HV.out _).mono ?_; rintro e w1 ⟨rfl, rfl⟩
        go_wp2_with fail
        refine HR.out.mono ?_; rintro e w1 ⟨rfl, b1⟩
        have L2 := HL1.out.step b1
        have B2 := HB.out.trans (b1.mono HB.out.size)
        go_wp2_with fail
        refine (HP.out _ L2).mono ?_; rintro e w2 ⟨rfl, b2⟩
        have L3 := L2.step b2
        have B3 := B2.trans (b2.mono B2.size)
        go_wp2_with fail
        refine (CF.out _ L3).mono ?_; rintro e w3 ⟨rfl, b3⟩
        have B4 := Lib.hid (B3.trans (b3.mono B3.size))
        go_wp2
        go_ret
        exact ⟨by first | (simp; done) | (simp; omega), B4.out⟩
end Go.Proofs.YthnpkhejfcclcaaDoor
