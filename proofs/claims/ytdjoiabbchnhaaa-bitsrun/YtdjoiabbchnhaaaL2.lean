/-
  BitsRun: the walk.
-/
import Derived.Test.YtdjoiabbchnhaaaK4
import Derived.Deep.DeepCutAuto
import Derived.Deep.CutBlock
namespace Go.Proofs.Ytdjoiabbchnhaaa
open Go.RowKit Go.Shelf

set_option maxRecDepth 100000 in
set_option maxHeartbeats 2000000 in
theorem walk_BitsRun (a0 : Int) (h0 : (Lit.int .i64 a0).wf = true) (a1 : Int) (h1 : (Lit.int .i64 a1).wf = true) (a : Option Addr) (len cap : Nat) (zs : List Int) (w : World) (ha : ArgInts w a len zs) (hl : len ≤ maxLen) :
    Calls Try.prog 6 #[.int .i64 a0, .int .i64 a1, .slice a len cap] w fun e w' => e = .returned (.bool true) ∧ Below w.heap.size w w' := by
  obtain ⟨m, e1, m0, m1⟩ : ∃ m, bits .and .i64 a0 63 = m ∧ 0 ≤ m ∧ m < 64 := ⟨_, i64_and63 a0, by omega, by omega⟩
  obtain ⟨q, e2, q0, q1⟩ : ∃ q, bits .and .i64 a1 15 = q ∧ 0 ≤ q ∧ q < 16 := ⟨_, i64_and15 a1, by omega, by omega⟩
  obtain ⟨K, e3⟩ : ∃ K : Nat, 1 + m = (K : Int) := ⟨(1 + m).toNat, by omega⟩
  obtain ⟨M, e4⟩ : ∃ M : Nat, 1 + q = (M : Int) := ⟨(1 + q).toNat, by omega⟩
  have k1 : 1 ≤ K := by omega
  have k2 : K ≤ 64 := by omega
  have n1 : 1 ≤ M := by omega
  have n2 : M ≤ 16 := by omega
  have hmx : (len : Int) ≤ 9223372036854775807 := by simp [maxLen] at hl; omega
  have HA := Lib.hid ha; clear ha h0 h1
  go_enter Try.func6, Try.ntmps6
  go_wp2_with fail
  refine (st_new (w0 := w) K k1 (by omega) (Below.refl _ _)).mono ?_; rintro e w1 ⟨p, b, rfl, S1, _, _, _⟩
  have T1 := Lib.hid S1; clear S1
  go_upto_block 0 with fail
  go_cut [11] (fun _ wx => ∃ L : List Bool, L.length = K ∧ St w wx p b L)
  case first =>
    go_wp2_with fail
    go_loopw [11] (fun i wr => ∃ (t : Nat) (L : List Bool), t ≤ len ∧ i = .int .i64 (t : Int) ∧ L.length = K ∧ St w wr p b L) (fun i _ => len - (intOf i).toNat)
    case atStart => exact ⟨0, _, by omega, rfl, by simp, T1.out⟩
    case round =>
      obtain ⟨t, L, ht, rfl, hLK, hS⟩ := hrel
      clear T1 e1 e2 e3 e4
      by_cases hlt : t < len ∧ t < 40
      · obtain ⟨hlt, hlt2⟩ := hlt
        have hlt' : (t : Int) < (len : Int) := by omega
        have hlt2' : (t : Int) < 40 := by omega
        obtain ⟨hzl, hz⟩ := HA.out
        obtain ⟨z, hz1⟩ : ∃ z, zs[t]? = some z := ⟨_, List.getElem?_eq_getElem (by omega)⟩
        obtain ⟨ab, ao, rfl, hcell⟩ := hz t z hz1
        have hcell' := (hS.bel.cell (p := ⟨ab, ao + t, none⟩) (block_lt_of_cell' hcell)).trans hcell
        obtain ⟨y, f2⟩ : ∃ y : Nat, bits .and .i64 z 63 = (y : Int) := ⟨(z % 64).toNat, by rw [i64_and63]; omega⟩
        have t0 : (0 : Int) ≤ (t : Int) := by omega
        have C1 := Lib.hid (st_takeAt_any hS y)
        clear hz hzl hz1 hcell hS
        go_wp2_with fail
        refine C1.out.mono ?_; rintro e w3 ⟨x, rfl, S3, _⟩
        go_wp2_with fail
        exact ⟨⟨t + 1, _, by omega, by go_num, by rw [tookAt_length]; exact hLK, S3⟩, by simp [intOf]; omega⟩
      · go_wp2_with fail
        all_goals
          go_meet
          exact ⟨L, hLK, hS⟩
  case rest =>
    obtain ⟨L, hLK, hS⟩ := hcut
    clear T1 e1 e2 HA
    have hn2 : (M : Nat) ≤ 9223372036854775807 := by omega
    go_wp2_with fail
    refine (run_any wc p b L hS.isB M n1 hn2).mono ?_
    rintro e w2 ⟨⟨k, g1, g2, g3, rfl⟩ | ⟨g1, rfl⟩, hb2⟩
    · have S2 := hS.reads hb2
      have hgood : ∀ j, j ≤ k + M - 1 → j ≤ K → runc L j < M := fun j hj hjK => by
        rcases Nat.lt_or_ge (runc L j) M with h | h
        · exact h
        · have := runc_le L j
          exact absurd (freeAt_of_ge L M j h) (g3 (j - M) (by omega))
      clear hS hb2 g3
      go_upto_block 2 with fail
      go_cut [15, 16] (fun _ _ wx => St w wx p b L)
      case first =>
        go_wp2_with fail
        go_loopw [15, 16] (fun sd i wr => ∃ t : Nat, t ≤ K ∧ i = .int .i64 (t : Int) ∧ sd = .int .i64 (runc L t : Int) ∧ St w wr p b L) (fun _ i _ => K - (intOf i).toNat)
        case atStart => exact ⟨0, by omega, rfl, rfl, S2⟩
        case round =>
          obtain ⟨t, ht, rfl, rfl, hS⟩ := hrel
          have hrl := runc_le L t
          by_cases hlt : t + 1 ≤ k + M - 1 ∧ t < K
          · obtain ⟨hlt, hlt2⟩ := hlt
            have i1 : (t : Int) < (k : Int) + (M : Int) - 1 := by omega
            have i2 : (t : Int) < (K : Int) := by omega
            have hr := hgood (t + 1) (by omega) (by omega)
            have hrs : runc L (t + 1) = if tk L t then 0 else runc L t + 1 := rfl
            go_wp2_with fail
            refine (st_is hS t (by omega)).mono ?_; rintro e w3 ⟨rfl, S3, _⟩
            cases htk : tk L t
            · rw [htk] at hrs
              simp only [Bool.false_eq_true, if_false] at hrs
              have i3 : (runc L t : Int) + 1 < (M : Int) := by omega
              go_wp2_with fail
              exact ⟨⟨t + 1, by omega, by go_num, by rw [hrs]; go_num, S3⟩, by simp [intOf]; omega⟩
            · rw [htk] at hrs
              simp only [if_true] at hrs
              have i3 : (0 : Int) < (M : Int) := by omega
              go_wp2_with fail
              exact ⟨⟨t + 1, by omega, by go_num, by rw [hrs]; rfl, S3⟩, by simp [intOf]; omega⟩
          · go_wp2_with fail
            all_goals
              go_meet
              exact hS
      case rest =>
        have S4 := hcut
        clear hcut S2 hgood
        go_wp2_with fail
        go_loopw [17] (fun i wr => ∃ (t : Nat) (L' : List Bool), k ≤ t ∧ t ≤ k + M ∧ i = .int .i64 (t : Int) ∧ L'.length = K ∧ (∀ s, t ≤ s → s < k + M → tk L' s = false) ∧ St w wr p b L') (fun i _ => k + M - (intOf i).toNat)
        case atStart => exact ⟨k, L, by omega, by omega, rfl, hLK, fun s h1 h2 => by have := g2 (s - k) (by omega); rwa [show k + (s - k) = s by omega] at this, S4⟩
        case round =>
          obtain ⟨t, L', t1, t2, rfl, hLK', hfr, hS⟩ := hrel
          by_cases hlt : t < k + M
          · have i1 : (t : Int) < (k : Int) + (M : Int) := by omega
            have C1 := Lib.hid (st_takeAt hS t (by omega) (hfr t (by omega) hlt))
            have HF := Lib.hid hfr
            clear hfr g2 S4
            go_wp2_with fail
            refine C1.out.mono ?_; rintro e w5 ⟨rfl, S5, _⟩
            go_wp2_with fail
            refine ⟨⟨t + 1, _, by omega, by omega, by go_num, by rw [List.length_set]; exact hLK', fun s h1 h2 => ?_, S5⟩, by simp [intOf]; omega⟩
            rw [tk_set _ _ _ _ (by omega), if_neg (by omega)]; exact HF.out s (by omega) h2
          · have i1 : ¬ ((t : Int) < (k : Int) + (M : Int)) := by omega
            clear hfr g2 S4
            go_wp2_with fail
            refine (fixed_true _).mono ?_; rintro e w6 ⟨rfl, hb6⟩
            go_wp2_with fail
            go_ret
            exact ⟨rfl, hS.bel.trans (hb6.mono hS.bel.size)⟩
    · have S2 := hS.reads hb2
      have hgood : ∀ j, j ≤ K + M - 1 → j ≤ K → runc L j < M := fun j hj hjK => by
        rcases Nat.lt_or_ge (runc L j) M with h | h
        · exact h
        · have := runc_le L j
          exact absurd (freeAt_of_ge L M j h) (g1 (j - M) (by omega))
      clear hS hb2 g1
      go_upto_block 2 with fail
      go_cut [15, 16] (fun _ _ wx => St w wx p b L)
      case first =>
        go_wp2_with fail
        go_loopw [15, 16] (fun sd i wr => ∃ t : Nat, t ≤ K ∧ i = .int .i64 (t : Int) ∧ sd = .int .i64 (runc L t : Int) ∧ St w wr p b L) (fun _ i _ => K - (intOf i).toNat)
        case atStart => exact ⟨0, by omega, rfl, rfl, S2⟩
        case round =>
          obtain ⟨t, ht, rfl, rfl, hS⟩ := hrel
          have hrl := runc_le L t
          by_cases hlt : t + 1 ≤ K + M - 1 ∧ t < K
          · obtain ⟨hlt, hlt2⟩ := hlt
            have i1 : (t : Int) < (K : Int) + (M : Int) - 1 := by omega
            have i2 : (t : Int) < (K : Int) := by omega
            have hr := hgood (t + 1) (by omega) (by omega)
            have hrs : runc L (t + 1) = if tk L t then 0 else runc L t + 1 := rfl
            go_wp2_with fail
            refine (st_is hS t (by omega)).mono ?_; rintro e w3 ⟨rfl, S3, _⟩
            cases htk : tk L t
            · rw [htk] at hrs
              simp only [Bool.false_eq_true, if_false] at hrs
              have i3 : (runc L t : Int) + 1 < (M : Int) := by omega
              go_wp2_with fail
              exact ⟨⟨t + 1, by omega, by go_num, by rw [hrs]; go_num, S3⟩, by simp [intOf]; omega⟩
            · rw [htk] at hrs
              simp only [if_true] at hrs
              have i3 : (0 : Int) < (M : Int) := by omega
              go_wp2_with fail
              exact ⟨⟨t + 1, by omega, by go_num, by rw [hrs]; rfl, S3⟩, by simp [intOf]; omega⟩
          · go_wp2_with fail
            all_goals
              go_meet
              exact hS
      case rest =>
        have S4 := hcut
        clear hcut S2 hgood
        go_wp2_with fail
        go_loopw [17] (fun i wr => St w wr p b L) (fun _ _ => 0)
        case atStart => exact S4
        case round =>
          have hS := hrel
          clear S4 hrel
          go_wp2_with fail
          refine (fixed_true _).mono ?_; rintro e w6 ⟨rfl, hb6⟩
          go_wp2_with fail
          go_ret
          exact ⟨rfl, hS.bel.trans (hb6.mono hS.bel.size)⟩
end Go.Proofs.Ytdjoiabbchnhaaa
