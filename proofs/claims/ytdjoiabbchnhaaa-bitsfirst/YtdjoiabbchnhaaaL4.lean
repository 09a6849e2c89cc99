/-
  BitsFirst: the walk.
-/
import Derived.Test.YtdjoiabbchnhaaaK4
import Derived.Deep.DeepCutAuto
import Derived.Deep.CutBlock
namespace Go.Proofs.Ytdjoiabbchnhaaa
open Go.RowKit Go.Shelf

theorem stepsTo_of (A K s : Nat) (hA : A < K) (hs : s < K) : stepsTo A K ((A + s) % K) = s := by
  have h := Nat.mod_lt (A + s) (show K > 0 by omega)
  exact round_inj A K _ s hA (stepsTo_lt A K _ hA h) hs (stepsTo_eq A K _ hA h)
theorem next_mod (A s K : Nat) : ((A + s) % K + 1) % K = (A + (s + 1)) % K := by rw [Nat.mod_add_mod, Nat.add_assoc]

set_option maxRecDepth 100000 in
set_option maxHeartbeats 2000000 in
theorem walk_BitsFirst (a0 : Int) (h0 : (Lit.int .i64 a0).wf = true) (a1 : Int) (h1 : (Lit.int .i64 a1).wf = true) (a : Option Addr) (len cap : Nat) (zs : List Int) (w : World) (ha : ArgInts w a len zs) (hl : len ≤ maxLen) :
    Calls Try.prog 8 #[.int .i64 a0, .int .i64 a1, .slice a len cap] w fun e w' => e = .returned (.bool true) ∧ Below w.heap.size w w' := by
  obtain ⟨m, e1, m0, m1⟩ : ∃ m, bits .and .i64 a0 63 = m ∧ 0 ≤ m ∧ m < 64 := ⟨_, i64_and63 a0, by omega, by omega⟩
  obtain ⟨q, e2, q0, q1⟩ : ∃ q, bits .and .i64 a1 65535 = q ∧ 0 ≤ q ∧ q < 65536 := ⟨_, i64_and65535 a1, by omega, by omega⟩
  obtain ⟨K, e3⟩ : ∃ K : Nat, 1 + m = (K : Int) := ⟨(1 + m).toNat, by omega⟩
  obtain ⟨A, e4, hA⟩ : ∃ A : Nat, q % (K : Int) = (A : Int) ∧ A < K := ⟨(q % (K : Int)).toNat, by rw [Int.toNat_of_nonneg (Int.emod_nonneg _ (by omega))], by have := Int.emod_nonneg q (show (K : Int) ≠ 0 by omega); have := Int.emod_lt_of_pos q (show (0 : Int) < K by omega); omega⟩
  have e5 : ((K : Int) == 0) = false := by rw [beq_eq_false_iff_ne]; omega
  have k1 : 1 ≤ K := by omega
  have k2 : K ≤ 64 := by omega
  have hmx : (len : Int) ≤ 9223372036854775807 := by simp [maxLen] at hl; omega
  have HA := Lib.hid ha; clear ha h0 h1
  go_enter Try.func8, Try.ntmps8
  go_wp2_with fail
  refine (st_new (w0 := w) K k1 (by omega) (Below.refl _ _)).mono ?_; rintro e w1 ⟨p, b, rfl, S1, _, _, _⟩
  have T1 := Lib.hid S1; clear S1
  go_upto_block 0 with fail
  go_cut [10] (fun _ wx => ∃ L : List Bool, L.length = K ∧ St w wx p b L)
  case first =>
    go_wp2_with fail
    go_loopw [10] (fun i wr => ∃ (t : Nat) (L : List Bool), t ≤ len ∧ i = .int .i64 (t : Int) ∧ L.length = K ∧ St w wr p b L) (fun i _ => len - (intOf i).toNat)
    case atStart => exact ⟨0, _, by omega, rfl, by simp, T1.out⟩
    case round =>
      obtain ⟨t, L, ht, rfl, hLK, hS⟩ := hrel
      clear T1 e1 e2 e3
      by_cases hlt : t < len ∧ t < 40
      · obtain ⟨hlt, hlt2⟩ := hlt
        have hlt' : (t : Int) < (len : Int) := by omega
        have hlt2' : (t : Int) < 40 := by omega
        obtain ⟨hzl, hz⟩ := HA.out
        obtain ⟨z, hz1⟩ : ∃ z, zs[t]? = some z := ⟨_, List.getElem?_eq_getElem (by omega)⟩
        obtain ⟨ab, ao, rfl, hcell⟩ := hz t z hz1
        have hcell' := (hS.bel.cell (p := ⟨ab, ao + t, none⟩) (block_lt_of_cell' hcell)).trans hcell
        obtain ⟨y, f2⟩ : ∃ y : Nat, bits .and .i64 z 63 = (y : Int) := ⟨(z % 64).toNat, by rw [i64_and63]; omega⟩
        have t0 : (0 : Int) ≤ (t : Int) := by omega
        have C1 := Lib.hid (st_takeAt_any hS y)
        clear hz hzl hz1 hcell hS
        go_wp2_with fail
        refine C1.out.mono ?_; rintro e w3 ⟨x, rfl, S3, _⟩
        go_wp2_with fail
        exact ⟨⟨t + 1, _, by omega, by go_num, by rw [tookAt_length]; exact hLK, S3⟩, by simp [intOf]; omega⟩
      · go_wp2_with fail
        all_goals
          go_meet
          exact ⟨L, hLK, hS⟩
  case rest =>
    obtain ⟨L, hLK, hS⟩ := hcut
    clear T1 e1 e3 HA
    go_wp2_with fail
    refine (st_copy hS).mono ?_; rintro e w2 ⟨c, g, rfl, U2, S2, n1, n2, n3, hc2, hg2, _⟩
    have n4 : g ≠ b := fun e => n2 e.symm
    clear hS
    go_wp2_with fail
    try rw [e4]
    refine (take_any w2 p b L S2.isB A (by omega)).mono ?_
    rintro e w3 (⟨k, hk, g1, g2, rfl, hi3, hg3⟩ | ⟨g1, rfl, hb3⟩)
    · have S3 := S2.step hi3 hg3
      have U3 := U2.other hg3 n3 n4 S2.hb
      rw [hLK] at hk g1 g2 S3
      have hxl : (A + k) % K < K := Nat.mod_lt _ (by omega)
      have htp : tk (L.set ((A + k) % K) true) ((A + k) % K) = true := by rw [tk_set _ _ _ _ (by omega), if_pos rfl]
      have hL3 : (L.set ((A + k) % K) true).length = K := by rw [List.length_set]; exact hLK
      have G1 := Lib.hid g1
      have HX := Lib.hid (stepsTo_of A K k hA hk)
      clear hi3 hg3 U2 S2 g1
      rw [hLK]
      generalize L.set ((A + k) % K) true = L3 at *
      obtain ⟨x, HXX⟩ : ∃ x, Hid ((A + k) % K = x) := ⟨_, rfl⟩
      rw [HXX.out] at hxl htp g2 HX ⊢
      have x1 : ¬ ((x : Int) < 0) := by omega
      have x2 : ¬ ((K : Int) ≤ (x : Int)) := by omega
      go_wp2_with fail
      try rw [e4]
      obtain ⟨hx1, hx2⟩ := ‹(0 : Int) ≤ (x : Int) ∧ ¬ K ≤ x›
      clear hx1 hx2 x1 x2
      rw [show decide (K ≤ x) = false from decide_eq_false (by omega), Bool.or_false]
      go_loopw [15] (fun i wr => ∃ s : Nat, s ≤ k ∧ i = .int .i64 (((A + s) % K : Nat) : Int) ∧ St w wr c g L ∧ St w wr p b L3) (fun i _ => k - stepsTo A K (intOf i).toNat)
      case atStart => exact ⟨0, by omega, by rw [Nat.add_zero, Nat.mod_eq_of_lt hA], U3, S3⟩
      case round =>
        obtain ⟨s, hs, rfl, hU, hP⟩ := hrel
        clear U3 S3
        by_cases hsk : s = k
        · subst hsk
          rw [HXX.out]
          go_wp2_with fail
          refine (st_is hU x (by omega)).mono ?_; rintro e w5 ⟨rfl, U5, b5⟩
          have P5 := hP.reads b5
          rw [g2]
          clear hU hP b5
          go_wp2_with fail
          refine (st_is P5 x (by omega)).mono ?_; rintro e w6 ⟨rfl, P6, _⟩
          rw [htp]
          clear U5 P5
          go_wp2_with fail
          refine (fixed_true _).mono ?_; rintro e w7 ⟨rfl, b7⟩
          go_wp2_with fail
          go_ret
          exact ⟨rfl, P6.bel.trans (b7.mono P6.bel.size)⟩
        · have hne : (A + s) % K ≠ x := fun e => hsk (round_inj A K s k hA (by omega) hk (by rw [HXX.out]; exact e))
          have htk := G1.out s (by omega)
          have hyl : (A + s) % K < K := Nat.mod_lt _ (by omega)
          have HN := Lib.hid (next_mod A s K)
          have HS := Lib.hid (stepsTo_of A K s hA (by omega))
          have HS2 := Lib.hid (stepsTo_of A K (s + 1) hA (by omega))
          obtain ⟨y, HY⟩ : ∃ y, Hid ((A + s) % K = y) := ⟨_, rfl⟩
          rw [HY.out] at hne htk hyl HN HS ⊢
          have i1 : ((y : Int) != (x : Int)) = true := by rw [bne_iff_ne]; omega
          have i2 : ((y : Int) + 1) % (K : Int) = (((y + 1) % K : Nat) : Int) := by rw [Int.natCast_emod, Int.natCast_add]; rfl
          go_wp2_with fail
          refine (st_is hU y (by omega)).mono ?_; rintro e w5 ⟨rfl, U5, b5⟩
          have P5 := hP.reads b5
          rw [htk]
          clear hU hP b5
          go_wp2_with fail
          rw [i2, HN.out]
          go_roundw
          case rel => exact ⟨s + 1, by omega, rfl, U5, P5⟩
          case measure =>
            show k - stepsTo A K ((((A + (s + 1)) % K : Nat) : Int).toNat) < k - stepsTo A K ((y : Int).toNat)
            rw [Int.toNat_natCast, Int.toNat_natCast, HS.out, HS2.out]
            omega
    · have U3 := U2.reads hb3
      have hall : ∀ j, j < L.length → tk L j = true := fun j hj => by
        have := g1 (stepsTo A L.length j) (stepsTo_lt A _ j (by omega) hj)
        rwa [stepsTo_eq A _ j (by omega) hj] at this
      have hcn := cnt_all L hall
      clear g1 hall U2 S2 hb3
      go_wp2_with fail
      refine (st_free U3).mono ?_; rintro e w4 ⟨rfl, U4, _⟩
      rw [hcn, show (L.length : Int) - (L.length : Int) = 0 by omega]
      go_wp2_with fail
      refine (fixed_true _).mono ?_; rintro e w7 ⟨rfl, b7⟩
      go_wp2_with fail
      go_ret
      exact ⟨rfl, U4.bel.trans (b7.mono U4.bel.size)⟩
end Go.Proofs.Ytdjoiabbchnhaaa
