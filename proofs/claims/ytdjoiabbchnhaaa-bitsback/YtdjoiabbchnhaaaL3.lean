/-
  BitsBack: the walk.
-/
import Derived.Test.YtdjoiabbchnhaaaK4
import Derived.Deep.DeepCutAuto
import Derived.Deep.CutBlock
namespace Go.Proofs.Ytdjoiabbchnhaaa
open Go.RowKit Go.Shelf

theorem set_back (L : List Bool) (i : Nat) (x : Bool) (h : i < L.length) (hx : tk L i = x) (y : Bool) : (L.set i y).set i x = L := by
  rw [List.set_set, ← hx, ← tk_get L i h, List.set_getElem_self]
theorem cnt_len (L : List Bool) : ((takenOf L).map (fun i : Nat => (i : Int))).length = cnt L := by simp [cnt]
theorem cnt_len_le (L : List Bool) (h : L.length ≤ 1000) : ((takenOf L).map (fun i : Nat => (i : Int))).length ≤ 1000000 := by rw [cnt_len]; have := cnt_le L; omega

set_option maxRecDepth 100000 in
set_option maxHeartbeats 2000000 in
theorem walk_BitsBack (a0 : Int) (h0 : (Lit.int .i64 a0).wf = true) (a : Option Addr) (len cap : Nat) (zs : List Int) (w : World) (ha : ArgInts w a len zs) (hl : len ≤ maxLen) :
    Calls Try.prog 7 #[.int .i64 a0, .slice a len cap] w fun e w' => e = .returned (.bool true) ∧ Below w.heap.size w w' := by
  obtain ⟨m, e1, m0, m1⟩ : ∃ m, bits .and .i64 a0 63 = m ∧ 0 ≤ m ∧ m < 64 := ⟨_, i64_and63 a0, by omega, by omega⟩
  obtain ⟨K, e3⟩ : ∃ K : Nat, 1 + m = (K : Int) := ⟨(1 + m).toNat, by omega⟩
  have k1 : 1 ≤ K := by omega
  have k2 : K ≤ 64 := by omega
  have hmx : (len : Int) ≤ 9223372036854775807 := by simp [maxLen] at hl; omega
  have e5 : ((K : Int) == 0) = false := by rw [beq_eq_false_iff_ne]; omega
  have HA := Lib.hid ha; clear ha h0
  go_enter Try.func7, Try.ntmps7
  go_wp2_with fail
  refine (st_new (w0 := w) K k1 (by omega) (Below.refl _ _)).mono ?_; rintro e w1 ⟨p, b, rfl, S1, _, _, _⟩
  have T1 := Lib.hid S1; clear S1
  go_upto_block 0 with fail
  go_cut [8] (fun _ wx => ∃ L : List Bool, L.length = K ∧ St w wx p b L)
  case first =>
    go_wp2_with fail
    go_loopw [8] (fun i wr => ∃ (t : Nat) (L : List Bool), t ≤ len ∧ i = .int .i64 (t : Int) ∧ L.length = K ∧ St w wr p b L) (fun i _ => len - (intOf i).toNat)
    case atStart => exact ⟨0, _, by omega, rfl, by simp, T1.out⟩
    case round =>
      obtain ⟨t, L, ht, rfl, hLK, hS⟩ := hrel
      clear T1 e1 e3
      by_cases hlt : t < len ∧ t < 40
      · obtain ⟨hlt, hlt2⟩ := hlt
        have hlt' : (t : Int) < (len : Int) := by omega
        have hlt2' : (t : Int) < 40 := by omega
        obtain ⟨hzl, hz⟩ := HA.out
        obtain ⟨z, hz1⟩ : ∃ z, zs[t]? = some z := ⟨_, List.getElem?_eq_getElem (by omega)⟩
        obtain ⟨ab, ao, rfl, hcell⟩ := hz t z hz1
        have hbl := block_lt_of_cell' hcell
        obtain ⟨y, f2, y0, y1⟩ : ∃ y, bits .and .i64 z 65535 = y ∧ 0 ≤ y ∧ y < 65536 := ⟨_, i64_and65535 z, by omega, by omega⟩
        obtain ⟨G, f4, hG⟩ : ∃ G : Nat, y % (K : Int) = (G : Int) ∧ G < K := ⟨(y % (K : Int)).toNat, by rw [Int.toNat_of_nonneg (Int.emod_nonneg _ (by omega))], by have := Int.emod_nonneg y (show (K : Int) ≠ 0 by omega); have := Int.emod_lt_of_pos y (show (0 : Int) < K by omega); omega⟩
        have t0 : (0 : Int) ≤ (t : Int) := by omega
        have hcl := cnt_le L
        clear hz hzl hz1
        have C1 := Lib.hid (st_save hS)
        clear hS
        go_wp2_with fail
        refine C1.out.mono ?_; rintro e w2 ⟨rfl, S2, _⟩
        clear C1
        go_wp2_with fail
        refine (st_free S2).mono ?_; rintro e w3 ⟨rfl, S3, _⟩
        clear S2
        rw [hLK]
        have hcell' := (S3.bel.cell (p := ⟨ab, ao + t, none⟩) hbl).trans hcell
        obtain ⟨F, hF⟩ : ∃ F : Nat, (K : Int) - (cnt L : Int) = (F : Int) := ⟨K - cnt L, by omega⟩
        rw [hF]
        obtain ⟨P, HP⟩ : ∃ P : ByteArray, Hid ((⟨(pack L).toArray⟩ : ByteArray) = P) := ⟨_, rfl⟩
        rw [HP.out]
        go_wp2_with fail
        rw [f4]
        cases htk : tk L G
        · refine (st_takeAt S3 G (by omega) htk).mono ?_; rintro e w4 ⟨rfl, S4, _⟩
          clear S3
          have hcn := cnt_take L G (by omega) htk
          have hLK2 : (L.set G true).length = K := by rw [List.length_set]; exact hLK
          go_wp2_with fail
          refine (st_free S4).mono ?_; rintro e w5 ⟨rfl, S5, _⟩
          clear S4
          rw [hLK2, hcn, show (K : Int) - ((cnt L + 1 : Nat) : Int) = (F : Int) - 1 by omega]
          go_wp2_with fail
          refine (st_give S5 G (by omega) (by rw [tk_set _ _ _ _ (by omega), if_pos rfl])).mono ?_; rintro e w6 ⟨rfl, S6, _⟩
          clear S5
          rw [set_back L G false (by omega) htk true] at S6
          go_wp2_with fail
          refine (st_save S6).mono ?_; rintro e w7 ⟨rfl, S7, _⟩
          clear S6
          rw [HP.out]
          go_wp2_with fail
          refine (st_takeAt S7 G (by omega) htk).mono ?_; rintro e w8 ⟨rfl, S8, _⟩
          clear S7
          go_wp2_with fail
          refine (st_taken S8).mono ?_; rintro e w9 ⟨v, rfl, hv, S9, _⟩
          clear S8
          obtain ⟨va, vc, rfl⟩ := hv.slice
          rw [cnt_len, hcn]
          clear hv
          go_wp2_with fail
          refine (st_free S9).mono ?_; rintro e w10 ⟨rfl, S10, _⟩
          clear S9
          rw [hLK2, hcn, show (K : Int) - ((cnt L + 1 : Nat) : Int) = (F : Int) - 1 by omega]
          have hsum : ((cnt L : Int) + 1 + ((F : Int) - 1)) = (K : Int) := by omega
          go_wp2_with fail
          exact ⟨⟨t + 1, _, by omega, by go_num, hLK2, S10⟩, by simp [intOf]; omega⟩
        · refine (st_takeAt_twice S3 G (by omega) htk).mono ?_; rintro e w4 ⟨rfl, S4, _⟩
          clear S3
          go_wp2_with fail
          refine (st_save S4).mono ?_; rintro e w7 ⟨rfl, S7, _⟩
          clear S4
          rw [HP.out]
          go_wp2_with fail
          refine (st_taken S7).mono ?_; rintro e w9 ⟨v, rfl, hv, S9, _⟩
          clear S7
          obtain ⟨va, vc, rfl⟩ := hv.slice
          rw [cnt_len]
          clear hv
          go_wp2_with fail
          refine (st_free S9).mono ?_; rintro e w10 ⟨rfl, S10, _⟩
          clear S9
          rw [hLK, hF]
          have hsum : ((cnt L : Int) + (F : Int)) = (K : Int) := by omega
          go_wp2_with fail
          exact ⟨⟨t + 1, L, by omega, by go_num, hLK, S10⟩, by simp [intOf]; omega⟩
      · go_wp2_with fail
        all_goals
          go_meet
          exact ⟨L, hLK, hS⟩
  case rest =>
    obtain ⟨L, hLK, hS⟩ := hcut
    clear T1 e1 e3 HA
    go_wp2_with fail
    refine (st_copy hS).mono ?_; rintro e w2 ⟨q, g, rfl, U2, S2, _, _, _, _, _, _⟩
    clear hS
    go_wp2_with fail
    refine (st_taken U2).mono ?_; rintro e w3 ⟨v1, rfl, hv1, U3, b3⟩
    have S3 := S2.reads b3
    clear U2 S2 b3
    go_wp2_with fail
    refine (st_taken S3).mono ?_; rintro e w4 ⟨v2, rfl, hv2, S4, b4⟩
    have U4 := U3.reads b4
    have hv1' := hv1.below b4
    clear U3 S3 b4 hv1
    go_wp2_with fail
    refine (ints_eq _ v1 v2 _ hv1' hv2 (cnt_len_le L (by omega))).mono ?_; rintro e w5 ⟨rfl, b5⟩
    have U5 := U4.reads b5
    clear U4 S4 b5 hv1' hv2
    go_wp2_with fail
    refine (st_len U5).mono ?_; rintro e w6 ⟨rfl, U6, _⟩
    clear U5
    rw [hLK]
    go_wp2_with fail
    refine (fixed_true _).mono ?_; rintro e w7 ⟨rfl, b7⟩
    go_wp2_with fail
    go_ret
    exact ⟨rfl, U6.bel.trans (b7.mono U6.bel.size)⟩
end Go.Proofs.Ytdjoiabbchnhaaa
