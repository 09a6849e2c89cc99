/-
  BitsOnce: the walk.
-/
import Derived.Test.YtdjoiabbchnhaaaK4
namespace Go.Proofs.Ytdjoiabbchnhaaa
open Go.RowKit Go.Shelf

/-- the first 'i' pages from A on, round the end, are taken, and no other -/
def Circ (L : List Bool) (A i : Nat) : Prop := ∀ s, s < L.length → tk L ((A + s) % L.length) = decide (s < i)
theorem circ_zero (K A : Nat) : Circ (List.replicate K false) A 0 := fun s _ => by rw [tk_replicate]; simp
theorem circ_step (L : List Bool) (A i : Nat) (hA : A < L.length) (hi : i < L.length) (h : Circ L A i) : Circ (L.set ((A + i) % L.length) true) A (i + 1) := fun s hs => by
  rw [List.length_set] at hs ⊢
  rw [tk_set _ _ _ _ (Nat.mod_lt _ (by omega))]
  by_cases e : (A + s) % L.length = (A + i) % L.length
  · have := round_inj A L.length s i hA hs hi e
    subst this; simp
  · rw [if_neg e, h s hs]
    have : s ≠ i := fun e' => e (by rw [e'])
    by_cases h1 : s < i
    · simp [h1]; omega
    · simp [h1]; omega
theorem circ_all (L : List Bool) (A : Nat) (hA : A < L.length) (h : Circ L A L.length) : ∀ j, j < L.length → tk L j = true := fun j hj => by
  have := h (stepsTo A L.length j) (stepsTo_lt A _ j hA hj)
  rw [stepsTo_eq A _ j hA hj] at this
  rw [this]; simp; exact stepsTo_lt A _ j hA hj

set_option maxRecDepth 100000 in
set_option maxHeartbeats 2000000 in
theorem walk_BitsOnce (a0 : Int) (h0 : (Lit.int .i64 a0).wf = true) (a1 : Int) (h1 : (Lit.int .i64 a1).wf = true) (a : Option Addr) (len cap : Nat) (zs : List Int) (w : World) (ha : ArgInts w a len zs) (hl : len ≤ maxLen) :
    Calls Try.prog 5 #[.int .i64 a0, .int .i64 a1, .slice a len cap] w fun e w' => e = .returned (.bool true) ∧ Below w.heap.size w w' := by
  obtain ⟨m, e1, m0, m1⟩ : ∃ m, bits .and .i64 a0 63 = m ∧ 0 ≤ m ∧ m < 64 := ⟨_, i64_and63 a0, by omega, by omega⟩
  obtain ⟨q, e2, q0, q1⟩ : ∃ q, bits .and .i64 a1 65535 = q ∧ 0 ≤ q ∧ q < 65536 := ⟨_, i64_and65535 a1, by omega, by omega⟩
  obtain ⟨K, e3⟩ : ∃ K : Nat, 1 + m = (K : Int) := ⟨(1 + m).toNat, by omega⟩
  obtain ⟨A, e4, hA⟩ : ∃ A : Nat, q % (K : Int) = (A : Int) ∧ A < K := ⟨(q % (K : Int)).toNat, by rw [Int.toNat_of_nonneg (Int.emod_nonneg _ (by omega))], by have := Int.emod_nonneg q (show (K : Int) ≠ 0 by omega); have := Int.emod_lt_of_pos q (show (0 : Int) < K by omega); omega⟩
  have e5 : ((K : Int) == 0) = false := by rw [beq_eq_false_iff_ne]; omega
  have k1 : 1 ≤ K := by omega
  have k2 : K ≤ 64 := by omega
  have HA := Lib.hid ha; clear ha h0 h1
  go_enter Try.func5, Try.ntmps5
  go_wp2_with fail
  refine (st_new (w0 := w) K k1 (by omega) (Below.refl _ _)).mono ?_; rintro e w1 ⟨p, b, rfl, S1, _, _, _⟩
  have T1 := Lib.hid S1; clear S1
  go_wp2_with fail
  rw [e4]
  go_loopw [11] (fun i wr => ∃ (j : Nat) (L : List Bool), j ≤ K ∧ i = .int .i64 (j : Int) ∧ L.length = K ∧ Circ L A j ∧ cnt L = j ∧ St w wr p b L) (fun i _ => K - (intOf i).toNat)
  case atStart => exact ⟨0, List.replicate K false, by omega, rfl, by simp, circ_zero K A, cnt_zero K, T1.out⟩
  case round =>
    obtain ⟨j, L, hj, rfl, hLK, hC, hcn, hS⟩ := hrel
    clear T1 e1 e2 e3
    by_cases hlt : j < K
    · have hlt' : (j : Int) < (K : Int) := by omega
      have e6 : ((A : Int) + (j : Int)) % (K : Int) = (((A + j) % K : Nat) : Int) := by rw [Int.natCast_emod, Int.natCast_add]
      have hxl : (A + j) % K < K := Nat.mod_lt _ (by omega)
      have c1 := st_take hS A (by omega) j (by omega) (fun s hs => by rw [hC s (by omega)]; simp [hs]) (by rw [hC j (by omega)]; simp)
      have hC2 := circ_step L A j (by omega) (by omega) hC
      have htf : tk L ((A + j) % K) = false := by have := hC j (by omega); rw [hLK] at this; rw [this]; simp
      rw [hLK] at c1 hC2
      have hcn2 := cnt_take L ((A + j) % K) (by omega) htf
      have htk2 : tk (L.set ((A + j) % K) true) ((A + j) % K) = true := by rw [tk_set _ _ _ _ (by omega), if_pos rfl]
      have hLK2 : (L.set ((A + j) % K) true).length = K := by rw [List.length_set]; exact hLK
      have C1 := Lib.hid c1
      have HC2 := Lib.hid hC2
      clear c1 hC2 hC
      generalize L.set ((A + j) % K) true = L2 at *
      generalize (A + j) % K = x at *
      go_wp2_with fail
      refine C1.out.mono ?_; rintro e w2 ⟨rfl, S2, _⟩
      clear C1
      go_wp2_with fail
      refine (st_is S2 x (by omega)).mono ?_; rintro e w3 ⟨rfl, S3, _⟩
      rw [htk2]
      go_wp2_with fail
      refine (st_free S3).mono ?_; rintro e w4 ⟨rfl, S4, _⟩
      rw [hLK2, hcn2, hcn]
      go_wp2_with fail
      exact ⟨⟨j + 1, L2, by omega, by go_num, hLK2, HC2.out, by omega, S4⟩, by simp [intOf]; omega⟩
    · obtain rfl : j = K := by omega
      have hall : ∀ s, s < L.length → tk L s = true := circ_all L A (by omega) (by rw [hLK]; exact hC)
      have C1 := Lib.hid (st_take_full hS A (by omega) hall)
      rw [hLK] at hall
      have HALL := Lib.hid hall
      clear hC hcn hS hall
      go_wp2_with fail
      refine C1.out.mono ?_; rintro e w2 ⟨rfl, S2, _⟩
      clear C1
      go_wp2_with fail
      go_loopw [16] (fun i wr => ∃ (t : Nat) (L : List Bool), t ≤ len ∧ i = .int .i64 (t : Int) ∧ L.length = j ∧ Hid (∀ s, s < j → tk L s = true) ∧ St w wr p b L) (fun i _ => len - (intOf i).toNat)
      case atStart => exact ⟨0, L, by omega, rfl, hLK, HALL, S2⟩
      case round =>
        clear hLK HALL S2
        obtain ⟨t, L, ht, rfl, hLK, HALL, hS⟩ := hrel
        have hmx : (len : Int) ≤ 9223372036854775807 := by simp [maxLen] at hl; omega
        by_cases hlt : t < len ∧ t < 20
        · obtain ⟨hlt, hlt2⟩ := hlt
          have hlt' : (t : Int) < (len : Int) := by omega
          have hlt2' : (t : Int) < 20 := by omega
          obtain ⟨hzl, hz⟩ := HA.out
          obtain ⟨z, hz1⟩ : ∃ z, zs[t]? = some z := ⟨_, List.getElem?_eq_getElem (by omega)⟩
          obtain ⟨ab, ao, rfl, hcell⟩ := hz t z hz1
          have hcell' := (hS.bel.cell (p := ⟨ab, ao + t, none⟩) (block_lt_of_cell' hcell)).trans hcell
          obtain ⟨y, f2, y0, y1⟩ : ∃ y, bits .and .i64 z 65535 = y ∧ 0 ≤ y ∧ y < 65536 := ⟨_, i64_and65535 z, by omega, by omega⟩
          obtain ⟨G, f4, hG⟩ : ∃ G : Nat, y % (j : Int) = (G : Int) ∧ G < j := ⟨(y % (j : Int)).toNat, by rw [Int.toNat_of_nonneg (Int.emod_nonneg _ (by omega))], by have := Int.emod_nonneg y (show (j : Int) ≠ 0 by omega); have := Int.emod_lt_of_pos y (show (0 : Int) < j by omega); omega⟩
          have t0 : (0 : Int) ≤ (t : Int) := by omega
          have c1 := Lib.hid (st_give hS G (by omega) (HALL.out G hG))
          have hcnt : cnt (L.set G false) + 1 = j := by rw [cnt_give L G (by omega) (HALL.out G hG), cnt_all L (by rw [hLK]; exact HALL.out), hLK]
          have hLK2 : (L.set G false).length = j := by rw [List.length_set]; exact hLK
          have htk2 : tk (L.set G false) G = false := by rw [tk_set _ _ _ _ (by omega), if_pos rfl]
          have hoth : Hid (∀ s, s < j → s ≠ G → tk (L.set G false) s = true) := fun s hs hne => by rw [tk_set _ _ _ _ (by omega), if_neg hne]; exact HALL.out s hs
          have hback : (L.set G false).set G true = L := by
            rw [List.set_set]
            have h1 : tk L G = true := HALL.out G hG
            rw [← h1, ← tk_get L G (by omega), List.set_getElem_self]
          clear hS hz hzl hz1 hcell
          generalize L.set G false = L2 at *
          go_wp2_with fail
          rw [f4]
          refine c1.out.mono ?_; rintro e w3 ⟨rfl, S3, _⟩
          clear c1
          go_wp2_with fail
          refine (st_is S3 G (by omega)).mono ?_; rintro e w4 ⟨rfl, S4, _⟩
          clear S3
          rw [htk2]
          go_wp2_with fail
          refine (st_free S4).mono ?_; rintro e w5 ⟨rfl, S5, _⟩
          clear S4
          rw [hLK2, show (j : Int) - (cnt L2 : Int) = 1 by omega]
          go_wp2_with fail
          refine (st_give_none S5 G (by omega) htk2).mono ?_; rintro e w6 ⟨rfl, S6, _⟩
          clear S5
          go_wp2_with fail
          have hst := stepsTo_lt A j G hA hG
          have hse := stepsTo_eq A j G hA hG
          have c2 := st_take S6 A (by omega) (stepsTo A j G) (by omega) (fun s hs => by
            rw [hLK2]
            exact hoth.out _ (Nat.mod_lt _ (by omega)) (fun e => by have := round_inj A j s (stepsTo A j G) hA (by omega) hst (by rw [e, hse]); omega)) (by rw [hLK2, hse]; exact htk2)
          rw [hLK2, hse, hback] at c2
          clear hst hse hback hoth
          refine c2.mono ?_; rintro e w7 ⟨rfl, S7, _⟩
          go_wp2_with fail
          exact ⟨⟨t + 1, L, by omega, by go_num, hLK, HALL, S7⟩, by simp [intOf]; omega⟩
        · go_wp2_with fail
          all_goals
            refine (fixed_true _).mono ?_; rintro e w3 ⟨rfl, hb3⟩
            go_wp2_with fail
            go_ret
            exact ⟨rfl, hS.bel.trans (hb3.mono hS.bel.size)⟩
end Go.Proofs.Ytdjoiabbchnhaaa
