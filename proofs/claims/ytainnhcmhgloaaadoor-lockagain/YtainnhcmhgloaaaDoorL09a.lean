/-
  LockAgain, walked.
-/
import Derived.Test.YtainnhcmhgloaaaDoorH09
namespace Go.Proofs.YtainnhcmhgloaaaDoor
open Go.RowKit Go.Shelf Go.MapKept Go.Maps Go.Sort Go.Lib

set_option maxRecDepth 100000 in
set_option maxHeartbeats 8000000 in
theorem walk_LockAgain (a : Option Addr) (len cap : Nat) (zs : List OpK9) (w : World) (h : ArgOps9 w a len zs) (_hlen : len ≤ maxLen) (hL : Laid9 w) :
    Calls Tryd.prog 5 #[.slice a len cap] w fun e w' => e = .returned (.bool true) ∧ Below w.heap.size w w' := by
  have CN := Lib.hid (lk_New w hL)
  have CF := Lib.hid c_fixed
  have HH := Lib.hid h
  have h9 : (len : Int) ≤ 9223372036854775807 := by simp [maxLen] at _hlen; omega
  clear h hL _hlen
  unfold ptr9 at *
  go_enter Tryd.func5, Tryd.ntmps5
  go_wp2_with fail
  refine CN.out.mono ?_; rintro r w1 ⟨g, o1, rfl, S1⟩
  have HS1 := Lib.hid S1
  clear CN S1
  go_wp2_with fail
  go_loopw [4] (fun u wr => ∃ (k : Nat) (o : Nat → Nat) (H W : Hs), k ≤ len ∧ k ≤ 60 ∧ u = .int .i64 (k : Int) ∧ Lk w g wr o H W k ∧ Own8 H W) (fun u _ => 60 - (intOf u).toNat)
  case atStart => exact ⟨0, _, _, _, by omega, by omega, rfl, HS1.out, ⟨fun _ h => (by cases h), fun _ h => (by cases h)⟩⟩
  case round =>
    obtain ⟨k, o, H, W, hk, hk2, rfl, hS, hO⟩ := hrel
    have HS := Lib.hid hS; have HO := Lib.hid hO
    clear HS1 hS hO
    by_cases hlt : k < len ∧ k < 60
    · obtain ⟨hl1, hl2⟩ := hlt
      have c1 : (k : Int) < (len : Int) := by omega
      have c2 : (k : Int) < 60 := by omega
      have c3 : (0 : Int) ≤ (k : Int) := by omega
      obtain ⟨x, b, off, rfl, hxs, _, hc⟩ := HH.out.get hl1
      have HC := Lib.hid hc
      obtain ⟨d0, d1, d2, d3⟩ := hc o wr HS.out.Z
      have CP := Lib.hid (c_Play HS.out HO.out (by omega) x.k x.pg x.n x.s hxs)
      clear hc
      unfold ptr9 at *
      go_wp2_with fail
      refine CP.out.mono ?_; rintro r w2 ⟨rfl, H2, W2, o2, S2, O2, _⟩
      have HS2 := Lib.hid S2; have HO2 := Lib.hid O2
      clear HS HO CP d0 d1 d2 d3 S2 O2
      go_wp2_with fail
      obtain ⟨_, d1, d2, _⟩ := HC.out o2 w2 HS2.out.Z
      have q1 : w2.cell? ⟨b, off + k * 4 + 1, none⟩ = some (.int .i64 x.pg) := d1
      have q2 : w2.cell? ⟨b, off + k * 4 + 2, none⟩ = some (.string x.s) := d2
      obtain ⟨n, n1, n2, n3, n4, n5, n6, n7⟩ := cut9 x.s hxs 2 (by omega)
      have n1' : min (x.s.size : Int) 2 = (n : Int) := n1
      clear n1
      obtain ⟨T, hT⟩ : ∃ T, x.s.extract 0 n = T := ⟨_, rfl⟩
      have e7 := and79 x.pg
      have hq8 := lo8_own x.pg
      obtain ⟨q, hq⟩ : ∃ q : Int, ((lo8 x.pg : Nat) : Int) = q := ⟨_, rfl⟩
      rw [hq] at e7 hq8
      clear d1 d2
      go_quiet (fail)
      have HS3 := Lib.hid (HS2.out.reads (below_drewN w2 nq))
      generalize w2.drewN nq = w3 at *
      have hTs : T.size ≤ 300 := by rw [← hT, n6]; omega
      have HT := Lib.hid hTs
      clear q1 q2 HS2 e7 n1' n3 n4 n5 n6 n7 hT hTs
      have CM := Lib.hid (lk_Mode HS3.out q T)
      obtain ⟨vn, vm, hv⟩ := forV_form W2 q
      obtain ⟨is, his⟩ : ∃ is, (forV W2 q).2 = is := ⟨_, rfl⟩
      have CW := lk_Waits HS3.out q
      rw [hv, his] at CW
      have HW := Lib.hid CW; have HI := Lib.hid his
      clear CW his hv
      obtain ⟨mo, hmo⟩ : ∃ mo, modeP H2 q T = mo := ⟨_, rfl⟩
      have hm7 := modeP_lt HS3.out.I.ok q T
      rw [hmo] at CM hm7
      have HM := Lib.hid hmo; have HM7 := Lib.hid hm7
      clear hmo hm7
      go_wp2_with fail
      refine CM.out.mono ?_; rintro r _ ⟨rfl, rfl⟩
      go_wp2_with fail
      refine HW.out.mono ?_; rintro r w4 ⟨rfl, b4⟩
      have b5 : Below w4.heap.size w4 (w4.alloc (.cells #[.string vn, .int .i64 vm] 32)) := (Below.refl _ w4).alloc (Nat.le_refl _) _
      have HS5 := Lib.hid (HS3.out.reads (b4.trans (b5.mono b4.size)))
      clear HS3 CM HW b4 b5
      go_wp2_with fail
      generalize w4.alloc (.cells #[.string vn, .int .i64 vm] 32) = w5 at *
      go_loopw [10] (fun u wr => ∃ (m : Nat) (o : Nat → Nat), 1 ≤ m ∧ m ≤ 7 ∧ u = .int .i64 (m : Int) ∧ Lk w g wr o H2 W2 (k + 1)) (fun u _ => 7 - (intOf u).toNat)
      case atStart => exact ⟨1, _, by omega, by omega, rfl, HS5.out⟩
      case round =>
        obtain ⟨m, om, hm1, hm8, rfl, hS⟩ := hrel
        have HSm := Lib.hid hS
        clear HS5 hS
        have m0 : (0 : Int) ≤ (m : Int) := by omega
        by_cases hgo : m < 7 ∧ mo ≠ 0 ∧ is = false
        · obtain ⟨g1, g2, rfl⟩ := hgo
          have g1' : (m : Int) < 7 := by omega
          have g2' : ((mo : Int) != 0) = true := by rw [bne_iff_ne]; omega
          have CC := Lib.hid (covers_in mo m HM7.out g1 wr HSm.out.laid)
          cases hcv : covN mo m with
          | false =>
            rw [hcv] at CC
            go_wp2_with fail
            refine CC.out.mono ?_; rintro r wc ⟨rfl, bc⟩
            have HSc := Lib.hid (HSm.out.reads bc)
            clear bc CC HSm
            go_wp2_with fail
            exact ⟨⟨m + 1, _, by omega, by omega, by go_num, HSc.out⟩, by simp [intOf]; omega⟩
          | true =>
            rw [hcv] at CC
            have hcv' : covN (modeP H2 q T) (m : Int).toNat = true := by rw [HM.out]; exact hcv
            have hk : ∀ (e : Nat) (H' W' : Hs), AskS H2 W2 q T (m : Int) e H' W' → e = 0 ∧ H' = H2 ∧ W' = W2 := fun e H' W' hs => ask_again HSm.out.I.ok ⟨hq8.1, by omega, by omega⟩ (forV_not.1 HI.out) hcv' hs
            have HK := Lib.hid hk
            have hb := HSm.out.B
            clear hcv hcv' hk
            go_wp2_with fail
            refine CC.out.mono ?_; rintro r wc ⟨rfl, bc⟩
            have HSc := Lib.hid (HSm.out.reads bc)
            have CA := Lib.hid (lk_Ask HSc.out (by omega) q (m : Int) (by omega) T HT.out)
            clear bc CC HSm
            go_wp2_with fail
            refine CA.out.mono ?_; rintro r w6 ⟨e, rfl, H', W', o6, hs, S6, _⟩
            obtain ⟨rfl, rfl, rfl⟩ := HK.out _ _ _ hs
            have HS6 := Lib.hid (S6.bound hb)
            have CM := lk_Mode HS6.out q T
            rw [HM.out] at CM
            have HCM := Lib.hid CM
            clear CA HK hs S6 CM HSc hb
            go_wp2_with fail
            refine HCM.out.mono ?_; rintro r _ ⟨rfl, rfl⟩
            have hmm : ((mo : Int) != (mo : Int)) = false := by simp
            go_wp2_with fail
            exact ⟨⟨m + 1, _, by omega, by omega, by go_num, HS6.out⟩, by simp [intOf]; omega⟩
        · have HN := Lib.hid (show Lk w g wr om H2 W2 (k + 1) from HSm.out)
          have hgo' : ¬ (m : Int) < 7 ∨ ((mo : Int) != 0) = false ∨ is = true := by
            by_cases a1 : m < 7
            · by_cases a2 : mo = 0
              · subst a2; exact .inr (.inl rfl)
              · cases is with
                | false => exact absurd ⟨a1, a2, rfl⟩ hgo
                | true => exact .inr (.inr rfl)
            · exact .inl (by omega)
          clear hgo HSm
          rcases hgo' with g1 | g1 | g1
          · go_wp2_with fail
            exact ⟨⟨k + 1, _, _, _, by omega, by omega, by go_num, HN.out, HO2.out⟩, by simp [intOf]; omega⟩
          · by_cases a1 : (m : Int) < 7
            · go_wp2_with fail
              exact ⟨⟨k + 1, _, _, _, by omega, by omega, by go_num, HN.out, HO2.out⟩, by simp [intOf]; omega⟩
            · go_wp2_with fail
              exact ⟨⟨k + 1, _, _, _, by omega, by omega, by go_num, HN.out, HO2.out⟩, by simp [intOf]; omega⟩
          · subst g1
            by_cases a1 : (m : Int) < 7
            · cases a2 : ((mo : Int) != 0) with
              | false =>
                go_wp2_with fail
                exact ⟨⟨k + 1, _, _, _, by omega, by omega, by go_num, HN.out, HO2.out⟩, by simp [intOf]; omega⟩
              | true =>
                go_wp2_with fail
                exact ⟨⟨k + 1, _, _, _, by omega, by omega, by go_num, HN.out, HO2.out⟩, by simp [intOf]; omega⟩
            · go_wp2_with fail
              exact ⟨⟨k + 1, _, _, _, by omega, by omega, by go_num, HN.out, HO2.out⟩, by simp [intOf]; omega⟩
    · have HF := Lib.hid (CF.out wr HS.out.laid)
      have HZ := Lib.hid HS.out.Z.bel
      clear CF HS HO
      by_cases hl : k < len
      · have c1 : (k : Int) < (len : Int) := by omega
        have c2 : ¬ (k : Int) < 60 := by omega
        go_wp2_with fail
        refine HF.out.mono ?_; rintro r w3 ⟨rfl, b3⟩
        have HB := Lib.hid (HZ.out.trans (b3.mono HZ.out.size))
        clear b3
        go_wp2_with fail
        go_ret
        exact ⟨rfl, HB.out⟩
      · have c1 : ¬ (k : Int) < (len : Int) := by omega
        go_wp2_with fail
        refine HF.out.mono ?_; rintro r w3 ⟨rfl, b3⟩
        have HB := Lib.hid (HZ.out.trans (b3.mono HZ.out.size))
        clear b3
        go_wp2_with fail
        go_ret
        exact ⟨rfl, HB.out⟩
end Go.Proofs.YtainnhcmhgloaaaDoor
