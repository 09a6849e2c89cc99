/-
  LockDrop, walked.
-/
import Derived.Test.YtainnhcmhgloaaaDoorH09
namespace Go.Proofs.YtainnhcmhgloaaaDoor
open Go.RowKit Go.Shelf Go.MapKept Go.Maps Go.Sort Go.Lib

set_option maxRecDepth 100000 in
set_option maxHeartbeats 8000000 in
theorem walk_LockDrop (a : Option Addr) (len cap : Nat) (zs : List OpK9) (who : Int) (_hw : (Lit.int .i64 who).wf = true) (w : World) (h : ArgOps9 w a len zs) (_hlen : len ≤ maxLen) (hL : Laid9 w) :
    Calls Tryd.prog 6 #[.slice a len cap, .int .i64 who] w fun e w' => e = .returned (.bool true) ∧ Below w.heap.size w w' := by
  have CN := Lib.hid (lk_New w hL)
  have CF := Lib.hid c_fixed
  have HH := Lib.hid h
  have h9 : (len : Int) ≤ 9223372036854775807 := by simp [maxLen] at _hlen; omega
  clear h hL _hlen _hw
  unfold ptr9 at *
  go_enter Tryd.func6, Tryd.ntmps6
  go_wp2_with fail
  refine CN.out.mono ?_; rintro r w1 ⟨g, o1, rfl, S1⟩
  have HS1 := Lib.hid S1
  clear CN S1
  go_wp2_with fail
  go_loopw [6] (fun u wr => ∃ (k : Nat) (o : Nat → Nat) (H W : Hs), k ≤ len ∧ k ≤ 60 ∧ u = .int .i64 (k : Int) ∧ Lk w g wr o H W k ∧ Own8 H W) (fun u _ => 60 - (intOf u).toNat)
  case atStart => exact ⟨0, _, _, _, by omega, by omega, rfl, HS1.out, ⟨fun _ h => (by cases h), fun _ h => (by cases h)⟩⟩
  case round =>
    obtain ⟨k, o, H, W, hk, hk2, rfl, hS, hO⟩ := hrel
    have HS := Lib.hid hS; have HO := Lib.hid hO
    clear HS1 hS hO
    by_cases hlt : k < len ∧ k < 60
    · obtain ⟨hl1, hl2⟩ := hlt
      have c1 : (k : Int) < (len : Int) := by omega
      have c2 : (k : Int) < 60 := by omega
      have c3 : (0 : Int) ≤ (k : Int) := by omega
      obtain ⟨x, b, off, rfl, hxs, _, hc⟩ := HH.out.get hl1
      obtain ⟨d0, d1, d2, d3⟩ := hc o wr HS.out.Z
      have CP := Lib.hid (c_Play HS.out HO.out (by omega) x.k x.pg x.n x.s hxs)
      clear hc
      unfold ptr9 at *
      go_wp2_with fail
      refine CP.out.mono ?_; rintro r w2 ⟨rfl, H2, W2, o2, S2, O2, _⟩
      have HS2 := Lib.hid S2; have HO2 := Lib.hid O2
      clear HS HO CP d0 d1 d2 d3 S2 O2
      go_wp2_with fail
      exact ⟨⟨k + 1, _, _, _, by omega, by omega, by go_num, HS2.out, HO2.out⟩, by simp [intOf]; omega⟩
    · have hgo : ¬ (k : Int) < (len : Int) ∨ ((k : Int) < (len : Int) ∧ ¬ (k : Int) < 60) := by omega
      have HS0 := Lib.hid (HS.out.more (show k ≤ 60 by omega))
      clear HS HO hlt
      have e7 := and79 who
      obtain ⟨q, hq⟩ : ∃ q : Int, ((lo8 who : Nat) : Int) = q := ⟨_, rfl⟩
      rw [hq] at e7
      clear hq
      obtain ⟨H2, hH2⟩ : ∃ H2, dropH H W q = H2 := ⟨_, rfl⟩
      obtain ⟨W2, hW2⟩ : ∃ W2, dropW H W q = W2 := ⟨_, rfl⟩
      obtain ⟨l2, hl2⟩ : ∃ l2, dropI H W q = l2 := ⟨_, rfl⟩
      have HD := Lib.hid (show (∀ h ∈ H2, h.owner ≠ q) ∧ (∀ y ∈ W2, y.owner ≠ q) ∧ ∀ b ∈ l2, b ≠ q ∧ (∃ h ∈ H2, h.owner = b) ∧ ∀ y ∈ W2, y.owner ≠ b from by
        rw [← hH2, ← hW2, ← hl2]; exact drop_all HS0.out.I.ok q)
      have CD := Lib.hid (fun (W' : World) (o' : Nat → Nat) (S : Lk w g W' o' H W 60) => lk_Drop S (by omega) q)
      rw [hH2, hW2, hl2] at CD
      have hlen2 : l2.length ≤ 60 := by rw [← hl2]; have := dropI_len H W q; have := HS0.out.B; omega
      have hlenH : (ownL H q).length ≤ 60 := by have h1 : (ownL H q).length ≤ H.length := List.length_filter_le _ _; have := HS0.out.B; omega
      clear hH2 hW2 hl2
      have CH := Lib.hid (lk_HeldK HS0.out (by omega) q)
      rcases hgo with g1 | ⟨g1, g2⟩
      all_goals
        go_wp2_with fail
        refine CH.out.mono ?_; rintro r w2 ⟨ha, hC, rfl, o2, S2, _, K2⟩
        have HK2 := Lib.hid K2
        have HCD := Lib.hid (CD.out w2 o2 S2)
        clear CH CD K2 S2 HS0
        go_wp2_with fail
        refine HCD.out.mono ?_; rintro r w3 ⟨v3, rfl, o3, S3, st3, K3⟩
        obtain ⟨ga, gC, rfl⟩ := K3.sl
        have HK3 := Lib.hid (HK2.out.step st3); have HG3 := Lib.hid K3; have HS3 := Lib.hid S3
        clear HK2 HCD st3 K3 S3
        have CW := lk_Waits HS3.out q
        rw [forV_none HD.out.2.1] at CW
        have HW := Lib.hid CW
        clear CW
        go_wp2_with fail
        refine HW.out.mono ?_; rintro r w4 ⟨rfl, b4⟩
        have b5 := b4.trans (((Below.refl _ w4).alloc (Nat.le_refl _) (.cells #[.string ⟨#[]⟩, .int .i64 0] 32)).mono b4.size)
        have HS5 := Lib.hid (HS3.out.reads b5); have HK5 := Lib.hid (HK3.out.reads b5); have HG5 := Lib.hid (HG3.out.reads b5)
        clear HS3 HK3 HG3 HW b4 b5
        go_wp2_with fail
        generalize w4.alloc (.cells #[.string ⟨#[]⟩, .int .i64 0] 32) = w5 at *
        go_loopw [12] (fun u wr => ∃ (i : Nat) (o : Nat → Nat), i ≤ l2.length ∧ u = .int .i64 (i : Int) ∧ Lk w g wr o H2 W2 60 ∧ KI wr o (.slice ga l2.length gC) l2 ∧ KH wr o (.slice ha (ownL H q).length hC) H q) (fun u _ => l2.length - (intOf u).toNat)
        case atStart => exact ⟨0, _, by omega, rfl, HS5.out, HG5.out, HK5.out⟩
        case round =>
          obtain ⟨i, oi, hi, rfl, hS, hG, hK⟩ := hrel
          have HSi := Lib.hid hS; have HGi := Lib.hid hG; have HKi := Lib.hid hK
          clear HS5 HG5 HK5 hS hG hK
          have i0 : (0 : Int) ≤ (i : Int) := by omega
          by_cases hlt : i < l2.length
          · have i1 : (i : Int) < (l2.length : Int) := by omega
            obtain ⟨x, hx⟩ : ∃ x, l2[i]? = some x := ⟨_, List.getElem?_eq_getElem hlt⟩
            obtain ⟨gb, rfl, d0⟩ := HGi.out.cell hx
            obtain ⟨x1, x2, x3⟩ := HD.out.2.2 x (List.mem_of_getElem? hx)
            have x1' : (x == q) = false := by rw [beq_eq_false_iff_ne]; exact x1
            have x2' : (((ownL H2 x).length : Nat) : Int) ≠ 0 := by have := ownL_pos x2; omega
            have x2'' : ((((ownL H2 x).length : Nat) : Int) == 0) = false := by rw [beq_eq_false_iff_ne]; exact x2'
            have CW := lk_Waits HSi.out x
            rw [forV_none x3] at CW
            have HW := Lib.hid CW
            clear CW x1 x2 x2' x3
            go_wp2_with fail
            refine HW.out.mono ?_; rintro r w6 ⟨rfl, b6⟩
            have b7 := b6.trans (((Below.refl _ w6).alloc (Nat.le_refl _) (.cells #[.string ⟨#[]⟩, .int .i64 0] 32)).mono b6.size)
            have HS7 := Lib.hid (HSi.out.reads b7); have HK7 := Lib.hid (HKi.out.reads b7); have HG7 := Lib.hid (HGi.out.reads b7)
            clear HSi HKi HGi HW b6 b7 d0
            obtain ⟨gb', e, d0⟩ := HG7.out.cell hx
            cases e
            go_wp2_with fail
            refine (lk_HeldK HS7.out (by omega) x).mono ?_; rintro r w8 ⟨xa, xC, rfl, o8, S8, st8, _⟩
            have HS8 := Lib.hid S8; have HK8 := Lib.hid (HK7.out.step st8); have HG8 := Lib.hid (HG7.out.step st8)
            clear HS7 HK7 HG7 S8 st8 d0
            go_wp2_with fail
            exact ⟨⟨i + 1, _, by omega, by go_num, HS8.out, HG8.out, HK8.out⟩, by simp [intOf]; omega⟩
          · have i1 : ¬ (i : Int) < (l2.length : Int) := by omega
            go_wp2_with fail
            go_loopw [15] (fun u wr => ∃ (i : Nat) (o : Nat → Nat), i ≤ (ownL H q).length ∧ u = .int .i64 (i : Int) ∧ Lk w g wr o H2 W2 60 ∧ KH wr o (.slice ha (ownL H q).length hC) H q) (fun u _ => (ownL H q).length - (intOf u).toNat)
            case atStart => exact ⟨0, _, by omega, rfl, HSi.out, HKi.out⟩
            case round =>
              obtain ⟨j, oj, hj, rfl, hS, hK⟩ := hrel
              have HSj := Lib.hid hS; have HKj := Lib.hid hK
              clear HSi HGi HKi hS hK
              have j0 : (0 : Int) ≤ (j : Int) := by omega
              by_cases hlt : j < (ownL H q).length
              · have j1 : (j : Int) < ((ownL H q).length : Int) := by omega
                obtain ⟨hb, nm, rfl, d0⟩ := HKj.out.cell hlt
                have HN := Lib.hid (holdersI_len H2 nm)
                have HM := Lib.hid (show ∀ x ∈ holdersI H2 nm, x ≠ q from fun x hx e => by
                  obtain ⟨h, hh, _, ho⟩ := mem_holdersI.1 hx
                  exact HD.out.1 h hh (ho.trans e))
                have CHo := Lib.hid (lk_Holders HSj.out (by omega) nm)
                generalize (ownL H q).length = N at *
                go_wp2_with fail
                refine CHo.out.mono ?_; rintro r w9 ⟨v9, rfl, o9, S9, st9, K9⟩
                obtain ⟨xa, xC, rfl⟩ := K9.sl
                have HS9 := Lib.hid S9; have HK9 := Lib.hid (HKj.out.step st9); have HX9 := Lib.hid K9
                have hB9 : (holdersI H2 nm).length ≤ 60 := by have := HN.out; have := S9.B; omega
                clear HSj HKj CHo S9 st9 K9 d0
                generalize holdersI H2 nm = l9 at *
                go_wp2_with fail
                go_loopw [17] (fun u wr => ∃ (i : Nat) (o : Nat → Nat), i ≤ l9.length ∧ u = .int .i64 (i : Int) ∧ wr = w9) (fun u _ => l9.length - (intOf u).toNat)
                case atStart => exact ⟨0, o9, by omega, rfl, by first | rfl | trivial⟩
                case round =>
                  obtain ⟨m, om, hm, rfl, rfl⟩ := hrel
                  have m0 : (0 : Int) ≤ (m : Int) := by omega
                  by_cases hlt : m < l9.length
                  · have m1 : (m : Int) < (l9.length : Int) := by omega
                    obtain ⟨x, hx⟩ : ∃ x, l9[m]? = some x := ⟨_, List.getElem?_eq_getElem hlt⟩
                    obtain ⟨gb, rfl, d0⟩ := HX9.out.cell hx
                    have x1 : (x == q) = false := by rw [beq_eq_false_iff_ne]; exact HM.out x (List.mem_of_getElem? hx)
                    go_wp2_with fail
                    exact ⟨⟨m + 1, o9, by omega, by go_num, by first | rfl | trivial⟩, by simp [intOf]; omega⟩
                  · have m1 : ¬ (m : Int) < (l9.length : Int) := by omega
                    go_wp2_with fail
                    exact ⟨⟨j + 1, _, by omega, by go_num, HS9.out, HK9.out⟩, by simp [intOf]; omega⟩
              · have j1 : ¬ (j : Int) < ((ownL H q).length : Int) := by omega
                have CHq := Lib.hid (lk_HeldK HSj.out (by omega) q)
                rw [ownL_zero HD.out.1] at CHq
                go_wp2_with fail
                refine CHq.out.mono ?_; rintro r wa ⟨xa, xC, rfl, oa, Sa, _, _⟩
                have CB := lk_Behind Sa (by omega) q
                rw [behI_none HD.out.2.1] at CB
                have HCB := Lib.hid CB
                clear CHq HSj HKj CB Sa
                go_wp2_with fail
                refine HCB.out.mono ?_; rintro r wb ⟨vb, rfl, ob, Sb, _, Kb⟩
                obtain ⟨ya, yC, rfl⟩ := Kb.sl
                have HF := Lib.hid (CF.out wb Sb.laid); have HZ := Lib.hid Sb.Z.bel
                clear HCB Sb Kb CF
                simp only [List.length_nil]
                go_wp2_with fail
                refine HF.out.mono ?_; rintro r w3 ⟨rfl, b3⟩
                have HB := Lib.hid (HZ.out.trans (b3.mono HZ.out.size))
                clear b3
                go_wp2_with fail
                go_ret
                exact ⟨rfl, HB.out⟩
end Go.Proofs.YtainnhcmhgloaaaDoor
