/-
  LockDead, walked.
-/
import Derived.Test.YtainnhcmhgloaaaGreatDoorL09e
namespace Go.Proofs.YtainnhcmhgloaaaGreatDoor
open Go.RowKit Go.Shelf Go.MapKept Go.Maps Go.Sort Go.Lib

section
variable {w w0 w' : World} {o o' : Nat → Nat} {g B : Nat} {H W H' W' : Hs}
theorem rcov_in (a : Nat) (m : Int) (ha : a < 7) (hm : 0 < m ∧ m < 7) (w : World) : Calls Tryz.prog 19 #[.int .i64 (a : Int), .int .i64 m] w fun e w' => e = .returned (.bool (covN a m.toNat)) ∧ Below w.heap.size w w' := by
  have := rcovers_in a m.toNat ha (by omega) w
  rw [show ((m.toNat : Nat) : Int) = m by omega] at this
  exact this
end
set_option maxRecDepth 100000 in
set_option maxHeartbeats 8000000 in
theorem walk_LockDead (a : Option Addr) (len cap : Nat) (zs : List OpK9) (w : World) (h : ArgOps9 w a len zs) (_hlen : len ≤ maxLen) (hL : Laid9 w) :
    Calls Tryz.prog 5 #[.slice a len cap] w fun e w' => e = .returned (.bool true) ∧ Below w.heap.size w w' := by
  have CN := Lib.hid (lk_New w hL)
  have CF := Lib.hid c_fixed
  have HH := Lib.hid h
  have h9 : (len : Int) ≤ 9223372036854775807 := by simp [maxLen] at _hlen; omega
  clear h hL _hlen
  unfold ptr9 at *
  go_enter Tryz.func5, Tryz.ntmps5
  go_wp2_with fail
  refine CN.out.mono ?_; rintro r w1 ⟨g, o1, rfl, S1⟩
  have HS1 := Lib.hid S1
  clear CN S1
  go_wp2_with fail
  go_loopw [4] (fun u wr => ∃ (k : Nat) (o : Nat → Nat) (H W : Hs), k ≤ len ∧ k ≤ 60 ∧ u = .int .i64 (k : Int) ∧ Lk w g wr o H W k ∧ Own8 H W) (fun u _ => 60 - (intOf u).toNat)
  case atStart => exact ⟨0, _, _, _, by omega, by omega, rfl, HS1.out, ⟨fun _ h => (by cases h), fun _ h => (by cases h)⟩⟩
  case round =>
    obtain ⟨k, o, H, W, hk, hk2, rfl, hS, hO⟩ := hrel
    have HS := Lib.hid hS; have HO := Lib.hid hO
    clear HS1 hS hO
    by_cases hlt : k < len ∧ k < 60
    · obtain ⟨hl1, hl2⟩ := hlt
      have c1 : (k : Int) < (len : Int) := by omega
      have c2 : (k : Int) < 60 := by omega
      have c3 : (0 : Int) ≤ (k : Int) := by omega
      obtain ⟨x, b, off, rfl, hxs, _, hc⟩ := HH.out.get hl1
      obtain ⟨d0, d1, d2, d3⟩ := hc o wr HS.out.Z
      have b2 : Below wr.heap.size wr (wr.alloc (.cells #[.int .i64 x.k, .int .i64 x.pg, .string x.s, .int .i64 x.n] 30)) := (Below.refl _ wr).alloc (Nat.le_refl _) _
      have HS2 := Lib.hid (HS.out.fresh b2 2)
      have HA2 := Lib.hid (KA.new wr o #[.int .i64 x.k, .int .i64 x.pg, .string x.s, .int .i64 x.n] 30)
      clear hc b2 HS
      go_upto_region 8 with fail
      generalize wr.alloc (.cells #[.int .i64 x.k, .int .i64 x.pg, .string x.s, .int .i64 x.n] 30) = w2 at *
      generalize gives o wr.heap.size 2 = o2 at *
      generalize wr.heap.size = bx at *
      clear d0 d1 d2 d3
      have a0 : w2.cell? ⟨bx, 0, none⟩ = some (.int .i64 x.k) := HA2.out.1.cell 0
      have a1 : w2.cell? ⟨bx, 1, none⟩ = some (.int .i64 x.pg) := HA2.out.1.cell 1
      have a2 : w2.cell? ⟨bx, 2, none⟩ = some (.string x.s) := HA2.out.1.cell 2
      have a3 : w2.cell? ⟨bx, 3, none⟩ = some (.int .i64 x.n) := HA2.out.1.cell 3
      obtain ⟨n, n1, n2, n3, n4, n5, n6, n7⟩ := cut9 x.s hxs 2 (by omega)
      have n1' : min (x.s.size : Int) 2 = (n : Int) := n1
      clear n1
      obtain ⟨T, hT⟩ : ∃ T, x.s.extract 0 n = T := ⟨_, rfl⟩
      have hTs : T.size ≤ 300 := by rw [← hT, n6]; omega
      have HT := Lib.hid hTs
      clear n6 hTs
      by_cases hk0 : x.k = 0
      · obtain ⟨xk, hxk⟩ : ∃ xk, x.k = xk := ⟨_, rfl⟩
        have a0' : w2.cell? ⟨bx, 0, none⟩ = some (.int .i64 0) := by rw [← hk0]; exact a0
        have e7 := and79 x.pg
        have hq8 := lo8_own x.pg
        obtain ⟨q, hq⟩ : ∃ q : Int, ((lo8 x.pg : Nat) : Int) = q := ⟨_, rfl⟩
        rw [hq] at e7 hq8
        clear a0 hxk hk0 hq xk
        have CM := Lib.hid (lk_Mode HS2.out q T)
        obtain ⟨was, hwas⟩ : ∃ m, modeP H q T = m := ⟨_, rfl⟩
        have hw7 := modeP_lt HS2.out.I.ok q T
        rw [hwas] at CM hw7
        have HW := Lib.hid hwas; have HW7 := Lib.hid hw7
        clear hwas hw7
        go_wp2_with fail
        refine CM.out.mono ?_; rintro r _ ⟨rfl, rfl⟩
        have CHe := Lib.hid (lk_HeldK HS2.out (by omega) q)
        clear a0' a1 a2 n1' n3 n4 n5 n7 hT CM
        go_wp2_with fail
        refine CHe.out.mono ?_; rintro r w3 ⟨ha, hC, rfl, o3, S3, st3, _⟩
        have HS3 := Lib.hid S3; have HA3 := Lib.hid (HA2.out.step st3)
        clear CHe S3 st3 HS2 HA2 a3
        have hhl : (ownL H q).length ≤ 62 := by
          have h1 : (ownL H q).length ≤ H.length := List.length_filter_le _ _
          have := HS3.out.B; omega
        have CQ := Lib.hid (lk_Queue HS3.out (by omega) T)
        go_wp2_with fail
        refine CQ.out.mono ?_; rintro r w4 ⟨v4, rfl, o4, S4, st4, K4⟩
        obtain ⟨qa, qC, rfl⟩ := K4.sl
        have HS4 := Lib.hid S4; have HA4 := Lib.hid (HA3.out.step st4); have HQ4 := Lib.hid K4
        have hql : (queueI W T).length ≤ 62 := by have := queueI_len W T; have := S4.B; omega
        clear CQ S4 st4 K4 HS3 HA3
        obtain ⟨vn, vm, hv⟩ := forV_form W q
        obtain ⟨wd, hwd⟩ : ∃ wd, (forV W q).2 = wd := ⟨_, rfl⟩
        have CW := lk_Waits HS4.out q
        rw [hv, hwd] at CW
        have HCW := Lib.hid CW; have HWD := Lib.hid hwd
        clear CW hv hwd
        go_wp2_with fail
        refine HCW.out.mono ?_; rintro r w5 ⟨rfl, b5⟩
        have b6 := b5.trans (((Below.refl _ w5).alloc (Nat.le_refl _) (.cells #[.string vn, .int .i64 vm] 41)).mono b5.size)
        have HS6 := Lib.hid (HS4.out.reads b6); have HA6 := Lib.hid (HA4.out.reads b6); have HQ6 := Lib.hid (HQ4.out.reads b6)
        clear HS4 HA4 HQ4 HCW b5 b6
        go_upto_region 14 with fail
        generalize w5.alloc (.cells #[.string vn, .int .i64 vm] 41) = w6 at *
        have a3 : w6.cell? ⟨bx, 3, none⟩ = some (.int .i64 x.n) := HA6.out.1.cell 3
        have CA := Lib.hid (lk_Ask HS6.out (by omega) q x.n (by omega) T HT.out)
        go_wp2_with fail
        refine CA.out.mono ?_; rintro r w7 ⟨e, rfl, H7, W7, o7, hs, S7, st7⟩
        have HOK := Lib.hid HS6.out.I.ok; have HFI := Lib.hid HS6.out.F
        have HS7 := Lib.hid S7; have HA7 := Lib.hid (HA6.out.step st7); have HQ7 := Lib.hid (HQ6.out.step st7); have HK := Lib.hid hs
        clear CA HS6 HA6 HQ6 S7 st7 hs a3
        obtain ⟨nw, hnw⟩ : ∃ m, modeP H7 q T = m := ⟨_, rfl⟩
        have hn7 := modeP_lt HS7.out.I.ok q T
        have CM7 := lk_Mode HS7.out q T
        rw [hnw] at CM7 hn7
        have HN := Lib.hid hnw; have HN7 := Lib.hid hn7; have HCM7 := Lib.hid CM7
        clear hnw hn7 CM7
        by_cases e0 : e = 0
        · subst e0
          have hs := HK.out
          have ok := HOK.out
          obtain ⟨rfl, h1, h2, h3, h4, h5⟩ := ask_ok ok (by omega) HT.out hs
          rw [HN.out] at h4 h5
          rw [HW.out] at h5
          have hwd : wd = false := by rw [← HWD.out]; exact forV_not.2 h1
          subst hwd
          have CW := lk_Waits HS7.out q
          rw [forV_none h1] at CW
          have HCW := Lib.hid CW
          have C1 := rcov_in nw x.n HN7.out ⟨h2, h3⟩
          rw [h4] at C1
          have C2 := rcovers_in nw was HN7.out HW7.out
          rw [h5] at C2
          have HC1 := Lib.hid C1; have HC2 := Lib.hid C2
          have HO7 := Lib.hid (own_ask HO.out hq8 hs)
          have g1 : (0 : Int) < x.n := h2
          have g2 : x.n < 7 := h3
          clear hs ok h1 h2 h3 h4 h5 CW C1 C2 HK HO
          go_wp2_with fail
          refine HCM7.out.mono ?_; rintro r _ ⟨rfl, rfl⟩
          clear HCM7
          go_wp2_with fail
          refine HCW.out.mono ?_; rintro r w8 ⟨rfl, b8⟩
          have b9 := b8.trans (((Below.refl _ w8).alloc (Nat.le_refl _) (.cells #[.string ⟨#[]⟩, .int .i64 0] 41)).mono b8.size)
          have HS9 := Lib.hid (HS7.out.reads b9); have HA9 := Lib.hid (HA7.out.reads b9)
          clear HS7 HA7 HQ7 HCW b8 b9
          go_upto_region 17 with fail
          generalize w8.alloc (.cells #[.string ⟨#[]⟩, .int .i64 0] 41) = w9 at *
          have a3 : w9.cell? ⟨bx, 3, none⟩ = some (.int .i64 x.n) := HA9.out.1.cell 3
          go_wp2_with fail
          refine (HC1.out _).mono ?_; rintro r w10 ⟨rfl, b10⟩
          go_wp2_with fail
          refine (HC2.out _).mono ?_; rintro r w11 ⟨rfl, b11⟩
          have b12 := b10.trans (b11.mono b10.size)
          have HS12 := Lib.hid (HS9.out.reads b12); have HA12 := Lib.hid (HA9.out.reads b12)
          clear HS9 HA9 b10 b11 b12 a3 HC1 HC2
          have a3 : w11.cell? ⟨bx, 3, none⟩ = some (.int .i64 x.n) := HA12.out.1.cell 3
          go_wp2_with fail
          exact ⟨⟨k + 1, _, _, _, by omega, by omega, by go_num, HS12.out, HO7.out⟩, by simp [intOf]; omega⟩
        · by_cases e10 : e = 10
          · subst e10
            have hs := HK.out
            obtain ⟨rfl, h1, h2, h3, h4, y, hy, h5, h6, h7, h8⟩ := ask_wait HOK.out hs
            have hwd : wd = false := by rw [← HWD.out]; exact forV_not.2 h1
            subst hwd
            obtain rfl : nw = was := by rw [← HN.out, ← HW.out]
            have CW := lk_Waits HS7.out q
            have e1 := forV_some HS7.out.I.ok hy
            rw [h5, h6] at e1
            rw [e1] at CW
            have HCW := Lib.hid CW
            have C1 := rcov_in y.mode x.n h7 ⟨h3, h4⟩
            rw [h8] at C1
            have HC1 := Lib.hid C1
            have HO7 := Lib.hid (own_ask HO.out hq8 hs)
            have hql7 : (queueI W7 T).length = (queueI W T).length + 1 := by unfold queueI; rw [List.length_map, List.length_map]; exact h2
            have HQL := Lib.hid hql7
            have g1 : (0 : Int) < x.n := h3
            have g2 : x.n < 7 := h4
            have hTT : (T.toList != T.toList) = false := by simp
            have hNN : (((nw : Nat) : Int) != ((nw : Nat) : Int)) = false := by simp
            obtain ⟨ym, hym⟩ : ∃ ym, y.mode = ym := ⟨_, rfl⟩
            rw [hym] at HCW HC1
            clear hs h1 h2 h3 h4 h5 h6 h7 h8 hy CW C1 HK HO e1 hql7 hym e0
            go_wp2_with fail
            refine HCM7.out.mono ?_; rintro r _ ⟨rfl, rfl⟩
            clear HCM7
            go_wp2_with fail
            refine HCW.out.mono ?_; rintro r w8 ⟨rfl, b8⟩
            have b9 := b8.trans (((Below.refl _ w8).alloc (Nat.le_refl _) (.cells #[.string T, .int .i64 (ym : Int)] 41)).mono b8.size)
            have HS9 := Lib.hid (HS7.out.reads b9); have HA9 := Lib.hid (HA7.out.reads b9)
            have HB9 := Lib.hid (At.new w8 #[.string T, .int .i64 (ym : Int)] 41)
            clear HS7 HA7 HQ7 HCW b8 b9
            go_upto_region 17 with fail
            generalize w8.alloc (.cells #[.string T, .int .i64 (ym : Int)] 41) = w9 at *
            generalize w8.heap.size = by2 at *
            have a3 : w9.cell? ⟨bx, 3, none⟩ = some (.int .i64 x.n) := HA9.out.1.cell 3
            have y0 : w9.cell? ⟨by2, 0, none⟩ = some (.string T) := HB9.out.cell 0
            have y1 : w9.cell? ⟨by2, 1, none⟩ = some (.int .i64 (ym : Int)) := HB9.out.cell 1
            go_wp2_with fail
            refine (HC1.out _).mono ?_; rintro r w10 ⟨rfl, b10⟩
            have HS10 := Lib.hid (HS9.out.reads b10); have HA10 := Lib.hid (HA9.out.reads b10)
            have CQ := Lib.hid (lk_Queue HS10.out (by omega) T)
            clear HS9 HA9 HB9 b10 a3 y0 y1 HC1
            go_wp2_with fail
            refine CQ.out.mono ?_; rintro r w11 ⟨v11, rfl, o11, S11, st11, K11⟩
            obtain ⟨za, zC, rfl⟩ := K11.sl
            have HS11 := Lib.hid S11; have HA11 := Lib.hid (HA10.out.step st11)
            clear CQ HS10 HA10 S11 st11 K11
            rw [HQL.out]
            have a3 : w11.cell? ⟨bx, 3, none⟩ = some (.int .i64 x.n) := HA11.out.1.cell 3
            generalize (queueI W T).length = QL at *
            obtain ⟨R, hR⟩ : ∃ R, QL + 1 = R := ⟨_, rfl⟩
            rw [hR]
            have e2 : (QL : Int) + 1 = (R : Int) := by omega
            have e3 : ((R : Int) != (R : Int)) = false := by simp
            clear HQL hR
            go_wp2_with fail
            exact ⟨⟨k + 1, _, _, _, by omega, by omega, by go_num, HS11.out, HO7.out⟩, by simp [intOf]; omega⟩
          · have hs := HK.out
            obtain ⟨rfl, rfl⟩ := ask_else hs e0 e10
            obtain rfl : nw = was := by rw [← HN.out, ← HW.out]
            have f0 : ((e : Int) == 0) = false := by rw [beq_eq_false_iff_ne]; omega
            have f1 : ((e : Int) == 10) = false := by rw [beq_eq_false_iff_ne]; omega
            have f2 : ((e : Int) != 0) = true := by rw [bne_iff_ne]; omega
            have f3 : ((e : Int) != 10) = true := by rw [bne_iff_ne]; omega
            have hst := ask_state hs
            have hfin : ((e : Int) == 9) = (wd && (decide (0 < x.n) && decide (x.n < 7))) := by
              rw [Bool.eq_iff_iff]
              simp only [Bool.and_eq_true, decide_eq_true_eq, beq_iff_eq]
              rw [← HWD.out, forV_is]
              constructor
              · intro h
                obtain ⟨⟨_, h1, h2⟩, h3⟩ := hst.1 (by omega)
                exact ⟨h3, h1, h2⟩
              · rintro ⟨h3, h1, h2⟩
                have := hst.2 ⟨⟨hq8.1, h1, h2⟩, h3⟩
                omega
            have HFI2 := Lib.hid hfin
            obtain ⟨vn7, vm7, hv7⟩ := forV_form W7 q
            have CW := lk_Waits HS7.out q
            rw [hv7, HWD.out] at CW
            have HCW := Lib.hid CW
            have hWW : (wd != wd) = false := by simp
            have hNN : (((nw : Nat) : Int) != ((nw : Nat) : Int)) = false := by simp
            have HO7 := Lib.hid HO.out
            clear hs hst hfin CW hv7 HK e0 e10 HO
            go_wp2_with fail
            refine HCM7.out.mono ?_; rintro r _ ⟨rfl, rfl⟩
            clear HCM7
            go_wp2_with fail
            refine HCW.out.mono ?_; rintro r w8 ⟨rfl, b8⟩
            have b9 := b8.trans (((Below.refl _ w8).alloc (Nat.le_refl _) (.cells #[.string vn7, .int .i64 vm7] 41)).mono b8.size)
            have HS9 := Lib.hid (HS7.out.reads b9); have HA9 := Lib.hid (HA7.out.reads b9); have HQ9 := Lib.hid (HQ7.out.reads b9)
            clear HS7 HA7 HQ7 HCW b8 b9
            go_upto_region 17 with fail
            generalize w8.alloc (.cells #[.string vn7, .int .i64 vm7] 41) = w9 at *
            have CHe := Lib.hid (lk_HeldK HS9.out (by omega) q)
            go_wp2_with fail
            refine CHe.out.mono ?_; rintro r w10 ⟨ha2, hC2, rfl, o10, S10, st10, _⟩
            have HS10 := Lib.hid S10; have HA10 := Lib.hid (HA9.out.step st10); have HQ10 := Lib.hid (HQ9.out.step st10)
            have CQ := Lib.hid (lk_Queue HS10.out (by omega) T)
            clear CHe HS9 HA9 HQ9 S10 st10
            generalize (ownL H7 q).length = OL at *
            have hOO : (((OL : Nat) : Int) != ((OL : Nat) : Int)) = false := by simp
            go_wp2_with fail
            refine CQ.out.mono ?_; rintro r w11 ⟨v11, rfl, o11, S11, st11, K11⟩
            obtain ⟨za, zC, rfl⟩ := K11.sl
            have HS11 := Lib.hid S11; have HA11 := Lib.hid (HA10.out.step st11); have HQ11 := Lib.hid (HQ10.out.step st11)
            have CI := Lib.hid (ints9 w11 _ _ (queueI W7 T) K11.is HQ11.out.is (by omega))
            clear CQ HS10 HA10 HQ10 S11 st11 K11
            generalize queueI W7 T = qs at *
            go_wp2_with fail
            refine CI.out.mono ?_; rintro r w12 ⟨rfl, b12⟩
            have HS12 := Lib.hid (HS11.out.reads b12); have HA12 := Lib.hid (HA11.out.reads b12)
            clear CI HS11 HA11 HQ11 b12
            have a3 : w12.cell? ⟨bx, 3, none⟩ = some (.int .i64 x.n) := HA12.out.1.cell 3
            have hX : (wd = false) ∨ (wd = true ∧ ¬ (0 < x.n)) ∨ (wd = true ∧ 0 < x.n ∧ ¬ (x.n < 7)) ∨ (wd = true ∧ 0 < x.n ∧ x.n < 7) := by
              cases wd with
              | false => exact .inl rfl
              | true => by_cases a1 : 0 < x.n <;> by_cases a2 : x.n < 7 <;> simp_all
            have hE := HFI2.out
            clear HFI2
            rcases hX with rfl | ⟨rfl, a1⟩ | ⟨rfl, a1, a2⟩ | ⟨rfl, a1, a2⟩
            · rw [Bool.false_and] at hE
              go_wp2_with fail
              exact ⟨⟨k + 1, _, _, _, by omega, by omega, by go_num, HS12.out, HO7.out⟩, by simp [intOf]; omega⟩
            · rw [decide_eq_false a1] at hE
              simp only [Bool.true_and, Bool.false_and] at hE
              go_wp2_with fail
              exact ⟨⟨k + 1, _, _, _, by omega, by omega, by go_num, HS12.out, HO7.out⟩, by simp [intOf]; omega⟩
            · rw [decide_eq_true a1, decide_eq_false a2] at hE
              simp only [Bool.true_and] at hE
              go_wp2_with fail
              exact ⟨⟨k + 1, _, _, _, by omega, by omega, by go_num, HS12.out, HO7.out⟩, by simp [intOf]; omega⟩
            · rw [decide_eq_true a1, decide_eq_true a2] at hE
              simp only [Bool.true_and] at hE
              go_wp2_with fail
              exact ⟨⟨k + 1, _, _, _, by omega, by omega, by go_num, HS12.out, HO7.out⟩, by simp [intOf]; omega⟩
      · have hk1 : (x.k != 0) = true := by rw [bne_iff_ne]; exact hk0
        have CP := Lib.hid (c_Play HS2.out HO.out (by omega) x.k x.pg x.n x.s hxs)
        clear HS2
        unfold ptr9 at *
        go_wp2_with fail
        refine CP.out.mono ?_; rintro r w3 ⟨rfl, H3, W3, o3, S3, O3, _⟩
        have HS3 := Lib.hid S3; have HO3 := Lib.hid O3
        clear CP HO a0 a1 a2 a3 S3 O3 n1' n2 n3 n4 n5 n7 hT HA2 hk1
        go_wp2_with fail
        exact ⟨⟨k + 1, _, _, _, by omega, by omega, by go_num, HS3.out, HO3.out⟩, by simp [intOf]; omega⟩
    · have hgo : ¬ (k : Int) < (len : Int) ∨ ((k : Int) < (len : Int) ∧ ¬ (k : Int) < 60) := by omega
      have HF := Lib.hid (CF.out wr HS.out.laid)
      have HZ := Lib.hid HS.out.Z.bel
      clear CF HS HO hlt
      rcases hgo with g1 | ⟨g1, g2⟩
      all_goals
        go_wp2_with fail
        refine HF.out.mono ?_; rintro r w3 ⟨rfl, b3⟩
        have HB := Lib.hid (HZ.out.trans (b3.mono HZ.out.size))
        clear b3
        go_wp2_with fail
        go_ret
        exact ⟨rfl, HB.out⟩
end Go.Proofs.YtainnhcmhgloaaaGreatDoor
