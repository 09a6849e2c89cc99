/-
  The document's answer for layer 5 (budwoodref05): the contract of Encode, of kinds 6 and 7, and of all.
-/
import Derived.Test.YthnpkhejfcclcaaDoorC05f
namespace Go.Proofs.YthnpkhejfcclcaaDoor
open Go.RowKit

theorem num6_len (n : Int) : (num6 n).length = 6 := by unfold num6; exact Lib.leBytes_length _ _
theorem txtL_len (s : ByteArray) : (txtL s).length = s.size + 1 := by unfold txtL; rw [List.length_cons, ← Lib.size_eq]
theorem pairsL_snoc (l : Prs) (p : ByteArray × ByteArray) : pairsL (l ++ [p]) = pairsL l ++ (txtL p.1 ++ txtL p.2) := by simp [pairsL, pairL]
theorem risesB_mem : ∀ {l : Prs}, risesB l = true → ∀ p ∈ l, keyB p.1 = true ∧ valB p.2 = true
  | [], _, p, h => by simp at h
  | x :: l, hr, p, h => by
    obtain ⟨h1, h2, h3⟩ := risesB_head hr
    rcases List.mem_cons.1 h with rfl | h
    · exact ⟨h1, h2⟩
    · exact risesB_mem h3 p h
theorem pairsL_len : ∀ {l : Prs}, risesB l = true → (pairsL l).length ≤ 50 * l.length
  | [], _ => by simp [pairsL]
  | x :: l, hr => by
    obtain ⟨h1, h2, h3⟩ := risesB_head hr
    have := pairsL_len h3
    have s1 := keyB_size h1; have s2 := valB_size h2
    have e : pairsL (x :: l) = txtL x.1 ++ txtL x.2 ++ pairsL l := by simp [pairsL, pairL]
    rw [e, List.length_append, List.length_append, txtL_len, txtL_len, List.length_cons]
    omega
set_option maxRecDepth 100000 in
set_option maxHeartbeats 4000000 in
theorem renc_high (w : World) (k pa un nu : Int) (pr : Prs) (a : Option Addr) (C : Nat) (hP : PairsAt w a pr) (hk : k = 6 ∨ k = 7) (hr : RightP ⟨k, 0, ⟨#[]⟩, ⟨#[]⟩, pa, un, nu, pr⟩) :
    Calls Tryd.prog 15 #[.agg #[.int .i64 k, .int .i64 0, .string ⟨#[]⟩, .string ⟨#[]⟩, .int .i64 pa, .int .i64 un, .int .i64 nu, .slice a pr.length C]] w fun e w' => e = .returned (.string (encB ⟨k, 0, ⟨#[]⟩, ⟨#[]⟩, pa, un, nu, pr⟩)) ∧ Below w.heap.size w w' := by
  have hB := (Below.refl w.heap.size w).alloc (Nat.le_refl _) (.cells #[.int .i64 k, .int .i64 0, .string ⟨#[]⟩, .string ⟨#[]⟩, .int .i64 pa, .int .i64 un, .int .i64 nu, .slice a pr.length C] 28)
  have X1 := box8_new 28 w k 0 ⟨#[]⟩ ⟨#[]⟩ pa un nu (.slice a pr.length C)
  obtain ⟨r1, r2, r3, _, _, r6⟩ := id hr
  dsimp only at r1 r2 r3 r6
  rw [if_neg (by omega)] at r3
  have hpr : risesB pr = true ∧ pr.length ≤ 4000 := by
    split at r6
    · have := rowB_parts r6; exact ⟨this.2, this.1⟩
    · rw [r6]; exact ⟨rfl, by simp⟩
  have hSm : SmallP pr := fun p hp => by
    have := risesB_mem hpr.1 p hp
    have s1 := keyB_size this.1; have s2 := valB_size this.2
    exact ⟨by omega, by omega⟩
  have CR := rright_any _ ⟨k, 0, ⟨#[]⟩, ⟨#[]⟩, pa, un, nu, pr⟩ a C (hP.below hB) hSm (by dsimp only; omega) (show (⟨#[]⟩ : ByteArray).size ≤ 1000000 by decide) (show (⟨#[]⟩ : ByteArray).size ≤ 1000000 by decide)
  rw [(rightB_iff _).2 hr] at CR
  dsimp only [recV] at CR
  have HC := Lib.hid CR; have HB := Lib.hid hB; have HX := Lib.hid X1; have HP := Lib.hid hP
  unfold top at r3
  have C1 := Lib.hid (fun W => rnum6 pa W (by omega) (by omega))
  have C2 := Lib.hid (fun W => rnum6 un W (by omega) (by omega))
  have C3 := Lib.hid (fun W => rnum6 nu W (by omega) (by omega))
  have STR := Lib.hid (fun W => str_one W k.toNat (by omega))
  rw [Int.toNat_of_nonneg (by omega)] at STR
  have HE : encL ⟨k, 0, ⟨#[]⟩, ⟨#[]⟩, pa, un, nu, pr⟩ = [k.toNat.toUInt8] ++ (num6 pa ++ num6 un ++ num6 nu) ++ (if k = 7 then Lib.leBytes 2 pr.length ++ pairsL pr else []) := by
    unfold encL; dsimp only; rw [if_neg (show ¬ k ≤ 5 by omega), if_neg (show ¬ (k = 2 ∨ k = 3) by omega), if_neg (show ¬ k = 2 by omega)]; simp
  rw [encB_baL, HE]
  obtain ⟨H0, hH0⟩ : ∃ H0, [k.toNat.toUInt8] ++ (num6 pa ++ num6 un ++ num6 nu) = H0 := ⟨_, rfl⟩
  have J := Lib.hid (show baL [k.toNat.toUInt8] ++ (baL (num6 pa) ++ baL (num6 un) ++ baL (num6 nu)) = baL H0 by rw [baL_append, baL_append, baL_append, hH0])
  have hH19 : H0.length = 19 := by rw [← hH0]; simp [num6_len]
  have z0 : (baL [k.toNat.toUInt8]).size ≤ 1 := by rw [baL_size]; exact Nat.le_refl _
  have z1 : (baL (num6 pa)).size ≤ 6 := by rw [baL_size, num6_len]; exact Nat.le_refl _
  have z2 : (baL (num6 un)).size ≤ 6 := by rw [baL_size, num6_len]; exact Nat.le_refl _
  have z3 : (baL (num6 nu)).size ≤ 6 := by rw [baL_size, num6_len]; exact Nat.le_refl _
  have HR := Lib.hid hpr.1
  have hl4 : pr.length ≤ 4000 := hpr.2
  rw [hH0]
  obtain ⟨OUT, HO⟩ : ∃ O, Hid (baL (H0 ++ (if k = 7 then Lib.leBytes 2 pr.length ++ pairsL pr else [])) = O) := ⟨_, rfl⟩
  rw [HO.out]
  clear HE CR hB X1 r1 r2 r3 r6 hr hP hpr hSm hH0
  generalize baL (num6 pa) = N1 at *
  generalize baL (num6 un) = N2 at *
  generalize baL (num6 nu) = N3 at *
  generalize baL [k.toNat.toUInt8] = K1 at *
  have BF := Lib.hid (fun w2 : World => (Below.refl w2.heap.size w2).alloc (Nat.le_refl _) (.cells #[.int .u8 k] 5))
  have hk5 : 5 < k := by omega
  have q2 : (k == 2) = false := by rw [beq_eq_false_iff_ne]; omega
  have q3 : (k == 3) = false := by rw [beq_eq_false_iff_ne]; omega
  have wk : IntKind.u8.wrap k = k := by rw [IntKind.wrap_u8]; omega
  have hk8 : k ≤ 7 := by omega
  go_enter Tryd.func15, Tryd.ntmps15
  go_wp2_with fail
  refine HC.out.mono ?_; rintro e w2 ⟨rfl, b2⟩
  have X2 := HX.out.below b2 (by simp)
  have hlt2 := X2.lt
  have B2 := HB.out.trans (b2.mono (by simp))
  have st := STR.out w2
  have b3 := BF.out w2
  have X3 := X2.below b3 hlt2
  have c0 := X2.c0; have d0 := X3.c0
  have B3 := Lib.hid (B2.trans (b3.mono B2.size)); have HX3 := Lib.hid X3
  clear HC HX HB b2 X2 B2 b3 X3
  go_upto_region 6 with fail
  clear st c0 d0
  generalize w2.alloc (.cells #[.int .u8 k] 5) = W3 at *
  generalize hBeq : w.heap.size = B at *
  have HBQ := Lib.hid hBeq; clear hBeq
  have x4 := HX3.out.drew.c4; have x5 := HX3.out.drew.c5; have x6 := HX3.out.drew.c6
  have hl3 : B < W3.drew.heap.size := HX3.out.lt
  have m1 : ¬ 9223372036854775807 < N1.size + N2.size := by omega
  have m2 : ¬ 9223372036854775807 < N1.size + N2.size + N3.size := by omega
  have m3 : ¬ 9223372036854775807 < K1.size + (N1.size + N2.size + N3.size) := by omega
  go_region_held3 (fun W => W.cell? ⟨B, 4, none⟩ = some (.int .i64 pa) ∧ W.cell? ⟨B, 5, none⟩ = some (.int .i64 un) ∧ W.cell? ⟨B, 6, none⟩ = some (.int .i64 nu)) (first | exact ⟨x4, x5, x6⟩ | exact ⟨Y1.out.c4, Y1.out.c5, Y1.out.c6⟩ | exact ⟨Y2.out.c4, Y2.out.c5, Y2.out.c6⟩ | exact ⟨Y3.out.c4, Y3.out.c5, Y3.out.c6⟩)
    (first
      | (go_at_call 36; ((with_reducible refine (C1.out _).mono ?_); rintro e y1 ⟨rfl, a1⟩; have Y1 := Lib.hid (HX3.out.drew.below a1 hl3)))
      | (go_at_call 36; ((with_reducible refine (C2.out _).mono ?_); rintro e y2 ⟨rfl, a2⟩; have Y2 := Lib.hid (Y1.out.below a2 Y1.out.lt)))
      | (go_at_call 36; ((with_reducible refine (C3.out _).mono ?_); rintro e y3 ⟨rfl, a3⟩; have Y3 := Lib.hid (Y2.out.below a3 Y2.out.lt))))
  clear m1 m2 m3 x4 x5 x6 C1 C2 C3
  rw [J.out]
  have b1 : Below W3.heap.size W3 y1 := ⟨a1.os, a1.tape, a1.output, a1.size, a1.block⟩
  have hBs : B ≤ W3.heap.size := Nat.le_of_lt hl3
  have BY := Lib.hid (((B3.out.trans (b1.mono hBs)).trans (a2.mono (Nat.le_trans hBs b1.size))).trans (a3.mono (Nat.le_trans (Nat.le_trans hBs b1.size) a2.size)))
  clear b1 hBs
  clear a1 a2 a3 Y1 Y2 J B3 HX3
  have e0 := Y3.out.c0; have e7 := Y3.out.c7
  have zH : (baL H0).size ≤ 19 := by rw [baL_size, hH19]; exact Nat.le_refl _
  rcases hk with rfl | rfl
  · have HO1 := Lib.hid (show baL H0 = OUT by have := HO.out; rwa [if_neg (by decide), List.append_nil] at this)
    clear HO
    go_wp2
    go_ret
    exact ⟨by rw [← HO1.out]; rfl, by rw [HBQ.out]; exact BY.out⟩
  · have HO1 := Lib.hid (show baL (H0 ++ Lib.leBytes 2 pr.length ++ pairsL pr) = OUT by have := HO.out; rwa [if_pos rfl, ← List.append_assoc] at this)
    clear HO
    have CL := Lib.hid (fun W => rnum2 pr.length W (by omega))
    go_wp2_with fail
    refine (CL.out _).mono ?_; rintro e y4 ⟨rfl, a4⟩
    have Y4 := Lib.hid (Y3.out.below a4 Y3.out.lt)
    have B4 := Lib.hid (BY.out.trans (a4.mono (Nat.le_of_lt Y3.out.lt)))
    have J2 := Lib.hid (show baL H0 ++ baL (Lib.leBytes 2 pr.length) = baL (H0 ++ Lib.leBytes 2 pr.length ++ pairsL (pr.take 0)) by rw [baL_append]; simp [pairsL])
    have z4 : (baL (Lib.leBytes 2 pr.length)).size ≤ 2 := by rw [baL_size, Lib.leBytes_length]; exact Nat.le_refl _
    have hH21 : (H0 ++ Lib.leBytes 2 pr.length).length = 21 := by rw [List.length_append, hH19, Lib.leBytes_length]
    clear a4 CL e0 e7 Y3 BY hH19
    go_wp2_with fail
    rw [J2.out]
    clear J2 z4 zH
    generalize H0 ++ Lib.leBytes 2 pr.length = H1 at *
    have hl5 : (pr.length : Int) ≤ 4000 := by omega
    go_loopw [3, 4] (fun u c wr => ∃ n : Nat, n ≤ pr.length ∧ u = .string (baL (H1 ++ pairsL (pr.take n))) ∧ c = .int .i64 (n : Int) ∧ Box8 28 wr B 7 0 ⟨#[]⟩ ⟨#[]⟩ pa un nu (.slice a pr.length C) ∧ Below B w wr) (fun _ c _ => pr.length - (intOf c).toNat)
    case atStart => exact ⟨0, by omega, rfl, rfl, Y4.out, B4.out⟩
    case round =>
      obtain ⟨n, hn, rfl, rfl, hX, hBe⟩ := hrel
      clear Y4 B4
      have c7 := hX.c7
      by_cases hc : n < pr.length
      · have d1 : (n : Int) < (pr.length : Int) := by omega
        have d0 : (0 : Int) ≤ (n : Int) := by omega
        obtain ⟨⟨pk, pv⟩, hp⟩ : ∃ p, pr[n]? = some p := ⟨_, List.getElem?_eq_getElem hc⟩
        obtain ⟨g, off, rfl, f0, f1⟩ := HP.out.below (show Below w.heap.size w wr by rw [HBQ.out]; exact hBe) n _ hp
        have hg := World.block_lt_of_cell? wr _ f0
        have hkv := risesB_mem HR.out _ (List.mem_of_getElem? hp)
        have s1 := keyB_size hkv.1; have s2 := valB_size hkv.2
        dsimp only at f0 f1 s1 s2
        have hlen := pairsL_len (risesB_take pr n HR.out)
        rw [List.length_take] at hlen
        have C1 := Lib.hid (fun W => rtxt_any pk W (by omega))
        have C2 := Lib.hid (fun W => rtxt_any pv W (by omega))
        have J3 := Lib.hid (show baL (H1 ++ pairsL (pr.take n)) ++ (baL (txtL pk) ++ baL (txtL pv)) = baL (H1 ++ pairsL (pr.take (n + 1))) by
          rw [List.take_add_one, hp, Option.toList_some, pairsL_snoc, baL_append, baL_append]; simp)
        have z5 : (baL (H1 ++ pairsL (pr.take n))).size ≤ 300000 := by rw [baL_size, List.length_append, hH21]; omega
        have z6 : (baL (txtL pk)).size ≤ 17 := by rw [baL_size, txtL_len]; omega
        have z7 : (baL (txtL pv)).size ≤ 33 := by rw [baL_size, txtL_len]; omega
        clear hp hkv hlen
        generalize baL (H1 ++ pairsL (pr.take n)) = SS at *
        generalize baL (txtL pk) = T1 at *
        generalize baL (txtL pv) = T2 at *
        have HXw := Lib.hid hX; have HBw := Lib.hid hBe
        have hBl := hX.lt
        clear hX hBe
        go_upto_region 16 with fail
        have m1 : ¬ 9223372036854775807 < T1.size + T2.size := by omega
        have m2 : ¬ 9223372036854775807 < SS.size + (T1.size + T2.size) := by omega
        have K0 := Lib.hid (show wr.drew.cell? ⟨B, 7, none⟩ = some (.slice (some ⟨g, off, none⟩) pr.length C) ∧ wr.drew.cell? ⟨g, off + n * 2, none⟩ = some (.string pk) ∧ wr.drew.cell? ⟨g, off + n * 2 + 1, none⟩ = some (.string pv) from ⟨c7, f0, f1⟩)
        go_region_held3 (fun W => W.cell? ⟨B, 7, none⟩ = some (.slice (some ⟨g, off, none⟩) pr.length C) ∧ W.cell? ⟨g, off + n * 2, none⟩ = some (.string pk) ∧ W.cell? ⟨g, off + n * 2 + 1, none⟩ = some (.string pv)) (first | exact K0.out | exact K1'.out | exact K2'.out)
          (first
            | (go_at_call 37; ((with_reducible refine (C1.out _).mono ?_); rintro e y1 ⟨rfl, a1⟩; have K1' := Lib.hid (And.intro ((a1.cell (p := ⟨B, 7, none⟩) hBl).trans K0.out.1) (And.intro ((a1.cell (p := ⟨g, off + n * 2, none⟩) hg).trans K0.out.2.1) ((a1.cell (p := ⟨g, off + n * 2 + 1, none⟩) hg).trans K0.out.2.2))); have hBl1 : B < y1.heap.size := Nat.lt_of_lt_of_le hBl a1.size; have hg1 : g < y1.heap.size := Nat.lt_of_lt_of_le hg a1.size))
            | (go_at_call 37; ((with_reducible refine (C2.out _).mono ?_); rintro e y2 ⟨rfl, a2⟩; have K2' := Lib.hid (And.intro ((a2.cell (p := ⟨B, 7, none⟩) hBl1).trans K1'.out.1) (And.intro ((a2.cell (p := ⟨g, off + n * 2, none⟩) hg1).trans K1'.out.2.1) ((a2.cell (p := ⟨g, off + n * 2 + 1, none⟩) hg1).trans K1'.out.2.2))))))
        rw [J3.out]
        have b1 : Below wr.heap.size wr y1 := ⟨a1.os, a1.tape, a1.output, a1.size, a1.block⟩
        have Y2 := Lib.hid ((HXw.out.below b1 hBl).below a2 hBl1)
        have B2 := Lib.hid ((HBw.out.trans (b1.mono (Nat.le_of_lt hBl))).trans (a2.mono (Nat.le_of_lt hBl1)))
        clear m1 m2 K0 K1' K2' a1 a2 b1 C1 C2 HXw HBw c7 f0 f1 z5 z6 z7 J3
        go_wp2
        refine ⟨?_, by simp [intOf]; omega⟩
        (repeat apply Exists.intro)
        exact ⟨⟨n + 1, by omega, rfl, by go_num, Y2.out, B2.out⟩, rfl⟩
      · obtain rfl : n = pr.length := by omega
        have HXw := Lib.hid hX; have HBw := Lib.hid hBe
        rw [List.take_length, HO1.out]
        clear hX hBe
        go_wp2
        go_ret
        exact ⟨rfl, by rw [HBQ.out]; exact HBw.out⟩
theorem rencode_any (w : World) (r : RecP) (a : Option Addr) (C : Nat) (hP : PairsAt w a r.pairs) (hS : SmallP r.pairs) (hn : r.pairs.length ≤ 1000000) (h1 : r.key.size ≤ 1000000) (h2 : r.value.size ≤ 1000000) :
    Calls Tryd.prog 15 #[recV r a C] w fun e w' => e = .returned (.string (encOut r)) ∧ Below w.heap.size w w' := by
  unfold encOut
  cases hr : rightB r with
  | false => rw [if_neg (by decide)]; exact renc_no w r a C hP hS hn h1 h2 hr
  | true =>
    rw [if_pos rfl]
    have hR := (rightB_iff r).1 hr
    obtain ⟨k, t, ke, va, pa, un, nu, pr⟩ := r
    obtain ⟨r1, r2, r3, r4, r5, r6⟩ := id hR
    dsimp only [recV] at *
    by_cases h5 : k ≤ 5
    · rw [if_pos h5] at r3
      obtain ⟨_, _, rfl, rfl, rfl⟩ := r3
      rw [if_neg (by omega)] at r6
      subst r6
      exact renc_low w k t ke va a C (by omega) hR
    · rw [if_neg h5] at r3
      obtain ⟨rfl, _⟩ := r3
      rw [if_neg (by omega)] at r4 r5
      subst r4 r5
      exact renc_high w k pa un nu pr a C hP (by omega) hR
end Go.Proofs.YthnpkhejfcclcaaDoor
