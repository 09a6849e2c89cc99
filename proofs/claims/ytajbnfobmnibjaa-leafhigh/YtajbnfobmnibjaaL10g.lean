/-
  LeafHigh, walked.
-/
import Derived.Test.YtajbnfobmnibjaaH10
namespace Go.Proofs.Ytajbnfobmnibjaa
open Go.RowKit

theorem high_ff {q : LfP} (h : rightL q = true) : rightL ⟨q.pairs, ffB, q.next⟩ = lastB q.pairs ffB := by
  obtain ⟨h1, h2, h3, h4, h5⟩ := rightL_iff.1 h
  unfold rightL highB
  simp only
  rw [decide_eq_true h1, h2, decide_eq_true h4, decide_eq_true h5, decide_eq_false (show ¬ ffB = noB by decide), show keyB ffB = true by decide]
  simp
theorem high_any {q : LfP} (h : rightL q = true) (s : ByteArray) (hs : s.size ≤ 16) (x : Int) (h0 : 0 ≤ x) (h1 : x ≤ 1024) : rightL ⟨q.pairs, s, x⟩ = (decide (s = noB) || lastB q.pairs s) := by
  obtain ⟨g1, g2, g3, g4, g5⟩ := rightL_iff.1 h
  unfold rightL highB
  simp only
  rw [decide_eq_true g1, g2, decide_eq_true h0, decide_eq_true h1]
  by_cases e : s = noB
  · rw [decide_eq_true e]; simp
  · rw [decide_eq_false e, show keyB s = true from by
      unfold keyB
      rw [decide_eq_true_iff]
      refine ⟨?_, hs⟩
      rcases Nat.eq_zero_or_pos s.size with h | h
      · have h5 : s.data.toList = [] := List.eq_nil_of_length_eq_zero (by rw [← Lib.size_eq]; exact h)
        exact absurd (ba_ext (h5.trans rfl)) e
      · exact h]
    simp
theorem lastB_nil (s : ByteArray) : lastB [] s = true := rfl
theorem lastB_at {l : Prs} {p : ByteArray × ByteArray} {s : ByteArray} (h : 0 < l.length) (hp : l[l.length - 1]? = some p) : lastB l s = lessB p.1 s := by
  obtain ⟨p', hp', e⟩ := lastB_get h s
  rw [hp] at hp'; cases hp'; exact e
set_option maxRecDepth 100000 in
set_option maxHeartbeats 8000000 in
theorem walk_LeafHigh (l : LfP) (a : Option Addr) (C : Nat) (hi : ByteArray) (_hs : hi.size ≤ maxLen) (nx : Int) (hn : (Lit.int .u16 nx).wf = true) (w : World) (hA : ArgLeaf w a l) :
    Calls Try.prog 9 #[lfV a C l, .string hi, .int .u16 nx] w fun e w' => e = .returned (.bool true) ∧ Below w.heap.size w w' := by
  have n0 : 0 ≤ nx ∧ nx < 65536 := by simp [Lit.wf, IntKind.min, IntKind.max, IntKind.signed, IntKind.bits] at hn; omega
  obtain ⟨k0, k1⟩ := n0
  unfold maxLen at _hs
  obtain ⟨n1, p1, p2, p3, p4⟩ := cutT_at hi 16 16 rfl
  have CF := Lib.hid (fun W => fixed10 W)
  have HP4 := Lib.hid p4
  clear hn p4
  have HA := Lib.hid hA
  have X0 := At.new w #[.slice a l.pairs.length C, .string l.high, .int .i64 l.next] 24
  have b0 := (Below.refl w.heap.size w).alloc (Nat.le_refl _) (.cells #[.slice a l.pairs.length C, .string l.high, .int .i64 l.next] 24)
  have CC := Lib.hid (cut10 a C l _ (hA.below b0))
  have SQ := Lib.hid (cut_short l)
  generalize cutLf l = q at *
  have X0 := Lib.hid X0; have HB := Lib.hid b0
  clear b0 hA HA
  unfold lfV at *
  go_enter Try.func9, Try.ntmps9
  go_upto_region 1 with fail
  generalize w.alloc (.cells #[.slice a l.pairs.length C, .string l.high, .int .i64 l.next] 24) = W0 at *
  have d0 := X0.out.cell 0; have d1 := X0.out.cell 1; have d2 := X0.out.cell 2
  simp only [List.getElem?_toArray, List.getElem?_cons_zero, List.getElem?_cons_succ] at d0 d1 d2
  go_wp2_with fail
  refine CC.out.mono ?_; rintro e Wc ⟨aq, Cq, rfl, hP, b⟩
  have Xc := X0.out.reads b
  have IA := Lib.hid (InA.put Xc hP (HB.out.trans (b.mono HB.out.size)) (Nat.le_refl _))
  clear d0 d1 d2 X0 HB CC b hP
  have d0 := Xc.cell 0; have d1 := Xc.cell 1; have d2 := Xc.cell 2; have z0 := Xc.fz 0; have z1 := Xc.fz 1; have z2 := Xc.fz 2
  simp only [List.getElem?_toArray, List.getElem?_cons_zero, List.getElem?_cons_succ] at d0 d1 d2
  clear Xc
  go_upto_region 2 with fail
  clear d0 d1 d2 z0 z1 z2
  generalize (((Wc.setCell ⟨w.heap.size, 0, none⟩ (.slice aq q.pairs.length Cq)).setCell ⟨w.heap.size, 1, none⟩ (.string q.high)).setCell ⟨w.heap.size, 2, none⟩ (.int .i64 q.next)) = V0 at *
  have XA := IA
  clear IA
  generalize hBB : w.heap.size = BB at *
  have dA0 := XA.out.x.c0; have dA1 := XA.out.x.c1; have dA2 := XA.out.x.c2
  go_wp2_with fail
  refine (k_right XA.out.x SQ.out).mono ?_; rintro e W1 ⟨rfl, b⟩
  clear dA0 dA1 dA2
  have YA := Lib.hid (XA.out.reads b)
  clear b XA
  have XA := YA; clear YA
  cases hR : rightL q with
  | false =>
    have dA0 := XA.out.x.c0; have dA1 := XA.out.x.c1; have dA2 := XA.out.x.c2
    go_wp2_with fail
    refine (k_encode XA.out.x SQ.out).mono ?_; rintro e W2 ⟨rfl, b⟩
    clear dA0 dA1 dA2
    have YA := Lib.hid (XA.out.reads b)
    clear b XA
    have XA := YA; clear YA
    rw [encT_no hR]
    go_wp2_with fail
    refine (CF.out _).mono ?_; rintro e W3 ⟨rfl, b⟩
    have YA := Lib.hid (XA.out.reads b)
    clear b XA
    have XA := YA; clear YA
    go_wp2_with fail
    go_ret
    exact ⟨rfl, XA.out.bel⟩
  | true =>
    have HR := Lib.hid hR
    clear hR
    have dA0 := XA.out.x.c0; have dA1 := XA.out.x.c1; have dA2 := XA.out.x.c2
    have zA0 := XA.out.x.fz 0; have zA1 := XA.out.x.fz 1; have zA2 := XA.out.x.fz 2
    go_upto_region 5 with fail
    clear dA0 dA1 dA2 zA0 zA1 zA2
    have Q1 := Lib.hid (show rightL ⟨q.pairs, ffB, q.next⟩ = lastB q.pairs ffB from high_ff HR.out)
    have XB := Lib.hid (show InA w (W1.setCell ⟨BB, 1, none⟩ (.string ⟨#[255, 255, 255, 255, 255, 255, 255, 255, 255, 255, 255, 255, 255, 255, 255, 255]⟩)) BB aq Cq ⟨q.pairs, ffB, q.next⟩ from XA.out.setHigh ffB)
    have SB := Lib.hid (show Short ⟨q.pairs, ffB, q.next⟩ from ⟨SQ.out.sm, SQ.out.len, SQ.out.wt, by show ffB.size ≤ 40; decide⟩)
    generalize W1.setCell ⟨BB, 1, none⟩ (.string ⟨#[255, 255, 255, 255, 255, 255, 255, 255, 255, 255, 255, 255, 255, 255, 255, 255]⟩) = V1 at *
    clear XA
    have dB0 := XB.out.x.c0; have dB1 := XB.out.x.c1; have dB2 := XB.out.x.c2
    dsimp only at dB0 dB1 dB2
    rcases Nat.eq_zero_or_pos q.pairs.length with h0 | h0
    · have HL := Lib.hid (show lastB q.pairs ffB = true by rw [List.eq_nil_of_length_eq_zero h0]; rfl)
      have HH0 := Lib.hid h0
      rw [h0] at dB0
      clear h0
      go_quiet (fail)
      clear dB0 dB1 dB2
      have XB := Lib.hid (XB.out.reads (below_drewN10 V1 nq))
      have dB0 := XB.out.x.c0; have dB1 := XB.out.x.c1; have dB2 := XB.out.x.c2
      dsimp only at dB0 dB1 dB2
      have KR := Lib.hid (k_right XB.out.x SB.out)
      dsimp only at KR
      go_wp2_with fail
      refine KR.out.mono ?_; rintro e W2 ⟨rfl, b⟩
      have YB := Lib.hid (XB.out.reads b)
      clear b XB
      have XB := YB; clear YB
      clear dB0 dB1 dB2 KR
      rw [Q1.out, HL.out]
      have dB0 := XB.out.x.c0; have dB1 := XB.out.x.c1; have dB2 := XB.out.x.c2
      have zB2 := XB.out.x.fz 2
      dsimp only at dB0 dB1 dB2
      go_upto_region 10 with fail
      clear dB0 dB1 dB2 zB2
      have XC := Lib.hid (show InA w (W2.setCell ⟨BB, 2, none⟩ (.int .i64 (nx % 1025))) BB aq Cq ⟨q.pairs, ffB, nx % 1025⟩ from XB.out.setNext (nx % 1025))
      clear XB SB
      have HNX := Lib.hid (show 0 ≤ nx % 1025 ∧ nx % 1025 ≤ 1024 from by omega)
      generalize W2.setCell ⟨BB, 2, none⟩ (.int .i64 (nx % 1025)) = V2 at *
      generalize nx % 1025 = NX at *
      go_upto_region 11 with fail
      have HSS := Lib.hid (show (hi.extract 0 n1).size ≤ 16 by rw [HP4.out]; exact cutT_size 16 hi)
      clear HP4
      generalize hi.extract 0 n1 = S at *
      clear p1 p2 p3
      have dC1 := XC.out.x.c1; have zC1 := XC.out.x.fz 1
      dsimp only at dC1
      go_upto_region 12 with fail
      clear dC1 zC1
      have XD := Lib.hid (show InA w (V2.setCell ⟨BB, 1, none⟩ (.string S)) BB aq Cq ⟨q.pairs, S, NX⟩ from XC.out.setHigh S)
      have SD := Lib.hid (show Short ⟨q.pairs, S, NX⟩ from ⟨SQ.out.sm, SQ.out.len, SQ.out.wt, by have := HSS.out; show S.size ≤ 40; omega⟩)
      have QD := Lib.hid (show rightL ⟨q.pairs, S, NX⟩ = (decide (S = noB) || lastB q.pairs S) from high_any HR.out S HSS.out NX HNX.out.1 HNX.out.2)
      clear XC
      generalize V2.setCell ⟨BB, 1, none⟩ (.string S) = V3 at *
      have XS := empty10 S
      have dD0 := XD.out.x.c0; have dD1 := XD.out.x.c1; have dD2 := XD.out.x.c2
      dsimp only at dD0 dD1 dD2
      have KR := Lib.hid (k_right XD.out.x SD.out)
      rw [QD.out] at KR
      dsimp only at KR
      rw [HH0.out] at dD0
      have HLS := Lib.hid (show lastB q.pairs S = true by rw [List.eq_nil_of_length_eq_zero HH0.out]; rfl)
      rw [HLS.out, Bool.or_true, HH0.out] at KR
      have n00 : ((0 : Int) == 0) = true := rfl
      by_cases hS : S = noB
      · rw [decide_eq_true hS] at XS
        clear hS
        go_wp2_with fail
        refine KR.out.mono ?_; rintro e W5 ⟨rfl, b⟩
        have XD := Lib.hid (XD.out.reads b)
        clear b dD0 dD1 dD2
        go_wp2_with fail
        refine (CF.out _).mono ?_; rintro e W6 ⟨rfl, b⟩
        have XD := Lib.hid (XD.out.reads b)
        clear b
        go_wp2_with fail
        go_ret
        exact ⟨rfl, XD.out.bel⟩
      · rw [decide_eq_false hS] at XS
        clear hS
        go_wp2_with fail
        refine KR.out.mono ?_; rintro e W5 ⟨rfl, b⟩
        have XD := Lib.hid (XD.out.reads b)
        clear b dD0 dD1 dD2
        go_wp2_with fail
        refine (CF.out _).mono ?_; rintro e W6 ⟨rfl, b⟩
        have XD := Lib.hid (XD.out.reads b)
        clear b
        go_wp2_with fail
        go_ret
        exact ⟨rfl, XD.out.bel⟩
    · obtain ⟨p, hp, hl⟩ := lastB_get h0 ffB
      have HP0 := Lib.hid hp
      have HL0 := Lib.hid hl
      obtain ⟨g, off, rfl, c0, c1⟩ := XB.out.x.pr.at' _ p hp
      obtain ⟨m, hm⟩ : ∃ m, q.pairs.length - 1 = m := ⟨_, rfl⟩
      rw [hm] at c0
      have HM := Lib.hid hm
      have hln := SQ.out.len
      have m1 : (q.pairs.length : Int) - 1 = (m : Int) := by omega
      have m2 : ((q.pairs.length : Int) == 0) = false := by rw [beq_eq_false_iff_ne]; omega
      have m3 : (m : Int) < (q.pairs.length : Int) := by omega
      have m4 : (0 : Int) ≤ (m : Int) := by omega
      have m5 : (q.pairs.length : Int) ≤ 1000000 := by omega
      have m6 : (0 : Int) < (q.pairs.length : Int) := by omega
      have m7 : decide (0 < q.pairs.length) = true := by rw [decide_eq_true_iff]; omega
      have LB := beq10 p.1 ffB
      have HK := Lib.hid (show p.1.size ≤ 16 from (keyB_size ((rightL_rise HR.out).ok p (List.mem_of_getElem? hp)).1).2)
      clear hp hl hm h0 c1 hln
      by_cases hF : p.1 = ffB
      · rw [decide_eq_true hF] at LB
        have HL := Lib.hid (show lastB q.pairs ffB = false by rw [HL0.out, hF]; exact lessI _)
        clear hF
        go_quiet (fail)
        clear c0
        have XB := Lib.hid (XB.out.reads (below_drewN10 V1 nq))
        clear dB0 dB1 dB2
        have dB0 := XB.out.x.c0; have dB1 := XB.out.x.c1; have dB2 := XB.out.x.c2
        dsimp only at dB0 dB1 dB2
        have KR := Lib.hid (k_right XB.out.x SB.out)
        rw [Q1.out, HL.out] at KR
        dsimp only at KR
        go_wp2_with fail
        refine KR.out.mono ?_; rintro e W2 ⟨rfl, b⟩
        have XB := Lib.hid (XB.out.reads b)
        clear b dB0 dB1 dB2
        go_wp2_with fail
        refine (CF.out _).mono ?_; rintro e W6 ⟨rfl, b⟩
        have XB := Lib.hid (XB.out.reads b)
        clear b
        go_wp2_with fail
        go_ret
        exact ⟨rfl, XB.out.bel⟩
      · rw [decide_eq_false hF] at LB
        have HL := Lib.hid (show lastB q.pairs ffB = true by rw [HL0.out]; exact less_ff HK.out hF)
        clear hF
        go_quiet (fail)
        clear c0 LB dB0 dB1 dB2
        have XB := Lib.hid (XB.out.reads (below_drewN10 V1 nq))
        have dB0 := XB.out.x.c0; have dB1 := XB.out.x.c1; have dB2 := XB.out.x.c2
        dsimp only at dB0 dB1 dB2
        have KR := Lib.hid (k_right XB.out.x SB.out)
        dsimp only at KR
        go_wp2_with fail
        refine KR.out.mono ?_; rintro e W2 ⟨rfl, b⟩
        have YB := Lib.hid (XB.out.reads b)
        clear b XB
        have XB := YB; clear YB
        clear dB0 dB1 dB2 KR
        rw [Q1.out, HL.out]
        have dB0 := XB.out.x.c0; have dB1 := XB.out.x.c1; have dB2 := XB.out.x.c2
        have zB2 := XB.out.x.fz 2
        dsimp only at dB0 dB1 dB2
        go_upto_region 10 with fail
        clear dB0 dB1 dB2 zB2
        have XC := Lib.hid (show InA w (W2.setCell ⟨BB, 2, none⟩ (.int .i64 (nx % 1025))) BB (some ⟨g, off, none⟩) Cq ⟨q.pairs, ffB, nx % 1025⟩ from XB.out.setNext (nx % 1025))
        clear XB SB
        have HNX := Lib.hid (show 0 ≤ nx % 1025 ∧ nx % 1025 ≤ 1024 from by omega)
        generalize W2.setCell ⟨BB, 2, none⟩ (.int .i64 (nx % 1025)) = V2 at *
        generalize nx % 1025 = NX at *
        go_upto_region 11 with fail
        have HSS := Lib.hid (show (hi.extract 0 n1).size ≤ 16 by rw [HP4.out]; exact cutT_size 16 hi)
        clear HP4
        generalize hi.extract 0 n1 = S at *
        clear p1 p2 p3
        have dC1 := XC.out.x.c1; have zC1 := XC.out.x.fz 1
        dsimp only at dC1
        go_upto_region 12 with fail
        clear dC1 zC1
        have XD := Lib.hid (show InA w (V2.setCell ⟨BB, 1, none⟩ (.string S)) BB (some ⟨g, off, none⟩) Cq ⟨q.pairs, S, NX⟩ from XC.out.setHigh S)
        have SD := Lib.hid (show Short ⟨q.pairs, S, NX⟩ from ⟨SQ.out.sm, SQ.out.len, SQ.out.wt, by have := HSS.out; show S.size ≤ 40; omega⟩)
        have QD := Lib.hid (show rightL ⟨q.pairs, S, NX⟩ = (decide (S = noB) || lastB q.pairs S) from high_any HR.out S HSS.out NX HNX.out.1 HNX.out.2)
        clear XC
        generalize V2.setCell ⟨BB, 1, none⟩ (.string S) = V3 at *
        have XS := empty10 S
        have dD0 := XD.out.x.c0; have dD1 := XD.out.x.c1; have dD2 := XD.out.x.c2
        dsimp only at dD0 dD1 dD2
        have KR := Lib.hid (k_right XD.out.x SD.out)
        rw [QD.out] at KR
        dsimp only at KR
        rw [lastB_at (by have := HM.out; omega) HP0.out] at KR
        have LS := lss10 p.1 S
        obtain ⟨_, _, hpe, c0, _⟩ := XD.out.x.pr.at' m p (by have := HP0.out; rw [← HM.out]; exact this)
        cases hpe
        by_cases hS : S = noB
        · rw [decide_eq_true hS] at XS KR
          clear hS
          go_wp2_with fail
          refine KR.out.mono ?_; rintro e W5 ⟨rfl, b⟩
          have XD := Lib.hid (XD.out.reads b)
          clear b dD0 dD1 dD2
          go_wp2_with fail
          refine (CF.out _).mono ?_; rintro e W6 ⟨rfl, b⟩
          have XD := Lib.hid (XD.out.reads b)
          clear b
          go_wp2_with fail
          go_ret
          exact ⟨rfl, XD.out.bel⟩
        · rw [decide_eq_false hS] at XS KR
          clear hS
          generalize lessB p.1 S = lb at *
          go_wp2_with fail
          refine KR.out.mono ?_; rintro e W5 ⟨rfl, b⟩
          have XD := Lib.hid (XD.out.reads b)
          clear b dD0 dD1 dD2
          go_wp2_with fail
          refine (CF.out _).mono ?_; rintro e W6 ⟨rfl, b⟩
          have XD := Lib.hid (XD.out.reads b)
          clear b
          go_wp2_with fail
          go_ret
          exact ⟨rfl, XD.out.bel⟩
end Go.Proofs.Ytajbnfobmnibjaa
