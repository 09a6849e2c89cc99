/-
  LeafSize, walked.
-/
import Derived.Test.YtajbnfobmnibjaaH10
import Derived.Deep.RegionHeld3
namespace Go.Proofs.Ytajbnfobmnibjaa
open Go.RowKit

set_option maxRecDepth 100000 in
set_option maxHeartbeats 8000000 in
theorem walk_LeafSize (l : LfP) (a : Option Addr) (C : Nat) (pk pv : ByteArray) (_wk : pk.size ≤ maxLen) (_wv : pv.size ≤ maxLen) (w : World) (hA : ArgLeaf w a l) :
    Calls Try.prog 8 #[lfV a C l, .agg #[.string pk, .string pv]] w fun e w' => e = .returned (.bool true) ∧ Below w.heap.size w w' := by
  obtain ⟨n1, p1, p2, p3, p4⟩ := cutT_at pk 16 16 rfl
  obtain ⟨n2, q1, q2, q3, q4⟩ := cutT_at pv 32 32 rfl
  have HK := Lib.hid (show (pk.extract 0 n1).size ≤ 16 by rw [p4]; exact cutT_size 16 pk)
  have HV := Lib.hid (show (pv.extract 0 n2).size ≤ 32 by rw [q4]; exact cutT_size 32 pv)
  clear p4 q4
  have CF := Lib.hid (fun W => fixed10 W)
  have NA := At.new w #[.slice a l.pairs.length C, .string l.high, .int .i64 l.next] 24
  have b := (Below.refl w.heap.size w).alloc (Nat.le_refl _) (.cells #[.slice a l.pairs.length C, .string l.high, .int .i64 l.next] 24)
  have HB := b
  have NP := At.new (w.alloc (.cells #[.slice a l.pairs.length C, .string l.high, .int .i64 l.next] 24)) #[.string pk, .string pv] 44
  rw [show (w.alloc (.cells #[.slice a l.pairs.length C, .string l.high, .int .i64 l.next] 24)).heap.size = w.heap.size + 1 by simp] at NP
  have b := (Below.refl (w.alloc (.cells #[.slice a l.pairs.length C, .string l.high, .int .i64 l.next] 24)).heap.size (w.alloc (.cells #[.slice a l.pairs.length C, .string l.high, .int .i64 l.next] 24))).alloc (Nat.le_refl _) (.cells #[.string pk, .string pv] 44)
  have NA := NA.reads b
  have HB := HB.trans (b.mono HB.size)
  have hA := Lib.hid (hA.below HB)
  have SA := Lib.hid (cut_short l)
  have CCA := Lib.hid (fun W => cut10 a C l W)
  generalize cutLf l = q at *
  have NA := Lib.hid NA
  have NP := Lib.hid NP
  have HB := Lib.hid HB
  clear b
  unfold lfV at *
  go_enter Try.func8, Try.ntmps8
  go_upto_region 1 with fail
  generalize ((w.alloc (.cells #[.slice a l.pairs.length C, .string l.high, .int .i64 l.next] 24)).alloc (.cells #[.string pk, .string pv] 44)) = W0 at *
  have d0 := NA.out.cell 0; have d1 := NA.out.cell 1; have d2 := NA.out.cell 2
  simp only [List.getElem?_toArray, List.getElem?_cons_zero, List.getElem?_cons_succ] at d0 d1 d2
  go_wp2_with fail
  refine (CCA.out _ hA.out).mono ?_; rintro e Wc1 ⟨aA, CA, rfl, hP, b⟩
  have Xc := NA.out.reads b
  have hBc := HB.out.trans (b.mono HB.out.size)
  have XA := Lib.hid (InA.put Xc hP hBc (by omega : w.heap.size ≤ w.heap.size))
  have NP := Lib.hid ((NP.out.reads b).far3 (B' := w.heap.size) (by omega) (.slice aA q.pairs.length CA) (.string q.high) (.int .i64 q.next))
  have HB := Lib.hid (below_put3 (u := .slice aA q.pairs.length CA) (v := .string q.high) (t := .int .i64 q.next) hBc (by omega : w.heap.size ≤ w.heap.size))
  clear d0 d1 d2 NA CCA hA b hP hBc
  have d0 := Xc.cell 0; have d1 := Xc.cell 1; have d2 := Xc.cell 2; have z0 := Xc.fz 0; have z1 := Xc.fz 1; have z2 := Xc.fz 2
  simp only [List.getElem?_toArray, List.getElem?_cons_zero, List.getElem?_cons_succ] at d0 d1 d2
  clear Xc
  go_upto_region 2 with fail
  clear d0 d1 d2 z0 z1 z2
  generalize (((Wc1.setCell ⟨w.heap.size, 0, none⟩ (.slice aA q.pairs.length CA)).setCell ⟨w.heap.size, 1, none⟩ (.string q.high)).setCell ⟨w.heap.size, 2, none⟩ (.int .i64 q.next)) = V01 at *
  clear HB
  have d0 := NP.out.cell 0; have d1 := NP.out.cell 1
  simp only [List.getElem?_toArray, List.getElem?_cons_zero, List.getElem?_cons_succ] at d0 d1
  go_region
  all_goals
    clear d0 d1 NP p1 p2 p3 q1 q2 q3
    have XA := Lib.hid (XA.out.reads (show Below V01.heap.size V01 V01.drew from (Below.refl _ V01).drew))
    generalize V01.drew = V1 at *
    generalize pk.extract 0 n1 = k at *
    generalize pv.extract 0 n2 = v at *
    obtain ⟨BB, hBB⟩ : ∃ BB, w.heap.size = BB := ⟨_, rfl⟩
    rw [hBB] at XA ⊢
    have dA0 := XA.out.x.c0; have dA1 := XA.out.x.c1; have dA2 := XA.out.x.c2
    go_wp2_with fail
    refine (k_right XA.out.x SA.out).mono ?_; rintro e W1 ⟨rfl, b⟩
    clear dA0 dA1 dA2
    have YA := Lib.hid (XA.out.reads b)
    clear b XA
    have XA := YA; clear YA
    cases hR : rightL q with
    | false =>
      have hE := (putL_no (l := q) (k := k) (v := v) (by unfold putOk; rw [hR]; rfl)).2
      have KP := Lib.hid (fun W (h : Bx W BB aA CA q) => k_put h SA.out k v (by have := HK.out; omega) (by have := HV.out; omega))
      rw [hE] at KP
      generalize putL q k v = m at *
      clear hR hE
      have dA0 := XA.out.x.c0; have dA1 := XA.out.x.c1; have dA2 := XA.out.x.c2
      go_wp2_with fail
      refine (KP.out _ XA.out.x).mono ?_; rintro e W2 ⟨aM, CM, rfl, hM, b⟩
      clear dA0 dA1 dA2
      have YA := Lib.hid (XA.out.reads b)
      clear b XA
      have XA := YA; clear YA
      have hge := XA.out.bel.size
      have ZM := Bx.new hM
      have b := (Below.refl W2.heap.size W2).alloc (Nat.le_refl _) (.cells #[.slice aM m.pairs.length CM, .string m.high, .int .i64 m.next] 24)
      have YA := Lib.hid (XA.out.reads b)
      clear b XA
      have XA := YA; clear YA
      have XM := Lib.hid (show InA w _ W2.heap.size aM CM m from ⟨ZM, XA.out.bel, by omega⟩)
      clear hge ZM hM
      go_upto_region 5 with fail
      generalize (W2.alloc (.cells #[.slice aM m.pairs.length CM, .string m.high, .int .i64 m.next] 24)) = V2 at *
      clear XM
      go_wp2_with fail
      refine (CF.out _).mono ?_; rintro e W9 ⟨rfl, b⟩
      have XA := Lib.hid (XA.out.reads b)
      clear b
      go_wp2_with fail
      go_ret
      exact ⟨rfl, XA.out.bel⟩
    | true =>
      have HR := Lib.hid hR
      clear hR
      have KG := Lib.hid (fun W (h : Bx W BB aA CA q) => k_get h SA.out k)
      have KP := Lib.hid (fun W (h : Bx W BB aA CA q) => k_put h SA.out k v (by have := HK.out; omega) (by have := HV.out; omega))
      have KD := Lib.hid (fun W B a C (r : LfP) (h : Bx W B a C r) (s : Short r) => k_del h s k)
      have KZ := Lib.hid (fun W B a C (r : LfP) (h : Bx W B a C r) (s : Short r) => k_size h s)
      obtain ⟨EP, hEP⟩ : ∃ x, putE q k v = x := ⟨_, rfl⟩
      obtain ⟨EG, hEG⟩ : ∃ x, getE q k = x := ⟨_, rfl⟩
      obtain ⟨TG, hTG⟩ : ∃ x, getT q k = x := ⟨_, rfl⟩
      obtain ⟨m, hm⟩ : ∃ x, putL q k v = x := ⟨_, rfl⟩
      rw [hm, hEP] at KP
      rw [hTG, hEG] at KG
      have HEP := Lib.hid hEP; have HEG := Lib.hid hEG; have HM := Lib.hid hm
      clear hEP hEG hTG hm
      have dA0 := XA.out.x.c0; have dA1 := XA.out.x.c1; have dA2 := XA.out.x.c2
      go_wp2_with fail
      refine (KG.out _ XA.out.x).mono ?_; rintro e W2 ⟨rfl, b⟩
      clear dA0 dA1 dA2
      have YA := Lib.hid (XA.out.reads b)
      clear b XA
      have XA := YA; clear YA
      have dA0 := XA.out.x.c0; have dA1 := XA.out.x.c1; have dA2 := XA.out.x.c2
      go_wp2_with fail
      refine (KP.out _ XA.out.x).mono ?_; rintro e W3 ⟨aM, CM, rfl, hM, b⟩
      clear dA0 dA1 dA2
      have YA := Lib.hid (XA.out.reads b)
      clear b XA
      have XA := YA; clear YA
      have hge := XA.out.bel.size
      have ZM := Bx.new hM
      have b := (Below.refl W3.heap.size W3).alloc (Nat.le_refl _) (.cells #[.slice aM m.pairs.length CM, .string m.high, .int .i64 m.next] 24)
      have YA := Lib.hid (XA.out.reads b)
      clear b XA
      have XA := YA; clear YA
      have XM := Lib.hid (show InA w _ W3.heap.size aM CM m from ⟨ZM, XA.out.bel, by omega⟩)
      clear hge ZM hM
      go_upto_region 8 with fail
      generalize (W3.alloc (.cells #[.slice aM m.pairs.length CM, .string m.high, .int .i64 m.next] 24)) = V3 at *
      by_cases hE : EP = 0
      · subst hE
        cases hN : hasN q.pairs k with
        | true =>
          obtain ⟨u, hu⟩ := hasN_iff.1 hN
          have hEG : EG = 0 := by rw [← HEG.out]; exact getE_some HR.out hu
          subst hEG
          clear hN hu u
          clear XM
          go_upto_region 9 with fail
          have hz1 : ((sizeL q : Nat) : Int) - 5 = ((q.high.size + wgt q.pairs : Nat) : Int) := by unfold sizeL; omega
          have hz2 : ((q.high.size + wgt q.pairs : Nat) : Int) - (q.high.size : Int) = ((wgt q.pairs : Nat) : Int) := by omega
          have hwq := rightL_wgt HR.out
          have hb1 : (sizeL q : Int) ≤ 100000 := by have := SA.out.hi; unfold sizeL; omega
          have hb2 : ((q.high.size + wgt q.pairs : Nat) : Int) ≤ 100000 := by have := SA.out.hi; omega
          have hb3 : ((wgt q.pairs : Nat) : Int) ≤ 231 := by omega
          have hz3 : decide (((wgt q.pairs : Nat) : Int) ≤ 231) = true := by rw [decide_eq_true_iff]; omega
          have hz4 : decide (wgt q.pairs ≤ 231) = true := by rw [decide_eq_true_iff]; omega
          have w1 : IntKind.i64.wrap ((q.high.size + wgt q.pairs : Nat) : Int) = ((q.high.size + wgt q.pairs : Nat) : Int) := by rw [IntKind.wrap_i64]; omega
          have w2 : IntKind.i64.wrap ((wgt q.pairs : Nat) : Int) = ((wgt q.pairs : Nat) : Int) := by rw [IntKind.wrap_i64]; omega
          clear hwq
          have KS := Lib.hid (fun W (h : InA w W BB aA CA q) => k_size h.x SA.out)
          generalize q.high.size + wgt q.pairs = y1 at *
          generalize wgt q.pairs = y2 at *
          generalize sizeL q = y0 at *
          have DA0 := Lib.hid (XA.out.reads (show Below V3.heap.size V3 V3.drew from (Below.refl _ V3).drew))
          have K0 := Lib.hid (show (fun W => W.cell? ⟨BB, 0, none⟩ = some (.slice aA q.pairs.length CA) ∧ W.cell? ⟨BB, 1, none⟩ = some (.string q.high) ∧ W.cell? ⟨BB, 2, none⟩ = some (.int .i64 q.next)) V3.drew from ⟨DA0.out.x.c0, DA0.out.x.c1, DA0.out.x.c2⟩)
          clear XA
          go_region_held3 (fun W => W.cell? ⟨BB, 0, none⟩ = some (.slice aA q.pairs.length CA) ∧ W.cell? ⟨BB, 1, none⟩ = some (.string q.high) ∧ W.cell? ⟨BB, 2, none⟩ = some (.int .i64 q.next)) (first | exact K0.out | exact K1.out | exact K2.out)
            (first
              | (go_at_call 16; ((with_reducible refine (KS.out _ DA0.out).mono ?_); rintro e v1 ⟨rfl, b⟩; have DA1 := Lib.hid (DA0.out.reads b); have K1 := Lib.hid (show (fun W => W.cell? ⟨BB, 0, none⟩ = some (.slice aA q.pairs.length CA) ∧ W.cell? ⟨BB, 1, none⟩ = some (.string q.high) ∧ W.cell? ⟨BB, 2, none⟩ = some (.int .i64 q.next)) v1 from ⟨DA1.out.x.c0, DA1.out.x.c1, DA1.out.x.c2⟩); clear b))
              | (go_at_call 22; ((with_reducible refine (CF.out v1).mono ?_); rintro e v2 ⟨rfl, b⟩; have DA2 := Lib.hid (DA1.out.reads b); have K2 := Lib.hid (show (fun W => W.cell? ⟨BB, 0, none⟩ = some (.slice aA q.pairs.length CA) ∧ W.cell? ⟨BB, 1, none⟩ = some (.string q.high) ∧ W.cell? ⟨BB, 2, none⟩ = some (.int .i64 q.next)) v2 from ⟨DA2.out.x.c0, DA2.out.x.c1, DA2.out.x.c2⟩); clear b)))
          all_goals
            go_wp2
            go_ret
            exact ⟨rfl, DA2.out.bel⟩
        | false =>
          have hEG : EG = 7 := by rw [← HEG.out]; exact getE_none HR.out hN
          subst hEG
          have HN := Lib.hid hN
          clear hN
          have hpo : putOk q k v = true := by
            cases h : putOk q k v with
            | true => rfl
            | false => have := (putL_no h).2; rw [HEP.out] at this; cases this
          have hwp : wgt (putPl q.pairs k v) ≤ 231 := by
            rcases Nat.lt_or_ge 231 (wgt (putPl q.pairs k v)) with h | h
            · have := (putL_full hpo (by omega)).2; rw [HEP.out] at this; cases this
            · exact h
          obtain ⟨hm1, _, hm3⟩ := putL_yes hpo hwp
          rw [HM.out] at hm1 hm3
          have hwn := wgt_put_no (v := v) HN.out
          have hrm := rightL_rise hm3
          have hdl : delL m k = q ∧ delE m k = 0 := by
            have hh : hasN m.pairs k = true := by rw [hm1]; exact hasN_iff.2 ⟨v, putPl_at⟩
            have h1 := delL_yes hm3 hh
            refine ⟨?_, h1.2.1⟩
            have h2 := delPl_is hrm hh
            rw [h1.1, ← h2, hm1]
            simp only
            rw [del_put HN.out]
          have hsz : sizeL m = sizeL q + 2 + k.size + v.size := by
            have hpn : pairN (k, v) = 2 + k.size + v.size := rfl
            rw [hm1]; unfold sizeL; simp only; rw [hwn]; omega
          have SM := Lib.hid (right_short hm3)
          have hmw : sizeL m = 5 + m.high.size + wgt m.pairs := rfl
          have hmx : wgt m.pairs ≤ 231 := rightL_wgt hm3
          have KD1 := Lib.hid (fun W (h : InA w W W3.heap.size aM CM m) => KD.out W _ _ _ _ h.x SM.out)
          rw [hdl.1, hdl.2] at KD1
          clear hm1 hm3 hrm hdl hpo hwp hwn HEP HEG HM KD
          have dM0 := XM.out.x.c0; have dM1 := XM.out.x.c1; have dM2 := XM.out.x.c2
          go_wp2_with fail
          refine (KD1.out _ XM.out).mono ?_; rintro e W4 ⟨aR, CR, rfl, hR, b⟩
          clear dM0 dM1 dM2
          have YA := Lib.hid (XA.out.reads b)
          have YM := Lib.hid (XM.out.reads b)
          clear b XA XM
          have XA := YA; clear YA
          have XM := YM; clear YM
          have hge := XA.out.bel.size
          have ZR := Bx.new hR
          have b := (Below.refl W4.heap.size W4).alloc (Nat.le_refl _) (.cells #[.slice aR q.pairs.length CR, .string q.high, .int .i64 q.next] 24)
          have YA := Lib.hid (XA.out.reads b)
          have YM := Lib.hid (XM.out.reads b)
          clear b XA XM
          have XA := YA; clear YA
          have XM := YM; clear YM
          have XR := Lib.hid (show InA w _ W4.heap.size aR CR q from ⟨ZR, XA.out.bel, by omega⟩)
          clear hge ZR hR
          go_upto_region 11 with fail
          generalize (W4.alloc (.cells #[.slice aR q.pairs.length CR, .string q.high, .int .i64 q.next] 24)) = V4 at *
          obtain ⟨BM, hBM⟩ : ∃ B, W3.heap.size = B := ⟨_, rfl⟩
          rw [hBM] at XM
          obtain ⟨BR, hBR⟩ : ∃ B, W4.heap.size = B := ⟨_, rfl⟩
          rw [hBR] at XR
          rw [hBM, hBR]
          clear hBM hBR KD1
          have KM := Lib.hid (fun W (h : InA w W BM aM CM m) => k_size h.x SM.out)
          have KQ := Lib.hid (fun W (h : InA w W BB aA CA q) => k_size h.x SA.out)
          have KS := Lib.hid (fun W (h : InA w W BR aR CR q) (h2 : InA w W BB aA CA q) => k_same h.x h2.x SA.out SA.out)
          rw [show sameL q q = true by unfold sameL; simp] at KS
          obtain ⟨x0, e0⟩ : ∃ x, sizeL q = x := ⟨_, rfl⟩
          obtain ⟨x3, e3⟩ : ∃ x, sizeL m = x := ⟨_, rfl⟩
          obtain ⟨x1, e1⟩ : ∃ x, x0 + 2 = x := ⟨_, rfl⟩
          obtain ⟨x2, e2⟩ : ∃ x, x1 + k.size = x := ⟨_, rfl⟩
          obtain ⟨y1, f1⟩ : ∃ x, m.high.size + wgt m.pairs = x := ⟨_, rfl⟩
          obtain ⟨y2, f2⟩ : ∃ x, wgt m.pairs = x := ⟨_, rfl⟩
          have hkk := HK.out; have hvv := HV.out; have hsh := SM.out.hi
          have hsq := SA.out.hi
          have hx3 : x3 ≤ 1000 := by have := SM.out.wt; omega
          have u1 : ((x0 : Nat) : Int) + 2 = ((x1 : Nat) : Int) := by omega
          have u2 : ((x1 : Nat) : Int) + (k.size : Int) = ((x2 : Nat) : Int) := by omega
          have u3 : ((x2 : Nat) : Int) + (v.size : Int) = ((x3 : Nat) : Int) := by omega
          have u4 : ((x3 : Nat) : Int) - 5 = ((y1 : Nat) : Int) := by omega
          have u5 : ((y1 : Nat) : Int) - (m.high.size : Int) = ((y2 : Nat) : Int) := by omega
          have v1 : IntKind.i64.wrap ((x1 : Nat) : Int) = ((x1 : Nat) : Int) := by rw [IntKind.wrap_i64]; omega
          have v2 : IntKind.i64.wrap ((x2 : Nat) : Int) = ((x2 : Nat) : Int) := by rw [IntKind.wrap_i64]; omega
          have v3 : IntKind.i64.wrap ((x3 : Nat) : Int) = ((x3 : Nat) : Int) := by rw [IntKind.wrap_i64]; omega
          have v4 : IntKind.i64.wrap ((y1 : Nat) : Int) = ((y1 : Nat) : Int) := by rw [IntKind.wrap_i64]; omega
          have v5 : IntKind.i64.wrap ((y2 : Nat) : Int) = ((y2 : Nat) : Int) := by rw [IntKind.wrap_i64]; omega
          have v6 : ((y2 : Nat) : Int) ≤ 231 := by omega
          rw [e3] at KM
          rw [e0] at KQ
          clear hkk hvv hsh hsq hx3 hsz hmw hmx f1 f2 e0 e1 e2 e3
          have DA0 := Lib.hid (XA.out.reads (show Below V4.heap.size V4 V4.drew from (Below.refl _ V4).drew))
          have DM0 := Lib.hid (XM.out.reads (show Below V4.heap.size V4 V4.drew from (Below.refl _ V4).drew))
          have DR0 := Lib.hid (XR.out.reads (show Below V4.heap.size V4 V4.drew from (Below.refl _ V4).drew))
          have K0 := Lib.hid (show (fun W => W.cell? ⟨BB, 0, none⟩ = some (.slice aA q.pairs.length CA) ∧ W.cell? ⟨BB, 1, none⟩ = some (.string q.high) ∧ W.cell? ⟨BB, 2, none⟩ = some (.int .i64 q.next) ∧ W.cell? ⟨BM, 0, none⟩ = some (.slice aM m.pairs.length CM) ∧ W.cell? ⟨BM, 1, none⟩ = some (.string m.high) ∧ W.cell? ⟨BM, 2, none⟩ = some (.int .i64 m.next) ∧ W.cell? ⟨BR, 0, none⟩ = some (.slice aR q.pairs.length CR) ∧ W.cell? ⟨BR, 1, none⟩ = some (.string q.high) ∧ W.cell? ⟨BR, 2, none⟩ = some (.int .i64 q.next)) V4.drew from ⟨DA0.out.x.c0, DA0.out.x.c1, DA0.out.x.c2, DM0.out.x.c0, DM0.out.x.c1, DM0.out.x.c2, DR0.out.x.c0, DR0.out.x.c1, DR0.out.x.c2⟩)
          clear XA XM XR
          go_region_held3 (fun W => W.cell? ⟨BB, 0, none⟩ = some (.slice aA q.pairs.length CA) ∧ W.cell? ⟨BB, 1, none⟩ = some (.string q.high) ∧ W.cell? ⟨BB, 2, none⟩ = some (.int .i64 q.next) ∧ W.cell? ⟨BM, 0, none⟩ = some (.slice aM m.pairs.length CM) ∧ W.cell? ⟨BM, 1, none⟩ = some (.string m.high) ∧ W.cell? ⟨BM, 2, none⟩ = some (.int .i64 m.next) ∧ W.cell? ⟨BR, 0, none⟩ = some (.slice aR q.pairs.length CR) ∧ W.cell? ⟨BR, 1, none⟩ = some (.string q.high) ∧ W.cell? ⟨BR, 2, none⟩ = some (.int .i64 q.next)) (first | exact K0.out | exact K1.out | exact K2.out | exact K3.out | exact K4.out | exact K5.out)
            (first
              | (go_at_call 16; ((with_reducible refine (KM.out _ DM0.out).mono ?_); rintro e v1 ⟨rfl, b⟩; have DA1 := Lib.hid (DA0.out.reads b); have DM1 := Lib.hid (DM0.out.reads b); have DR1 := Lib.hid (DR0.out.reads b); have K1 := Lib.hid (show (fun W => W.cell? ⟨BB, 0, none⟩ = some (.slice aA q.pairs.length CA) ∧ W.cell? ⟨BB, 1, none⟩ = some (.string q.high) ∧ W.cell? ⟨BB, 2, none⟩ = some (.int .i64 q.next) ∧ W.cell? ⟨BM, 0, none⟩ = some (.slice aM m.pairs.length CM) ∧ W.cell? ⟨BM, 1, none⟩ = some (.string m.high) ∧ W.cell? ⟨BM, 2, none⟩ = some (.int .i64 m.next) ∧ W.cell? ⟨BR, 0, none⟩ = some (.slice aR q.pairs.length CR) ∧ W.cell? ⟨BR, 1, none⟩ = some (.string q.high) ∧ W.cell? ⟨BR, 2, none⟩ = some (.int .i64 q.next)) v1 from ⟨DA1.out.x.c0, DA1.out.x.c1, DA1.out.x.c2, DM1.out.x.c0, DM1.out.x.c1, DM1.out.x.c2, DR1.out.x.c0, DR1.out.x.c1, DR1.out.x.c2⟩); clear b))
              | (go_at_call 16; ((with_reducible refine (KQ.out _ DA1.out).mono ?_); rintro e v2 ⟨rfl, b⟩; have DA2 := Lib.hid (DA1.out.reads b); have DM2 := Lib.hid (DM1.out.reads b); have DR2 := Lib.hid (DR1.out.reads b); have K2 := Lib.hid (show (fun W => W.cell? ⟨BB, 0, none⟩ = some (.slice aA q.pairs.length CA) ∧ W.cell? ⟨BB, 1, none⟩ = some (.string q.high) ∧ W.cell? ⟨BB, 2, none⟩ = some (.int .i64 q.next) ∧ W.cell? ⟨BM, 0, none⟩ = some (.slice aM m.pairs.length CM) ∧ W.cell? ⟨BM, 1, none⟩ = some (.string m.high) ∧ W.cell? ⟨BM, 2, none⟩ = some (.int .i64 m.next) ∧ W.cell? ⟨BR, 0, none⟩ = some (.slice aR q.pairs.length CR) ∧ W.cell? ⟨BR, 1, none⟩ = some (.string q.high) ∧ W.cell? ⟨BR, 2, none⟩ = some (.int .i64 q.next)) v2 from ⟨DA2.out.x.c0, DA2.out.x.c1, DA2.out.x.c2, DM2.out.x.c0, DM2.out.x.c1, DM2.out.x.c2, DR2.out.x.c0, DR2.out.x.c1, DR2.out.x.c2⟩); clear b))
              | (go_at_call 16; ((with_reducible refine (KM.out _ DM2.out).mono ?_); rintro e v3 ⟨rfl, b⟩; have DA3 := Lib.hid (DA2.out.reads b); have DM3 := Lib.hid (DM2.out.reads b); have DR3 := Lib.hid (DR2.out.reads b); have K3 := Lib.hid (show (fun W => W.cell? ⟨BB, 0, none⟩ = some (.slice aA q.pairs.length CA) ∧ W.cell? ⟨BB, 1, none⟩ = some (.string q.high) ∧ W.cell? ⟨BB, 2, none⟩ = some (.int .i64 q.next) ∧ W.cell? ⟨BM, 0, none⟩ = some (.slice aM m.pairs.length CM) ∧ W.cell? ⟨BM, 1, none⟩ = some (.string m.high) ∧ W.cell? ⟨BM, 2, none⟩ = some (.int .i64 m.next) ∧ W.cell? ⟨BR, 0, none⟩ = some (.slice aR q.pairs.length CR) ∧ W.cell? ⟨BR, 1, none⟩ = some (.string q.high) ∧ W.cell? ⟨BR, 2, none⟩ = some (.int .i64 q.next)) v3 from ⟨DA3.out.x.c0, DA3.out.x.c1, DA3.out.x.c2, DM3.out.x.c0, DM3.out.x.c1, DM3.out.x.c2, DR3.out.x.c0, DR3.out.x.c1, DR3.out.x.c2⟩); clear b))
              | (go_at_call 20; ((with_reducible refine (KS.out _ DR3.out DA3.out).mono ?_); rintro e v4 ⟨rfl, b⟩; have DA4 := Lib.hid (DA3.out.reads b); have DM4 := Lib.hid (DM3.out.reads b); have DR4 := Lib.hid (DR3.out.reads b); have K4 := Lib.hid (show (fun W => W.cell? ⟨BB, 0, none⟩ = some (.slice aA q.pairs.length CA) ∧ W.cell? ⟨BB, 1, none⟩ = some (.string q.high) ∧ W.cell? ⟨BB, 2, none⟩ = some (.int .i64 q.next) ∧ W.cell? ⟨BM, 0, none⟩ = some (.slice aM m.pairs.length CM) ∧ W.cell? ⟨BM, 1, none⟩ = some (.string m.high) ∧ W.cell? ⟨BM, 2, none⟩ = some (.int .i64 m.next) ∧ W.cell? ⟨BR, 0, none⟩ = some (.slice aR q.pairs.length CR) ∧ W.cell? ⟨BR, 1, none⟩ = some (.string q.high) ∧ W.cell? ⟨BR, 2, none⟩ = some (.int .i64 q.next)) v4 from ⟨DA4.out.x.c0, DA4.out.x.c1, DA4.out.x.c2, DM4.out.x.c0, DM4.out.x.c1, DM4.out.x.c2, DR4.out.x.c0, DR4.out.x.c1, DR4.out.x.c2⟩); clear b))
              | (go_at_call 22; ((with_reducible refine (CF.out v4).mono ?_); rintro e v5 ⟨rfl, b⟩; have DA5 := Lib.hid (DA4.out.reads b); have DM5 := Lib.hid (DM4.out.reads b); have DR5 := Lib.hid (DR4.out.reads b); have K5 := Lib.hid (show (fun W => W.cell? ⟨BB, 0, none⟩ = some (.slice aA q.pairs.length CA) ∧ W.cell? ⟨BB, 1, none⟩ = some (.string q.high) ∧ W.cell? ⟨BB, 2, none⟩ = some (.int .i64 q.next) ∧ W.cell? ⟨BM, 0, none⟩ = some (.slice aM m.pairs.length CM) ∧ W.cell? ⟨BM, 1, none⟩ = some (.string m.high) ∧ W.cell? ⟨BM, 2, none⟩ = some (.int .i64 m.next) ∧ W.cell? ⟨BR, 0, none⟩ = some (.slice aR q.pairs.length CR) ∧ W.cell? ⟨BR, 1, none⟩ = some (.string q.high) ∧ W.cell? ⟨BR, 2, none⟩ = some (.int .i64 q.next)) v5 from ⟨DA5.out.x.c0, DA5.out.x.c1, DA5.out.x.c2, DM5.out.x.c0, DM5.out.x.c1, DM5.out.x.c2, DR5.out.x.c0, DR5.out.x.c1, DR5.out.x.c2⟩); clear b)))
          all_goals
            go_wp2
            go_ret
            exact ⟨rfl, DA5.out.bel⟩
      · have hE1 : (EP == 0) = false := beq_eq_false_iff_ne.2 hE
        have hE2 : (EP != 0) = true := bne_iff_ne.2 hE
        clear hE
        clear XM
        go_upto_region 9 with fail
        have hz1 : ((sizeL q : Nat) : Int) - 5 = ((q.high.size + wgt q.pairs : Nat) : Int) := by unfold sizeL; omega
        have hz2 : ((q.high.size + wgt q.pairs : Nat) : Int) - (q.high.size : Int) = ((wgt q.pairs : Nat) : Int) := by omega
        have hwq := rightL_wgt HR.out
        have hb1 : (sizeL q : Int) ≤ 100000 := by have := SA.out.hi; unfold sizeL; omega
        have hb2 : ((q.high.size + wgt q.pairs : Nat) : Int) ≤ 100000 := by have := SA.out.hi; omega
        have hb3 : ((wgt q.pairs : Nat) : Int) ≤ 231 := by omega
        have hz3 : decide (((wgt q.pairs : Nat) : Int) ≤ 231) = true := by rw [decide_eq_true_iff]; omega
        have hz4 : decide (wgt q.pairs ≤ 231) = true := by rw [decide_eq_true_iff]; omega
        have w1 : IntKind.i64.wrap ((q.high.size + wgt q.pairs : Nat) : Int) = ((q.high.size + wgt q.pairs : Nat) : Int) := by rw [IntKind.wrap_i64]; omega
        have w2 : IntKind.i64.wrap ((wgt q.pairs : Nat) : Int) = ((wgt q.pairs : Nat) : Int) := by rw [IntKind.wrap_i64]; omega
        clear hwq
        have KS := Lib.hid (fun W (h : InA w W BB aA CA q) => k_size h.x SA.out)
        generalize q.high.size + wgt q.pairs = y1 at *
        generalize wgt q.pairs = y2 at *
        generalize sizeL q = y0 at *
        have DA0 := Lib.hid (XA.out.reads (show Below V3.heap.size V3 V3.drew from (Below.refl _ V3).drew))
        have K0 := Lib.hid (show (fun W => W.cell? ⟨BB, 0, none⟩ = some (.slice aA q.pairs.length CA) ∧ W.cell? ⟨BB, 1, none⟩ = some (.string q.high) ∧ W.cell? ⟨BB, 2, none⟩ = some (.int .i64 q.next)) V3.drew from ⟨DA0.out.x.c0, DA0.out.x.c1, DA0.out.x.c2⟩)
        clear XA
        go_region_held3 (fun W => W.cell? ⟨BB, 0, none⟩ = some (.slice aA q.pairs.length CA) ∧ W.cell? ⟨BB, 1, none⟩ = some (.string q.high) ∧ W.cell? ⟨BB, 2, none⟩ = some (.int .i64 q.next)) (first | exact K0.out | exact K1.out | exact K2.out)
          (first
            | (go_at_call 16; ((with_reducible refine (KS.out _ DA0.out).mono ?_); rintro e v1 ⟨rfl, b⟩; have DA1 := Lib.hid (DA0.out.reads b); have K1 := Lib.hid (show (fun W => W.cell? ⟨BB, 0, none⟩ = some (.slice aA q.pairs.length CA) ∧ W.cell? ⟨BB, 1, none⟩ = some (.string q.high) ∧ W.cell? ⟨BB, 2, none⟩ = some (.int .i64 q.next)) v1 from ⟨DA1.out.x.c0, DA1.out.x.c1, DA1.out.x.c2⟩); clear b))
            | (go_at_call 22; ((with_reducible refine (CF.out v1).mono ?_); rintro e v2 ⟨rfl, b⟩; have DA2 := Lib.hid (DA1.out.reads b); have K2 := Lib.hid (show (fun W => W.cell? ⟨BB, 0, none⟩ = some (.slice aA q.pairs.length CA) ∧ W.cell? ⟨BB, 1, none⟩ = some (.string q.high) ∧ W.cell? ⟨BB, 2, none⟩ = some (.int .i64 q.next)) v2 from ⟨DA2.out.x.c0, DA2.out.x.c1, DA2.out.x.c2⟩); clear b)))
        all_goals
          go_wp2
          go_ret
          exact ⟨rfl, DA2.out.bel⟩
end Go.Proofs.Ytajbnfobmnibjaa
