/-
  LeafBack, walked.
-/
import Derived.Test.YtajbnfobmnibjaaH10
import Derived.Test.YtajbnfobmnibjaaW7
namespace Go.Proofs.Ytajbnfobmnibjaa
open Go.RowKit

theorem same_self (q : LfP) : sameL q q = true := by unfold sameL; simp
/-- a leaf's bytes, padded, are that leaf -/
theorem back_pad {q : LfP} (h : rightL q = true) (k : Nat) (hk : sizeL q + k ≤ 252) : decL ((encT q).data.toList ++ List.replicate k 0) = q ∧ decE ((encT q).data.toList ++ List.replicate k 0) = 0 := by
  rw [encT_yes h]
  exact decL_some (decR_put h k hk)
theorem back_own {q : LfP} (h : rightL q = true) : decL (encT q).data.toList = q ∧ decE (encT q).data.toList = 0 := by
  have := back_pad h 0 (by have := sizeL_le h; omega)
  rwa [List.replicate_zero, List.append_nil] at this
theorem encT_size {q : LfP} (h : rightL q = true) : (encT q).size = sizeL q := by rw [encT_yes h, baL10_size, encLf_len]
/-- what is decoded, encoded, padded -/
theorem back_got {S : ByteArray} {x : LfP} (h : decR S.data.toList = some x) (W : World) : (encT x).size ≤ S.size ∧ Calls Try.prog 33 #[.string (encT x), .int .i64 (S.size : Int)] W fun e w' => e = .returned (.tuple #[.string S, .int .i64 0]) ∧ Below W.heap.size W w' := by
  obtain ⟨h1, h2, h3, h4⟩ := decR_got h
  rw [← Lib.size_eq] at h2 h3 h4
  have hz := encT_size h1
  refine ⟨by omega, ?_⟩
  have C := rpad_ok (encT x) (S.size : Int) W (by omega) (by omega)
  have e : (⟨((encT x).data.toList ++ List.replicate ((S.size : Int).toNat - (encT x).size) 0).toArray⟩ : ByteArray) = S := by
    apply ba_ext
    rw [hz, Int.toNat_natCast]
    conv => rhs; rw [h2]
    rw [encT_yes h1]; rfl
  rw [e] at C
  exact C
set_option maxRecDepth 100000 in
set_option maxHeartbeats 8000000 in
theorem walk_LeafBack (l : LfP) (a : Option Addr) (C : Nat) (s : ByteArray) (_hs : s.size ≤ maxLen) (w : World) (hA : ArgLeaf w a l) :
    Calls Try.prog 5 #[lfV a C l, .string s] w fun e w' => e = .returned (.bool true) ∧ Below w.heap.size w w' := by
  unfold maxLen at _hs
  obtain ⟨n1, p1, p2, p3, p4⟩ := cutT_at s 252 252 rfl
  have HS := Lib.hid (show (s.extract 0 n1).size ≤ 252 by rw [p4]; exact cutT_size 252 s)
  clear p4
  have CF := Lib.hid (fun W => fixed10 W)
  have he1 : (⟨#[]⟩ : ByteArray).toList = [] := by rw [Lib.toList_data]
  have NA := At.new w #[.slice a l.pairs.length C, .string l.high, .int .i64 l.next] 24
  have b := (Below.refl w.heap.size w).alloc (Nat.le_refl _) (.cells #[.slice a l.pairs.length C, .string l.high, .int .i64 l.next] 24)
  have HB := b
  have hA := Lib.hid (hA.below HB)
  have SA := Lib.hid (cut_short l)
  have CCA := Lib.hid (fun W => cut10 a C l W)
  generalize cutLf l = q at *
  have NA := Lib.hid NA
  have HB := Lib.hid HB
  clear b
  unfold lfV at *
  go_enter Try.func5, Try.ntmps5
  go_upto_region 1 with fail
  generalize (w.alloc (.cells #[.slice a l.pairs.length C, .string l.high, .int .i64 l.next] 24)) = W0 at *
  have d0 := NA.out.cell 0; have d1 := NA.out.cell 1; have d2 := NA.out.cell 2
  simp only [List.getElem?_toArray, List.getElem?_cons_zero, List.getElem?_cons_succ] at d0 d1 d2
  go_wp2_with fail
  refine (CCA.out _ hA.out).mono ?_; rintro e Wc1 ⟨aA, CA, rfl, hP, b⟩
  have Xc := NA.out.reads b
  have hBc := HB.out.trans (b.mono HB.out.size)
  have XA := Lib.hid (InA.put Xc hP hBc (by omega : w.heap.size ≤ w.heap.size))
  have HB := Lib.hid (below_put3 (u := .slice aA q.pairs.length CA) (v := .string q.high) (t := .int .i64 q.next) hBc (by omega : w.heap.size ≤ w.heap.size))
  clear d0 d1 d2 NA CCA hA b hP hBc
  have d0 := Xc.cell 0; have d1 := Xc.cell 1; have d2 := Xc.cell 2; have z0 := Xc.fz 0; have z1 := Xc.fz 1; have z2 := Xc.fz 2
  simp only [List.getElem?_toArray, List.getElem?_cons_zero, List.getElem?_cons_succ] at d0 d1 d2
  clear Xc
  go_upto_region 2 with fail
  clear d0 d1 d2 z0 z1 z2
  generalize (((Wc1.setCell ⟨w.heap.size, 0, none⟩ (.slice aA q.pairs.length CA)).setCell ⟨w.heap.size, 1, none⟩ (.string q.high)).setCell ⟨w.heap.size, 2, none⟩ (.int .i64 q.next)) = V01 at *
  clear HB
  go_upto_region 3 with fail
  generalize s.extract 0 n1 = S at *
  clear p1 p2 p3
  obtain ⟨BB, hBB⟩ : ∃ BB, w.heap.size = BB := ⟨_, rfl⟩
  rw [hBB] at XA ⊢
  clear hBB
  have KR := Lib.hid (fun W (h : InA w W BB aA CA q) => k_right h.x SA.out)
  have dA0 := XA.out.x.c0; have dA1 := XA.out.x.c1; have dA2 := XA.out.x.c2
  go_wp2_with fail
  refine (k_encode XA.out.x SA.out).mono ?_; rintro e W1 ⟨rfl, b⟩
  clear dA0 dA1 dA2
  have YA := Lib.hid (XA.out.reads b)
  clear b XA
  have XA := YA; clear YA
  have dA0 := XA.out.x.c0; have dA1 := XA.out.x.c1; have dA2 := XA.out.x.c2
  go_wp2_with fail
  refine (KR.out _ XA.out).mono ?_; rintro e W2 ⟨rfl, b⟩
  clear dA0 dA1 dA2
  have YA := Lib.hid (XA.out.reads b)
  clear b XA
  have XA := YA; clear YA
  cases hR : rightL q with
  | false =>
    rw [hR] at KR
    rw [encT_no hR]
    clear hR
    rcases hd : decR S.data.toList with _ | x
    · obtain ⟨e1, e2⟩ := decL_none hd
      have KX := Lib.hid (fun W => k_decode (W := W) S (by have := HS.out; omega))
      rw [e1, e2] at KX
      clear e1 e2 hd
      go_wp2_with fail
      refine (KX.out _).mono ?_; rintro e W3 ⟨aX, CX, rfl, hX, b⟩
      have YA := Lib.hid (XA.out.reads b)
      clear b XA
      have XA := YA; clear YA
      have hge := XA.out.bel.size
      have ZX := Bx.new hX
      have b := (Below.refl W3.heap.size W3).alloc (Nat.le_refl _) (.cells #[.slice aX zeroL.pairs.length CX, .string zeroL.high, .int .i64 zeroL.next] 24)
      have YA := Lib.hid (XA.out.reads b)
      clear b XA
      have XA := YA; clear YA
      have XX := Lib.hid (show InA w _ W3.heap.size aX CX zeroL from ⟨ZX, XA.out.bel, by omega⟩)
      clear hge ZX hX
      go_upto_region 13 with fail
      generalize (W3.alloc (.cells #[.slice aX zeroL.pairs.length CX, .string zeroL.high, .int .i64 zeroL.next] 24)) = V3 at *
      clear XX
      have dA0 := XA.out.x.c0; have dA1 := XA.out.x.c1; have dA2 := XA.out.x.c2
      go_wp2_with fail
      refine (KR.out _ XA.out).mono ?_; rintro e W4 ⟨rfl, b⟩
      clear dA0 dA1 dA2
      have YA := Lib.hid (XA.out.reads b)
      clear b XA
      have XA := YA; clear YA
      go_wp2_with fail
      refine (CF.out _).mono ?_; rintro e W5 ⟨rfl, b⟩
      have YA := Lib.hid (XA.out.reads b)
      clear b XA
      have XA := YA; clear YA
      go_wp2_with fail
      go_ret
      exact ⟨rfl, XA.out.bel⟩
    · obtain ⟨e1, e2⟩ := decL_some hd
      have KX := Lib.hid (fun W => k_decode (W := W) S (by have := HS.out; omega))
      rw [e1, e2] at KX
      have KP := Lib.hid (fun W => back_got hd W)
      have HX := Lib.hid (decR_got hd).1
      have SX := Lib.hid (right_short HX.out)
      clear e1 e2 hd
      go_wp2_with fail
      refine (KX.out _).mono ?_; rintro e W3 ⟨aX, CX, rfl, hX, b⟩
      have YA := Lib.hid (XA.out.reads b)
      clear b XA
      have XA := YA; clear YA
      have hge := XA.out.bel.size
      have ZX := Bx.new hX
      have b := (Below.refl W3.heap.size W3).alloc (Nat.le_refl _) (.cells #[.slice aX x.pairs.length CX, .string x.high, .int .i64 x.next] 24)
      have YA := Lib.hid (XA.out.reads b)
      clear b XA
      have XA := YA; clear YA
      have XX := Lib.hid (show InA w _ W3.heap.size aX CX x from ⟨ZX, XA.out.bel, by omega⟩)
      clear hge ZX hX
      go_upto_region 13 with fail
      generalize (W3.alloc (.cells #[.slice aX x.pairs.length CX, .string x.high, .int .i64 x.next] 24)) = V3 at *
      have dX0 := XX.out.x.c0; have dX1 := XX.out.x.c1; have dX2 := XX.out.x.c2
      go_wp2_with fail
      refine (k_encode XX.out.x SX.out).mono ?_; rintro e W4 ⟨rfl, b⟩
      clear dX0 dX1 dX2
      have YA := Lib.hid (XA.out.reads b)
      have YX := Lib.hid (XX.out.reads b)
      clear b XA XX
      have XA := YA; clear YA
      have XX := YX; clear YX
      go_wp2_with fail
      refine ((KP.out _).2).mono ?_; rintro e W5 ⟨rfl, b⟩
      have YA := Lib.hid (XA.out.reads b)
      have YX := Lib.hid (XX.out.reads b)
      clear b XA XX
      have XA := YA; clear YA
      have XX := YX; clear YX
      have KRX := Lib.hid (fun W B (h : InA w W B aX CX x) => k_right h.x SX.out)
      rw [HX.out] at KRX
      have dX0 := XX.out.x.c0; have dX1 := XX.out.x.c1; have dX2 := XX.out.x.c2
      go_wp2_with fail
      refine (KRX.out _ _ XX.out).mono ?_; rintro e W6 ⟨rfl, b⟩
      clear dX0 dX1 dX2
      have YA := Lib.hid (XA.out.reads b)
      have YX := Lib.hid (XX.out.reads b)
      clear b XA XX
      have XA := YA; clear YA
      have XX := YX; clear YX
      have dA0 := XA.out.x.c0; have dA1 := XA.out.x.c1; have dA2 := XA.out.x.c2
      go_wp2_with fail
      refine (KR.out _ XA.out).mono ?_; rintro e W7 ⟨rfl, b⟩
      clear dA0 dA1 dA2
      have YA := Lib.hid (XA.out.reads b)
      have YX := Lib.hid (XX.out.reads b)
      clear b XA XX
      have XA := YA; clear YA
      have XX := YX; clear YX
      go_wp2_with fail
      refine (CF.out _).mono ?_; rintro e W8 ⟨rfl, b⟩
      have YA := Lib.hid (XA.out.reads b)
      have YX := Lib.hid (XX.out.reads b)
      clear b XA XX
      have XA := YA; clear YA
      have XX := YX; clear YX
      go_wp2_with fail
      go_ret
      exact ⟨rfl, XA.out.bel⟩
  | true =>
    rw [hR] at KR
    have hz := encT_size hR
    have hle := sizeL_le hR
    obtain ⟨e1, e2⟩ := back_own hR
    obtain ⟨e3, e4⟩ := back_pad hR (252 - sizeL q) (by omega)
    have KA := Lib.hid (fun W => k_decode (W := W) (encT q) (by omega))
    rw [e1, e2] at KA
    have CP := fun W => rpad_ok (encT q) 252 W (by omega) (by omega)
    rw [hz, show (252 : Int).toNat = 252 from rfl] at CP
    obtain ⟨Q, hQ⟩ : ∃ Q : ByteArray, Q = ⟨((encT q).data.toList ++ List.replicate (252 - sizeL q) 0).toArray⟩ := ⟨_, rfl⟩
    rw [← hQ] at CP
    have hQs : Q.size ≤ 252 := by rw [hQ, Lib.size_eq]; show ((encT q).data.toList ++ List.replicate (252 - sizeL q) (0 : UInt8)).length ≤ 252; rw [List.length_append, List.length_replicate, ← Lib.size_eq, hz]; omega
    have KB := Lib.hid (fun W => k_decode (W := W) Q (by omega))
    rw [show Q.data.toList = (encT q).data.toList ++ List.replicate (252 - sizeL q) 0 by rw [hQ], e3, e4] at KB
    have KZ := Lib.hid (fun W (h : InA w W BB aA CA q) => k_size h.x SA.out)
    have KS := Lib.hid (fun W B a C (h : InA w W B a C q) (h2 : InA w W BB aA CA q) => k_same h.x h2.x SA.out SA.out)
    rw [same_self] at KS
    have CP := Lib.hid CP
    clear e1 e2 e3 e4 hQ hQs hR
    generalize encT q = P at *
    generalize sizeL q = z at *
    have z1 : ((P.size : Nat) : Int) = (z : Int) := by omega
    have z2 : ¬ (252 : Int) < (z : Int) := by omega
    have z3 : decide ((252 : Int) < (z : Int)) = false := by rw [decide_eq_false_iff_not]; omega
    have z4 : decide (252 < z) = false := by rw [decide_eq_false_iff_not]; omega
    have dA0 := XA.out.x.c0; have dA1 := XA.out.x.c1; have dA2 := XA.out.x.c2
    go_wp2_with fail
    refine (KZ.out _ XA.out).mono ?_; rintro e W3 ⟨rfl, b⟩
    clear dA0 dA1 dA2
    have YA := Lib.hid (XA.out.reads b)
    clear b XA
    have XA := YA; clear YA
    go_wp2_with fail
    refine (CP.out _).mono ?_; rintro e W4 ⟨rfl, b⟩
    have YA := Lib.hid (XA.out.reads b)
    clear b XA
    have XA := YA; clear YA
    clear z1 z2 z3 z4 hz hle
    go_wp2_with fail
    refine (KA.out _).mono ?_; rintro e W5 ⟨aC, CC, rfl, hC, b⟩
    have YA := Lib.hid (XA.out.reads b)
    clear b XA
    have XA := YA; clear YA
    have hge := XA.out.bel.size
    have ZC := Bx.new hC
    have b := (Below.refl W5.heap.size W5).alloc (Nat.le_refl _) (.cells #[.slice aC q.pairs.length CC, .string q.high, .int .i64 q.next] 24)
    have YA := Lib.hid (XA.out.reads b)
    clear b XA
    have XA := YA; clear YA
    have XC := Lib.hid (show InA w _ W5.heap.size aC CC q from ⟨ZC, XA.out.bel, by omega⟩)
    clear hge ZC hC
    go_upto_region 9 with fail
    generalize (W5.alloc (.cells #[.slice aC q.pairs.length CC, .string q.high, .int .i64 q.next] 24)) = V5 at *
    go_wp2_with fail
    refine (KB.out _).mono ?_; rintro e W6 ⟨aD, CD, rfl, hD, b⟩
    have YA := Lib.hid (XA.out.reads b)
    have YC := Lib.hid (XC.out.reads b)
    clear b XA XC
    have XA := YA; clear YA
    have XC := YC; clear YC
    have hge := XA.out.bel.size
    have ZD := Bx.new hD
    have b := (Below.refl W6.heap.size W6).alloc (Nat.le_refl _) (.cells #[.slice aD q.pairs.length CD, .string q.high, .int .i64 q.next] 24)
    have YA := Lib.hid (XA.out.reads b)
    have YC := Lib.hid (XC.out.reads b)
    clear b XA XC
    have XA := YA; clear YA
    have XC := YC; clear YC
    have XD := Lib.hid (show InA w _ W6.heap.size aD CD q from ⟨ZD, XA.out.bel, by omega⟩)
    clear hge ZD hD
    go_upto_region 10 with fail
    generalize (W6.alloc (.cells #[.slice aD q.pairs.length CD, .string q.high, .int .i64 q.next] 24)) = V6 at *
    have dC0 := XC.out.x.c0; have dC1 := XC.out.x.c1; have dC2 := XC.out.x.c2
    have dA0 := XA.out.x.c0; have dA1 := XA.out.x.c1; have dA2 := XA.out.x.c2
    go_wp2_with fail
    refine (KS.out _ _ _ _ XC.out XA.out).mono ?_; rintro e W7 ⟨rfl, b⟩
    clear dC0 dC1 dC2 dA0 dA1 dA2
    have YA := Lib.hid (XA.out.reads b)
    have YC := Lib.hid (XC.out.reads b)
    have YD := Lib.hid (XD.out.reads b)
    clear b XA XC XD
    have XA := YA; clear YA
    have XC := YC; clear YC
    have XD := YD; clear YD
    have dD0 := XD.out.x.c0; have dD1 := XD.out.x.c1; have dD2 := XD.out.x.c2
    have dA0 := XA.out.x.c0; have dA1 := XA.out.x.c1; have dA2 := XA.out.x.c2
    go_wp2_with fail
    refine (KS.out _ _ _ _ XD.out XA.out).mono ?_; rintro e W8 ⟨rfl, b⟩
    clear dD0 dD1 dD2 dA0 dA1 dA2
    have YA := Lib.hid (XA.out.reads b)
    have YC := Lib.hid (XC.out.reads b)
    have YD := Lib.hid (XD.out.reads b)
    clear b XA XC XD
    have XA := YA; clear YA
    have XC := YC; clear YC
    have XD := YD; clear YD
    clear XC XD
    rcases hd : decR S.data.toList with _ | x
    · obtain ⟨e1, e2⟩ := decL_none hd
      have KX := Lib.hid (fun W => k_decode (W := W) S (by have := HS.out; omega))
      rw [e1, e2] at KX
      clear e1 e2 hd
      go_wp2_with fail
      refine (KX.out _).mono ?_; rintro e W9 ⟨aX, CX, rfl, hX, b⟩
      have YA := Lib.hid (XA.out.reads b)
      clear b XA
      have XA := YA; clear YA
      have hge := XA.out.bel.size
      have ZX := Bx.new hX
      have b := (Below.refl W9.heap.size W9).alloc (Nat.le_refl _) (.cells #[.slice aX zeroL.pairs.length CX, .string zeroL.high, .int .i64 zeroL.next] 24)
      have YA := Lib.hid (XA.out.reads b)
      clear b XA
      have XA := YA; clear YA
      have XX := Lib.hid (show InA w _ W9.heap.size aX CX zeroL from ⟨ZX, XA.out.bel, by omega⟩)
      clear hge ZX hX
      go_upto_region 13 with fail
      generalize (W9.alloc (.cells #[.slice aX zeroL.pairs.length CX, .string zeroL.high, .int .i64 zeroL.next] 24)) = V9 at *
      clear XX
      have dA0 := XA.out.x.c0; have dA1 := XA.out.x.c1; have dA2 := XA.out.x.c2
      go_wp2_with fail
      refine (KR.out _ XA.out).mono ?_; rintro e W10 ⟨rfl, b⟩
      clear dA0 dA1 dA2
      have YA := Lib.hid (XA.out.reads b)
      clear b XA
      have XA := YA; clear YA
      go_wp2_with fail
      refine (CF.out _).mono ?_; rintro e W11 ⟨rfl, b⟩
      have YA := Lib.hid (XA.out.reads b)
      clear b XA
      have XA := YA; clear YA
      go_wp2_with fail
      go_ret
      exact ⟨rfl, XA.out.bel⟩
    · obtain ⟨e1, e2⟩ := decL_some hd
      have KX := Lib.hid (fun W => k_decode (W := W) S (by have := HS.out; omega))
      rw [e1, e2] at KX
      have KP := Lib.hid (fun W => back_got hd W)
      have HX := Lib.hid (decR_got hd).1
      have SX := Lib.hid (right_short HX.out)
      clear e1 e2 hd
      go_wp2_with fail
      refine (KX.out _).mono ?_; rintro e W9 ⟨aX, CX, rfl, hX, b⟩
      have YA := Lib.hid (XA.out.reads b)
      clear b XA
      have XA := YA; clear YA
      have hge := XA.out.bel.size
      have ZX := Bx.new hX
      have b := (Below.refl W9.heap.size W9).alloc (Nat.le_refl _) (.cells #[.slice aX x.pairs.length CX, .string x.high, .int .i64 x.next] 24)
      have YA := Lib.hid (XA.out.reads b)
      clear b XA
      have XA := YA; clear YA
      have XX := Lib.hid (show InA w _ W9.heap.size aX CX x from ⟨ZX, XA.out.bel, by omega⟩)
      clear hge ZX hX
      go_upto_region 13 with fail
      generalize (W9.alloc (.cells #[.slice aX x.pairs.length CX, .string x.high, .int .i64 x.next] 24)) = V9 at *
      have dX0 := XX.out.x.c0; have dX1 := XX.out.x.c1; have dX2 := XX.out.x.c2
      go_wp2_with fail
      refine (k_encode XX.out.x SX.out).mono ?_; rintro e W10 ⟨rfl, b⟩
      clear dX0 dX1 dX2
      have YA := Lib.hid (XA.out.reads b)
      have YX := Lib.hid (XX.out.reads b)
      clear b XA XX
      have XA := YA; clear YA
      have XX := YX; clear YX
      go_wp2_with fail
      refine ((KP.out _).2).mono ?_; rintro e W11 ⟨rfl, b⟩
      have YA := Lib.hid (XA.out.reads b)
      have YX := Lib.hid (XX.out.reads b)
      clear b XA XX
      have XA := YA; clear YA
      have XX := YX; clear YX
      have KRX := Lib.hid (fun W B (h : InA w W B aX CX x) => k_right h.x SX.out)
      rw [HX.out] at KRX
      have dX0 := XX.out.x.c0; have dX1 := XX.out.x.c1; have dX2 := XX.out.x.c2
      go_wp2_with fail
      refine (KRX.out _ _ XX.out).mono ?_; rintro e W12 ⟨rfl, b⟩
      clear dX0 dX1 dX2
      have YA := Lib.hid (XA.out.reads b)
      have YX := Lib.hid (XX.out.reads b)
      clear b XA XX
      have XA := YA; clear YA
      have XX := YX; clear YX
      have dA0 := XA.out.x.c0; have dA1 := XA.out.x.c1; have dA2 := XA.out.x.c2
      go_wp2_with fail
      refine (KR.out _ XA.out).mono ?_; rintro e W13 ⟨rfl, b⟩
      clear dA0 dA1 dA2
      have YA := Lib.hid (XA.out.reads b)
      have YX := Lib.hid (XX.out.reads b)
      clear b XA XX
      have XA := YA; clear YA
      have XX := YX; clear YX
      go_wp2_with fail
      refine (CF.out _).mono ?_; rintro e W14 ⟨rfl, b⟩
      have YA := Lib.hid (XA.out.reads b)
      have YX := Lib.hid (XX.out.reads b)
      clear b XA XX
      have XA := YA; clear YA
      have XX := YX; clear YX
      go_wp2_with fail
      go_ret
      exact ⟨rfl, XA.out.bel⟩
end Go.Proofs.Ytajbnfobmnibjaa
