/-
  RecBack, walked.
-/
import Derived.Test.YthnpkhejfcclcaaDoorH05
namespace Go.Proofs.YthnpkhejfcclcaaDoor
open Go.RowKit

/-- a law at work: a record in its box -/
structure InW (w0 w : World) (B : Nat) (q : RecP) (a : Option Addr) (C : Nat) : Prop where
  r : RecAt w B q a C
  L : Laid5 w
  bel : Below w0.heap.size w0 w
theorem InW.below {w0 w w' : World} {B : Nat} {q : RecP} {a : Option Addr} {C : Nat} (h : InW w0 w B q a C) (b : Below w.heap.size w w') : InW w0 w' B q a C :=
  ⟨h.r.below b, h.L.step b, h.bel.trans (b.mono h.bel.size)⟩
set_option maxRecDepth 100000 in
set_option maxHeartbeats 8000000 in
theorem walk_RecBack (r : RecP) (a : Option Addr) (C : Nat) (s : ByteArray) (_hs : s.size ≤ maxLen) (w : World) (hA : ArgRec w a r) (hL : Laid5 w) :
    Calls Tryd.prog 5 #[recV r a C, .string s] w fun e w' => e = .returned (.bool true) ∧ Below w.heap.size w w' := by
  unfold maxLen at _hs
  obtain ⟨n1, p1, p2, p3, p4⟩ := cutM_at s 600
  rw [show ((600 : Nat) : Int) = 600 from rfl] at p1
  have HA := Lib.hid hA; have HL := Lib.hid hL
  have bb := boxW_bel w r.kind r.txn r.key r.value r.pass r.unit r.num (.slice a r.pairs.length C)
  have X0 := Lib.hid (box8_new QT w r.kind r.txn r.key r.value r.pass r.unit r.num (.slice a r.pairs.length C))
  have CC := Lib.hid (cut_step w _ r a C hA bb)
  have HB := Lib.hid bb
  clear hA hL bb
  dsimp only [recV]
  go_enter Tryd.func5, Tryd.ntmps5
  go_wp2_with fail
  refine CC.out.mono ?_; rintro e w2 ⟨q, a', C', rfl, ok, pA, b2, fA⟩
  have X2 := X0.out.below b2 X0.out.lt
  have hlt := X0.out.lt
  have R2 := recAt_put X2 q a' C' pA (fun y hy e => absurd (fA y hy) (by rw [e]; exact Nat.not_le.2 hlt))
  have B2 := put8_bel (HB.out.trans (b2.mono HB.out.size)) w.heap.size q.kind q.txn q.key q.value q.pass q.unit q.num (.slice a' q.pairs.length C') (Nat.le_refl _)
  have I2 := Lib.hid (show InW w _ w.heap.size q a' C' from ⟨R2, HL.out.step B2, B2⟩)
  have m0 := X2.c0; have m1 := X2.c1; have m2 := X2.c2; have m3 := X2.c3; have m4 := X2.c4; have m5 := X2.c5; have m6 := X2.c6; have m7 := X2.c7
  have z0 := X2.fz 0; have z1 := X2.fz 1; have z2 := X2.fz 2; have z3 := X2.fz 3; have z4 := X2.fz 4; have z5 := X2.fz 5; have z6 := X2.fz 6; have z7 := X2.fz 7
  clear R2 B2 X2 CC HB HA HL pA b2 fA X0 hlt
  dsimp only [recV]
  go_upto_region 2 with fail
  clear m0 m1 m2 m3 m4 m5 m6 m7 z0 z1 z2 z3 z4 z5 z6 z7
  unfold put8 at I2
  generalize ((((((((w2.setCell ⟨w.heap.size, 0, none⟩ (.int .i64 q.kind)).setCell ⟨w.heap.size, 1, none⟩ (.int .i64 q.txn)).setCell ⟨w.heap.size, 2, none⟩ (.string q.key)).setCell ⟨w.heap.size, 3, none⟩ (.string q.value)).setCell ⟨w.heap.size, 4, none⟩ (.int .i64 q.pass)).setCell ⟨w.heap.size, 5, none⟩ (.int .i64 q.unit)).setCell ⟨w.heap.size, 6, none⟩ (.int .i64 q.num)).setCell ⟨w.heap.size, 7, none⟩ (.slice a' q.pairs.length C')) = w3 at *
  generalize hB : w.heap.size = B at *
  go_upto_region 3 with fail
  generalize s.extract 0 n1 = S at *
  clear p1 p2 p3
  have ks := ok.key; have vs := ok.val; have sm := ok.sm; have ls := ok.len
  have c0 := I2.out.r.box.c0; have c1 := I2.out.r.box.c1; have c2 := I2.out.r.box.c2; have c3 := I2.out.r.box.c3; have c4 := I2.out.r.box.c4; have c5 := I2.out.r.box.c5; have c6 := I2.out.r.box.c6; have c7 := I2.out.r.box.c7
  have CE := encode_any w3 q a' C' I2.out.L I2.out.r.prs sm (by omega) (by omega) (by omega)
  have CR := Lib.hid (fun W (hW : InW w W B q a' C') => right_any W q a' C' hW.L hW.r.prs sm (by omega) (by omega) (by omega))
  have CF := Lib.hid (fun W hW => fixed_any W hW)
  dsimp only [recV] at CE
  have he1 : (⟨#[]⟩ : ByteArray).toList = [] := by rw [Lib.toList_data]
  cases hb : rightB q
  case' true =>
    have hq := (rightB_iff q).1 hb
    rw [encOut_yes hb] at CE
    have hz := encB_size hq
    have HE := Lib.hid CE
    have HQ := Lib.hid hq; have Hb := Lib.hid hb
    clear CE hq hb
    obtain ⟨P, HPP⟩ : ∃ P, Hid (encB q = P) := ⟨_, rfl⟩
    rw [HPP.out] at HE hz
    go_wp2_with fail
    clear c0 c1 c2 c3 c4 c5 c6 c7
    refine HE.out.mono ?_; rintro e w4 ⟨rfl, b4⟩
    have I4 := Lib.hid (I2.out.below b4)
    have CD := Lib.hid (decode_any w4 P I4.out.L (by omega) q 0 (.inl ⟨q, HQ.out, HPP.out, rfl, rfl⟩))
    clear b4 I2 HE
    go_wp2_with fail
    refine CD.out.mono ?_; rintro e w5 ⟨a5, C5, rfl, p5, b5, _⟩
    have b6 := boxW_bel w5 q.kind q.txn q.key q.value q.pass q.unit q.num (.slice a5 q.pairs.length C5)
    have R6 := Lib.hid (recAt_new w5 q a5 C5 p5)
    have I6 := Lib.hid ((I4.out.below b5).below b6)
    clear CD p5 b5 b6 I4
    dsimp only [recV]
    go_upto_region 5 with fail
    unfold boxW at R6 I6
    generalize w5.alloc (.cells #[.int .i64 q.kind, .int .i64 q.txn, .string q.key, .string q.value, .int .i64 q.pass, .int .i64 q.unit, .int .i64 q.num, .slice a5 q.pairs.length C5] QT) = w6 at *
    generalize w5.heap.size = Bx at *
    have c0 := I6.out.r.box.c0; have c1 := I6.out.r.box.c1; have c2 := I6.out.r.box.c2; have c3 := I6.out.r.box.c3; have c4 := I6.out.r.box.c4; have c5 := I6.out.r.box.c5; have c6 := I6.out.r.box.c6; have c7 := I6.out.r.box.c7
    have C1 := CR.out _ I6.out
    rw [Hb.out] at C1
    dsimp only [recV] at C1
    have H1 := Lib.hid C1
    clear C1
    go_wp2_with fail
    clear c0 c1 c2 c3 c4 c5 c6 c7
    refine H1.out.mono ?_; rintro e w7 ⟨rfl, b7⟩
    have I7 := Lib.hid (I6.out.below b7); have R7 := Lib.hid (R6.out.below b7)
    clear b7 I6 R6 H1
    have C2 := same_any w7 q q a' a5 C' C5 I7.out.r.prs R7.out.prs (by omega) (by omega)
    rw [show sameB q q = true from (sameB_iff _ _).2 rfl] at C2
    dsimp only [recV] at C2
    have H2 := Lib.hid C2
    have c0 := I7.out.r.box.c0; have c1 := I7.out.r.box.c1; have c2 := I7.out.r.box.c2; have c3 := I7.out.r.box.c3; have c4 := I7.out.r.box.c4; have c5 := I7.out.r.box.c5; have c6 := I7.out.r.box.c6; have c7 := I7.out.r.box.c7
    have d0 := R7.out.box.c0; have d1 := R7.out.box.c1; have d2 := R7.out.box.c2; have d3 := R7.out.box.c3; have d4 := R7.out.box.c4; have d5 := R7.out.box.c5; have d6 := R7.out.box.c6; have d7 := R7.out.box.c7
    clear C2
    go_wp2_with fail
    clear c0 c1 c2 c3 c4 c5 c6 c7 d0 d1 d2 d3 d4 d5 d6 d7
    refine H2.out.mono ?_; rintro e w8 ⟨rfl, b8⟩
    have I8 := Lib.hid (I7.out.below b8)
    clear b8 I7 R7 H2
    have C1 := CR.out _ I8.out
    rw [Hb.out] at C1
    dsimp only [recV] at C1
    have H1 := Lib.hid C1
    have c0 := I8.out.r.box.c0; have c1 := I8.out.r.box.c1; have c2 := I8.out.r.box.c2; have c3 := I8.out.r.box.c3; have c4 := I8.out.r.box.c4; have c5 := I8.out.r.box.c5; have c6 := I8.out.r.box.c6; have c7 := I8.out.r.box.c7
    clear C1
    go_wp2_with fail
    clear c0 c1 c2 c3 c4 c5 c6 c7
    refine H1.out.mono ?_; rintro e w9 ⟨rfl, b9⟩
    have I9 := Lib.hid (I8.out.below b9)
    clear b9 I8 H1
    go_upto_region 7 with fail
    clear HQ Hb HPP hz
    have IZ := I9; clear I9
    generalize w9 = wz at *
  case' false =>
    rw [encOut_no hb] at CE
    have HE := Lib.hid CE; have Hb := Lib.hid hb
    clear CE hb
    go_wp2_with fail
    clear c0 c1 c2 c3 c4 c5 c6 c7
    refine HE.out.mono ?_; rintro e w4 ⟨rfl, b4⟩
    have I4 := Lib.hid (I2.out.below b4)
    have CD := Lib.hid (decode_any w4 ⟨#[]⟩ I4.out.L (by decide) zeroR 4 (.inr ⟨no_0, rfl, rfl⟩))
    clear b4 I2 HE
    go_wp2_with fail
    refine CD.out.mono ?_; rintro e w5 ⟨a5, C5, rfl, p5, b5, _⟩
    have b6 := boxW_bel w5 0 0 ⟨#[]⟩ ⟨#[]⟩ 0 0 0 (.slice a5 0 C5)
    have I6 := Lib.hid ((I4.out.below b5).below b6)
    clear CD p5 b5 b6 I4
    dsimp only [recV, zeroR, List.length_nil]
    go_upto_region 5 with fail
    unfold boxW at I6
    generalize w5.alloc (.cells #[.int .i64 0, .int .i64 0, .string ⟨#[]⟩, .string ⟨#[]⟩, .int .i64 0, .int .i64 0, .int .i64 0, .slice a5 0 C5] QT) = w6 at *
    generalize w5.heap.size = Bx at *
    have c0 := I6.out.r.box.c0; have c1 := I6.out.r.box.c1; have c2 := I6.out.r.box.c2; have c3 := I6.out.r.box.c3; have c4 := I6.out.r.box.c4; have c5 := I6.out.r.box.c5; have c6 := I6.out.r.box.c6; have c7 := I6.out.r.box.c7
    have C1 := CR.out _ I6.out
    rw [Hb.out] at C1
    dsimp only [recV] at C1
    have H1 := Lib.hid C1
    clear C1
    go_wp2_with fail
    clear c0 c1 c2 c3 c4 c5 c6 c7
    refine H1.out.mono ?_; rintro e w7 ⟨rfl, b7⟩
    have I7 := Lib.hid (I6.out.below b7)
    clear b7 I6 H1
    have c0 := I7.out.r.box.c0; have c1 := I7.out.r.box.c1; have c2 := I7.out.r.box.c2; have c3 := I7.out.r.box.c3; have c4 := I7.out.r.box.c4; have c5 := I7.out.r.box.c5; have c6 := I7.out.r.box.c6; have c7 := I7.out.r.box.c7
    have C1 := CR.out _ I7.out
    rw [Hb.out] at C1
    dsimp only [recV] at C1
    have H1 := Lib.hid C1
    clear C1
    go_wp2_with fail
    clear c0 c1 c2 c3 c4 c5 c6 c7
    refine H1.out.mono ?_; rintro e w8 ⟨rfl, b7⟩
    have I8 := Lib.hid (I7.out.below b7)
    clear b7 I7 H1
    go_upto_region 7 with fail
    clear Hb
    have IZ := I8; clear I8
    generalize w8 = wz at *
  all_goals
    clear CR he1
    rcases dec_split S with ⟨x, hx, he⟩ | hno
    · obtain ⟨xk, xv⟩ := rightP_sizes hx
      obtain ⟨xs, xl⟩ := rightP_small hx
      have CD := Lib.hid (decode_any wz S IZ.out.L (by omega) x 0 (.inl ⟨x, hx, he, rfl, rfl⟩))
      have Hx := Lib.hid hx; have He := Lib.hid he
      clear hx he
      go_wp2_with fail
      refine CD.out.mono ?_; rintro e x5 ⟨a8, C8, rfl, p8, b8, _⟩
      have b9 := boxW_bel x5 x.kind x.txn x.key x.value x.pass x.unit x.num (.slice a8 x.pairs.length C8)
      have R9 := Lib.hid (recAt_new x5 x a8 C8 p8)
      have I9 := Lib.hid ((IZ.out.below b8).below b9)
      clear CD p8 b8 b9 IZ
      dsimp only [recV]
      go_upto_region 10 with fail
      unfold boxW at R9 I9
      generalize x5.alloc (.cells #[.int .i64 x.kind, .int .i64 x.txn, .string x.key, .string x.value, .int .i64 x.pass, .int .i64 x.unit, .int .i64 x.num, .slice a8 x.pairs.length C8] QT) = x6 at *
      generalize x5.heap.size = By at *
      have C1 := right_any x6 x a8 C8 I9.out.L R9.out.prs xs (by omega) (by omega) (by omega)
      rw [(rightB_iff x).2 Hx.out] at C1
      dsimp only [recV] at C1
      have H1 := Lib.hid C1
      have c0 := R9.out.box.c0; have c1 := R9.out.box.c1; have c2 := R9.out.box.c2; have c3 := R9.out.box.c3; have c4 := R9.out.box.c4; have c5 := R9.out.box.c5; have c6 := R9.out.box.c6; have c7 := R9.out.box.c7
      clear C1
      go_wp2_with fail
      clear c0 c1 c2 c3 c4 c5 c6 c7
      refine H1.out.mono ?_; rintro e x7 ⟨rfl, b7⟩
      have I10 := Lib.hid (I9.out.below b7); have R10 := Lib.hid (R9.out.below b7)
      clear b7 I9 R9 H1
      have C1 := encode_any x7 x a8 C8 I10.out.L R10.out.prs xs (by omega) (by omega) (by omega)
      rw [encOut_yes ((rightB_iff x).2 Hx.out), He.out] at C1
      dsimp only [recV] at C1
      have H1 := Lib.hid C1
      have c0 := R10.out.box.c0; have c1 := R10.out.box.c1; have c2 := R10.out.box.c2; have c3 := R10.out.box.c3; have c4 := R10.out.box.c4; have c5 := R10.out.box.c5; have c6 := R10.out.box.c6; have c7 := R10.out.box.c7
      clear C1
      go_wp2_with fail
      clear c0 c1 c2 c3 c4 c5 c6 c7
      refine H1.out.mono ?_; rintro e x8 ⟨rfl, b7⟩
      have I11 := Lib.hid (I10.out.below b7)
      clear b7 I10 R10 H1
      go_wp2_with fail
      refine (CF.out _ I11.out.L).mono ?_; rintro e x9 ⟨rfl, b7⟩
      have I12 := Lib.hid (I11.out.below b7)
      clear b7 I11
      go_wp2
      go_ret
      exact ⟨by simp, by have := I12.out.bel; exact this⟩
    · have CD := Lib.hid (decode_any wz S IZ.out.L (by omega) zeroR 4 (.inr ⟨hno, rfl, rfl⟩))
      clear hno
      go_wp2_with fail
      refine CD.out.mono ?_; rintro e x5 ⟨a8, C8, rfl, p8, b8, _⟩
      have b9 := boxW_bel x5 0 0 ⟨#[]⟩ ⟨#[]⟩ 0 0 0 (.slice a8 0 C8)
      have R9 := Lib.hid (recAt_new x5 zeroR a8 C8 p8)
      have I9 := Lib.hid ((IZ.out.below b8).below b9)
      clear CD p8 b8 b9 IZ
      dsimp only [recV, zeroR, List.length_nil]
      go_upto_region 9 with fail
      unfold boxW at R9 I9
      dsimp only [zeroR, List.length_nil] at R9
      generalize x5.alloc (.cells #[.int .i64 0, .int .i64 0, .string ⟨#[]⟩, .string ⟨#[]⟩, .int .i64 0, .int .i64 0, .int .i64 0, .slice a8 0 C8] QT) = x6 at *
      generalize x5.heap.size = By at *
      have C1 := same_any x6 zeroR zeroR a8 none C8 0 R9.out.prs (pairsAt_nil _ _) (by decide) (by decide)
      rw [show sameB zeroR zeroR = true from (sameB_iff _ _).2 rfl] at C1
      dsimp only [recV, zeroR, List.length_nil] at C1
      have H1 := Lib.hid C1
      have c0 := R9.out.box.c0; have c1 := R9.out.box.c1; have c2 := R9.out.box.c2; have c3 := R9.out.box.c3; have c4 := R9.out.box.c4; have c5 := R9.out.box.c5; have c6 := R9.out.box.c6; have c7 := R9.out.box.c7
      dsimp only [List.length_nil] at c0 c1 c2 c3 c4 c5 c6 c7
      clear C1
      go_wp2_with fail
      clear c0 c1 c2 c3 c4 c5 c6 c7
      refine H1.out.mono ?_; rintro e x7 ⟨rfl, b7⟩
      have I10 := Lib.hid (I9.out.below b7)
      clear b7 I9 R9 H1
      go_wp2_with fail
      refine (CF.out _ I10.out.L).mono ?_; rintro e x9 ⟨rfl, b7⟩
      have I12 := Lib.hid (I10.out.below b7)
      clear b7 I10
      go_wp2
      go_ret
      exact ⟨by simp, by have := I12.out.bel; exact this⟩
end Go.Proofs.YthnpkhejfcclcaaDoor
