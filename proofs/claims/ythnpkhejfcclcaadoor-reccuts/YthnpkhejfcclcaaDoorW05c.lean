/-
  RecCuts, walked.
-/
import Derived.Test.YthnpkhejfcclcaaDoorW05b
namespace Go.Proofs.YthnpkhejfcclcaaDoor
open Go.RowKit

set_option maxRecDepth 100000 in
set_option maxHeartbeats 8000000 in
theorem walk_RecCuts (r : RecP) (a : Option Addr) (C : Nat) (k : Int) (_hk : (Lit.int .i64 k).wf = true) (w : World) (hA : ArgRec w a r) (hL : Laid5 w) :
    Calls Tryd.prog 6 #[recV r a C, .int .i64 k] w fun e w' => e = .returned (.bool true) ∧ Below w.heap.size w w' := by
  clear _hk
  have HA := Lib.hid hA; have HL := Lib.hid hL
  have bb := boxW_bel w r.kind r.txn r.key r.value r.pass r.unit r.num (.slice a r.pairs.length C)
  have X0 := Lib.hid (box8_new QT w r.kind r.txn r.key r.value r.pass r.unit r.num (.slice a r.pairs.length C))
  have CC := Lib.hid (cut_step w _ r a C hA bb)
  have HB := Lib.hid bb
  clear hA hL bb
  dsimp only [recV]
  go_enter Tryd.func6, Tryd.ntmps6
  go_wp2_with fail
  refine CC.out.mono ?_; rintro e w2 ⟨q, a', C', rfl, ok, pA, b2, fA⟩
  have X2 := X0.out.below b2 X0.out.lt
  have hlt := X0.out.lt
  have R2 := recAt_put X2 q a' C' pA (fun y hy e => absurd (fA y hy) (by rw [e]; exact Nat.not_le.2 hlt))
  have B2 := put8_bel (HB.out.trans (b2.mono HB.out.size)) w.heap.size q.kind q.txn q.key q.value q.pass q.unit q.num (.slice a' q.pairs.length C') (Nat.le_refl _)
  have I2 := Lib.hid (show InW w _ w.heap.size q a' C' from ⟨R2, HL.out.step B2, B2⟩)
  have m0 := X2.c0; have m1 := X2.c1; have m2 := X2.c2; have m3 := X2.c3; have m4 := X2.c4; have m5 := X2.c5; have m6 := X2.c6; have m7 := X2.c7
  have z0 := X2.fz 0; have z1 := X2.fz 1; have z2 := X2.fz 2; have z3 := X2.fz 3; have z4 := X2.fz 4; have z5 := X2.fz 5; have z6 := X2.fz 6; have z7 := X2.fz 7
  clear R2 B2 X2 CC HB HA HL pA b2 fA X0 hlt
  dsimp only [recV]
  go_upto_region 2 with fail
  clear m0 m1 m2 m3 m4 m5 m6 m7 z0 z1 z2 z3 z4 z5 z6 z7
  unfold put8 at I2
  generalize ((((((((w2.setCell ⟨w.heap.size, 0, none⟩ (.int .i64 q.kind)).setCell ⟨w.heap.size, 1, none⟩ (.int .i64 q.txn)).setCell ⟨w.heap.size, 2, none⟩ (.string q.key)).setCell ⟨w.heap.size, 3, none⟩ (.string q.value)).setCell ⟨w.heap.size, 4, none⟩ (.int .i64 q.pass)).setCell ⟨w.heap.size, 5, none⟩ (.int .i64 q.unit)).setCell ⟨w.heap.size, 6, none⟩ (.int .i64 q.num)).setCell ⟨w.heap.size, 7, none⟩ (.slice a' q.pairs.length C')) = w3 at *
  generalize hB : w.heap.size = B at *
  have ks := ok.key; have vs := ok.val; have sm := ok.sm; have ls := ok.len
  have c0 := I2.out.r.box.c0; have c1 := I2.out.r.box.c1; have c2 := I2.out.r.box.c2; have c3 := I2.out.r.box.c3; have c4 := I2.out.r.box.c4; have c5 := I2.out.r.box.c5; have c6 := I2.out.r.box.c6; have c7 := I2.out.r.box.c7
  have CE := encode_any w3 q a' C' I2.out.L I2.out.r.prs sm (by omega) (by omega) (by omega)
  have CR := Lib.hid (fun W (hW : InW w W B q a' C') => right_any W q a' C' hW.L hW.r.prs sm (by omega) (by omega) (by omega))
  have CF := Lib.hid (fun W hW => fixed_any W hW)
  dsimp only [recV] at CE
  have he1 : (⟨#[]⟩ : ByteArray).toList = [] := by rw [Lib.toList_data]
  cases hb : rightB q with
  | false =>
    rw [encOut_no hb] at CE
    have HE := Lib.hid CE; have Hb := Lib.hid hb
    clear CE hb
    go_wp2_with fail
    clear c0 c1 c2 c3 c4 c5 c6 c7
    refine HE.out.mono ?_; rintro e w4 ⟨rfl, b4⟩
    have I4 := Lib.hid (I2.out.below b4)
    clear b4 I2 HE
    have c0 := I4.out.r.box.c0; have c1 := I4.out.r.box.c1; have c2 := I4.out.r.box.c2; have c3 := I4.out.r.box.c3; have c4 := I4.out.r.box.c4; have c5 := I4.out.r.box.c5; have c6 := I4.out.r.box.c6; have c7 := I4.out.r.box.c7
    have C1 := CR.out _ I4.out
    rw [Hb.out] at C1
    dsimp only [recV] at C1
    have H1 := Lib.hid C1
    clear C1
    go_wp2_with fail
    clear c0 c1 c2 c3 c4 c5 c6 c7
    refine H1.out.mono ?_; rintro e w5 ⟨rfl, b7⟩
    have I5 := Lib.hid (I4.out.below b7)
    clear b7 I4 H1
    go_wp2_with fail
    refine (CF.out _ I5.out.L).mono ?_; rintro e w6 ⟨rfl, b7⟩
    have I12 := Lib.hid (I5.out.below b7)
    clear b7 I5
    go_wp2
    go_ret
    exact ⟨by first | rfl | (simp; done) | (simp [he1]; done), I12.out.bel⟩
  | true =>
    have hq := (rightB_iff q).1 hb
    rw [encOut_yes hb] at CE
    have hz := encB_size hq; have hz0 := encB_ne q
    have HQ := Lib.hid hq
    have HNL := Lib.hid (more_none hq)
    have HNC := Lib.hid (cut_none hq)
    clear hq
    generalize encB q = P at *
    have HE := Lib.hid CE; have Hb := Lib.hid hb
    clear CE hb
    go_wp2_with fail
    clear c0 c1 c2 c3 c4 c5 c6 c7
    refine HE.out.mono ?_; rintro e w4 ⟨rfl, b4⟩
    have I4 := Lib.hid (I2.out.below b4)
    clear b4 I2 HE
    have c0 := I4.out.r.box.c0; have c1 := I4.out.r.box.c1; have c2 := I4.out.r.box.c2; have c3 := I4.out.r.box.c3; have c4 := I4.out.r.box.c4; have c5 := I4.out.r.box.c5; have c6 := I4.out.r.box.c6; have c7 := I4.out.r.box.c7
    have C1 := CR.out _ I4.out
    rw [Hb.out] at C1
    dsimp only [recV] at C1
    have H1 := Lib.hid C1
    clear C1
    go_wp2_with fail
    clear c0 c1 c2 c3 c4 c5 c6 c7
    refine H1.out.mono ?_; rintro e w5 ⟨rfl, b7⟩
    have I5 := Lib.hid (I4.out.below b7)
    clear b7 I4 H1
    have hp1 : ((P.size : Int) == 0) = false := by rw [beq_eq_false_iff_ne]; omega
    have hand := i64_and16 k
    obtain ⟨j, hj⟩ := Int.eq_ofNat_of_zero_le (show 0 ≤ k % 65536 by omega)
    rw [hj] at hand
    obtain ⟨m, hm⟩ : ∃ m, j % P.size = m := ⟨_, rfl⟩
    have hmlt : m < P.size := by rw [← hm]; exact Nat.mod_lt _ hz0
    have hm2 : Int.tmod (j : Int) (P.size : Int) = (m : Int) := by rw [Int.tmod_eq_emod_of_nonneg (by omega)]; rw [← hm]; rfl
    have hne0 : ¬ (P.size : Int) = 0 := by omega
    have hm0 : (0 : Int) ≤ (m : Int) := by omega
    have hml : (m : Int) ≤ (P.size : Int) := by omega
    have CD := Lib.hid (decode_any w5 (P.extract 0 m) I5.out.L (by rw [ByteArray.size_extract]; omega) zeroR 4 (.inr ⟨HNC.out m hmlt, rfl, rfl⟩))
    have hmi : (Int.toNat (m : Int)) = m := rfl
    clear hm hj
    go_wp2_with fail
    refine CD.out.mono ?_; rintro e w6 ⟨a5, C5, rfl, p5, b5, _⟩
    have b6 := boxW_bel w6 0 0 ⟨#[]⟩ ⟨#[]⟩ 0 0 0 (.slice a5 0 C5)
    have I6 := Lib.hid ((I5.out.below b5).below b6)
    clear CD p5 b5 b6 I5
    dsimp only [recV, zeroR, List.length_nil]
    go_upto_region 8 with fail
    unfold boxW at I6
    generalize w6.alloc (.cells #[.int .i64 0, .int .i64 0, .string ⟨#[]⟩, .string ⟨#[]⟩, .int .i64 0, .int .i64 0, .int .i64 0, .slice a5 0 C5] QT) = w7 at *
    generalize w6.heap.size = Bx at *
    clear hand hm2 hm0 hml hmlt hmi
    obtain ⟨v, hv⟩ := Int.eq_ofNat_of_zero_le (show 0 ≤ k % 256 by omega)
    have hv8 : v < 256 := by omega
    have hw8 : IntKind.u8.wrap k = (v : Int) := by rw [IntKind.wrap_u8]; exact hv
    have hst := str_one w7 v hv8
    have bs := (Below.refl w7.heap.size w7).alloc (Nat.le_refl _) (.cells #[.int .u8 (v : Int)] 5)
    have I7 := Lib.hid (I6.out.below bs)
    have hzs : (baL [v.toUInt8]).size = 1 := rfl
    have CD := Lib.hid (decode_any _ (P ++ baL [v.toUInt8]) I7.out.L (by rw [ByteArray.size_append, hzs]; omega) zeroR 4 (.inr ⟨HNL.out _, rfl, rfl⟩))
    clear I6 bs HNL HNC
    generalize baL [v.toUInt8] = Z at *
    go_wp2_with fail
    refine CD.out.mono ?_; rintro e w8 ⟨a8, C8, rfl, p8, b8, _⟩
    have b9 := boxW_bel w8 0 0 ⟨#[]⟩ ⟨#[]⟩ 0 0 0 (.slice a8 0 C8)
    have I8 := Lib.hid ((I7.out.below b8).below b9)
    clear CD p8 b8 b9 I7 hst
    dsimp only [recV, zeroR, List.length_nil]
    go_upto_region 9 with fail
    unfold boxW at I8
    generalize w8.alloc (.cells #[.int .i64 0, .int .i64 0, .string ⟨#[]⟩, .string ⟨#[]⟩, .int .i64 0, .int .i64 0, .int .i64 0, .slice a8 0 C8] QT) = w9 at *
    go_wp2_with fail
    refine (CF.out _ I8.out.L).mono ?_; rintro e x9 ⟨rfl, b7⟩
    have I12 := Lib.hid (I8.out.below b7)
    clear b7 I8
    go_wp2
    go_ret
    exact ⟨by simp, I12.out.bel⟩
end Go.Proofs.YthnpkhejfcclcaaDoor
