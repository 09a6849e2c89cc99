/-
  RecOwn, walked.
-/
import Derived.Test.YthnpkhejfcclcaaDoorW05e
namespace Go.Proofs.YthnpkhejfcclcaaDoor
open Go.RowKit

theorem RecAt.put_far {w : World} {B B' : Nat} {r : RecP} {a : Option Addr} {C : Nat} (h : RecAt w B r a C) (hB : B ≠ B') (hF : ∀ y, a = some y → y.block ≠ B') (k t : Int) (ke va : ByteArray) (pa un nu : Int) (v : Value) : RecAt (put8 w B' k t ke va pa un nu v) B r a C :=
  ⟨(put8_far _ _ _ _ _ _ _ _ _ _ _ hB).trans h.box, put8_pairs' h.prs hF _ _ _ _ _ _ _ _⟩
/-- a law on two records at work -/
structure TwoSt (w0 w : World) (Ba Bb : Nat) (qa qb : RecP) (a1 a2 : Option Addr) (C1 C2 : Nat) : Prop where
  a : RecAt w Ba qa a1 C1
  b : RecAt w Bb qb a2 C2
  L : Laid5 w
  bel : Below w0.heap.size w0 w
theorem TwoSt.below {w0 w w' : World} {Ba Bb : Nat} {qa qb : RecP} {a1 a2 : Option Addr} {C1 C2 : Nat} (h : TwoSt w0 w Ba Bb qa qb a1 a2 C1 C2) (b : Below w.heap.size w w') : TwoSt w0 w' Ba Bb qa qb a1 a2 C1 C2 :=
  ⟨h.a.below b, h.b.below b, h.L.step b, h.bel.trans (b.mono h.bel.size)⟩
/-- .. and a third one that was decoded -/
structure OwnSt (w0 w : World) (B Bb Bx : Nat) (qa qb : RecP) (a1 a2 a3 : Option Addr) (C1 C2 C3 : Nat) : Prop where
  t : TwoSt w0 w B Bb qa qb a1 a2 C1 C2
  x : RecAt w Bx qa a3 C3
theorem OwnSt.below {w0 w w' : World} {B Bb Bx : Nat} {qa qb : RecP} {a1 a2 a3 : Option Addr} {C1 C2 C3 : Nat} (h : OwnSt w0 w B Bb Bx qa qb a1 a2 a3 C1 C2 C3) (b : Below w.heap.size w w') : OwnSt w0 w' B Bb Bx qa qb a1 a2 a3 C1 C2 C3 := ⟨h.t.below b, h.x.below b⟩
theorem OwnSt.cells {w0 W : World} {B Bb Bx : Nat} {qa qb : RecP} {a1 a2 a3 : Option Addr} {C1 C2 C3 : Nat} (h : OwnSt w0 W B Bb Bx qa qb a1 a2 a3 C1 C2 C3) : (fun W => W.cell? ⟨B, 0, none⟩ = some (.int .i64 qa.kind) ∧ W.cell? ⟨B, 1, none⟩ = some (.int .i64 qa.txn) ∧ W.cell? ⟨B, 2, none⟩ = some (.string qa.key) ∧ W.cell? ⟨B, 3, none⟩ = some (.string qa.value) ∧ W.cell? ⟨B, 4, none⟩ = some (.int .i64 qa.pass) ∧ W.cell? ⟨B, 5, none⟩ = some (.int .i64 qa.unit) ∧ W.cell? ⟨B, 6, none⟩ = some (.int .i64 qa.num) ∧ W.cell? ⟨B, 7, none⟩ = some (.slice a1 qa.pairs.length C1) ∧ W.cell? ⟨Bb, 0, none⟩ = some (.int .i64 qb.kind) ∧ W.cell? ⟨Bb, 1, none⟩ = some (.int .i64 qb.txn) ∧ W.cell? ⟨Bb, 2, none⟩ = some (.string qb.key) ∧ W.cell? ⟨Bb, 3, none⟩ = some (.string qb.value) ∧ W.cell? ⟨Bb, 4, none⟩ = some (.int .i64 qb.pass) ∧ W.cell? ⟨Bb, 5, none⟩ = some (.int .i64 qb.unit) ∧ W.cell? ⟨Bb, 6, none⟩ = some (.int .i64 qb.num) ∧ W.cell? ⟨Bb, 7, none⟩ = some (.slice a2 qb.pairs.length C2) ∧ W.cell? ⟨Bx, 0, none⟩ = some (.int .i64 qa.kind) ∧ W.cell? ⟨Bx, 1, none⟩ = some (.int .i64 qa.txn) ∧ W.cell? ⟨Bx, 2, none⟩ = some (.string qa.key) ∧ W.cell? ⟨Bx, 3, none⟩ = some (.string qa.value) ∧ W.cell? ⟨Bx, 4, none⟩ = some (.int .i64 qa.pass) ∧ W.cell? ⟨Bx, 5, none⟩ = some (.int .i64 qa.unit) ∧ W.cell? ⟨Bx, 6, none⟩ = some (.int .i64 qa.num) ∧ W.cell? ⟨Bx, 7, none⟩ = some (.slice a3 qa.pairs.length C3)) W :=
  ⟨h.t.a.box.c0, h.t.a.box.c1, h.t.a.box.c2, h.t.a.box.c3, h.t.a.box.c4, h.t.a.box.c5, h.t.a.box.c6, h.t.a.box.c7, h.t.b.box.c0, h.t.b.box.c1, h.t.b.box.c2, h.t.b.box.c3, h.t.b.box.c4, h.t.b.box.c5, h.t.b.box.c6, h.t.b.box.c7, h.x.box.c0, h.x.box.c1, h.x.box.c2, h.x.box.c3, h.x.box.c4, h.x.box.c5, h.x.box.c6, h.x.box.c7⟩
set_option maxRecDepth 100000 in
set_option maxHeartbeats 20000000 in
theorem walk_RecOwn (ra : RecP) (aa : Option Addr) (Ca : Nat) (rb : RecP) (ab : Option Addr) (Cb : Nat) (w : World) (hA : ArgRec w aa ra) (hB : ArgRec w ab rb) (hL : Laid5 w) :
    Calls Tryd.prog 9 #[recV ra aa Ca, recV rb ab Cb] w fun e w' => e = .returned (.bool true) ∧ Below w.heap.size w w' := by
  have HA := Lib.hid hA; have HB := Lib.hid hB; have HL := Lib.hid hL
  have b1 : Below w.heap.size w (w.alloc (.cells #[.int .i64 ra.kind, .int .i64 ra.txn, .string ra.key, .string ra.value, .int .i64 ra.pass, .int .i64 ra.unit, .int .i64 ra.num, .slice aa ra.pairs.length Ca] QT)) := boxW_bel w _ _ _ _ _ _ _ _
  have x1 : Box8 QT (w.alloc (.cells #[.int .i64 ra.kind, .int .i64 ra.txn, .string ra.key, .string ra.value, .int .i64 ra.pass, .int .i64 ra.unit, .int .i64 ra.num, .slice aa ra.pairs.length Ca] QT)) w.heap.size ra.kind ra.txn ra.key ra.value ra.pass ra.unit ra.num (.slice aa ra.pairs.length Ca) := box8_new QT w _ _ _ _ _ _ _ _
  have s1 : (w.alloc (.cells #[.int .i64 ra.kind, .int .i64 ra.txn, .string ra.key, .string ra.value, .int .i64 ra.pass, .int .i64 ra.unit, .int .i64 ra.num, .slice aa ra.pairs.length Ca] QT)).heap.size = w.heap.size + 1 := by simp
  dsimp only [recV]
  go_enter Tryd.func9, Tryd.ntmps9
  go_upto_region 1 with fail
  generalize w.alloc (.cells #[.int .i64 ra.kind, .int .i64 ra.txn, .string ra.key, .string ra.value, .int .i64 ra.pass, .int .i64 ra.unit, .int .i64 ra.num, .slice aa ra.pairs.length Ca] QT) = w1 at *
  have b2 : Below w1.heap.size w1 (w1.alloc (.cells #[.int .i64 rb.kind, .int .i64 rb.txn, .string rb.key, .string rb.value, .int .i64 rb.pass, .int .i64 rb.unit, .int .i64 rb.num, .slice ab rb.pairs.length Cb] QT)) := boxW_bel w1 _ _ _ _ _ _ _ _
  have y2 : Box8 QT (w1.alloc (.cells #[.int .i64 rb.kind, .int .i64 rb.txn, .string rb.key, .string rb.value, .int .i64 rb.pass, .int .i64 rb.unit, .int .i64 rb.num, .slice ab rb.pairs.length Cb] QT)) w1.heap.size rb.kind rb.txn rb.key rb.value rb.pass rb.unit rb.num (.slice ab rb.pairs.length Cb) := box8_new QT w1 _ _ _ _ _ _ _ _
  have x2 := x1.below b2 x1.lt
  have s2 : (w1.alloc (.cells #[.int .i64 rb.kind, .int .i64 rb.txn, .string rb.key, .string rb.value, .int .i64 rb.pass, .int .i64 rb.unit, .int .i64 rb.num, .slice ab rb.pairs.length Cb] QT)).heap.size = w1.heap.size + 1 := by simp
  have B2 := b1.trans (b2.mono b1.size)
  generalize w1.alloc (.cells #[.int .i64 rb.kind, .int .i64 rb.txn, .string rb.key, .string rb.value, .int .i64 rb.pass, .int .i64 rb.unit, .int .i64 rb.num, .slice ab rb.pairs.length Cb] QT) = w2 at *
  rw [s1] at y2
  have CC := Lib.hid (cut_step w w2 ra aa Ca HA.out B2)
  have CD := Lib.hid (fun W h => cut_step w W rb ab Cb HB.out h)
  have HX2 := Lib.hid x2; have HY2 := Lib.hid y2; have HB2 := Lib.hid B2
  have sz2 : w2.heap.size = w.heap.size + 2 := by omega
  clear b1 b2 x1 y2 x2 B2 s1 s2 hA hB hL
  generalize hB0 : w.heap.size = B at *
  have c0 := HX2.out.c0; have c1 := HX2.out.c1; have c2 := HX2.out.c2; have c3 := HX2.out.c3; have c4 := HX2.out.c4; have c5 := HX2.out.c5; have c6 := HX2.out.c6; have c7 := HX2.out.c7
  dsimp only [recV] at CC CD
  go_wp2_with fail
  clear c0 c1 c2 c3 c4 c5 c6 c7
  refine CC.out.mono ?_; rintro e w3 ⟨qa, a1, C1, rfl, ka, p3, b3, f3⟩
  have x3 := HX2.out.below b3 HX2.out.lt; have y3 := HY2.out.below b3 HY2.out.lt
  have sz3 : B + 2 ≤ w3.heap.size := by have := b3.size; omega
  have R4 := recAt_put x3 qa a1 C1 p3 (fun y hy e => by have := f3 y hy; omega)
  have y4 : Box8 QT (put8 w3 B qa.kind qa.txn qa.key qa.value qa.pass qa.unit qa.num (.slice a1 qa.pairs.length C1)) (B + 1) rb.kind rb.txn rb.key rb.value rb.pass rb.unit rb.num (.slice ab rb.pairs.length Cb) := (put8_far _ _ _ _ _ _ _ _ _ _ _ (by omega)).trans y3
  have B4 := put8_bel (HB2.out.trans (b3.mono (by omega))) B qa.kind qa.txn qa.key qa.value qa.pass qa.unit qa.num (.slice a1 qa.pairs.length C1) (Nat.le_refl _)
  have sw4 : w3.heap.size ≤ (put8 w3 B qa.kind qa.txn qa.key qa.value qa.pass qa.unit qa.num (.slice a1 qa.pairs.length C1)).heap.size := (put8_grown _ _ _ _ _ _ _ _ _ _).size
  have F3 := Lib.hid (show ∀ y, a1 = some y → B + 2 ≤ y.block from fun y hy => by have := f3 y hy; omega)
  have HR4 := Lib.hid R4; have HY4 := Lib.hid y4; have HB4 := Lib.hid B4
  have m0 := x3.c0; have m1 := x3.c1; have m2 := x3.c2; have m3 := x3.c3; have m4 := x3.c4; have m5 := x3.c5; have m6 := x3.c6; have m7 := x3.c7; have z0 := x3.fz 0; have z1 := x3.fz 1; have z2 := x3.fz 2; have z3 := x3.fz 3; have z4 := x3.fz 4; have z5 := x3.fz 5; have z6 := x3.fz 6; have z7 := x3.fz 7
  clear R4 y4 B4 x3 y3 b3 f3 p3 HX2 HY2 HB2 CC
  dsimp only [recV]
  go_upto_region 2 with fail
  clear m0 m1 m2 m3 m4 m5 m6 m7
  unfold put8 at HR4 HY4 HB4 sw4
  generalize ((((((((w3.setCell ⟨B, 0, none⟩ (.int .i64 qa.kind)).setCell ⟨B, 1, none⟩ (.int .i64 qa.txn)).setCell ⟨B, 2, none⟩ (.string qa.key)).setCell ⟨B, 3, none⟩ (.string qa.value)).setCell ⟨B, 4, none⟩ (.int .i64 qa.pass)).setCell ⟨B, 5, none⟩ (.int .i64 qa.unit)).setCell ⟨B, 6, none⟩ (.int .i64 qa.num)).setCell ⟨B, 7, none⟩ (.slice a1 qa.pairs.length C1)) = w4 at *
  have c0 := HY4.out.c0; have c1 := HY4.out.c1; have c2 := HY4.out.c2; have c3 := HY4.out.c3; have c4 := HY4.out.c4; have c5 := HY4.out.c5; have c6 := HY4.out.c6; have c7 := HY4.out.c7
  have CE := Lib.hid (CD.out w4 HB4.out)
  go_wp2_with fail
  clear c0 c1 c2 c3 c4 c5 c6 c7
  refine CE.out.mono ?_; rintro e w5 ⟨qb, a2, C2, rfl, kb, p5, b5, f5⟩
  have y5 := HY4.out.below b5 HY4.out.lt; have R5 := HR4.out.below b5
  have R6 := recAt_put y5 qb a2 C2 p5 (fun y hy e => by have := f5 y hy; omega)
  have R6a := R5.put_far (B' := B + 1) (by omega) (fun y hy e => by have := F3.out y hy; omega) qb.kind qb.txn qb.key qb.value qb.pass qb.unit qb.num (.slice a2 qb.pairs.length C2)
  have B6 := put8_bel (HB4.out.trans (b5.mono (by omega))) (B + 1) qb.kind qb.txn qb.key qb.value qb.pass qb.unit qb.num (.slice a2 qb.pairs.length C2) (by omega)
  have I6 := Lib.hid (show TwoSt w _ B (B + 1) qa qb a1 a2 C1 C2 from ⟨R6a, R6, HL.out.step (by rw [hB0]; exact B6), by rw [hB0]; exact B6⟩)
  have m0 := y5.c0; have m1 := y5.c1; have m2 := y5.c2; have m3 := y5.c3; have m4 := y5.c4; have m5 := y5.c5; have m6 := y5.c6; have m7 := y5.c7; have n0 := y5.fz 0; have n1 := y5.fz 1; have n2 := y5.fz 2; have n3 := y5.fz 3; have n4 := y5.fz 4; have n5 := y5.fz 5; have n6 := y5.fz 6; have n7 := y5.fz 7
  clear R6 R6a B6 y5 R5 b5 f5 p5 HR4 HY4 HB4 CD CE F3 HA HB HL z0 z1 z2 z3 z4 z5 z6 z7
  dsimp only [recV]
  go_upto_region 3 with fail
  clear m0 m1 m2 m3 m4 m5 m6 m7 n0 n1 n2 n3 n4 n5 n6 n7
  unfold put8 at I6
  generalize ((((((((w5.setCell ⟨B + 1, 0, none⟩ (.int .i64 qb.kind)).setCell ⟨B + 1, 1, none⟩ (.int .i64 qb.txn)).setCell ⟨B + 1, 2, none⟩ (.string qb.key)).setCell ⟨B + 1, 3, none⟩ (.string qb.value)).setCell ⟨B + 1, 4, none⟩ (.int .i64 qb.pass)).setCell ⟨B + 1, 5, none⟩ (.int .i64 qb.unit)).setCell ⟨B + 1, 6, none⟩ (.int .i64 qb.num)).setCell ⟨B + 1, 7, none⟩ (.slice a2 qb.pairs.length C2)) = w6 at *
  generalize B + 1 = Bb at *
  have k1 := ka.key; have k2 := ka.val; have k3 := ka.sm; have k4 := ka.len; have l1 := kb.key; have l2 := kb.val; have l3 := kb.sm; have l4 := kb.len
  have CF := Lib.hid (fun W hW => fixed_any W hW)
  have CRa := right_any w6 qa a1 C1 I6.out.L I6.out.a.prs k3 (by omega) (by omega) (by omega)
  have CRb := Lib.hid (fun W (h : TwoSt w W B Bb qa qb a1 a2 C1 C2) => right_any W qb a2 C2 h.L h.b.prs l3 (by omega) (by omega) (by omega))
  dsimp only [recV] at CRa CRb
  have c0 := I6.out.a.box.c0; have c1 := I6.out.a.box.c1; have c2 := I6.out.a.box.c2; have c3 := I6.out.a.box.c3; have c4 := I6.out.a.box.c4; have c5 := I6.out.a.box.c5; have c6 := I6.out.a.box.c6; have c7 := I6.out.a.box.c7
  cases ha : rightB qa with
  | false =>
    rw [ha] at CRa
    have H1 := Lib.hid CRa; have Ha := Lib.hid ha
    clear CRa ha
    go_wp2_with fail
    clear c0 c1 c2 c3 c4 c5 c6 c7
    refine H1.out.mono ?_; rintro e w7 ⟨rfl, b7⟩
    have I7 := Lib.hid (I6.out.below b7)
    clear b7 I6 H1
    go_wp2_with fail
    refine (CF.out _ I7.out.L).mono ?_; rintro e w9 ⟨rfl, b9⟩
    have I12 := Lib.hid (I7.out.below b9)
    clear b9 I7
    go_wp2
    go_ret
    exact ⟨rfl, I12.out.bel⟩
  | true =>
    rw [ha] at CRa
    have H1 := Lib.hid CRa; have Ha := Lib.hid ha
    clear CRa ha
    go_wp2_with fail
    clear c0 c1 c2 c3 c4 c5 c6 c7
    refine H1.out.mono ?_; rintro e w7 ⟨rfl, b7⟩
    have I7 := Lib.hid (I6.out.below b7)
    clear b7 I6 H1
    have C2' := CRb.out w7 I7.out
    have c0 := I7.out.b.box.c0; have c1 := I7.out.b.box.c1; have c2 := I7.out.b.box.c2; have c3 := I7.out.b.box.c3; have c4 := I7.out.b.box.c4; have c5 := I7.out.b.box.c5; have c6 := I7.out.b.box.c6; have c7 := I7.out.b.box.c7
    cases hb : rightB qb with
    | false =>
      rw [hb] at C2'
      have H1 := Lib.hid C2'; have Hb := Lib.hid hb
      clear C2' hb
      go_wp2_with fail
      clear c0 c1 c2 c3 c4 c5 c6 c7
      refine H1.out.mono ?_; rintro e w8 ⟨rfl, b8⟩
      have I8 := Lib.hid (I7.out.below b8)
      clear b8 I7 H1
      go_wp2_with fail
      refine (CF.out _ I8.out.L).mono ?_; rintro e w9 ⟨rfl, b9⟩
      have I12 := Lib.hid (I8.out.below b9)
      clear b9 I8
      go_wp2
      go_ret
      exact ⟨rfl, I12.out.bel⟩
    | true =>
      rw [hb] at C2'
      have H1 := Lib.hid C2'; have Hb := Lib.hid hb
      clear C2' hb
      go_wp2_with fail
      clear c0 c1 c2 c3 c4 c5 c6 c7
      refine H1.out.mono ?_; rintro e w8 ⟨rfl, b8⟩
      have I8 := Lib.hid (I7.out.below b8)
      clear b8 I7 H1
      have qA := (rightB_iff qa).1 Ha.out; have qB := (rightB_iff qb).1 Hb.out
      have zA := encB_size qA
      have CEa := Lib.hid (fun W (h : TwoSt w W B Bb qa qb a1 a2 C1 C2) => encode_any W qa a1 C1 h.L h.a.prs k3 (by omega) (by omega) (by omega))
      have CEb := Lib.hid (fun W (h : TwoSt w W B Bb qa qb a1 a2 C1 C2) => encode_any W qb a2 C2 h.L h.b.prs l3 (by omega) (by omega) (by omega))
      rw [encOut_yes Ha.out] at CEa
      rw [encOut_yes Hb.out] at CEb
      dsimp only [recV] at CEa CEb
      have CDa := Lib.hid (fun W hW => decode_any W (encB qa) hW (by omega) qa 0 (.inl ⟨qa, qA, rfl, rfl, rfl⟩))
      have HEq := Lib.hid (show ((encB qa).toList == (encB qb).toList) = sameB qa qb by
        rw [text_beq, Bool.eq_iff_iff, decide_eq_true_iff, sameB_iff]
        exact ⟨fun h => enc_inj qA qB (congrArg (fun b : ByteArray => b.data.toList) h), fun h => by rw [h]⟩)
      clear qA qB CRb
      generalize encB qa = PA at *
      generalize encB qb = PB at *
      have c0 := I8.out.a.box.c0; have c1 := I8.out.a.box.c1; have c2 := I8.out.a.box.c2; have c3 := I8.out.a.box.c3; have c4 := I8.out.a.box.c4; have c5 := I8.out.a.box.c5; have c6 := I8.out.a.box.c6; have c7 := I8.out.a.box.c7
      go_wp2_with fail
      clear c0 c1 c2 c3 c4 c5 c6 c7
      refine (CEa.out _ I8.out).mono ?_; rintro e w9 ⟨rfl, b9⟩
      have I9 := Lib.hid (I8.out.below b9)
      clear b9 I8
      go_wp2_with fail
      refine (CDa.out _ I9.out.L).mono ?_; rintro e w10 ⟨a3, C3, rfl, p10, b10, _⟩
      have b11 : Below w10.heap.size w10 (w10.alloc (.cells #[.int .i64 qa.kind, .int .i64 qa.txn, .string qa.key, .string qa.value, .int .i64 qa.pass, .int .i64 qa.unit, .int .i64 qa.num, .slice a3 qa.pairs.length C3] QT)) := boxW_bel w10 _ _ _ _ _ _ _ _
      have x11 : RecAt (w10.alloc (.cells #[.int .i64 qa.kind, .int .i64 qa.txn, .string qa.key, .string qa.value, .int .i64 qa.pass, .int .i64 qa.unit, .int .i64 qa.num, .slice a3 qa.pairs.length C3] QT)) w10.heap.size qa a3 C3 := recAt_new w10 qa a3 C3 p10
      have I11 := (I9.out.below b10).below b11
      have O11 := Lib.hid (show OwnSt w _ B Bb w10.heap.size qa qb a1 a2 a3 C1 C2 C3 from ⟨I11, x11⟩)
      clear b11 x11 I11 I9 b10 p10 CDa
      dsimp only [recV]
      go_upto_region 6 with fail
      generalize w10.alloc (.cells #[.int .i64 qa.kind, .int .i64 qa.txn, .string qa.key, .string qa.value, .int .i64 qa.pass, .int .i64 qa.unit, .int .i64 qa.num, .slice a3 qa.pairs.length C3] QT) = w11 at *
      generalize w10.heap.size = Bx at *
      have D0 := Lib.hid (O11.out.below ((Below.refl _ w11).drew))
      have K0 := Lib.hid D0.out.cells
      have CSab := Lib.hid (fun W (h : OwnSt w W B Bb Bx qa qb a1 a2 a3 C1 C2 C3) => same_any W qa qb a1 a2 C1 C2 h.t.a.prs h.t.b.prs (by omega) (by omega))
      have CSxb := Lib.hid (fun W (h : OwnSt w W B Bb Bx qa qb a1 a2 a3 C1 C2 C3) => same_any W qa qb a3 a2 C3 C2 h.x.prs h.t.b.prs (by omega) (by omega))
      dsimp only [recV] at CSab CSxb
      have heq := HEq.out
      clear HEq O11 zA
      generalize sameB qa qb = sb at *
      go_region_held3 (fun W => W.cell? ⟨B, 0, none⟩ = some (.int .i64 qa.kind) ∧ W.cell? ⟨B, 1, none⟩ = some (.int .i64 qa.txn) ∧ W.cell? ⟨B, 2, none⟩ = some (.string qa.key) ∧ W.cell? ⟨B, 3, none⟩ = some (.string qa.value) ∧ W.cell? ⟨B, 4, none⟩ = some (.int .i64 qa.pass) ∧ W.cell? ⟨B, 5, none⟩ = some (.int .i64 qa.unit) ∧ W.cell? ⟨B, 6, none⟩ = some (.int .i64 qa.num) ∧ W.cell? ⟨B, 7, none⟩ = some (.slice a1 qa.pairs.length C1) ∧ W.cell? ⟨Bb, 0, none⟩ = some (.int .i64 qb.kind) ∧ W.cell? ⟨Bb, 1, none⟩ = some (.int .i64 qb.txn) ∧ W.cell? ⟨Bb, 2, none⟩ = some (.string qb.key) ∧ W.cell? ⟨Bb, 3, none⟩ = some (.string qb.value) ∧ W.cell? ⟨Bb, 4, none⟩ = some (.int .i64 qb.pass) ∧ W.cell? ⟨Bb, 5, none⟩ = some (.int .i64 qb.unit) ∧ W.cell? ⟨Bb, 6, none⟩ = some (.int .i64 qb.num) ∧ W.cell? ⟨Bb, 7, none⟩ = some (.slice a2 qb.pairs.length C2) ∧ W.cell? ⟨Bx, 0, none⟩ = some (.int .i64 qa.kind) ∧ W.cell? ⟨Bx, 1, none⟩ = some (.int .i64 qa.txn) ∧ W.cell? ⟨Bx, 2, none⟩ = some (.string qa.key) ∧ W.cell? ⟨Bx, 3, none⟩ = some (.string qa.value) ∧ W.cell? ⟨Bx, 4, none⟩ = some (.int .i64 qa.pass) ∧ W.cell? ⟨Bx, 5, none⟩ = some (.int .i64 qa.unit) ∧ W.cell? ⟨Bx, 6, none⟩ = some (.int .i64 qa.num) ∧ W.cell? ⟨Bx, 7, none⟩ = some (.slice a3 qa.pairs.length C3)) (first | exact K0.out | exact K1.out | exact K2.out | exact K3.out | exact K4.out | exact K5.out | exact K6.out)
        (first
          | (go_at_call 14; ((with_reducible refine (CEa.out _ D0.out.t).mono ?_); rintro e v1 ⟨rfl, b1⟩; have D1 := Lib.hid (D0.out.below b1); have K1 := Lib.hid D1.out.cells; clear b1))
          | (go_at_call 14; ((with_reducible refine (CEb.out _ D1.out.t).mono ?_); rintro e v2 ⟨rfl, b2⟩; have D2 := Lib.hid (D1.out.below b2); have K2 := Lib.hid D2.out.cells; clear b2))
          | (go_at_call 16; ((with_reducible refine (CSab.out _ D2.out).mono ?_); rintro e v3 ⟨rfl, b3⟩; have D3 := Lib.hid (D2.out.below b3); have K3 := Lib.hid D3.out.cells; clear b3))
          | (go_at_call 16; ((with_reducible refine (CSxb.out _ D3.out).mono ?_); rintro e v4 ⟨rfl, b4⟩; have D4 := Lib.hid (D3.out.below b4); have K4 := Lib.hid D4.out.cells; clear b4))
          | (go_at_call 16; ((with_reducible refine (CSab.out _ D4.out).mono ?_); rintro e v5 ⟨rfl, b5⟩; have D5 := Lib.hid (D4.out.below b5); have K5 := Lib.hid D5.out.cells; clear b5))
          | (go_at_call 22; ((with_reducible refine (CF.out _ D5.out.t.L).mono ?_); rintro e v6 ⟨rfl, b6⟩; have D6 := Lib.hid (D5.out.below b6); have K6 := Lib.hid D6.out.cells; clear b6)))
      all_goals
        go_wp2
        go_ret
        exact ⟨by first | rfl | (simp; done), D6.out.t.bel⟩
end Go.Proofs.YthnpkhejfcclcaaDoor
