/-
  RecPuts, walked.
-/
import Derived.Test.YthnpkhejfcclcaaDoorW05f
namespace Go.Proofs.YthnpkhejfcclcaaDoor
open Go.RowKit

theorem TwoSt.cells {w0 W : World} {B Bb : Nat} {qa qb : RecP} {a1 a2 : Option Addr} {C1 C2 : Nat} (h : TwoSt w0 W B Bb qa qb a1 a2 C1 C2) : (fun W => W.cell? ⟨B, 0, none⟩ = some (.int .i64 qa.kind) ∧ W.cell? ⟨B, 1, none⟩ = some (.int .i64 qa.txn) ∧ W.cell? ⟨B, 2, none⟩ = some (.string qa.key) ∧ W.cell? ⟨B, 3, none⟩ = some (.string qa.value) ∧ W.cell? ⟨B, 4, none⟩ = some (.int .i64 qa.pass) ∧ W.cell? ⟨B, 5, none⟩ = some (.int .i64 qa.unit) ∧ W.cell? ⟨B, 6, none⟩ = some (.int .i64 qa.num) ∧ W.cell? ⟨B, 7, none⟩ = some (.slice a1 qa.pairs.length C1) ∧ W.cell? ⟨Bb, 0, none⟩ = some (.int .i64 qb.kind) ∧ W.cell? ⟨Bb, 1, none⟩ = some (.int .i64 qb.txn) ∧ W.cell? ⟨Bb, 2, none⟩ = some (.string qb.key) ∧ W.cell? ⟨Bb, 3, none⟩ = some (.string qb.value) ∧ W.cell? ⟨Bb, 4, none⟩ = some (.int .i64 qb.pass) ∧ W.cell? ⟨Bb, 5, none⟩ = some (.int .i64 qb.unit) ∧ W.cell? ⟨Bb, 6, none⟩ = some (.int .i64 qb.num) ∧ W.cell? ⟨Bb, 7, none⟩ = some (.slice a2 qb.pairs.length C2)) W :=
  ⟨h.a.box.c0, h.a.box.c1, h.a.box.c2, h.a.box.c3, h.a.box.c4, h.a.box.c5, h.a.box.c6, h.a.box.c7, h.b.box.c0, h.b.box.c1, h.b.box.c2, h.b.box.c3, h.b.box.c4, h.b.box.c5, h.b.box.c6, h.b.box.c7⟩
theorem quiet_below {P : Program} {f : FuncId} {args : Array Value} {v : Value} (h : ∀ w, Calls P f args w fun e w' => e = .returned v ∧ w = w') (w : World) : Calls P f args w fun e w' => e = .returned v ∧ Below w.heap.size w w' :=
  (h w).mono fun e w' ⟨h1, h2⟩ => ⟨h1, by subst h2; exact Below.refl _ _⟩
set_option maxRecDepth 100000 in
set_option maxHeartbeats 40000000 in
theorem walk_RecPuts (ra : RecP) (aa : Option Addr) (Ca : Nat) (rb : RecP) (ab : Option Addr) (Cb : Nat) (s : ByteArray) (_hs : s.size ≤ maxLen) (w : World) (hA : ArgRec w aa ra) (hB : ArgRec w ab rb) (hL : Laid5 w) :
    Calls Tryd.prog 3 #[recV ra aa Ca, recV rb ab Cb, .string s] w fun e w' => e = .returned (.bool true) ∧ Below w.heap.size w w' := by
  unfold maxLen at _hs
  obtain ⟨n1, p1, p2, p3, p4⟩ := cutM_at s 60
  rw [show ((60 : Nat) : Int) = 60 from rfl] at p1
  have HA := Lib.hid hA; have HB := Lib.hid hB; have HL := Lib.hid hL
  have b1 : Below w.heap.size w (w.alloc (.cells #[.int .i64 ra.kind, .int .i64 ra.txn, .string ra.key, .string ra.value, .int .i64 ra.pass, .int .i64 ra.unit, .int .i64 ra.num, .slice aa ra.pairs.length Ca] QT)) := boxW_bel w _ _ _ _ _ _ _ _
  have x1 : Box8 QT (w.alloc (.cells #[.int .i64 ra.kind, .int .i64 ra.txn, .string ra.key, .string ra.value, .int .i64 ra.pass, .int .i64 ra.unit, .int .i64 ra.num, .slice aa ra.pairs.length Ca] QT)) w.heap.size ra.kind ra.txn ra.key ra.value ra.pass ra.unit ra.num (.slice aa ra.pairs.length Ca) := box8_new QT w _ _ _ _ _ _ _ _
  have s1 : (w.alloc (.cells #[.int .i64 ra.kind, .int .i64 ra.txn, .string ra.key, .string ra.value, .int .i64 ra.pass, .int .i64 ra.unit, .int .i64 ra.num, .slice aa ra.pairs.length Ca] QT)).heap.size = w.heap.size + 1 := by simp
  dsimp only [recV]
  go_enter Tryd.func3, Tryd.ntmps3
  go_upto_region 1 with fail
  generalize w.alloc (.cells #[.int .i64 ra.kind, .int .i64 ra.txn, .string ra.key, .string ra.value, .int .i64 ra.pass, .int .i64 ra.unit, .int .i64 ra.num, .slice aa ra.pairs.length Ca] QT) = w1 at *
  have b2 : Below w1.heap.size w1 (w1.alloc (.cells #[.int .i64 rb.kind, .int .i64 rb.txn, .string rb.key, .string rb.value, .int .i64 rb.pass, .int .i64 rb.unit, .int .i64 rb.num, .slice ab rb.pairs.length Cb] QT)) := boxW_bel w1 _ _ _ _ _ _ _ _
  have y2 : Box8 QT (w1.alloc (.cells #[.int .i64 rb.kind, .int .i64 rb.txn, .string rb.key, .string rb.value, .int .i64 rb.pass, .int .i64 rb.unit, .int .i64 rb.num, .slice ab rb.pairs.length Cb] QT)) w1.heap.size rb.kind rb.txn rb.key rb.value rb.pass rb.unit rb.num (.slice ab rb.pairs.length Cb) := box8_new QT w1 _ _ _ _ _ _ _ _
  have x2 := x1.below b2 x1.lt
  have s2 : (w1.alloc (.cells #[.int .i64 rb.kind, .int .i64 rb.txn, .string rb.key, .string rb.value, .int .i64 rb.pass, .int .i64 rb.unit, .int .i64 rb.num, .slice ab rb.pairs.length Cb] QT)).heap.size = w1.heap.size + 1 := by simp
  have B2 := b1.trans (b2.mono b1.size)
  generalize w1.alloc (.cells #[.int .i64 rb.kind, .int .i64 rb.txn, .string rb.key, .string rb.value, .int .i64 rb.pass, .int .i64 rb.unit, .int .i64 rb.num, .slice ab rb.pairs.length Cb] QT) = w2 at *
  rw [s1] at y2
  have CC := Lib.hid (cut_step w w2 ra aa Ca HA.out B2)
  have CD := Lib.hid (fun W h => cut_step w W rb ab Cb HB.out h)
  have HX2 := Lib.hid x2; have HY2 := Lib.hid y2; have HB2 := Lib.hid B2
  have sz2 : w2.heap.size = w.heap.size + 2 := by omega
  clear b1 b2 x1 y2 x2 B2 s1 s2 hA hB hL
  generalize hB0 : w.heap.size = B at *
  have c0 := HX2.out.c0; have c1 := HX2.out.c1; have c2 := HX2.out.c2; have c3 := HX2.out.c3; have c4 := HX2.out.c4; have c5 := HX2.out.c5; have c6 := HX2.out.c6; have c7 := HX2.out.c7
  dsimp only [recV] at CC CD
  go_wp2_with fail
  clear c0 c1 c2 c3 c4 c5 c6 c7
  refine CC.out.mono ?_; rintro e w3 ⟨qa, a1, C1, rfl, ka, p3, b3, f3⟩
  have x3 := HX2.out.below b3 HX2.out.lt; have y3 := HY2.out.below b3 HY2.out.lt
  have sz3 : B + 2 ≤ w3.heap.size := by have := b3.size; omega
  have R4 := recAt_put x3 qa a1 C1 p3 (fun y hy e => by have := f3 y hy; omega)
  have y4 : Box8 QT (put8 w3 B qa.kind qa.txn qa.key qa.value qa.pass qa.unit qa.num (.slice a1 qa.pairs.length C1)) (B + 1) rb.kind rb.txn rb.key rb.value rb.pass rb.unit rb.num (.slice ab rb.pairs.length Cb) := (put8_far _ _ _ _ _ _ _ _ _ _ _ (by omega)).trans y3
  have B4 := put8_bel (HB2.out.trans (b3.mono (by omega))) B qa.kind qa.txn qa.key qa.value qa.pass qa.unit qa.num (.slice a1 qa.pairs.length C1) (Nat.le_refl _)
  have sw4 : w3.heap.size ≤ (put8 w3 B qa.kind qa.txn qa.key qa.value qa.pass qa.unit qa.num (.slice a1 qa.pairs.length C1)).heap.size := (put8_grown _ _ _ _ _ _ _ _ _ _).size
  have F3 := Lib.hid (show ∀ y, a1 = some y → B + 2 ≤ y.block from fun y hy => by have := f3 y hy; omega)
  have HR4 := Lib.hid R4; have HY4 := Lib.hid y4; have HB4 := Lib.hid B4
  have m0 := x3.c0; have m1 := x3.c1; have m2 := x3.c2; have m3 := x3.c3; have m4 := x3.c4; have m5 := x3.c5; have m6 := x3.c6; have m7 := x3.c7; have z0 := x3.fz 0; have z1 := x3.fz 1; have z2 := x3.fz 2; have z3 := x3.fz 3; have z4 := x3.fz 4; have z5 := x3.fz 5; have z6 := x3.fz 6; have z7 := x3.fz 7
  clear R4 y4 B4 x3 y3 b3 f3 p3 HX2 HY2 HB2 CC
  dsimp only [recV]
  go_upto_region 2 with fail
  clear m0 m1 m2 m3 m4 m5 m6 m7
  unfold put8 at HR4 HY4 HB4 sw4
  generalize ((((((((w3.setCell ⟨B, 0, none⟩ (.int .i64 qa.kind)).setCell ⟨B, 1, none⟩ (.int .i64 qa.txn)).setCell ⟨B, 2, none⟩ (.string qa.key)).setCell ⟨B, 3, none⟩ (.string qa.value)).setCell ⟨B, 4, none⟩ (.int .i64 qa.pass)).setCell ⟨B, 5, none⟩ (.int .i64 qa.unit)).setCell ⟨B, 6, none⟩ (.int .i64 qa.num)).setCell ⟨B, 7, none⟩ (.slice a1 qa.pairs.length C1)) = w4 at *
  have c0 := HY4.out.c0; have c1 := HY4.out.c1; have c2 := HY4.out.c2; have c3 := HY4.out.c3; have c4 := HY4.out.c4; have c5 := HY4.out.c5; have c6 := HY4.out.c6; have c7 := HY4.out.c7
  have CE := Lib.hid (CD.out w4 HB4.out)
  go_wp2_with fail
  clear c0 c1 c2 c3 c4 c5 c6 c7
  refine CE.out.mono ?_; rintro e w5 ⟨qb, a2, C2, rfl, kb, p5, b5, f5⟩
  have y5 := HY4.out.below b5 HY4.out.lt; have R5 := HR4.out.below b5
  have R6 := recAt_put y5 qb a2 C2 p5 (fun y hy e => by have := f5 y hy; omega)
  have R6a := R5.put_far (B' := B + 1) (by omega) (fun y hy e => by have := F3.out y hy; omega) qb.kind qb.txn qb.key qb.value qb.pass qb.unit qb.num (.slice a2 qb.pairs.length C2)
  have B6 := put8_bel (HB4.out.trans (b5.mono (by omega))) (B + 1) qb.kind qb.txn qb.key qb.value qb.pass qb.unit qb.num (.slice a2 qb.pairs.length C2) (by omega)
  have I6 := Lib.hid (show TwoSt w _ B (B + 1) qa qb a1 a2 C1 C2 from ⟨R6a, R6, HL.out.step (by rw [hB0]; exact B6), by rw [hB0]; exact B6⟩)
  have m0 := y5.c0; have m1 := y5.c1; have m2 := y5.c2; have m3 := y5.c3; have m4 := y5.c4; have m5 := y5.c5; have m6 := y5.c6; have m7 := y5.c7; have n0 := y5.fz 0; have n1 := y5.fz 1; have n2 := y5.fz 2; have n3 := y5.fz 3; have n4 := y5.fz 4; have n5 := y5.fz 5; have n6 := y5.fz 6; have n7 := y5.fz 7
  clear R6 R6a B6 y5 R5 b5 f5 p5 HR4 HY4 HB4 CD CE F3 HA HB HL z0 z1 z2 z3 z4 z5 z6 z7
  dsimp only [recV]
  go_upto_region 3 with fail
  clear m0 m1 m2 m3 m4 m5 m6 m7 n0 n1 n2 n3 n4 n5 n6 n7
  unfold put8 at I6
  generalize ((((((((w5.setCell ⟨B + 1, 0, none⟩ (.int .i64 qb.kind)).setCell ⟨B + 1, 1, none⟩ (.int .i64 qb.txn)).setCell ⟨B + 1, 2, none⟩ (.string qb.key)).setCell ⟨B + 1, 3, none⟩ (.string qb.value)).setCell ⟨B + 1, 4, none⟩ (.int .i64 qb.pass)).setCell ⟨B + 1, 5, none⟩ (.int .i64 qb.unit)).setCell ⟨B + 1, 6, none⟩ (.int .i64 qb.num)).setCell ⟨B + 1, 7, none⟩ (.slice a2 qb.pairs.length C2)) = w6 at *
  generalize B + 1 = Bb at *
  have k1 := ka.key; have k2 := ka.val; have k3 := ka.sm; have k4 := ka.len; have l1 := kb.key; have l2 := kb.val; have l3 := kb.sm; have l4 := kb.len
  go_upto_region 4 with fail
  generalize s.extract 0 n1 = S at *
  clear p1 p2 p3
  have CF := Lib.hid (fun W hW => fixed_any W hW)
  have X1 := fun W (h : TwoSt w W B Bb qa qb a1 a2 C1 C2) => right_any W qa a1 C1 h.L h.a.prs k3 (by omega) (by omega) (by omega)
  have X2 := fun W => ref_any qa a1 C1 W
  have X3 := fun W (h : TwoSt w W B Bb qa qb a1 a2 C1 C2) => (rright_any W qa a1 C1 h.a.prs k3 (by omega) (by omega) (by omega))
  have X4 := fun W (h : TwoSt w W B Bb qa qb a1 a2 C1 C2) => encode_any W qa a1 C1 h.L h.a.prs k3 (by omega) (by omega) (by omega)
  have X6 := fun W (h : TwoSt w W B Bb qa qb a1 a2 C1 C2) => rencode_any W qa a1 C1 h.a.prs k3 (by omega) (by omega) (by omega)
  have X7 := fun W (h : TwoSt w W B Bb qa qb a1 a2 C1 C2) => same_any W qa qb a1 a2 C1 C2 h.a.prs h.b.prs (by omega) (by omega)
  have X9 := fun W => ref_any qb a2 C2 W
  have X10 := fun W (h : TwoSt w W B Bb qa qb a1 a2 C1 C2) => rsame_any W qa qb a1 a2 C1 C2 h.a.prs h.b.prs (by omega) (by omega)
  have X11 := quiet_below (fun W => key_any S W (by omega))
  have X12 := quiet_below (fun W => rkey_any S W (by omega))
  have X13 := quiet_below (fun W => value_any S W (by omega))
  have X14 := quiet_below (fun W => rvalue_any S W (by omega))
  dsimp only [recV] at X1 X2 X3 X4 X6 X7 X9 X10
  have H1 := Lib.hid X1; have H2 := Lib.hid X2; have H3 := Lib.hid X3; have H4 := Lib.hid X4; have H6 := Lib.hid X6; have H7 := Lib.hid X7; have H9 := Lib.hid X9; have H10 := Lib.hid X10; have H11 := Lib.hid X11; have H12 := Lib.hid X12; have H13 := Lib.hid X13; have H14 := Lib.hid X14
  clear X1 X2 X3 X4 X6 X7 X9 X10 X11 X12 X13 X14
  have D0 := Lib.hid (I6.out.below ((Below.refl _ w6).drew))
  have K0 := Lib.hid D0.out.cells
  clear I6
  generalize encOut qa = EA at *
  generalize sameB qa qb = sb at *
  generalize rightB qa = rt at *
  generalize keyB S = kS at *
  generalize valB S = vS at *
  go_region_held3 (fun W => W.cell? ⟨B, 0, none⟩ = some (.int .i64 qa.kind) ∧ W.cell? ⟨B, 1, none⟩ = some (.int .i64 qa.txn) ∧ W.cell? ⟨B, 2, none⟩ = some (.string qa.key) ∧ W.cell? ⟨B, 3, none⟩ = some (.string qa.value) ∧ W.cell? ⟨B, 4, none⟩ = some (.int .i64 qa.pass) ∧ W.cell? ⟨B, 5, none⟩ = some (.int .i64 qa.unit) ∧ W.cell? ⟨B, 6, none⟩ = some (.int .i64 qa.num) ∧ W.cell? ⟨B, 7, none⟩ = some (.slice a1 qa.pairs.length C1) ∧ W.cell? ⟨Bb, 0, none⟩ = some (.int .i64 qb.kind) ∧ W.cell? ⟨Bb, 1, none⟩ = some (.int .i64 qb.txn) ∧ W.cell? ⟨Bb, 2, none⟩ = some (.string qb.key) ∧ W.cell? ⟨Bb, 3, none⟩ = some (.string qb.value) ∧ W.cell? ⟨Bb, 4, none⟩ = some (.int .i64 qb.pass) ∧ W.cell? ⟨Bb, 5, none⟩ = some (.int .i64 qb.unit) ∧ W.cell? ⟨Bb, 6, none⟩ = some (.int .i64 qb.num) ∧ W.cell? ⟨Bb, 7, none⟩ = some (.slice a2 qb.pairs.length C2)) (first | exact K0.out | exact K1.out | exact K2.out | exact K3.out | exact K4.out | exact K5.out | exact K6.out | exact K7.out | exact K8.out | exact K9.out | exact K10.out | exact K11.out | exact K12.out | exact K13.out | exact K14.out | exact K15.out)
    (first
      | (go_at_call 11; ((with_reducible refine (H1.out _ D0.out).mono ?_); rintro e v1 ⟨rfl, b1⟩; have D1 := Lib.hid (D0.out.below b1); have K1 := Lib.hid D1.out.cells; clear b1))
      | (go_at_call 13; ((with_reducible refine (H2.out v1).mono ?_); rintro e v2 ⟨rfl, b2⟩; have D2 := Lib.hid (D1.out.below b2); have K2 := Lib.hid D2.out.cells; clear b2))
      | (go_at_call 12; ((with_reducible refine (H3.out v2 D2.out).mono ?_); rintro e v3 ⟨rfl, b3⟩; have D3 := Lib.hid (D2.out.below b3); have K3 := Lib.hid D3.out.cells; clear b3))
      | (go_at_call 14; ((with_reducible refine (H4.out v3 D3.out).mono ?_); rintro e v4 ⟨rfl, b4⟩; have D4 := Lib.hid (D3.out.below b4); have K4 := Lib.hid D4.out.cells; clear b4))
      | (go_at_call 13; ((with_reducible refine (H2.out v4).mono ?_); rintro e v5 ⟨rfl, b5⟩; have D5 := Lib.hid (D4.out.below b5); have K5 := Lib.hid D5.out.cells; clear b5))
      | (go_at_call 15; ((with_reducible refine (H6.out v5 D5.out).mono ?_); rintro e v6 ⟨rfl, b6⟩; have D6 := Lib.hid (D5.out.below b6); have K6 := Lib.hid D6.out.cells; clear b6))
      | (go_at_call 16; ((with_reducible refine (H7.out v6 D6.out).mono ?_); rintro e v7 ⟨rfl, b7⟩; have D7 := Lib.hid (D6.out.below b7); have K7 := Lib.hid D7.out.cells; clear b7))
      | (go_at_call 13; ((with_reducible refine (H2.out v7).mono ?_); rintro e v8 ⟨rfl, b8⟩; have D8 := Lib.hid (D7.out.below b8); have K8 := Lib.hid D8.out.cells; clear b8))
      | (go_at_call 13; ((with_reducible refine (H9.out v8).mono ?_); rintro e v9 ⟨rfl, b9⟩; have D9 := Lib.hid (D8.out.below b9); have K9 := Lib.hid D9.out.cells; clear b9))
      | (go_at_call 17; ((with_reducible refine (H10.out v9 D9.out).mono ?_); rintro e v10 ⟨rfl, b10⟩; have D10 := Lib.hid (D9.out.below b10); have K10 := Lib.hid D10.out.cells; clear b10))
      | (go_at_call 18; ((with_reducible refine (H11.out v10).mono ?_); rintro e v11 ⟨rfl, b11⟩; have D11 := Lib.hid (D10.out.below b11); have K11 := Lib.hid D11.out.cells; clear b11))
      | (go_at_call 19; ((with_reducible refine (H12.out v11).mono ?_); rintro e v12 ⟨rfl, b12⟩; have D12 := Lib.hid (D11.out.below b12); have K12 := Lib.hid D12.out.cells; clear b12))
      | (go_at_call 20; ((with_reducible refine (H13.out v12).mono ?_); rintro e v13 ⟨rfl, b13⟩; have D13 := Lib.hid (D12.out.below b13); have K13 := Lib.hid D13.out.cells; clear b13))
      | (go_at_call 21; ((with_reducible refine (H14.out v13).mono ?_); rintro e v14 ⟨rfl, b14⟩; have D14 := Lib.hid (D13.out.below b14); have K14 := Lib.hid D14.out.cells; clear b14))
      | (go_at_call 22; ((with_reducible refine (CF.out _ D14.out.L).mono ?_); rintro e v15 ⟨rfl, b15⟩; have D15 := Lib.hid (D14.out.below b15); have K15 := Lib.hid D15.out.cells; clear b15)))
  all_goals
    go_wp2
    go_ret
    exact ⟨by first | rfl | (simp; done), D15.out.bel⟩
end Go.Proofs.YthnpkhejfcclcaaDoor
