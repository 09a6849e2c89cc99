/-
  RecKinds, walked.
-/
import Derived.Test.YthnpkhejfcclcaaDoorW05b
import Derived.Test.YthnpkhejfcclcaaDoorK05c
namespace Go.Proofs.YthnpkhejfcclcaaDoor
open Go.RowKit

/-- RecKinds in its loop: the record, its kind any -/
structure InK (w0 w : World) (B : Nat) (q : RecP) (a : Option Addr) (C : Nat) (k : Int) : Prop where
  box : Box8 QT w B k q.txn q.key q.value q.pass q.unit q.num (.slice a q.pairs.length C)
  prs : PairsAt w a q.pairs
  far : ∀ y, a = some y → y.block ≠ B
  L : Laid5 w
  bel : Below w0.heap.size w0 w
  lB : w0.heap.size ≤ B
section
variable {w0 w w' : World} {B : Nat} {q : RecP} {a : Option Addr} {C : Nat} {k : Int}
theorem InK.below (h : InK w0 w B q a C k) (b : Below w.heap.size w w') : InK w0 w' B q a C k :=
  ⟨h.box.below b h.box.lt, h.prs.below b, h.far, h.L.step b, h.bel.trans (b.mono h.bel.size), h.lB⟩
theorem InK.set (h : InK w0 w B q a C k) (hp : 0 < w0.heap.size) (n : Int) : InK w0 (w.setCell ⟨B, 0, none⟩ (.int .i64 n)) B q a C n :=
  ⟨h.box.set0 n, pairs_far h.prs B 0 _ h.far, h.far, fun j h1 h2 => by
    have hb : (w.setCell ⟨B, 0, none⟩ (.int .i64 n)).heap[0]? = w.heap[0]? := Below.heap_setCell _ _ _ _ (show (0 : Nat) ≠ B by have := h.lB; omega)
    obtain ⟨c0, c1, c2, c3, c4⟩ := h.L j h1 h2
    exact ⟨(World.cell?_of_block hb (a := ⟨0, _, none⟩)).trans c0, (World.cell?_of_block hb (a := ⟨0, _, none⟩)).trans c1, (World.cell?_of_block hb (a := ⟨0, _, none⟩)).trans c2, (World.cell?_of_block hb (a := ⟨0, _, none⟩)).trans c3, (World.cell?_of_block hb (a := ⟨0, _, none⟩)).trans c4⟩, h.bel.setCell h.lB _, h.lB⟩
end
set_option maxRecDepth 100000 in
set_option maxHeartbeats 40000000 in
theorem walk_RecKinds (r : RecP) (a : Option Addr) (C : Nat) (w : World) (hA : ArgRec w a r) (hL : Laid5 w) :
    Calls Tryd.prog 7 #[recV r a C] w fun e w' => e = .returned (.bool true) ∧ Below w.heap.size w w' := by
  have hpos := hL.pos
  have HA := Lib.hid hA; have HL := Lib.hid hL
  have bb := boxW_bel w r.kind r.txn r.key r.value r.pass r.unit r.num (.slice a r.pairs.length C)
  have X0 := Lib.hid (box8_new QT w r.kind r.txn r.key r.value r.pass r.unit r.num (.slice a r.pairs.length C))
  have CC := Lib.hid (cut_step w _ r a C hA bb)
  have HB := Lib.hid bb
  clear hA hL bb
  dsimp only [recV]
  go_enter Tryd.func7, Tryd.ntmps7
  go_wp2_with fail
  refine CC.out.mono ?_; rintro e w2 ⟨q, a', C', rfl, ok, pA, b2, fA⟩
  have X2 := X0.out.below b2 X0.out.lt
  have hlt := X0.out.lt
  have R2 := recAt_put X2 q a' C' pA (fun y hy e => absurd (fA y hy) (by rw [e]; exact Nat.not_le.2 hlt))
  have B2 := put8_bel (HB.out.trans (b2.mono HB.out.size)) w.heap.size q.kind q.txn q.key q.value q.pass q.unit q.num (.slice a' q.pairs.length C') (Nat.le_refl _)
  have I2 := Lib.hid (show InW w _ w.heap.size q a' C' from ⟨R2, HL.out.step B2, B2⟩)
  have HF := Lib.hid (show ∀ y, a' = some y → y.block ≠ w.heap.size from fun y hy e => absurd (fA y hy) (by rw [e]; exact Nat.not_le.2 hlt))
  have m0 := X2.c0; have m1 := X2.c1; have m2 := X2.c2; have m3 := X2.c3; have m4 := X2.c4; have m5 := X2.c5; have m6 := X2.c6; have m7 := X2.c7
  have z0 := X2.fz 0; have z1 := X2.fz 1; have z2 := X2.fz 2; have z3 := X2.fz 3; have z4 := X2.fz 4; have z5 := X2.fz 5; have z6 := X2.fz 6; have z7 := X2.fz 7
  clear R2 B2 X2 CC HB HA HL pA b2 fA X0 hlt
  dsimp only [recV]
  go_upto_region 2 with fail
  clear m0 m1 m2 m3 m4 m5 m6 m7 z0 z1 z2 z3 z4 z5 z6 z7
  unfold put8 at I2
  generalize ((((((((w2.setCell ⟨w.heap.size, 0, none⟩ (.int .i64 q.kind)).setCell ⟨w.heap.size, 1, none⟩ (.int .i64 q.txn)).setCell ⟨w.heap.size, 2, none⟩ (.string q.key)).setCell ⟨w.heap.size, 3, none⟩ (.string q.value)).setCell ⟨w.heap.size, 4, none⟩ (.int .i64 q.pass)).setCell ⟨w.heap.size, 5, none⟩ (.int .i64 q.unit)).setCell ⟨w.heap.size, 6, none⟩ (.int .i64 q.num)).setCell ⟨w.heap.size, 7, none⟩ (.slice a' q.pairs.length C')) = w3 at *
  generalize hB : w.heap.size = B at *
  have ks := ok.key; have vs := ok.val; have sm := ok.sm; have ls := ok.len
  have c0 := I2.out.r.box.c0; have c1 := I2.out.r.box.c1; have c2 := I2.out.r.box.c2; have c3 := I2.out.r.box.c3; have c4 := I2.out.r.box.c4; have c5 := I2.out.r.box.c5; have c6 := I2.out.r.box.c6; have c7 := I2.out.r.box.c7
  have CE := right_any w3 q a' C' I2.out.L I2.out.r.prs sm (by omega) (by omega) (by omega)
  have CF := Lib.hid (fun W hW => fixed_any W hW)
  dsimp only [recV] at CE
  cases hb : rightB q with
  | false =>
    rw [hb] at CE
    have HE := Lib.hid CE
    clear CE hb
    go_wp2_with fail
    clear c0 c1 c2 c3 c4 c5 c6 c7
    refine HE.out.mono ?_; rintro e w4 ⟨rfl, b4⟩
    have I4 := Lib.hid (I2.out.below b4)
    clear b4 I2 HE
    go_wp2_with fail
    refine (CF.out _ I4.out.L).mono ?_; rintro e w6 ⟨rfl, b7⟩
    have I12 := Lib.hid (I4.out.below b7)
    clear b7 I4
    go_wp2
    go_ret
    exact ⟨rfl, I12.out.bel⟩
  | true =>
    have hq := (rightB_iff q).1 hb
    rw [hb] at CE
    have HE := Lib.hid CE; have HQ := Lib.hid hq
    clear CE hb hq
    go_wp2_with fail
    clear c0 c1 c2 c3 c4 c5 c6 c7
    refine HE.out.mono ?_; rintro e w4 ⟨rfl, b4⟩
    have I4 := I2.out.below b4
    have J4 := Lib.hid (show InK w w4 B q a' C' q.kind from ⟨I4.r.box, I4.r.prs, HF.out, I4.L, I4.bel, by omega⟩)
    clear b4 I2 HE I4 HF
    obtain ⟨qk, qt, qe, qv, qp, qu, qn, qr⟩ := q
    obtain ⟨κ, hκ⟩ : ∃ κ : Nat, qk = (κ : Int) := by have := HQ.out.1; dsimp only at this; exact ⟨qk.toNat, by omega⟩
    subst hκ
    have hk1 : 1 ≤ κ := by have := HQ.out.1; dsimp only at this; omega
    have hk7 : κ ≤ 7 := by have := HQ.out.2.1; dsimp only at this; omega
    dsimp only at ks vs sm ls
    have c0 := J4.out.box.c0
    dsimp only at c0
    have ev := empty_beq qv
    have CR := Lib.hid (fun W (n : Int) (hW : InK w W B ⟨κ, qt, qe, qv, qp, qu, qn, qr⟩ a' C' n) => right_any W ⟨n, qt, qe, qv, qp, qu, qn, qr⟩ a' C' hW.L hW.prs sm (by dsimp only; omega) (by dsimp only; omega) (by dsimp only; omega))
    go_upto_region 5 with fail
    clear c0
    go_wp2_with fail
    go_loopw [4] (fun i wr => ∃ n : Nat, n ≤ 9 ∧ i = .int .i64 (n : Int) ∧ ∃ kk, InK w wr B ⟨κ, qt, qe, qv, qp, qu, qn, qr⟩ a' C' kk) (fun i _ => 9 - (intOf i).toNat)
    case atStart => exact ⟨0, by omega, rfl, _, J4.out⟩
    case round =>
      obtain ⟨n, hn, rfl, kk, hI⟩ := hrel
      clear J4
      have HI := Lib.hid hI
      clear hI
      by_cases hc : n ≤ 8
      · have c1 : (n : Int) ≤ 8 := by omega
        have c0 := HI.out.box.c0; have z0 := HI.out.box.fz 0
        have J := Lib.hid (HI.out.set (show 0 < w.heap.size by omega) (n : Int))
        clear HI
        go_upto_region 9 with fail
        clear c0 z0
        generalize wr.setCell ⟨B, 0, none⟩ (.int .i64 (n : Int)) = v0 at *
        have C1 := CR.out v0 n J.out
        have c2 := J.out.box.c1; have c3 := J.out.box.c2; have c4 := J.out.box.c3; have c5 := J.out.box.c4; have c6 := J.out.box.c5; have c7 := J.out.box.c6; have c8 := J.out.box.c7; have c9 := J.out.box.c0
        dsimp only [recV] at C1 c2 c3 c4 c5 c6 c7 c8 c9
        have hsplit : κ = 1 ∨ (κ = 2 ∧ qv = ⟨#[]⟩) ∨ (κ = 2 ∧ ¬ qv = ⟨#[]⟩) ∨ κ = 3 ∨ κ = 4 ∨ κ = 5 ∨ κ = 6 ∨ (κ = 7 ∧ qr = []) ∨ (κ = 7 ∧ ¬ qr = []) := by
          by_cases h1 : qv = ⟨#[]⟩ <;> by_cases h2 : qr = [] <;> simp [h1, h2] <;> omega
        have nsplit : (n = 0 ∨ n = 8) ∨ n = 1 ∨ n = 2 ∨ n = 3 ∨ n = 4 ∨ n = 5 ∨ n = 6 ∨ n = 7 := by omega
        have HR := Lib.hid (fun (h1 : 1 ≤ n) (h7 : n ≤ 7) => right_kind κ n hk1 hk7 h1 h7 qt qe qv qp qu qn qr HQ.out)
        have HR0 := Lib.hid (fun (h : n = 0 ∨ n = 8) => right_edge (n : Int) (by omega) qt qe qv qp qu qn qr)
        generalize hrb : rightB ⟨(n : Int), qt, qe, qv, qp, qu, qn, qr⟩ = rb at *
        clear hrb
        have el : ((qr.length : Int) == 0) = decide (qr = []) := by cases qr <;> simp <;> omega
        rcases hsplit with hκ | ⟨hκ, hx⟩ | ⟨hκ, hx⟩ | hκ | hκ | hκ | hκ | ⟨hκ, hx⟩ | ⟨hκ, hx⟩
        · have f1 : ((κ : Int) == 1) = true := by rw [hκ]; rfl
          have f4 : ((κ : Int) == 4) = false := by rw [hκ]; rfl
          have f5 : ((κ : Int) == 5) = false := by rw [hκ]; rfl
          have f2 : ((κ : Int) == 2) = false := by rw [hκ]; rfl
          have f3 : ((κ : Int) == 3) = false := by rw [hκ]; rfl
          have f7 : ((κ : Int) == 7) = false := by rw [hκ]; rfl
          have f6 : ((κ : Int) == 6) = false := by rw [hκ]; rfl
          rcases nsplit with hn | hn | hn | hn | hn | hn | hn | hn
          · have rv : rb = false := by
              exact HR0.out hn
            rw [rv] at C1
            have m1 : ((n : Int) == 1) = false := by rw [beq_eq_false_iff_ne]; omega
            have m4 : ((n : Int) == 4) = false := by rw [beq_eq_false_iff_ne]; omega
            have m5 : ((n : Int) == 5) = false := by rw [beq_eq_false_iff_ne]; omega
            have m2 : ((n : Int) == 2) = false := by rw [beq_eq_false_iff_ne]; omega
            have m3 : ((n : Int) == 3) = false := by rw [beq_eq_false_iff_ne]; omega
            have m7 : ((n : Int) == 7) = false := by rw [beq_eq_false_iff_ne]; omega
            have m6 : ((n : Int) == 6) = false := by rw [beq_eq_false_iff_ne]; omega
            have mk : ((n : Int) == (κ : Int)) = false := by rw [beq_eq_false_iff_ne]; omega
            have H1 := Lib.hid C1
            clear C1 hn hκ rv HR HR0
            go_wp2_with fail
            refine H1.out.mono ?_; rintro e v1 ⟨rfl, b1⟩
            have J1 := Lib.hid (J.out.below b1)
            clear b1 J H1 c2 c3 c4 c5 c6 c7 c8 c9
            go_wp2
            exact ⟨⟨n + 1, by omega, by go_num, _, J1.out⟩, by simp [intOf]; omega⟩
          · have rv : rb = true := by
              have := HR.out (by omega) (by omega)
              rw [hκ, hn] at this
              rw [this]; simp [hasT, hasK, hasV, hasL]
            rw [rv] at C1
            have m1 : ((n : Int) == 1) = true := by rw [hn]; rfl
            have m4 : ((n : Int) == 4) = false := by rw [hn]; rfl
            have m5 : ((n : Int) == 5) = false := by rw [hn]; rfl
            have m2 : ((n : Int) == 2) = false := by rw [hn]; rfl
            have m3 : ((n : Int) == 3) = false := by rw [hn]; rfl
            have m7 : ((n : Int) == 7) = false := by rw [hn]; rfl
            have m6 : ((n : Int) == 6) = false := by rw [hn]; rfl
            have mk : ((n : Int) == (κ : Int)) = true := by rw [beq_iff_eq]; omega
            have H1 := Lib.hid C1
            clear C1 hn hκ rv HR HR0
            go_wp2_with fail
            refine H1.out.mono ?_; rintro e v1 ⟨rfl, b1⟩
            have J1 := Lib.hid (J.out.below b1)
            clear b1 J H1 c2 c3 c4 c5 c6 c7 c8 c9
            go_wp2
            exact ⟨⟨n + 1, by omega, by go_num, _, J1.out⟩, by simp [intOf]; omega⟩
          · have rv : rb = false := by
              have := HR.out (by omega) (by omega)
              rw [hκ, hn] at this
              rw [this]; simp [hasT, hasK, hasV, hasL]
            rw [rv] at C1
            have m1 : ((n : Int) == 1) = false := by rw [hn]; rfl
            have m4 : ((n : Int) == 4) = false := by rw [hn]; rfl
            have m5 : ((n : Int) == 5) = false := by rw [hn]; rfl
            have m2 : ((n : Int) == 2) = true := by rw [hn]; rfl
            have m3 : ((n : Int) == 3) = false := by rw [hn]; rfl
            have m7 : ((n : Int) == 7) = false := by rw [hn]; rfl
            have m6 : ((n : Int) == 6) = false := by rw [hn]; rfl
            have mk : ((n : Int) == (κ : Int)) = false := by rw [beq_eq_false_iff_ne]; omega
            have H1 := Lib.hid C1
            clear C1 hn hκ rv HR HR0
            go_wp2_with fail
            refine H1.out.mono ?_; rintro e v1 ⟨rfl, b1⟩
            have J1 := Lib.hid (J.out.below b1)
            clear b1 J H1 c2 c3 c4 c5 c6 c7 c8 c9
            go_wp2
            exact ⟨⟨n + 1, by omega, by go_num, _, J1.out⟩, by simp [intOf]; omega⟩
          · have rv : rb = false := by
              have := HR.out (by omega) (by omega)
              rw [hκ, hn] at this
              rw [this]; simp [hasT, hasK, hasV, hasL]
            rw [rv] at C1
            have m1 : ((n : Int) == 1) = false := by rw [hn]; rfl
            have m4 : ((n : Int) == 4) = false := by rw [hn]; rfl
            have m5 : ((n : Int) == 5) = false := by rw [hn]; rfl
            have m2 : ((n : Int) == 2) = false := by rw [hn]; rfl
            have m3 : ((n : Int) == 3) = true := by rw [hn]; rfl
            have m7 : ((n : Int) == 7) = false := by rw [hn]; rfl
            have m6 : ((n : Int) == 6) = false := by rw [hn]; rfl
            have mk : ((n : Int) == (κ : Int)) = false := by rw [beq_eq_false_iff_ne]; omega
            have H1 := Lib.hid C1
            clear C1 hn hκ rv HR HR0
            go_wp2_with fail
            refine H1.out.mono ?_; rintro e v1 ⟨rfl, b1⟩
            have J1 := Lib.hid (J.out.below b1)
            clear b1 J H1 c2 c3 c4 c5 c6 c7 c8 c9
            go_wp2
            exact ⟨⟨n + 1, by omega, by go_num, _, J1.out⟩, by simp [intOf]; omega⟩
          · have rv : rb = true := by
              have := HR.out (by omega) (by omega)
              rw [hκ, hn] at this
              rw [this]; simp [hasT, hasK, hasV, hasL]
            rw [rv] at C1
            have m1 : ((n : Int) == 1) = false := by rw [hn]; rfl
            have m4 : ((n : Int) == 4) = true := by rw [hn]; rfl
            have m5 : ((n : Int) == 5) = false := by rw [hn]; rfl
            have m2 : ((n : Int) == 2) = false := by rw [hn]; rfl
            have m3 : ((n : Int) == 3) = false := by rw [hn]; rfl
            have m7 : ((n : Int) == 7) = false := by rw [hn]; rfl
            have m6 : ((n : Int) == 6) = false := by rw [hn]; rfl
            have mk : ((n : Int) == (κ : Int)) = false := by rw [beq_eq_false_iff_ne]; omega
            have H1 := Lib.hid C1
            clear C1 hn hκ rv HR HR0
            go_wp2_with fail
            refine H1.out.mono ?_; rintro e v1 ⟨rfl, b1⟩
            have J1 := Lib.hid (J.out.below b1)
            clear b1 J H1 c2 c3 c4 c5 c6 c7 c8 c9
            go_wp2
            exact ⟨⟨n + 1, by omega, by go_num, _, J1.out⟩, by simp [intOf]; omega⟩
          · have rv : rb = true := by
              have := HR.out (by omega) (by omega)
              rw [hκ, hn] at this
              rw [this]; simp [hasT, hasK, hasV, hasL]
            rw [rv] at C1
            have m1 : ((n : Int) == 1) = false := by rw [hn]; rfl
            have m4 : ((n : Int) == 4) = false := by rw [hn]; rfl
            have m5 : ((n : Int) == 5) = true := by rw [hn]; rfl
            have m2 : ((n : Int) == 2) = false := by rw [hn]; rfl
            have m3 : ((n : Int) == 3) = false := by rw [hn]; rfl
            have m7 : ((n : Int) == 7) = false := by rw [hn]; rfl
            have m6 : ((n : Int) == 6) = false := by rw [hn]; rfl
            have mk : ((n : Int) == (κ : Int)) = false := by rw [beq_eq_false_iff_ne]; omega
            have H1 := Lib.hid C1
            clear C1 hn hκ rv HR HR0
            go_wp2_with fail
            refine H1.out.mono ?_; rintro e v1 ⟨rfl, b1⟩
            have J1 := Lib.hid (J.out.below b1)
            clear b1 J H1 c2 c3 c4 c5 c6 c7 c8 c9
            go_wp2
            exact ⟨⟨n + 1, by omega, by go_num, _, J1.out⟩, by simp [intOf]; omega⟩
          · have rv : rb = false := by
              have := HR.out (by omega) (by omega)
              rw [hκ, hn] at this
              rw [this]; simp [hasT, hasK, hasV, hasL]
            rw [rv] at C1
            have m1 : ((n : Int) == 1) = false := by rw [hn]; rfl
            have m4 : ((n : Int) == 4) = false := by rw [hn]; rfl
            have m5 : ((n : Int) == 5) = false := by rw [hn]; rfl
            have m2 : ((n : Int) == 2) = false := by rw [hn]; rfl
            have m3 : ((n : Int) == 3) = false := by rw [hn]; rfl
            have m7 : ((n : Int) == 7) = false := by rw [hn]; rfl
            have m6 : ((n : Int) == 6) = true := by rw [hn]; rfl
            have mk : ((n : Int) == (κ : Int)) = false := by rw [beq_eq_false_iff_ne]; omega
            have H1 := Lib.hid C1
            clear C1 hn hκ rv HR HR0
            go_wp2_with fail
            refine H1.out.mono ?_; rintro e v1 ⟨rfl, b1⟩
            have J1 := Lib.hid (J.out.below b1)
            clear b1 J H1 c2 c3 c4 c5 c6 c7 c8 c9
            go_wp2
            exact ⟨⟨n + 1, by omega, by go_num, _, J1.out⟩, by simp [intOf]; omega⟩
          · have rv : rb = false := by
              have := HR.out (by omega) (by omega)
              rw [hκ, hn] at this
              rw [this]; simp [hasT, hasK, hasV, hasL]
            rw [rv] at C1
            have m1 : ((n : Int) == 1) = false := by rw [hn]; rfl
            have m4 : ((n : Int) == 4) = false := by rw [hn]; rfl
            have m5 : ((n : Int) == 5) = false := by rw [hn]; rfl
            have m2 : ((n : Int) == 2) = false := by rw [hn]; rfl
            have m3 : ((n : Int) == 3) = false := by rw [hn]; rfl
            have m7 : ((n : Int) == 7) = true := by rw [hn]; rfl
            have m6 : ((n : Int) == 6) = false := by rw [hn]; rfl
            have mk : ((n : Int) == (κ : Int)) = false := by rw [beq_eq_false_iff_ne]; omega
            have H1 := Lib.hid C1
            clear C1 hn hκ rv HR HR0
            go_wp2_with fail
            refine H1.out.mono ?_; rintro e v1 ⟨rfl, b1⟩
            have J1 := Lib.hid (J.out.below b1)
            clear b1 J H1 c2 c3 c4 c5 c6 c7 c8 c9
            go_wp2
            exact ⟨⟨n + 1, by omega, by go_num, _, J1.out⟩, by simp [intOf]; omega⟩
        · have f1 : ((κ : Int) == 1) = false := by rw [hκ]; rfl
          have f4 : ((κ : Int) == 4) = false := by rw [hκ]; rfl
          have f5 : ((κ : Int) == 5) = false := by rw [hκ]; rfl
          have f2 : ((κ : Int) == 2) = true := by rw [hκ]; rfl
          have f3 : ((κ : Int) == 3) = false := by rw [hκ]; rfl
          have f7 : ((κ : Int) == 7) = false := by rw [hκ]; rfl
          have f6 : ((κ : Int) == 6) = false := by rw [hκ]; rfl
          rw [decide_eq_true hx] at ev
          rcases nsplit with hn | hn | hn | hn | hn | hn | hn | hn
          · have rv : rb = false := by
              exact HR0.out hn
            rw [rv] at C1
            have m1 : ((n : Int) == 1) = false := by rw [beq_eq_false_iff_ne]; omega
            have m4 : ((n : Int) == 4) = false := by rw [beq_eq_false_iff_ne]; omega
            have m5 : ((n : Int) == 5) = false := by rw [beq_eq_false_iff_ne]; omega
            have m2 : ((n : Int) == 2) = false := by rw [beq_eq_false_iff_ne]; omega
            have m3 : ((n : Int) == 3) = false := by rw [beq_eq_false_iff_ne]; omega
            have m7 : ((n : Int) == 7) = false := by rw [beq_eq_false_iff_ne]; omega
            have m6 : ((n : Int) == 6) = false := by rw [beq_eq_false_iff_ne]; omega
            have mk : ((n : Int) == (κ : Int)) = false := by rw [beq_eq_false_iff_ne]; omega
            have H1 := Lib.hid C1
            clear C1 hn hκ rv HR HR0 hx
            go_wp2_with fail
            refine H1.out.mono ?_; rintro e v1 ⟨rfl, b1⟩
            have J1 := Lib.hid (J.out.below b1)
            clear b1 J H1 c2 c3 c4 c5 c6 c7 c8 c9
            go_wp2
            exact ⟨⟨n + 1, by omega, by go_num, _, J1.out⟩, by simp [intOf]; omega⟩
          · have rv : rb = false := by
              have := HR.out (by omega) (by omega)
              rw [hκ, hn] at this
              rw [this]; simp [hasT, hasK, hasV, hasL, hx]
            rw [rv] at C1
            have m1 : ((n : Int) == 1) = true := by rw [hn]; rfl
            have m4 : ((n : Int) == 4) = false := by rw [hn]; rfl
            have m5 : ((n : Int) == 5) = false := by rw [hn]; rfl
            have m2 : ((n : Int) == 2) = false := by rw [hn]; rfl
            have m3 : ((n : Int) == 3) = false := by rw [hn]; rfl
            have m7 : ((n : Int) == 7) = false := by rw [hn]; rfl
            have m6 : ((n : Int) == 6) = false := by rw [hn]; rfl
            have mk : ((n : Int) == (κ : Int)) = false := by rw [beq_eq_false_iff_ne]; omega
            have H1 := Lib.hid C1
            clear C1 hn hκ rv HR HR0 hx
            go_wp2_with fail
            refine H1.out.mono ?_; rintro e v1 ⟨rfl, b1⟩
            have J1 := Lib.hid (J.out.below b1)
            clear b1 J H1 c2 c3 c4 c5 c6 c7 c8 c9
            go_wp2
            exact ⟨⟨n + 1, by omega, by go_num, _, J1.out⟩, by simp [intOf]; omega⟩
          · have rv : rb = true := by
              have := HR.out (by omega) (by omega)
              rw [hκ, hn] at this
              rw [this]; simp [hasT, hasK, hasV, hasL, hx]
            rw [rv] at C1
            have m1 : ((n : Int) == 1) = false := by rw [hn]; rfl
            have m4 : ((n : Int) == 4) = false := by rw [hn]; rfl
            have m5 : ((n : Int) == 5) = false := by rw [hn]; rfl
            have m2 : ((n : Int) == 2) = true := by rw [hn]; rfl
            have m3 : ((n : Int) == 3) = false := by rw [hn]; rfl
            have m7 : ((n : Int) == 7) = false := by rw [hn]; rfl
            have m6 : ((n : Int) == 6) = false := by rw [hn]; rfl
            have mk : ((n : Int) == (κ : Int)) = true := by rw [beq_iff_eq]; omega
            have H1 := Lib.hid C1
            clear C1 hn hκ rv HR HR0 hx
            go_wp2_with fail
            refine H1.out.mono ?_; rintro e v1 ⟨rfl, b1⟩
            have J1 := Lib.hid (J.out.below b1)
            clear b1 J H1 c2 c3 c4 c5 c6 c7 c8 c9
            go_wp2
            exact ⟨⟨n + 1, by omega, by go_num, _, J1.out⟩, by simp [intOf]; omega⟩
          · have rv : rb = true := by
              have := HR.out (by omega) (by omega)
              rw [hκ, hn] at this
              rw [this]; simp [hasT, hasK, hasV, hasL, hx]
            rw [rv] at C1
            have m1 : ((n : Int) == 1) = false := by rw [hn]; rfl
            have m4 : ((n : Int) == 4) = false := by rw [hn]; rfl
            have m5 : ((n : Int) == 5) = false := by rw [hn]; rfl
            have m2 : ((n : Int) == 2) = false := by rw [hn]; rfl
            have m3 : ((n : Int) == 3) = true := by rw [hn]; rfl
            have m7 : ((n : Int) == 7) = false := by rw [hn]; rfl
            have m6 : ((n : Int) == 6) = false := by rw [hn]; rfl
            have mk : ((n : Int) == (κ : Int)) = false := by rw [beq_eq_false_iff_ne]; omega
            have H1 := Lib.hid C1
            clear C1 hn hκ rv HR HR0 hx
            go_wp2_with fail
            refine H1.out.mono ?_; rintro e v1 ⟨rfl, b1⟩
            have J1 := Lib.hid (J.out.below b1)
            clear b1 J H1 c2 c3 c4 c5 c6 c7 c8 c9
            go_wp2
            exact ⟨⟨n + 1, by omega, by go_num, _, J1.out⟩, by simp [intOf]; omega⟩
          · have rv : rb = false := by
              have := HR.out (by omega) (by omega)
              rw [hκ, hn] at this
              rw [this]; simp [hasT, hasK, hasV, hasL, hx]
            rw [rv] at C1
            have m1 : ((n : Int) == 1) = false := by rw [hn]; rfl
            have m4 : ((n : Int) == 4) = true := by rw [hn]; rfl
            have m5 : ((n : Int) == 5) = false := by rw [hn]; rfl
            have m2 : ((n : Int) == 2) = false := by rw [hn]; rfl
            have m3 : ((n : Int) == 3) = false := by rw [hn]; rfl
            have m7 : ((n : Int) == 7) = false := by rw [hn]; rfl
            have m6 : ((n : Int) == 6) = false := by rw [hn]; rfl
            have mk : ((n : Int) == (κ : Int)) = false := by rw [beq_eq_false_iff_ne]; omega
            have H1 := Lib.hid C1
            clear C1 hn hκ rv HR HR0 hx
            go_wp2_with fail
            refine H1.out.mono ?_; rintro e v1 ⟨rfl, b1⟩
            have J1 := Lib.hid (J.out.below b1)
            clear b1 J H1 c2 c3 c4 c5 c6 c7 c8 c9
            go_wp2
            exact ⟨⟨n + 1, by omega, by go_num, _, J1.out⟩, by simp [intOf]; omega⟩
          · have rv : rb = false := by
              have := HR.out (by omega) (by omega)
              rw [hκ, hn] at this
              rw [this]; simp [hasT, hasK, hasV, hasL, hx]
            rw [rv] at C1
            have m1 : ((n : Int) == 1) = false := by rw [hn]; rfl
            have m4 : ((n : Int) == 4) = false := by rw [hn]; rfl
            have m5 : ((n : Int) == 5) = true := by rw [hn]; rfl
            have m2 : ((n : Int) == 2) = false := by rw [hn]; rfl
            have m3 : ((n : Int) == 3) = false := by rw [hn]; rfl
            have m7 : ((n : Int) == 7) = false := by rw [hn]; rfl
            have m6 : ((n : Int) == 6) = false := by rw [hn]; rfl
            have mk : ((n : Int) == (κ : Int)) = false := by rw [beq_eq_false_iff_ne]; omega
            have H1 := Lib.hid C1
            clear C1 hn hκ rv HR HR0 hx
            go_wp2_with fail
            refine H1.out.mono ?_; rintro e v1 ⟨rfl, b1⟩
            have J1 := Lib.hid (J.out.below b1)
            clear b1 J H1 c2 c3 c4 c5 c6 c7 c8 c9
            go_wp2
            exact ⟨⟨n + 1, by omega, by go_num, _, J1.out⟩, by simp [intOf]; omega⟩
          · have rv : rb = false := by
              have := HR.out (by omega) (by omega)
              rw [hκ, hn] at this
              rw [this]; simp [hasT, hasK, hasV, hasL, hx]
            rw [rv] at C1
            have m1 : ((n : Int) == 1) = false := by rw [hn]; rfl
            have m4 : ((n : Int) == 4) = false := by rw [hn]; rfl
            have m5 : ((n : Int) == 5) = false := by rw [hn]; rfl
            have m2 : ((n : Int) == 2) = false := by rw [hn]; rfl
            have m3 : ((n : Int) == 3) = false := by rw [hn]; rfl
            have m7 : ((n : Int) == 7) = false := by rw [hn]; rfl
            have m6 : ((n : Int) == 6) = true := by rw [hn]; rfl
            have mk : ((n : Int) == (κ : Int)) = false := by rw [beq_eq_false_iff_ne]; omega
            have H1 := Lib.hid C1
            clear C1 hn hκ rv HR HR0 hx
            go_wp2_with fail
            refine H1.out.mono ?_; rintro e v1 ⟨rfl, b1⟩
            have J1 := Lib.hid (J.out.below b1)
            clear b1 J H1 c2 c3 c4 c5 c6 c7 c8 c9
            go_wp2
            exact ⟨⟨n + 1, by omega, by go_num, _, J1.out⟩, by simp [intOf]; omega⟩
          · have rv : rb = false := by
              have := HR.out (by omega) (by omega)
              rw [hκ, hn] at this
              rw [this]; simp [hasT, hasK, hasV, hasL, hx]
            rw [rv] at C1
            have m1 : ((n : Int) == 1) = false := by rw [hn]; rfl
            have m4 : ((n : Int) == 4) = false := by rw [hn]; rfl
            have m5 : ((n : Int) == 5) = false := by rw [hn]; rfl
            have m2 : ((n : Int) == 2) = false := by rw [hn]; rfl
            have m3 : ((n : Int) == 3) = false := by rw [hn]; rfl
            have m7 : ((n : Int) == 7) = true := by rw [hn]; rfl
            have m6 : ((n : Int) == 6) = false := by rw [hn]; rfl
            have mk : ((n : Int) == (κ : Int)) = false := by rw [beq_eq_false_iff_ne]; omega
            have H1 := Lib.hid C1
            clear C1 hn hκ rv HR HR0 hx
            go_wp2_with fail
            refine H1.out.mono ?_; rintro e v1 ⟨rfl, b1⟩
            have J1 := Lib.hid (J.out.below b1)
            clear b1 J H1 c2 c3 c4 c5 c6 c7 c8 c9
            go_wp2
            exact ⟨⟨n + 1, by omega, by go_num, _, J1.out⟩, by simp [intOf]; omega⟩
        · have f1 : ((κ : Int) == 1) = false := by rw [hκ]; rfl
          have f4 : ((κ : Int) == 4) = false := by rw [hκ]; rfl
          have f5 : ((κ : Int) == 5) = false := by rw [hκ]; rfl
          have f2 : ((κ : Int) == 2) = true := by rw [hκ]; rfl
          have f3 : ((κ : Int) == 3) = false := by rw [hκ]; rfl
          have f7 : ((κ : Int) == 7) = false := by rw [hκ]; rfl
          have f6 : ((κ : Int) == 6) = false := by rw [hκ]; rfl
          rw [decide_eq_false hx] at ev
          rcases nsplit with hn | hn | hn | hn | hn | hn | hn | hn
          · have rv : rb = false := by
              exact HR0.out hn
            rw [rv] at C1
            have m1 : ((n : Int) == 1) = false := by rw [beq_eq_false_iff_ne]; omega
            have m4 : ((n : Int) == 4) = false := by rw [beq_eq_false_iff_ne]; omega
            have m5 : ((n : Int) == 5) = false := by rw [beq_eq_false_iff_ne]; omega
            have m2 : ((n : Int) == 2) = false := by rw [beq_eq_false_iff_ne]; omega
            have m3 : ((n : Int) == 3) = false := by rw [beq_eq_false_iff_ne]; omega
            have m7 : ((n : Int) == 7) = false := by rw [beq_eq_false_iff_ne]; omega
            have m6 : ((n : Int) == 6) = false := by rw [beq_eq_false_iff_ne]; omega
            have mk : ((n : Int) == (κ : Int)) = false := by rw [beq_eq_false_iff_ne]; omega
            have H1 := Lib.hid C1
            clear C1 hn hκ rv HR HR0 hx
            go_wp2_with fail
            refine H1.out.mono ?_; rintro e v1 ⟨rfl, b1⟩
            have J1 := Lib.hid (J.out.below b1)
            clear b1 J H1 c2 c3 c4 c5 c6 c7 c8 c9
            go_wp2
            exact ⟨⟨n + 1, by omega, by go_num, _, J1.out⟩, by simp [intOf]; omega⟩
          · have rv : rb = false := by
              have := HR.out (by omega) (by omega)
              rw [hκ, hn] at this
              rw [this]; simp [hasT, hasK, hasV, hasL, hx]
            rw [rv] at C1
            have m1 : ((n : Int) == 1) = true := by rw [hn]; rfl
            have m4 : ((n : Int) == 4) = false := by rw [hn]; rfl
            have m5 : ((n : Int) == 5) = false := by rw [hn]; rfl
            have m2 : ((n : Int) == 2) = false := by rw [hn]; rfl
            have m3 : ((n : Int) == 3) = false := by rw [hn]; rfl
            have m7 : ((n : Int) == 7) = false := by rw [hn]; rfl
            have m6 : ((n : Int) == 6) = false := by rw [hn]; rfl
            have mk : ((n : Int) == (κ : Int)) = false := by rw [beq_eq_false_iff_ne]; omega
            have H1 := Lib.hid C1
            clear C1 hn hκ rv HR HR0 hx
            go_wp2_with fail
            refine H1.out.mono ?_; rintro e v1 ⟨rfl, b1⟩
            have J1 := Lib.hid (J.out.below b1)
            clear b1 J H1 c2 c3 c4 c5 c6 c7 c8 c9
            go_wp2
            exact ⟨⟨n + 1, by omega, by go_num, _, J1.out⟩, by simp [intOf]; omega⟩
          · have rv : rb = true := by
              have := HR.out (by omega) (by omega)
              rw [hκ, hn] at this
              rw [this]; simp [hasT, hasK, hasV, hasL, hx]
            rw [rv] at C1
            have m1 : ((n : Int) == 1) = false := by rw [hn]; rfl
            have m4 : ((n : Int) == 4) = false := by rw [hn]; rfl
            have m5 : ((n : Int) == 5) = false := by rw [hn]; rfl
            have m2 : ((n : Int) == 2) = true := by rw [hn]; rfl
            have m3 : ((n : Int) == 3) = false := by rw [hn]; rfl
            have m7 : ((n : Int) == 7) = false := by rw [hn]; rfl
            have m6 : ((n : Int) == 6) = false := by rw [hn]; rfl
            have mk : ((n : Int) == (κ : Int)) = true := by rw [beq_iff_eq]; omega
            have H1 := Lib.hid C1
            clear C1 hn hκ rv HR HR0 hx
            go_wp2_with fail
            refine H1.out.mono ?_; rintro e v1 ⟨rfl, b1⟩
            have J1 := Lib.hid (J.out.below b1)
            clear b1 J H1 c2 c3 c4 c5 c6 c7 c8 c9
            go_wp2
            exact ⟨⟨n + 1, by omega, by go_num, _, J1.out⟩, by simp [intOf]; omega⟩
          · have rv : rb = false := by
              have := HR.out (by omega) (by omega)
              rw [hκ, hn] at this
              rw [this]; simp [hasT, hasK, hasV, hasL, hx]
            rw [rv] at C1
            have m1 : ((n : Int) == 1) = false := by rw [hn]; rfl
            have m4 : ((n : Int) == 4) = false := by rw [hn]; rfl
            have m5 : ((n : Int) == 5) = false := by rw [hn]; rfl
            have m2 : ((n : Int) == 2) = false := by rw [hn]; rfl
            have m3 : ((n : Int) == 3) = true := by rw [hn]; rfl
            have m7 : ((n : Int) == 7) = false := by rw [hn]; rfl
            have m6 : ((n : Int) == 6) = false := by rw [hn]; rfl
            have mk : ((n : Int) == (κ : Int)) = false := by rw [beq_eq_false_iff_ne]; omega
            have H1 := Lib.hid C1
            clear C1 hn hκ rv HR HR0 hx
            go_wp2_with fail
            refine H1.out.mono ?_; rintro e v1 ⟨rfl, b1⟩
            have J1 := Lib.hid (J.out.below b1)
            clear b1 J H1 c2 c3 c4 c5 c6 c7 c8 c9
            go_wp2
            exact ⟨⟨n + 1, by omega, by go_num, _, J1.out⟩, by simp [intOf]; omega⟩
          · have rv : rb = false := by
              have := HR.out (by omega) (by omega)
              rw [hκ, hn] at this
              rw [this]; simp [hasT, hasK, hasV, hasL, hx]
            rw [rv] at C1
            have m1 : ((n : Int) == 1) = false := by rw [hn]; rfl
            have m4 : ((n : Int) == 4) = true := by rw [hn]; rfl
            have m5 : ((n : Int) == 5) = false := by rw [hn]; rfl
            have m2 : ((n : Int) == 2) = false := by rw [hn]; rfl
            have m3 : ((n : Int) == 3) = false := by rw [hn]; rfl
            have m7 : ((n : Int) == 7) = false := by rw [hn]; rfl
            have m6 : ((n : Int) == 6) = false := by rw [hn]; rfl
            have mk : ((n : Int) == (κ : Int)) = false := by rw [beq_eq_false_iff_ne]; omega
            have H1 := Lib.hid C1
            clear C1 hn hκ rv HR HR0 hx
            go_wp2_with fail
            refine H1.out.mono ?_; rintro e v1 ⟨rfl, b1⟩
            have J1 := Lib.hid (J.out.below b1)
            clear b1 J H1 c2 c3 c4 c5 c6 c7 c8 c9
            go_wp2
            exact ⟨⟨n + 1, by omega, by go_num, _, J1.out⟩, by simp [intOf]; omega⟩
          · have rv : rb = false := by
              have := HR.out (by omega) (by omega)
              rw [hκ, hn] at this
              rw [this]; simp [hasT, hasK, hasV, hasL, hx]
            rw [rv] at C1
            have m1 : ((n : Int) == 1) = false := by rw [hn]; rfl
            have m4 : ((n : Int) == 4) = false := by rw [hn]; rfl
            have m5 : ((n : Int) == 5) = true := by rw [hn]; rfl
            have m2 : ((n : Int) == 2) = false := by rw [hn]; rfl
            have m3 : ((n : Int) == 3) = false := by rw [hn]; rfl
            have m7 : ((n : Int) == 7) = false := by rw [hn]; rfl
            have m6 : ((n : Int) == 6) = false := by rw [hn]; rfl
            have mk : ((n : Int) == (κ : Int)) = false := by rw [beq_eq_false_iff_ne]; omega
            have H1 := Lib.hid C1
            clear C1 hn hκ rv HR HR0 hx
            go_wp2_with fail
            refine H1.out.mono ?_; rintro e v1 ⟨rfl, b1⟩
            have J1 := Lib.hid (J.out.below b1)
            clear b1 J H1 c2 c3 c4 c5 c6 c7 c8 c9
            go_wp2
            exact ⟨⟨n + 1, by omega, by go_num, _, J1.out⟩, by simp [intOf]; omega⟩
          · have rv : rb = false := by
              have := HR.out (by omega) (by omega)
              rw [hκ, hn] at this
              rw [this]; simp [hasT, hasK, hasV, hasL, hx]
            rw [rv] at C1
            have m1 : ((n : Int) == 1) = false := by rw [hn]; rfl
            have m4 : ((n : Int) == 4) = false := by rw [hn]; rfl
            have m5 : ((n : Int) == 5) = false := by rw [hn]; rfl
            have m2 : ((n : Int) == 2) = false := by rw [hn]; rfl
            have m3 : ((n : Int) == 3) = false := by rw [hn]; rfl
            have m7 : ((n : Int) == 7) = false := by rw [hn]; rfl
            have m6 : ((n : Int) == 6) = true := by rw [hn]; rfl
            have mk : ((n : Int) == (κ : Int)) = false := by rw [beq_eq_false_iff_ne]; omega
            have H1 := Lib.hid C1
            clear C1 hn hκ rv HR HR0 hx
            go_wp2_with fail
            refine H1.out.mono ?_; rintro e v1 ⟨rfl, b1⟩
            have J1 := Lib.hid (J.out.below b1)
            clear b1 J H1 c2 c3 c4 c5 c6 c7 c8 c9
            go_wp2
            exact ⟨⟨n + 1, by omega, by go_num, _, J1.out⟩, by simp [intOf]; omega⟩
          · have rv : rb = false := by
              have := HR.out (by omega) (by omega)
              rw [hκ, hn] at this
              rw [this]; simp [hasT, hasK, hasV, hasL, hx]
            rw [rv] at C1
            have m1 : ((n : Int) == 1) = false := by rw [hn]; rfl
            have m4 : ((n : Int) == 4) = false := by rw [hn]; rfl
            have m5 : ((n : Int) == 5) = false := by rw [hn]; rfl
            have m2 : ((n : Int) == 2) = false := by rw [hn]; rfl
            have m3 : ((n : Int) == 3) = false := by rw [hn]; rfl
            have m7 : ((n : Int) == 7) = true := by rw [hn]; rfl
            have m6 : ((n : Int) == 6) = false := by rw [hn]; rfl
            have mk : ((n : Int) == (κ : Int)) = false := by rw [beq_eq_false_iff_ne]; omega
            have H1 := Lib.hid C1
            clear C1 hn hκ rv HR HR0 hx
            go_wp2_with fail
            refine H1.out.mono ?_; rintro e v1 ⟨rfl, b1⟩
            have J1 := Lib.hid (J.out.below b1)
            clear b1 J H1 c2 c3 c4 c5 c6 c7 c8 c9
            go_wp2
            exact ⟨⟨n + 1, by omega, by go_num, _, J1.out⟩, by simp [intOf]; omega⟩
        · have f1 : ((κ : Int) == 1) = false := by rw [hκ]; rfl
          have f4 : ((κ : Int) == 4) = false := by rw [hκ]; rfl
          have f5 : ((κ : Int) == 5) = false := by rw [hκ]; rfl
          have f2 : ((κ : Int) == 2) = false := by rw [hκ]; rfl
          have f3 : ((κ : Int) == 3) = true := by rw [hκ]; rfl
          have f7 : ((κ : Int) == 7) = false := by rw [hκ]; rfl
          have f6 : ((κ : Int) == 6) = false := by rw [hκ]; rfl
          rcases nsplit with hn | hn | hn | hn | hn | hn | hn | hn
          · have rv : rb = false := by
              exact HR0.out hn
            rw [rv] at C1
            have m1 : ((n : Int) == 1) = false := by rw [beq_eq_false_iff_ne]; omega
            have m4 : ((n : Int) == 4) = false := by rw [beq_eq_false_iff_ne]; omega
            have m5 : ((n : Int) == 5) = false := by rw [beq_eq_false_iff_ne]; omega
            have m2 : ((n : Int) == 2) = false := by rw [beq_eq_false_iff_ne]; omega
            have m3 : ((n : Int) == 3) = false := by rw [beq_eq_false_iff_ne]; omega
            have m7 : ((n : Int) == 7) = false := by rw [beq_eq_false_iff_ne]; omega
            have m6 : ((n : Int) == 6) = false := by rw [beq_eq_false_iff_ne]; omega
            have mk : ((n : Int) == (κ : Int)) = false := by rw [beq_eq_false_iff_ne]; omega
            have H1 := Lib.hid C1
            clear C1 hn hκ rv HR HR0
            go_wp2_with fail
            refine H1.out.mono ?_; rintro e v1 ⟨rfl, b1⟩
            have J1 := Lib.hid (J.out.below b1)
            clear b1 J H1 c2 c3 c4 c5 c6 c7 c8 c9
            go_wp2
            exact ⟨⟨n + 1, by omega, by go_num, _, J1.out⟩, by simp [intOf]; omega⟩
          · have rv : rb = false := by
              have := HR.out (by omega) (by omega)
              rw [hκ, hn] at this
              rw [this]; simp [hasT, hasK, hasV, hasL]
            rw [rv] at C1
            have m1 : ((n : Int) == 1) = true := by rw [hn]; rfl
            have m4 : ((n : Int) == 4) = false := by rw [hn]; rfl
            have m5 : ((n : Int) == 5) = false := by rw [hn]; rfl
            have m2 : ((n : Int) == 2) = false := by rw [hn]; rfl
            have m3 : ((n : Int) == 3) = false := by rw [hn]; rfl
            have m7 : ((n : Int) == 7) = false := by rw [hn]; rfl
            have m6 : ((n : Int) == 6) = false := by rw [hn]; rfl
            have mk : ((n : Int) == (κ : Int)) = false := by rw [beq_eq_false_iff_ne]; omega
            have H1 := Lib.hid C1
            clear C1 hn hκ rv HR HR0
            go_wp2_with fail
            refine H1.out.mono ?_; rintro e v1 ⟨rfl, b1⟩
            have J1 := Lib.hid (J.out.below b1)
            clear b1 J H1 c2 c3 c4 c5 c6 c7 c8 c9
            go_wp2
            exact ⟨⟨n + 1, by omega, by go_num, _, J1.out⟩, by simp [intOf]; omega⟩
          · have rv : rb = true := by
              have := HR.out (by omega) (by omega)
              rw [hκ, hn] at this
              rw [this]; simp [hasT, hasK, hasV, hasL]
            rw [rv] at C1
            have m1 : ((n : Int) == 1) = false := by rw [hn]; rfl
            have m4 : ((n : Int) == 4) = false := by rw [hn]; rfl
            have m5 : ((n : Int) == 5) = false := by rw [hn]; rfl
            have m2 : ((n : Int) == 2) = true := by rw [hn]; rfl
            have m3 : ((n : Int) == 3) = false := by rw [hn]; rfl
            have m7 : ((n : Int) == 7) = false := by rw [hn]; rfl
            have m6 : ((n : Int) == 6) = false := by rw [hn]; rfl
            have mk : ((n : Int) == (κ : Int)) = false := by rw [beq_eq_false_iff_ne]; omega
            have H1 := Lib.hid C1
            clear C1 hn hκ rv HR HR0
            go_wp2_with fail
            refine H1.out.mono ?_; rintro e v1 ⟨rfl, b1⟩
            have J1 := Lib.hid (J.out.below b1)
            clear b1 J H1 c2 c3 c4 c5 c6 c7 c8 c9
            go_wp2
            exact ⟨⟨n + 1, by omega, by go_num, _, J1.out⟩, by simp [intOf]; omega⟩
          · have rv : rb = true := by
              have := HR.out (by omega) (by omega)
              rw [hκ, hn] at this
              rw [this]; simp [hasT, hasK, hasV, hasL]
            rw [rv] at C1
            have m1 : ((n : Int) == 1) = false := by rw [hn]; rfl
            have m4 : ((n : Int) == 4) = false := by rw [hn]; rfl
            have m5 : ((n : Int) == 5) = false := by rw [hn]; rfl
            have m2 : ((n : Int) == 2) = false := by rw [hn]; rfl
            have m3 : ((n : Int) == 3) = true := by rw [hn]; rfl
            have m7 : ((n : Int) == 7) = false := by rw [hn]; rfl
            have m6 : ((n : Int) == 6) = false := by rw [hn]; rfl
            have mk : ((n : Int) == (κ : Int)) = true := by rw [beq_iff_eq]; omega
            have H1 := Lib.hid C1
            clear C1 hn hκ rv HR HR0
            go_wp2_with fail
            refine H1.out.mono ?_; rintro e v1 ⟨rfl, b1⟩
            have J1 := Lib.hid (J.out.below b1)
            clear b1 J H1 c2 c3 c4 c5 c6 c7 c8 c9
            go_wp2
            exact ⟨⟨n + 1, by omega, by go_num, _, J1.out⟩, by simp [intOf]; omega⟩
          · have rv : rb = false := by
              have := HR.out (by omega) (by omega)
              rw [hκ, hn] at this
              rw [this]; simp [hasT, hasK, hasV, hasL]
            rw [rv] at C1
            have m1 : ((n : Int) == 1) = false := by rw [hn]; rfl
            have m4 : ((n : Int) == 4) = true := by rw [hn]; rfl
            have m5 : ((n : Int) == 5) = false := by rw [hn]; rfl
            have m2 : ((n : Int) == 2) = false := by rw [hn]; rfl
            have m3 : ((n : Int) == 3) = false := by rw [hn]; rfl
            have m7 : ((n : Int) == 7) = false := by rw [hn]; rfl
            have m6 : ((n : Int) == 6) = false := by rw [hn]; rfl
            have mk : ((n : Int) == (κ : Int)) = false := by rw [beq_eq_false_iff_ne]; omega
            have H1 := Lib.hid C1
            clear C1 hn hκ rv HR HR0
            go_wp2_with fail
            refine H1.out.mono ?_; rintro e v1 ⟨rfl, b1⟩
            have J1 := Lib.hid (J.out.below b1)
            clear b1 J H1 c2 c3 c4 c5 c6 c7 c8 c9
            go_wp2
            exact ⟨⟨n + 1, by omega, by go_num, _, J1.out⟩, by simp [intOf]; omega⟩
          · have rv : rb = false := by
              have := HR.out (by omega) (by omega)
              rw [hκ, hn] at this
              rw [this]; simp [hasT, hasK, hasV, hasL]
            rw [rv] at C1
            have m1 : ((n : Int) == 1) = false := by rw [hn]; rfl
            have m4 : ((n : Int) == 4) = false := by rw [hn]; rfl
            have m5 : ((n : Int) == 5) = true := by rw [hn]; rfl
            have m2 : ((n : Int) == 2) = false := by rw [hn]; rfl
            have m3 : ((n : Int) == 3) = false := by rw [hn]; rfl
            have m7 : ((n : Int) == 7) = false := by rw [hn]; rfl
            have m6 : ((n : Int) == 6) = false := by rw [hn]; rfl
            have mk : ((n : Int) == (κ : Int)) = false := by rw [beq_eq_false_iff_ne]; omega
            have H1 := Lib.hid C1
            clear C1 hn hκ rv HR HR0
            go_wp2_with fail
            refine H1.out.mono ?_; rintro e v1 ⟨rfl, b1⟩
            have J1 := Lib.hid (J.out.below b1)
            clear b1 J H1 c2 c3 c4 c5 c6 c7 c8 c9
            go_wp2
            exact ⟨⟨n + 1, by omega, by go_num, _, J1.out⟩, by simp [intOf]; omega⟩
          · have rv : rb = false := by
              have := HR.out (by omega) (by omega)
              rw [hκ, hn] at this
              rw [this]; simp [hasT, hasK, hasV, hasL]
            rw [rv] at C1
            have m1 : ((n : Int) == 1) = false := by rw [hn]; rfl
            have m4 : ((n : Int) == 4) = false := by rw [hn]; rfl
            have m5 : ((n : Int) == 5) = false := by rw [hn]; rfl
            have m2 : ((n : Int) == 2) = false := by rw [hn]; rfl
            have m3 : ((n : Int) == 3) = false := by rw [hn]; rfl
            have m7 : ((n : Int) == 7) = false := by rw [hn]; rfl
            have m6 : ((n : Int) == 6) = true := by rw [hn]; rfl
            have mk : ((n : Int) == (κ : Int)) = false := by rw [beq_eq_false_iff_ne]; omega
            have H1 := Lib.hid C1
            clear C1 hn hκ rv HR HR0
            go_wp2_with fail
            refine H1.out.mono ?_; rintro e v1 ⟨rfl, b1⟩
            have J1 := Lib.hid (J.out.below b1)
            clear b1 J H1 c2 c3 c4 c5 c6 c7 c8 c9
            go_wp2
            exact ⟨⟨n + 1, by omega, by go_num, _, J1.out⟩, by simp [intOf]; omega⟩
          · have rv : rb = false := by
              have := HR.out (by omega) (by omega)
              rw [hκ, hn] at this
              rw [this]; simp [hasT, hasK, hasV, hasL]
            rw [rv] at C1
            have m1 : ((n : Int) == 1) = false := by rw [hn]; rfl
            have m4 : ((n : Int) == 4) = false := by rw [hn]; rfl
            have m5 : ((n : Int) == 5) = false := by rw [hn]; rfl
            have m2 : ((n : Int) == 2) = false := by rw [hn]; rfl
            have m3 : ((n : Int) == 3) = false := by rw [hn]; rfl
            have m7 : ((n : Int) == 7) = true := by rw [hn]; rfl
            have m6 : ((n : Int) == 6) = false := by rw [hn]; rfl
            have mk : ((n : Int) == (κ : Int)) = false := by rw [beq_eq_false_iff_ne]; omega
            have H1 := Lib.hid C1
            clear C1 hn hκ rv HR HR0
            go_wp2_with fail
            refine H1.out.mono ?_; rintro e v1 ⟨rfl, b1⟩
            have J1 := Lib.hid (J.out.below b1)
            clear b1 J H1 c2 c3 c4 c5 c6 c7 c8 c9
            go_wp2
            exact ⟨⟨n + 1, by omega, by go_num, _, J1.out⟩, by simp [intOf]; omega⟩
        · have f1 : ((κ : Int) == 1) = false := by rw [hκ]; rfl
          have f4 : ((κ : Int) == 4) = true := by rw [hκ]; rfl
          have f5 : ((κ : Int) == 5) = false := by rw [hκ]; rfl
          have f2 : ((κ : Int) == 2) = false := by rw [hκ]; rfl
          have f3 : ((κ : Int) == 3) = false := by rw [hκ]; rfl
          have f7 : ((κ : Int) == 7) = false := by rw [hκ]; rfl
          have f6 : ((κ : Int) == 6) = false := by rw [hκ]; rfl
          rcases nsplit with hn | hn | hn | hn | hn | hn | hn | hn
          · have rv : rb = false := by
              exact HR0.out hn
            rw [rv] at C1
            have m1 : ((n : Int) == 1) = false := by rw [beq_eq_false_iff_ne]; omega
            have m4 : ((n : Int) == 4) = false := by rw [beq_eq_false_iff_ne]; omega
            have m5 : ((n : Int) == 5) = false := by rw [beq_eq_false_iff_ne]; omega
            have m2 : ((n : Int) == 2) = false := by rw [beq_eq_false_iff_ne]; omega
            have m3 : ((n : Int) == 3) = false := by rw [beq_eq_false_iff_ne]; omega
            have m7 : ((n : Int) == 7) = false := by rw [beq_eq_false_iff_ne]; omega
            have m6 : ((n : Int) == 6) = false := by rw [beq_eq_false_iff_ne]; omega
            have mk : ((n : Int) == (κ : Int)) = false := by rw [beq_eq_false_iff_ne]; omega
            have H1 := Lib.hid C1
            clear C1 hn hκ rv HR HR0
            go_wp2_with fail
            refine H1.out.mono ?_; rintro e v1 ⟨rfl, b1⟩
            have J1 := Lib.hid (J.out.below b1)
            clear b1 J H1 c2 c3 c4 c5 c6 c7 c8 c9
            go_wp2
            exact ⟨⟨n + 1, by omega, by go_num, _, J1.out⟩, by simp [intOf]; omega⟩
          · have rv : rb = true := by
              have := HR.out (by omega) (by omega)
              rw [hκ, hn] at this
              rw [this]; simp [hasT, hasK, hasV, hasL]
            rw [rv] at C1
            have m1 : ((n : Int) == 1) = true := by rw [hn]; rfl
            have m4 : ((n : Int) == 4) = false := by rw [hn]; rfl
            have m5 : ((n : Int) == 5) = false := by rw [hn]; rfl
            have m2 : ((n : Int) == 2) = false := by rw [hn]; rfl
            have m3 : ((n : Int) == 3) = false := by rw [hn]; rfl
            have m7 : ((n : Int) == 7) = false := by rw [hn]; rfl
            have m6 : ((n : Int) == 6) = false := by rw [hn]; rfl
            have mk : ((n : Int) == (κ : Int)) = false := by rw [beq_eq_false_iff_ne]; omega
            have H1 := Lib.hid C1
            clear C1 hn hκ rv HR HR0
            go_wp2_with fail
            refine H1.out.mono ?_; rintro e v1 ⟨rfl, b1⟩
            have J1 := Lib.hid (J.out.below b1)
            clear b1 J H1 c2 c3 c4 c5 c6 c7 c8 c9
            go_wp2
            exact ⟨⟨n + 1, by omega, by go_num, _, J1.out⟩, by simp [intOf]; omega⟩
          · have rv : rb = false := by
              have := HR.out (by omega) (by omega)
              rw [hκ, hn] at this
              rw [this]; simp [hasT, hasK, hasV, hasL]
            rw [rv] at C1
            have m1 : ((n : Int) == 1) = false := by rw [hn]; rfl
            have m4 : ((n : Int) == 4) = false := by rw [hn]; rfl
            have m5 : ((n : Int) == 5) = false := by rw [hn]; rfl
            have m2 : ((n : Int) == 2) = true := by rw [hn]; rfl
            have m3 : ((n : Int) == 3) = false := by rw [hn]; rfl
            have m7 : ((n : Int) == 7) = false := by rw [hn]; rfl
            have m6 : ((n : Int) == 6) = false := by rw [hn]; rfl
            have mk : ((n : Int) == (κ : Int)) = false := by rw [beq_eq_false_iff_ne]; omega
            have H1 := Lib.hid C1
            clear C1 hn hκ rv HR HR0
            go_wp2_with fail
            refine H1.out.mono ?_; rintro e v1 ⟨rfl, b1⟩
            have J1 := Lib.hid (J.out.below b1)
            clear b1 J H1 c2 c3 c4 c5 c6 c7 c8 c9
            go_wp2
            exact ⟨⟨n + 1, by omega, by go_num, _, J1.out⟩, by simp [intOf]; omega⟩
          · have rv : rb = false := by
              have := HR.out (by omega) (by omega)
              rw [hκ, hn] at this
              rw [this]; simp [hasT, hasK, hasV, hasL]
            rw [rv] at C1
            have m1 : ((n : Int) == 1) = false := by rw [hn]; rfl
            have m4 : ((n : Int) == 4) = false := by rw [hn]; rfl
            have m5 : ((n : Int) == 5) = false := by rw [hn]; rfl
            have m2 : ((n : Int) == 2) = false := by rw [hn]; rfl
            have m3 : ((n : Int) == 3) = true := by rw [hn]; rfl
            have m7 : ((n : Int) == 7) = false := by rw [hn]; rfl
            have m6 : ((n : Int) == 6) = false := by rw [hn]; rfl
            have mk : ((n : Int) == (κ : Int)) = false := by rw [beq_eq_false_iff_ne]; omega
            have H1 := Lib.hid C1
            clear C1 hn hκ rv HR HR0
            go_wp2_with fail
            refine H1.out.mono ?_; rintro e v1 ⟨rfl, b1⟩
            have J1 := Lib.hid (J.out.below b1)
            clear b1 J H1 c2 c3 c4 c5 c6 c7 c8 c9
            go_wp2
            exact ⟨⟨n + 1, by omega, by go_num, _, J1.out⟩, by simp [intOf]; omega⟩
          · have rv : rb = true := by
              have := HR.out (by omega) (by omega)
              rw [hκ, hn] at this
              rw [this]; simp [hasT, hasK, hasV, hasL]
            rw [rv] at C1
            have m1 : ((n : Int) == 1) = false := by rw [hn]; rfl
            have m4 : ((n : Int) == 4) = true := by rw [hn]; rfl
            have m5 : ((n : Int) == 5) = false := by rw [hn]; rfl
            have m2 : ((n : Int) == 2) = false := by rw [hn]; rfl
            have m3 : ((n : Int) == 3) = false := by rw [hn]; rfl
            have m7 : ((n : Int) == 7) = false := by rw [hn]; rfl
            have m6 : ((n : Int) == 6) = false := by rw [hn]; rfl
            have mk : ((n : Int) == (κ : Int)) = true := by rw [beq_iff_eq]; omega
            have H1 := Lib.hid C1
            clear C1 hn hκ rv HR HR0
            go_wp2_with fail
            refine H1.out.mono ?_; rintro e v1 ⟨rfl, b1⟩
            have J1 := Lib.hid (J.out.below b1)
            clear b1 J H1 c2 c3 c4 c5 c6 c7 c8 c9
            go_wp2
            exact ⟨⟨n + 1, by omega, by go_num, _, J1.out⟩, by simp [intOf]; omega⟩
          · have rv : rb = true := by
              have := HR.out (by omega) (by omega)
              rw [hκ, hn] at this
              rw [this]; simp [hasT, hasK, hasV, hasL]
            rw [rv] at C1
            have m1 : ((n : Int) == 1) = false := by rw [hn]; rfl
            have m4 : ((n : Int) == 4) = false := by rw [hn]; rfl
            have m5 : ((n : Int) == 5) = true := by rw [hn]; rfl
            have m2 : ((n : Int) == 2) = false := by rw [hn]; rfl
            have m3 : ((n : Int) == 3) = false := by rw [hn]; rfl
            have m7 : ((n : Int) == 7) = false := by rw [hn]; rfl
            have m6 : ((n : Int) == 6) = false := by rw [hn]; rfl
            have mk : ((n : Int) == (κ : Int)) = false := by rw [beq_eq_false_iff_ne]; omega
            have H1 := Lib.hid C1
            clear C1 hn hκ rv HR HR0
            go_wp2_with fail
            refine H1.out.mono ?_; rintro e v1 ⟨rfl, b1⟩
            have J1 := Lib.hid (J.out.below b1)
            clear b1 J H1 c2 c3 c4 c5 c6 c7 c8 c9
            go_wp2
            exact ⟨⟨n + 1, by omega, by go_num, _, J1.out⟩, by simp [intOf]; omega⟩
          · have rv : rb = false := by
              have := HR.out (by omega) (by omega)
              rw [hκ, hn] at this
              rw [this]; simp [hasT, hasK, hasV, hasL]
            rw [rv] at C1
            have m1 : ((n : Int) == 1) = false := by rw [hn]; rfl
            have m4 : ((n : Int) == 4) = false := by rw [hn]; rfl
            have m5 : ((n : Int) == 5) = false := by rw [hn]; rfl
            have m2 : ((n : Int) == 2) = false := by rw [hn]; rfl
            have m3 : ((n : Int) == 3) = false := by rw [hn]; rfl
            have m7 : ((n : Int) == 7) = false := by rw [hn]; rfl
            have m6 : ((n : Int) == 6) = true := by rw [hn]; rfl
            have mk : ((n : Int) == (κ : Int)) = false := by rw [beq_eq_false_iff_ne]; omega
            have H1 := Lib.hid C1
            clear C1 hn hκ rv HR HR0
            go_wp2_with fail
            refine H1.out.mono ?_; rintro e v1 ⟨rfl, b1⟩
            have J1 := Lib.hid (J.out.below b1)
            clear b1 J H1 c2 c3 c4 c5 c6 c7 c8 c9
            go_wp2
            exact ⟨⟨n + 1, by omega, by go_num, _, J1.out⟩, by simp [intOf]; omega⟩
          · have rv : rb = false := by
              have := HR.out (by omega) (by omega)
              rw [hκ, hn] at this
              rw [this]; simp [hasT, hasK, hasV, hasL]
            rw [rv] at C1
            have m1 : ((n : Int) == 1) = false := by rw [hn]; rfl
            have m4 : ((n : Int) == 4) = false := by rw [hn]; rfl
            have m5 : ((n : Int) == 5) = false := by rw [hn]; rfl
            have m2 : ((n : Int) == 2) = false := by rw [hn]; rfl
            have m3 : ((n : Int) == 3) = false := by rw [hn]; rfl
            have m7 : ((n : Int) == 7) = true := by rw [hn]; rfl
            have m6 : ((n : Int) == 6) = false := by rw [hn]; rfl
            have mk : ((n : Int) == (κ : Int)) = false := by rw [beq_eq_false_iff_ne]; omega
            have H1 := Lib.hid C1
            clear C1 hn hκ rv HR HR0
            go_wp2_with fail
            refine H1.out.mono ?_; rintro e v1 ⟨rfl, b1⟩
            have J1 := Lib.hid (J.out.below b1)
            clear b1 J H1 c2 c3 c4 c5 c6 c7 c8 c9
            go_wp2
            exact ⟨⟨n + 1, by omega, by go_num, _, J1.out⟩, by simp [intOf]; omega⟩
        · have f1 : ((κ : Int) == 1) = false := by rw [hκ]; rfl
          have f4 : ((κ : Int) == 4) = false := by rw [hκ]; rfl
          have f5 : ((κ : Int) == 5) = true := by rw [hκ]; rfl
          have f2 : ((κ : Int) == 2) = false := by rw [hκ]; rfl
          have f3 : ((κ : Int) == 3) = false := by rw [hκ]; rfl
          have f7 : ((κ : Int) == 7) = false := by rw [hκ]; rfl
          have f6 : ((κ : Int) == 6) = false := by rw [hκ]; rfl
          rcases nsplit with hn | hn | hn | hn | hn | hn | hn | hn
          · have rv : rb = false := by
              exact HR0.out hn
            rw [rv] at C1
            have m1 : ((n : Int) == 1) = false := by rw [beq_eq_false_iff_ne]; omega
            have m4 : ((n : Int) == 4) = false := by rw [beq_eq_false_iff_ne]; omega
            have m5 : ((n : Int) == 5) = false := by rw [beq_eq_false_iff_ne]; omega
            have m2 : ((n : Int) == 2) = false := by rw [beq_eq_false_iff_ne]; omega
            have m3 : ((n : Int) == 3) = false := by rw [beq_eq_false_iff_ne]; omega
            have m7 : ((n : Int) == 7) = false := by rw [beq_eq_false_iff_ne]; omega
            have m6 : ((n : Int) == 6) = false := by rw [beq_eq_false_iff_ne]; omega
            have mk : ((n : Int) == (κ : Int)) = false := by rw [beq_eq_false_iff_ne]; omega
            have H1 := Lib.hid C1
            clear C1 hn hκ rv HR HR0
            go_wp2_with fail
            refine H1.out.mono ?_; rintro e v1 ⟨rfl, b1⟩
            have J1 := Lib.hid (J.out.below b1)
            clear b1 J H1 c2 c3 c4 c5 c6 c7 c8 c9
            go_wp2
            exact ⟨⟨n + 1, by omega, by go_num, _, J1.out⟩, by simp [intOf]; omega⟩
          · have rv : rb = true := by
              have := HR.out (by omega) (by omega)
              rw [hκ, hn] at this
              rw [this]; simp [hasT, hasK, hasV, hasL]
            rw [rv] at C1
            have m1 : ((n : Int) == 1) = true := by rw [hn]; rfl
            have m4 : ((n : Int) == 4) = false := by rw [hn]; rfl
            have m5 : ((n : Int) == 5) = false := by rw [hn]; rfl
            have m2 : ((n : Int) == 2) = false := by rw [hn]; rfl
            have m3 : ((n : Int) == 3) = false := by rw [hn]; rfl
            have m7 : ((n : Int) == 7) = false := by rw [hn]; rfl
            have m6 : ((n : Int) == 6) = false := by rw [hn]; rfl
            have mk : ((n : Int) == (κ : Int)) = false := by rw [beq_eq_false_iff_ne]; omega
            have H1 := Lib.hid C1
            clear C1 hn hκ rv HR HR0
            go_wp2_with fail
            refine H1.out.mono ?_; rintro e v1 ⟨rfl, b1⟩
            have J1 := Lib.hid (J.out.below b1)
            clear b1 J H1 c2 c3 c4 c5 c6 c7 c8 c9
            go_wp2
            exact ⟨⟨n + 1, by omega, by go_num, _, J1.out⟩, by simp [intOf]; omega⟩
          · have rv : rb = false := by
              have := HR.out (by omega) (by omega)
              rw [hκ, hn] at this
              rw [this]; simp [hasT, hasK, hasV, hasL]
            rw [rv] at C1
            have m1 : ((n : Int) == 1) = false := by rw [hn]; rfl
            have m4 : ((n : Int) == 4) = false := by rw [hn]; rfl
            have m5 : ((n : Int) == 5) = false := by rw [hn]; rfl
            have m2 : ((n : Int) == 2) = true := by rw [hn]; rfl
            have m3 : ((n : Int) == 3) = false := by rw [hn]; rfl
            have m7 : ((n : Int) == 7) = false := by rw [hn]; rfl
            have m6 : ((n : Int) == 6) = false := by rw [hn]; rfl
            have mk : ((n : Int) == (κ : Int)) = false := by rw [beq_eq_false_iff_ne]; omega
            have H1 := Lib.hid C1
            clear C1 hn hκ rv HR HR0
            go_wp2_with fail
            refine H1.out.mono ?_; rintro e v1 ⟨rfl, b1⟩
            have J1 := Lib.hid (J.out.below b1)
            clear b1 J H1 c2 c3 c4 c5 c6 c7 c8 c9
            go_wp2
            exact ⟨⟨n + 1, by omega, by go_num, _, J1.out⟩, by simp [intOf]; omega⟩
          · have rv : rb = false := by
              have := HR.out (by omega) (by omega)
              rw [hκ, hn] at this
              rw [this]; simp [hasT, hasK, hasV, hasL]
            rw [rv] at C1
            have m1 : ((n : Int) == 1) = false := by rw [hn]; rfl
            have m4 : ((n : Int) == 4) = false := by rw [hn]; rfl
            have m5 : ((n : Int) == 5) = false := by rw [hn]; rfl
            have m2 : ((n : Int) == 2) = false := by rw [hn]; rfl
            have m3 : ((n : Int) == 3) = true := by rw [hn]; rfl
            have m7 : ((n : Int) == 7) = false := by rw [hn]; rfl
            have m6 : ((n : Int) == 6) = false := by rw [hn]; rfl
            have mk : ((n : Int) == (κ : Int)) = false := by rw [beq_eq_false_iff_ne]; omega
            have H1 := Lib.hid C1
            clear C1 hn hκ rv HR HR0
            go_wp2_with fail
            refine H1.out.mono ?_; rintro e v1 ⟨rfl, b1⟩
            have J1 := Lib.hid (J.out.below b1)
            clear b1 J H1 c2 c3 c4 c5 c6 c7 c8 c9
            go_wp2
            exact ⟨⟨n + 1, by omega, by go_num, _, J1.out⟩, by simp [intOf]; omega⟩
          · have rv : rb = true := by
              have := HR.out (by omega) (by omega)
              rw [hκ, hn] at this
              rw [this]; simp [hasT, hasK, hasV, hasL]
            rw [rv] at C1
            have m1 : ((n : Int) == 1) = false := by rw [hn]; rfl
            have m4 : ((n : Int) == 4) = true := by rw [hn]; rfl
            have m5 : ((n : Int) == 5) = false := by rw [hn]; rfl
            have m2 : ((n : Int) == 2) = false := by rw [hn]; rfl
            have m3 : ((n : Int) == 3) = false := by rw [hn]; rfl
            have m7 : ((n : Int) == 7) = false := by rw [hn]; rfl
            have m6 : ((n : Int) == 6) = false := by rw [hn]; rfl
            have mk : ((n : Int) == (κ : Int)) = false := by rw [beq_eq_false_iff_ne]; omega
            have H1 := Lib.hid C1
            clear C1 hn hκ rv HR HR0
            go_wp2_with fail
            refine H1.out.mono ?_; rintro e v1 ⟨rfl, b1⟩
            have J1 := Lib.hid (J.out.below b1)
            clear b1 J H1 c2 c3 c4 c5 c6 c7 c8 c9
            go_wp2
            exact ⟨⟨n + 1, by omega, by go_num, _, J1.out⟩, by simp [intOf]; omega⟩
          · have rv : rb = true := by
              have := HR.out (by omega) (by omega)
              rw [hκ, hn] at this
              rw [this]; simp [hasT, hasK, hasV, hasL]
            rw [rv] at C1
            have m1 : ((n : Int) == 1) = false := by rw [hn]; rfl
            have m4 : ((n : Int) == 4) = false := by rw [hn]; rfl
            have m5 : ((n : Int) == 5) = true := by rw [hn]; rfl
            have m2 : ((n : Int) == 2) = false := by rw [hn]; rfl
            have m3 : ((n : Int) == 3) = false := by rw [hn]; rfl
            have m7 : ((n : Int) == 7) = false := by rw [hn]; rfl
            have m6 : ((n : Int) == 6) = false := by rw [hn]; rfl
            have mk : ((n : Int) == (κ : Int)) = true := by rw [beq_iff_eq]; omega
            have H1 := Lib.hid C1
            clear C1 hn hκ rv HR HR0
            go_wp2_with fail
            refine H1.out.mono ?_; rintro e v1 ⟨rfl, b1⟩
            have J1 := Lib.hid (J.out.below b1)
            clear b1 J H1 c2 c3 c4 c5 c6 c7 c8 c9
            go_wp2
            exact ⟨⟨n + 1, by omega, by go_num, _, J1.out⟩, by simp [intOf]; omega⟩
          · have rv : rb = false := by
              have := HR.out (by omega) (by omega)
              rw [hκ, hn] at this
              rw [this]; simp [hasT, hasK, hasV, hasL]
            rw [rv] at C1
            have m1 : ((n : Int) == 1) = false := by rw [hn]; rfl
            have m4 : ((n : Int) == 4) = false := by rw [hn]; rfl
            have m5 : ((n : Int) == 5) = false := by rw [hn]; rfl
            have m2 : ((n : Int) == 2) = false := by rw [hn]; rfl
            have m3 : ((n : Int) == 3) = false := by rw [hn]; rfl
            have m7 : ((n : Int) == 7) = false := by rw [hn]; rfl
            have m6 : ((n : Int) == 6) = true := by rw [hn]; rfl
            have mk : ((n : Int) == (κ : Int)) = false := by rw [beq_eq_false_iff_ne]; omega
            have H1 := Lib.hid C1
            clear C1 hn hκ rv HR HR0
            go_wp2_with fail
            refine H1.out.mono ?_; rintro e v1 ⟨rfl, b1⟩
            have J1 := Lib.hid (J.out.below b1)
            clear b1 J H1 c2 c3 c4 c5 c6 c7 c8 c9
            go_wp2
            exact ⟨⟨n + 1, by omega, by go_num, _, J1.out⟩, by simp [intOf]; omega⟩
          · have rv : rb = false := by
              have := HR.out (by omega) (by omega)
              rw [hκ, hn] at this
              rw [this]; simp [hasT, hasK, hasV, hasL]
            rw [rv] at C1
            have m1 : ((n : Int) == 1) = false := by rw [hn]; rfl
            have m4 : ((n : Int) == 4) = false := by rw [hn]; rfl
            have m5 : ((n : Int) == 5) = false := by rw [hn]; rfl
            have m2 : ((n : Int) == 2) = false := by rw [hn]; rfl
            have m3 : ((n : Int) == 3) = false := by rw [hn]; rfl
            have m7 : ((n : Int) == 7) = true := by rw [hn]; rfl
            have m6 : ((n : Int) == 6) = false := by rw [hn]; rfl
            have mk : ((n : Int) == (κ : Int)) = false := by rw [beq_eq_false_iff_ne]; omega
            have H1 := Lib.hid C1
            clear C1 hn hκ rv HR HR0
            go_wp2_with fail
            refine H1.out.mono ?_; rintro e v1 ⟨rfl, b1⟩
            have J1 := Lib.hid (J.out.below b1)
            clear b1 J H1 c2 c3 c4 c5 c6 c7 c8 c9
            go_wp2
            exact ⟨⟨n + 1, by omega, by go_num, _, J1.out⟩, by simp [intOf]; omega⟩
        · have f1 : ((κ : Int) == 1) = false := by rw [hκ]; rfl
          have f4 : ((κ : Int) == 4) = false := by rw [hκ]; rfl
          have f5 : ((κ : Int) == 5) = false := by rw [hκ]; rfl
          have f2 : ((κ : Int) == 2) = false := by rw [hκ]; rfl
          have f3 : ((κ : Int) == 3) = false := by rw [hκ]; rfl
          have f7 : ((κ : Int) == 7) = false := by rw [hκ]; rfl
          have f6 : ((κ : Int) == 6) = true := by rw [hκ]; rfl
          rcases nsplit with hn | hn | hn | hn | hn | hn | hn | hn
          · have rv : rb = false := by
              exact HR0.out hn
            rw [rv] at C1
            have m1 : ((n : Int) == 1) = false := by rw [beq_eq_false_iff_ne]; omega
            have m4 : ((n : Int) == 4) = false := by rw [beq_eq_false_iff_ne]; omega
            have m5 : ((n : Int) == 5) = false := by rw [beq_eq_false_iff_ne]; omega
            have m2 : ((n : Int) == 2) = false := by rw [beq_eq_false_iff_ne]; omega
            have m3 : ((n : Int) == 3) = false := by rw [beq_eq_false_iff_ne]; omega
            have m7 : ((n : Int) == 7) = false := by rw [beq_eq_false_iff_ne]; omega
            have m6 : ((n : Int) == 6) = false := by rw [beq_eq_false_iff_ne]; omega
            have mk : ((n : Int) == (κ : Int)) = false := by rw [beq_eq_false_iff_ne]; omega
            have H1 := Lib.hid C1
            clear C1 hn hκ rv HR HR0
            go_wp2_with fail
            refine H1.out.mono ?_; rintro e v1 ⟨rfl, b1⟩
            have J1 := Lib.hid (J.out.below b1)
            clear b1 J H1 c2 c3 c4 c5 c6 c7 c8 c9
            go_wp2
            exact ⟨⟨n + 1, by omega, by go_num, _, J1.out⟩, by simp [intOf]; omega⟩
          · have rv : rb = false := by
              have := HR.out (by omega) (by omega)
              rw [hκ, hn] at this
              rw [this]; simp [hasT, hasK, hasV, hasL]
            rw [rv] at C1
            have m1 : ((n : Int) == 1) = true := by rw [hn]; rfl
            have m4 : ((n : Int) == 4) = false := by rw [hn]; rfl
            have m5 : ((n : Int) == 5) = false := by rw [hn]; rfl
            have m2 : ((n : Int) == 2) = false := by rw [hn]; rfl
            have m3 : ((n : Int) == 3) = false := by rw [hn]; rfl
            have m7 : ((n : Int) == 7) = false := by rw [hn]; rfl
            have m6 : ((n : Int) == 6) = false := by rw [hn]; rfl
            have mk : ((n : Int) == (κ : Int)) = false := by rw [beq_eq_false_iff_ne]; omega
            have H1 := Lib.hid C1
            clear C1 hn hκ rv HR HR0
            go_wp2_with fail
            refine H1.out.mono ?_; rintro e v1 ⟨rfl, b1⟩
            have J1 := Lib.hid (J.out.below b1)
            clear b1 J H1 c2 c3 c4 c5 c6 c7 c8 c9
            go_wp2
            exact ⟨⟨n + 1, by omega, by go_num, _, J1.out⟩, by simp [intOf]; omega⟩
          · have rv : rb = false := by
              have := HR.out (by omega) (by omega)
              rw [hκ, hn] at this
              rw [this]; simp [hasT, hasK, hasV, hasL]
            rw [rv] at C1
            have m1 : ((n : Int) == 1) = false := by rw [hn]; rfl
            have m4 : ((n : Int) == 4) = false := by rw [hn]; rfl
            have m5 : ((n : Int) == 5) = false := by rw [hn]; rfl
            have m2 : ((n : Int) == 2) = true := by rw [hn]; rfl
            have m3 : ((n : Int) == 3) = false := by rw [hn]; rfl
            have m7 : ((n : Int) == 7) = false := by rw [hn]; rfl
            have m6 : ((n : Int) == 6) = false := by rw [hn]; rfl
            have mk : ((n : Int) == (κ : Int)) = false := by rw [beq_eq_false_iff_ne]; omega
            have H1 := Lib.hid C1
            clear C1 hn hκ rv HR HR0
            go_wp2_with fail
            refine H1.out.mono ?_; rintro e v1 ⟨rfl, b1⟩
            have J1 := Lib.hid (J.out.below b1)
            clear b1 J H1 c2 c3 c4 c5 c6 c7 c8 c9
            go_wp2
            exact ⟨⟨n + 1, by omega, by go_num, _, J1.out⟩, by simp [intOf]; omega⟩
          · have rv : rb = false := by
              have := HR.out (by omega) (by omega)
              rw [hκ, hn] at this
              rw [this]; simp [hasT, hasK, hasV, hasL]
            rw [rv] at C1
            have m1 : ((n : Int) == 1) = false := by rw [hn]; rfl
            have m4 : ((n : Int) == 4) = false := by rw [hn]; rfl
            have m5 : ((n : Int) == 5) = false := by rw [hn]; rfl
            have m2 : ((n : Int) == 2) = false := by rw [hn]; rfl
            have m3 : ((n : Int) == 3) = true := by rw [hn]; rfl
            have m7 : ((n : Int) == 7) = false := by rw [hn]; rfl
            have m6 : ((n : Int) == 6) = false := by rw [hn]; rfl
            have mk : ((n : Int) == (κ : Int)) = false := by rw [beq_eq_false_iff_ne]; omega
            have H1 := Lib.hid C1
            clear C1 hn hκ rv HR HR0
            go_wp2_with fail
            refine H1.out.mono ?_; rintro e v1 ⟨rfl, b1⟩
            have J1 := Lib.hid (J.out.below b1)
            clear b1 J H1 c2 c3 c4 c5 c6 c7 c8 c9
            go_wp2
            exact ⟨⟨n + 1, by omega, by go_num, _, J1.out⟩, by simp [intOf]; omega⟩
          · have rv : rb = false := by
              have := HR.out (by omega) (by omega)
              rw [hκ, hn] at this
              rw [this]; simp [hasT, hasK, hasV, hasL]
            rw [rv] at C1
            have m1 : ((n : Int) == 1) = false := by rw [hn]; rfl
            have m4 : ((n : Int) == 4) = true := by rw [hn]; rfl
            have m5 : ((n : Int) == 5) = false := by rw [hn]; rfl
            have m2 : ((n : Int) == 2) = false := by rw [hn]; rfl
            have m3 : ((n : Int) == 3) = false := by rw [hn]; rfl
            have m7 : ((n : Int) == 7) = false := by rw [hn]; rfl
            have m6 : ((n : Int) == 6) = false := by rw [hn]; rfl
            have mk : ((n : Int) == (κ : Int)) = false := by rw [beq_eq_false_iff_ne]; omega
            have H1 := Lib.hid C1
            clear C1 hn hκ rv HR HR0
            go_wp2_with fail
            refine H1.out.mono ?_; rintro e v1 ⟨rfl, b1⟩
            have J1 := Lib.hid (J.out.below b1)
            clear b1 J H1 c2 c3 c4 c5 c6 c7 c8 c9
            go_wp2
            exact ⟨⟨n + 1, by omega, by go_num, _, J1.out⟩, by simp [intOf]; omega⟩
          · have rv : rb = false := by
              have := HR.out (by omega) (by omega)
              rw [hκ, hn] at this
              rw [this]; simp [hasT, hasK, hasV, hasL]
            rw [rv] at C1
            have m1 : ((n : Int) == 1) = false := by rw [hn]; rfl
            have m4 : ((n : Int) == 4) = false := by rw [hn]; rfl
            have m5 : ((n : Int) == 5) = true := by rw [hn]; rfl
            have m2 : ((n : Int) == 2) = false := by rw [hn]; rfl
            have m3 : ((n : Int) == 3) = false := by rw [hn]; rfl
            have m7 : ((n : Int) == 7) = false := by rw [hn]; rfl
            have m6 : ((n : Int) == 6) = false := by rw [hn]; rfl
            have mk : ((n : Int) == (κ : Int)) = false := by rw [beq_eq_false_iff_ne]; omega
            have H1 := Lib.hid C1
            clear C1 hn hκ rv HR HR0
            go_wp2_with fail
            refine H1.out.mono ?_; rintro e v1 ⟨rfl, b1⟩
            have J1 := Lib.hid (J.out.below b1)
            clear b1 J H1 c2 c3 c4 c5 c6 c7 c8 c9
            go_wp2
            exact ⟨⟨n + 1, by omega, by go_num, _, J1.out⟩, by simp [intOf]; omega⟩
          · have rv : rb = true := by
              have := HR.out (by omega) (by omega)
              rw [hκ, hn] at this
              rw [this]; simp [hasT, hasK, hasV, hasL]
            rw [rv] at C1
            have m1 : ((n : Int) == 1) = false := by rw [hn]; rfl
            have m4 : ((n : Int) == 4) = false := by rw [hn]; rfl
            have m5 : ((n : Int) == 5) = false := by rw [hn]; rfl
            have m2 : ((n : Int) == 2) = false := by rw [hn]; rfl
            have m3 : ((n : Int) == 3) = false := by rw [hn]; rfl
            have m7 : ((n : Int) == 7) = false := by rw [hn]; rfl
            have m6 : ((n : Int) == 6) = true := by rw [hn]; rfl
            have mk : ((n : Int) == (κ : Int)) = true := by rw [beq_iff_eq]; omega
            have H1 := Lib.hid C1
            clear C1 hn hκ rv HR HR0
            go_wp2_with fail
            refine H1.out.mono ?_; rintro e v1 ⟨rfl, b1⟩
            have J1 := Lib.hid (J.out.below b1)
            clear b1 J H1 c2 c3 c4 c5 c6 c7 c8 c9
            go_wp2
            exact ⟨⟨n + 1, by omega, by go_num, _, J1.out⟩, by simp [intOf]; omega⟩
          · have rv : rb = true := by
              have := HR.out (by omega) (by omega)
              rw [hκ, hn] at this
              rw [this]; simp [hasT, hasK, hasV, hasL]
            rw [rv] at C1
            have m1 : ((n : Int) == 1) = false := by rw [hn]; rfl
            have m4 : ((n : Int) == 4) = false := by rw [hn]; rfl
            have m5 : ((n : Int) == 5) = false := by rw [hn]; rfl
            have m2 : ((n : Int) == 2) = false := by rw [hn]; rfl
            have m3 : ((n : Int) == 3) = false := by rw [hn]; rfl
            have m7 : ((n : Int) == 7) = true := by rw [hn]; rfl
            have m6 : ((n : Int) == 6) = false := by rw [hn]; rfl
            have mk : ((n : Int) == (κ : Int)) = false := by rw [beq_eq_false_iff_ne]; omega
            have H1 := Lib.hid C1
            clear C1 hn hκ rv HR HR0
            go_wp2_with fail
            refine H1.out.mono ?_; rintro e v1 ⟨rfl, b1⟩
            have J1 := Lib.hid (J.out.below b1)
            clear b1 J H1 c2 c3 c4 c5 c6 c7 c8 c9
            go_wp2
            exact ⟨⟨n + 1, by omega, by go_num, _, J1.out⟩, by simp [intOf]; omega⟩
        · have f1 : ((κ : Int) == 1) = false := by rw [hκ]; rfl
          have f4 : ((κ : Int) == 4) = false := by rw [hκ]; rfl
          have f5 : ((κ : Int) == 5) = false := by rw [hκ]; rfl
          have f2 : ((κ : Int) == 2) = false := by rw [hκ]; rfl
          have f3 : ((κ : Int) == 3) = false := by rw [hκ]; rfl
          have f7 : ((κ : Int) == 7) = true := by rw [hκ]; rfl
          have f6 : ((κ : Int) == 6) = false := by rw [hκ]; rfl
          rw [decide_eq_true hx] at el
          rcases nsplit with hn | hn | hn | hn | hn | hn | hn | hn
          · have rv : rb = false := by
              exact HR0.out hn
            rw [rv] at C1
            have m1 : ((n : Int) == 1) = false := by rw [beq_eq_false_iff_ne]; omega
            have m4 : ((n : Int) == 4) = false := by rw [beq_eq_false_iff_ne]; omega
            have m5 : ((n : Int) == 5) = false := by rw [beq_eq_false_iff_ne]; omega
            have m2 : ((n : Int) == 2) = false := by rw [beq_eq_false_iff_ne]; omega
            have m3 : ((n : Int) == 3) = false := by rw [beq_eq_false_iff_ne]; omega
            have m7 : ((n : Int) == 7) = false := by rw [beq_eq_false_iff_ne]; omega
            have m6 : ((n : Int) == 6) = false := by rw [beq_eq_false_iff_ne]; omega
            have mk : ((n : Int) == (κ : Int)) = false := by rw [beq_eq_false_iff_ne]; omega
            have H1 := Lib.hid C1
            clear C1 hn hκ rv HR HR0 hx
            go_wp2_with fail
            refine H1.out.mono ?_; rintro e v1 ⟨rfl, b1⟩
            have J1 := Lib.hid (J.out.below b1)
            clear b1 J H1 c2 c3 c4 c5 c6 c7 c8 c9
            go_wp2
            exact ⟨⟨n + 1, by omega, by go_num, _, J1.out⟩, by simp [intOf]; omega⟩
          · have rv : rb = false := by
              have := HR.out (by omega) (by omega)
              rw [hκ, hn] at this
              rw [this]; simp [hasT, hasK, hasV, hasL, hx]
            rw [rv] at C1
            have m1 : ((n : Int) == 1) = true := by rw [hn]; rfl
            have m4 : ((n : Int) == 4) = false := by rw [hn]; rfl
            have m5 : ((n : Int) == 5) = false := by rw [hn]; rfl
            have m2 : ((n : Int) == 2) = false := by rw [hn]; rfl
            have m3 : ((n : Int) == 3) = false := by rw [hn]; rfl
            have m7 : ((n : Int) == 7) = false := by rw [hn]; rfl
            have m6 : ((n : Int) == 6) = false := by rw [hn]; rfl
            have mk : ((n : Int) == (κ : Int)) = false := by rw [beq_eq_false_iff_ne]; omega
            have H1 := Lib.hid C1
            clear C1 hn hκ rv HR HR0 hx
            go_wp2_with fail
            refine H1.out.mono ?_; rintro e v1 ⟨rfl, b1⟩
            have J1 := Lib.hid (J.out.below b1)
            clear b1 J H1 c2 c3 c4 c5 c6 c7 c8 c9
            go_wp2
            exact ⟨⟨n + 1, by omega, by go_num, _, J1.out⟩, by simp [intOf]; omega⟩
          · have rv : rb = false := by
              have := HR.out (by omega) (by omega)
              rw [hκ, hn] at this
              rw [this]; simp [hasT, hasK, hasV, hasL, hx]
            rw [rv] at C1
            have m1 : ((n : Int) == 1) = false := by rw [hn]; rfl
            have m4 : ((n : Int) == 4) = false := by rw [hn]; rfl
            have m5 : ((n : Int) == 5) = false := by rw [hn]; rfl
            have m2 : ((n : Int) == 2) = true := by rw [hn]; rfl
            have m3 : ((n : Int) == 3) = false := by rw [hn]; rfl
            have m7 : ((n : Int) == 7) = false := by rw [hn]; rfl
            have m6 : ((n : Int) == 6) = false := by rw [hn]; rfl
            have mk : ((n : Int) == (κ : Int)) = false := by rw [beq_eq_false_iff_ne]; omega
            have H1 := Lib.hid C1
            clear C1 hn hκ rv HR HR0 hx
            go_wp2_with fail
            refine H1.out.mono ?_; rintro e v1 ⟨rfl, b1⟩
            have J1 := Lib.hid (J.out.below b1)
            clear b1 J H1 c2 c3 c4 c5 c6 c7 c8 c9
            go_wp2
            exact ⟨⟨n + 1, by omega, by go_num, _, J1.out⟩, by simp [intOf]; omega⟩
          · have rv : rb = false := by
              have := HR.out (by omega) (by omega)
              rw [hκ, hn] at this
              rw [this]; simp [hasT, hasK, hasV, hasL, hx]
            rw [rv] at C1
            have m1 : ((n : Int) == 1) = false := by rw [hn]; rfl
            have m4 : ((n : Int) == 4) = false := by rw [hn]; rfl
            have m5 : ((n : Int) == 5) = false := by rw [hn]; rfl
            have m2 : ((n : Int) == 2) = false := by rw [hn]; rfl
            have m3 : ((n : Int) == 3) = true := by rw [hn]; rfl
            have m7 : ((n : Int) == 7) = false := by rw [hn]; rfl
            have m6 : ((n : Int) == 6) = false := by rw [hn]; rfl
            have mk : ((n : Int) == (κ : Int)) = false := by rw [beq_eq_false_iff_ne]; omega
            have H1 := Lib.hid C1
            clear C1 hn hκ rv HR HR0 hx
            go_wp2_with fail
            refine H1.out.mono ?_; rintro e v1 ⟨rfl, b1⟩
            have J1 := Lib.hid (J.out.below b1)
            clear b1 J H1 c2 c3 c4 c5 c6 c7 c8 c9
            go_wp2
            exact ⟨⟨n + 1, by omega, by go_num, _, J1.out⟩, by simp [intOf]; omega⟩
          · have rv : rb = false := by
              have := HR.out (by omega) (by omega)
              rw [hκ, hn] at this
              rw [this]; simp [hasT, hasK, hasV, hasL, hx]
            rw [rv] at C1
            have m1 : ((n : Int) == 1) = false := by rw [hn]; rfl
            have m4 : ((n : Int) == 4) = true := by rw [hn]; rfl
            have m5 : ((n : Int) == 5) = false := by rw [hn]; rfl
            have m2 : ((n : Int) == 2) = false := by rw [hn]; rfl
            have m3 : ((n : Int) == 3) = false := by rw [hn]; rfl
            have m7 : ((n : Int) == 7) = false := by rw [hn]; rfl
            have m6 : ((n : Int) == 6) = false := by rw [hn]; rfl
            have mk : ((n : Int) == (κ : Int)) = false := by rw [beq_eq_false_iff_ne]; omega
            have H1 := Lib.hid C1
            clear C1 hn hκ rv HR HR0 hx
            go_wp2_with fail
            refine H1.out.mono ?_; rintro e v1 ⟨rfl, b1⟩
            have J1 := Lib.hid (J.out.below b1)
            clear b1 J H1 c2 c3 c4 c5 c6 c7 c8 c9
            go_wp2
            exact ⟨⟨n + 1, by omega, by go_num, _, J1.out⟩, by simp [intOf]; omega⟩
          · have rv : rb = false := by
              have := HR.out (by omega) (by omega)
              rw [hκ, hn] at this
              rw [this]; simp [hasT, hasK, hasV, hasL, hx]
            rw [rv] at C1
            have m1 : ((n : Int) == 1) = false := by rw [hn]; rfl
            have m4 : ((n : Int) == 4) = false := by rw [hn]; rfl
            have m5 : ((n : Int) == 5) = true := by rw [hn]; rfl
            have m2 : ((n : Int) == 2) = false := by rw [hn]; rfl
            have m3 : ((n : Int) == 3) = false := by rw [hn]; rfl
            have m7 : ((n : Int) == 7) = false := by rw [hn]; rfl
            have m6 : ((n : Int) == 6) = false := by rw [hn]; rfl
            have mk : ((n : Int) == (κ : Int)) = false := by rw [beq_eq_false_iff_ne]; omega
            have H1 := Lib.hid C1
            clear C1 hn hκ rv HR HR0 hx
            go_wp2_with fail
            refine H1.out.mono ?_; rintro e v1 ⟨rfl, b1⟩
            have J1 := Lib.hid (J.out.below b1)
            clear b1 J H1 c2 c3 c4 c5 c6 c7 c8 c9
            go_wp2
            exact ⟨⟨n + 1, by omega, by go_num, _, J1.out⟩, by simp [intOf]; omega⟩
          · have rv : rb = true := by
              have := HR.out (by omega) (by omega)
              rw [hκ, hn] at this
              rw [this]; simp [hasT, hasK, hasV, hasL, hx]
            rw [rv] at C1
            have m1 : ((n : Int) == 1) = false := by rw [hn]; rfl
            have m4 : ((n : Int) == 4) = false := by rw [hn]; rfl
            have m5 : ((n : Int) == 5) = false := by rw [hn]; rfl
            have m2 : ((n : Int) == 2) = false := by rw [hn]; rfl
            have m3 : ((n : Int) == 3) = false := by rw [hn]; rfl
            have m7 : ((n : Int) == 7) = false := by rw [hn]; rfl
            have m6 : ((n : Int) == 6) = true := by rw [hn]; rfl
            have mk : ((n : Int) == (κ : Int)) = false := by rw [beq_eq_false_iff_ne]; omega
            have H1 := Lib.hid C1
            clear C1 hn hκ rv HR HR0 hx
            go_wp2_with fail
            refine H1.out.mono ?_; rintro e v1 ⟨rfl, b1⟩
            have J1 := Lib.hid (J.out.below b1)
            clear b1 J H1 c2 c3 c4 c5 c6 c7 c8 c9
            go_wp2
            exact ⟨⟨n + 1, by omega, by go_num, _, J1.out⟩, by simp [intOf]; omega⟩
          · have rv : rb = true := by
              have := HR.out (by omega) (by omega)
              rw [hκ, hn] at this
              rw [this]; simp [hasT, hasK, hasV, hasL, hx]
            rw [rv] at C1
            have m1 : ((n : Int) == 1) = false := by rw [hn]; rfl
            have m4 : ((n : Int) == 4) = false := by rw [hn]; rfl
            have m5 : ((n : Int) == 5) = false := by rw [hn]; rfl
            have m2 : ((n : Int) == 2) = false := by rw [hn]; rfl
            have m3 : ((n : Int) == 3) = false := by rw [hn]; rfl
            have m7 : ((n : Int) == 7) = true := by rw [hn]; rfl
            have m6 : ((n : Int) == 6) = false := by rw [hn]; rfl
            have mk : ((n : Int) == (κ : Int)) = true := by rw [beq_iff_eq]; omega
            have H1 := Lib.hid C1
            clear C1 hn hκ rv HR HR0 hx
            go_wp2_with fail
            refine H1.out.mono ?_; rintro e v1 ⟨rfl, b1⟩
            have J1 := Lib.hid (J.out.below b1)
            clear b1 J H1 c2 c3 c4 c5 c6 c7 c8 c9
            go_wp2
            exact ⟨⟨n + 1, by omega, by go_num, _, J1.out⟩, by simp [intOf]; omega⟩
        · have f1 : ((κ : Int) == 1) = false := by rw [hκ]; rfl
          have f4 : ((κ : Int) == 4) = false := by rw [hκ]; rfl
          have f5 : ((κ : Int) == 5) = false := by rw [hκ]; rfl
          have f2 : ((κ : Int) == 2) = false := by rw [hκ]; rfl
          have f3 : ((κ : Int) == 3) = false := by rw [hκ]; rfl
          have f7 : ((κ : Int) == 7) = true := by rw [hκ]; rfl
          have f6 : ((κ : Int) == 6) = false := by rw [hκ]; rfl
          rw [decide_eq_false hx] at el
          rcases nsplit with hn | hn | hn | hn | hn | hn | hn | hn
          · have rv : rb = false := by
              exact HR0.out hn
            rw [rv] at C1
            have m1 : ((n : Int) == 1) = false := by rw [beq_eq_false_iff_ne]; omega
            have m4 : ((n : Int) == 4) = false := by rw [beq_eq_false_iff_ne]; omega
            have m5 : ((n : Int) == 5) = false := by rw [beq_eq_false_iff_ne]; omega
            have m2 : ((n : Int) == 2) = false := by rw [beq_eq_false_iff_ne]; omega
            have m3 : ((n : Int) == 3) = false := by rw [beq_eq_false_iff_ne]; omega
            have m7 : ((n : Int) == 7) = false := by rw [beq_eq_false_iff_ne]; omega
            have m6 : ((n : Int) == 6) = false := by rw [beq_eq_false_iff_ne]; omega
            have mk : ((n : Int) == (κ : Int)) = false := by rw [beq_eq_false_iff_ne]; omega
            have H1 := Lib.hid C1
            clear C1 hn hκ rv HR HR0 hx
            go_wp2_with fail
            refine H1.out.mono ?_; rintro e v1 ⟨rfl, b1⟩
            have J1 := Lib.hid (J.out.below b1)
            clear b1 J H1 c2 c3 c4 c5 c6 c7 c8 c9
            go_wp2
            exact ⟨⟨n + 1, by omega, by go_num, _, J1.out⟩, by simp [intOf]; omega⟩
          · have rv : rb = false := by
              have := HR.out (by omega) (by omega)
              rw [hκ, hn] at this
              rw [this]; simp [hasT, hasK, hasV, hasL, hx]
            rw [rv] at C1
            have m1 : ((n : Int) == 1) = true := by rw [hn]; rfl
            have m4 : ((n : Int) == 4) = false := by rw [hn]; rfl
            have m5 : ((n : Int) == 5) = false := by rw [hn]; rfl
            have m2 : ((n : Int) == 2) = false := by rw [hn]; rfl
            have m3 : ((n : Int) == 3) = false := by rw [hn]; rfl
            have m7 : ((n : Int) == 7) = false := by rw [hn]; rfl
            have m6 : ((n : Int) == 6) = false := by rw [hn]; rfl
            have mk : ((n : Int) == (κ : Int)) = false := by rw [beq_eq_false_iff_ne]; omega
            have H1 := Lib.hid C1
            clear C1 hn hκ rv HR HR0 hx
            go_wp2_with fail
            refine H1.out.mono ?_; rintro e v1 ⟨rfl, b1⟩
            have J1 := Lib.hid (J.out.below b1)
            clear b1 J H1 c2 c3 c4 c5 c6 c7 c8 c9
            go_wp2
            exact ⟨⟨n + 1, by omega, by go_num, _, J1.out⟩, by simp [intOf]; omega⟩
          · have rv : rb = false := by
              have := HR.out (by omega) (by omega)
              rw [hκ, hn] at this
              rw [this]; simp [hasT, hasK, hasV, hasL, hx]
            rw [rv] at C1
            have m1 : ((n : Int) == 1) = false := by rw [hn]; rfl
            have m4 : ((n : Int) == 4) = false := by rw [hn]; rfl
            have m5 : ((n : Int) == 5) = false := by rw [hn]; rfl
            have m2 : ((n : Int) == 2) = true := by rw [hn]; rfl
            have m3 : ((n : Int) == 3) = false := by rw [hn]; rfl
            have m7 : ((n : Int) == 7) = false := by rw [hn]; rfl
            have m6 : ((n : Int) == 6) = false := by rw [hn]; rfl
            have mk : ((n : Int) == (κ : Int)) = false := by rw [beq_eq_false_iff_ne]; omega
            have H1 := Lib.hid C1
            clear C1 hn hκ rv HR HR0 hx
            go_wp2_with fail
            refine H1.out.mono ?_; rintro e v1 ⟨rfl, b1⟩
            have J1 := Lib.hid (J.out.below b1)
            clear b1 J H1 c2 c3 c4 c5 c6 c7 c8 c9
            go_wp2
            exact ⟨⟨n + 1, by omega, by go_num, _, J1.out⟩, by simp [intOf]; omega⟩
          · have rv : rb = false := by
              have := HR.out (by omega) (by omega)
              rw [hκ, hn] at this
              rw [this]; simp [hasT, hasK, hasV, hasL, hx]
            rw [rv] at C1
            have m1 : ((n : Int) == 1) = false := by rw [hn]; rfl
            have m4 : ((n : Int) == 4) = false := by rw [hn]; rfl
            have m5 : ((n : Int) == 5) = false := by rw [hn]; rfl
            have m2 : ((n : Int) == 2) = false := by rw [hn]; rfl
            have m3 : ((n : Int) == 3) = true := by rw [hn]; rfl
            have m7 : ((n : Int) == 7) = false := by rw [hn]; rfl
            have m6 : ((n : Int) == 6) = false := by rw [hn]; rfl
            have mk : ((n : Int) == (κ : Int)) = false := by rw [beq_eq_false_iff_ne]; omega
            have H1 := Lib.hid C1
            clear C1 hn hκ rv HR HR0 hx
            go_wp2_with fail
            refine H1.out.mono ?_; rintro e v1 ⟨rfl, b1⟩
            have J1 := Lib.hid (J.out.below b1)
            clear b1 J H1 c2 c3 c4 c5 c6 c7 c8 c9
            go_wp2
            exact ⟨⟨n + 1, by omega, by go_num, _, J1.out⟩, by simp [intOf]; omega⟩
          · have rv : rb = false := by
              have := HR.out (by omega) (by omega)
              rw [hκ, hn] at this
              rw [this]; simp [hasT, hasK, hasV, hasL, hx]
            rw [rv] at C1
            have m1 : ((n : Int) == 1) = false := by rw [hn]; rfl
            have m4 : ((n : Int) == 4) = true := by rw [hn]; rfl
            have m5 : ((n : Int) == 5) = false := by rw [hn]; rfl
            have m2 : ((n : Int) == 2) = false := by rw [hn]; rfl
            have m3 : ((n : Int) == 3) = false := by rw [hn]; rfl
            have m7 : ((n : Int) == 7) = false := by rw [hn]; rfl
            have m6 : ((n : Int) == 6) = false := by rw [hn]; rfl
            have mk : ((n : Int) == (κ : Int)) = false := by rw [beq_eq_false_iff_ne]; omega
            have H1 := Lib.hid C1
            clear C1 hn hκ rv HR HR0 hx
            go_wp2_with fail
            refine H1.out.mono ?_; rintro e v1 ⟨rfl, b1⟩
            have J1 := Lib.hid (J.out.below b1)
            clear b1 J H1 c2 c3 c4 c5 c6 c7 c8 c9
            go_wp2
            exact ⟨⟨n + 1, by omega, by go_num, _, J1.out⟩, by simp [intOf]; omega⟩
          · have rv : rb = false := by
              have := HR.out (by omega) (by omega)
              rw [hκ, hn] at this
              rw [this]; simp [hasT, hasK, hasV, hasL, hx]
            rw [rv] at C1
            have m1 : ((n : Int) == 1) = false := by rw [hn]; rfl
            have m4 : ((n : Int) == 4) = false := by rw [hn]; rfl
            have m5 : ((n : Int) == 5) = true := by rw [hn]; rfl
            have m2 : ((n : Int) == 2) = false := by rw [hn]; rfl
            have m3 : ((n : Int) == 3) = false := by rw [hn]; rfl
            have m7 : ((n : Int) == 7) = false := by rw [hn]; rfl
            have m6 : ((n : Int) == 6) = false := by rw [hn]; rfl
            have mk : ((n : Int) == (κ : Int)) = false := by rw [beq_eq_false_iff_ne]; omega
            have H1 := Lib.hid C1
            clear C1 hn hκ rv HR HR0 hx
            go_wp2_with fail
            refine H1.out.mono ?_; rintro e v1 ⟨rfl, b1⟩
            have J1 := Lib.hid (J.out.below b1)
            clear b1 J H1 c2 c3 c4 c5 c6 c7 c8 c9
            go_wp2
            exact ⟨⟨n + 1, by omega, by go_num, _, J1.out⟩, by simp [intOf]; omega⟩
          · have rv : rb = false := by
              have := HR.out (by omega) (by omega)
              rw [hκ, hn] at this
              rw [this]; simp [hasT, hasK, hasV, hasL, hx]
            rw [rv] at C1
            have m1 : ((n : Int) == 1) = false := by rw [hn]; rfl
            have m4 : ((n : Int) == 4) = false := by rw [hn]; rfl
            have m5 : ((n : Int) == 5) = false := by rw [hn]; rfl
            have m2 : ((n : Int) == 2) = false := by rw [hn]; rfl
            have m3 : ((n : Int) == 3) = false := by rw [hn]; rfl
            have m7 : ((n : Int) == 7) = false := by rw [hn]; rfl
            have m6 : ((n : Int) == 6) = true := by rw [hn]; rfl
            have mk : ((n : Int) == (κ : Int)) = false := by rw [beq_eq_false_iff_ne]; omega
            have H1 := Lib.hid C1
            clear C1 hn hκ rv HR HR0 hx
            go_wp2_with fail
            refine H1.out.mono ?_; rintro e v1 ⟨rfl, b1⟩
            have J1 := Lib.hid (J.out.below b1)
            clear b1 J H1 c2 c3 c4 c5 c6 c7 c8 c9
            go_wp2
            exact ⟨⟨n + 1, by omega, by go_num, _, J1.out⟩, by simp [intOf]; omega⟩
          · have rv : rb = true := by
              have := HR.out (by omega) (by omega)
              rw [hκ, hn] at this
              rw [this]; simp [hasT, hasK, hasV, hasL, hx]
            rw [rv] at C1
            have m1 : ((n : Int) == 1) = false := by rw [hn]; rfl
            have m4 : ((n : Int) == 4) = false := by rw [hn]; rfl
            have m5 : ((n : Int) == 5) = false := by rw [hn]; rfl
            have m2 : ((n : Int) == 2) = false := by rw [hn]; rfl
            have m3 : ((n : Int) == 3) = false := by rw [hn]; rfl
            have m7 : ((n : Int) == 7) = true := by rw [hn]; rfl
            have m6 : ((n : Int) == 6) = false := by rw [hn]; rfl
            have mk : ((n : Int) == (κ : Int)) = true := by rw [beq_iff_eq]; omega
            have H1 := Lib.hid C1
            clear C1 hn hκ rv HR HR0 hx
            go_wp2_with fail
            refine H1.out.mono ?_; rintro e v1 ⟨rfl, b1⟩
            have J1 := Lib.hid (J.out.below b1)
            clear b1 J H1 c2 c3 c4 c5 c6 c7 c8 c9
            go_wp2
            exact ⟨⟨n + 1, by omega, by go_num, _, J1.out⟩, by simp [intOf]; omega⟩
      · have c1 : (8 : Int) < (n : Int) := by omega
        go_wp2_with fail
        refine (CF.out _ HI.out.L).mono ?_; rintro e w6 ⟨rfl, b7⟩
        have I12 := Lib.hid (HI.out.below b7)
        clear b7 HI
        go_wp2
        go_ret
        exact ⟨rfl, I12.out.bel⟩
end Go.Proofs.YthnpkhejfcclcaaDoor
