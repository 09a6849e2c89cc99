/-
  RecGets, walked.
-/
import Derived.Test.YthnpkhejfcclcaaDoorW05b
namespace Go.Proofs.YthnpkhejfcclcaaDoor
open Go.RowKit

/-- the document's record in a box of its own -/
structure RefAt (w : World) (B : Nat) (r : RecP) (a : Option Addr) (C : Nat) : Prop where
  box : Box8 RT w B r.kind r.txn r.key r.value r.pass r.unit r.num (.slice a r.pairs.length C)
  prs : PairsAt w a r.pairs
theorem RefAt.below {w w' : World} {B : Nat} {r : RecP} {a : Option Addr} {C : Nat} (h : RefAt w B r a C) (b : Below w.heap.size w w') : RefAt w' B r a C := ⟨h.box.below b h.box.lt, h.prs.below b⟩
/-- RecGets at work -/
structure GetsSt (w0 w : World) (Bx By : Nat) (q : RecP) (a1 a3 : Option Addr) (C1 C3 : Nat) : Prop where
  x : RecAt w Bx q a1 C1
  y : RefAt w By q a3 C3
  L : Laid5 w
  bel : Below w0.heap.size w0 w
theorem GetsSt.below {w0 w w' : World} {Bx By : Nat} {q : RecP} {a1 a3 : Option Addr} {C1 C3 : Nat} (h : GetsSt w0 w Bx By q a1 a3 C1 C3) (b : Below w.heap.size w w') : GetsSt w0 w' Bx By q a1 a3 C1 C3 :=
  ⟨h.x.below b, h.y.below b, h.L.step b, h.bel.trans (b.mono h.bel.size)⟩
theorem GetsSt.cells {w0 W : World} {Bx By : Nat} {q : RecP} {a1 a3 : Option Addr} {C1 C3 : Nat} (h : GetsSt w0 W Bx By q a1 a3 C1 C3) : (fun W => W.cell? ⟨Bx, 0, none⟩ = some (.int .i64 q.kind) ∧ W.cell? ⟨Bx, 1, none⟩ = some (.int .i64 q.txn) ∧ W.cell? ⟨Bx, 2, none⟩ = some (.string q.key) ∧ W.cell? ⟨Bx, 3, none⟩ = some (.string q.value) ∧ W.cell? ⟨Bx, 4, none⟩ = some (.int .i64 q.pass) ∧ W.cell? ⟨Bx, 5, none⟩ = some (.int .i64 q.unit) ∧ W.cell? ⟨Bx, 6, none⟩ = some (.int .i64 q.num) ∧ W.cell? ⟨Bx, 7, none⟩ = some (.slice a1 q.pairs.length C1) ∧ W.cell? ⟨By, 0, none⟩ = some (.int .i64 q.kind) ∧ W.cell? ⟨By, 1, none⟩ = some (.int .i64 q.txn) ∧ W.cell? ⟨By, 2, none⟩ = some (.string q.key) ∧ W.cell? ⟨By, 3, none⟩ = some (.string q.value) ∧ W.cell? ⟨By, 4, none⟩ = some (.int .i64 q.pass) ∧ W.cell? ⟨By, 5, none⟩ = some (.int .i64 q.unit) ∧ W.cell? ⟨By, 6, none⟩ = some (.int .i64 q.num) ∧ W.cell? ⟨By, 7, none⟩ = some (.slice a3 q.pairs.length C3)) W :=
  ⟨h.x.box.c0, h.x.box.c1, h.x.box.c2, h.x.box.c3, h.x.box.c4, h.x.box.c5, h.x.box.c6, h.x.box.c7, h.y.box.c0, h.y.box.c1, h.y.box.c2, h.y.box.c3, h.y.box.c4, h.y.box.c5, h.y.box.c6, h.y.box.c7⟩
set_option maxRecDepth 100000 in
set_option maxHeartbeats 8000000 in
theorem gets_walk (s S : ByteArray) (n1 : Nat) (p1 : (if (600 : Int) < (s.size : Int) then (600 : Int) else (s.size : Int)) = (n1 : Int)) (p2 : (0 : Int) ≤ (n1 : Int)) (p3 : (n1 : Int) ≤ (s.size : Int)) (pS : Hid (s.extract 0 n1 = S)) (_hs : s.size ≤ 9223372036854775807) (_p4 : S.size ≤ 600)
    (q : RecP) (er : Int) (hsm : q.pairs.length ≤ 4000) (C1 : ∀ W, Laid5 W → Calls Tryd.prog 23 #[.string S] W (DecOut W q er)) (C2 : ∀ W, Calls Tryd.prog 24 #[.string S] W (DecOut W q er)) (w : World) (hL : Laid5 w) :
    Calls Tryd.prog 4 #[.string s] w fun e w' => e = .returned (.bool true) ∧ Below w.heap.size w w' := by
  have H1 := Lib.hid C1; have H2 := Lib.hid C2; have HL := Lib.hid hL
  have CF := Lib.hid (fun W hW => fixed_any W hW)
  clear C1 C2 hL
  go_enter Tryd.func4, Tryd.ntmps4
  go_upto_region 2 with fail
  rw [pS.out]
  clear p1 p2 p3 pS
  go_wp2_with fail
  refine (H1.out _ HL.out).mono ?_; rintro e w1 ⟨a1, C1, rfl, q1, b1, _⟩
  have b2 := boxW_bel w1 q.kind q.txn q.key q.value q.pass q.unit q.num (.slice a1 q.pairs.length C1)
  have R2 := Lib.hid (recAt_new w1 q a1 C1 q1)
  have B2 := Lib.hid (b1.trans (b2.mono b1.size))
  clear b1 b2 q1 H1
  dsimp only [recV]
  go_upto_region 3 with fail
  unfold boxW at R2 B2
  generalize w1.alloc (.cells #[.int .i64 q.kind, .int .i64 q.txn, .string q.key, .string q.value, .int .i64 q.pass, .int .i64 q.unit, .int .i64 q.num, .slice a1 q.pairs.length C1] QT) = w2 at *
  generalize w1.heap.size = Bx at *
  go_wp2_with fail
  refine (H2.out _).mono ?_; rintro e w3 ⟨a3, C3, rfl, q3, b3, _⟩
  have b4 := (Below.refl w3.heap.size w3).alloc (Nat.le_refl _) (.cells #[.int .i64 q.kind, .int .i64 q.txn, .string q.key, .string q.value, .int .i64 q.pass, .int .i64 q.unit, .int .i64 q.num, .slice a3 q.pairs.length C3] RT)
  have R4 := (R2.out.below b3).below b4
  have D4 : RefAt (w3.alloc (.cells #[.int .i64 q.kind, .int .i64 q.txn, .string q.key, .string q.value, .int .i64 q.pass, .int .i64 q.unit, .int .i64 q.num, .slice a3 q.pairs.length C3] RT)) w3.heap.size q a3 C3 := ⟨box8_new RT w3 _ _ _ _ _ _ _ _, q3.below b4⟩
  have B4 := B2.out.trans ((b3.trans (b4.mono b3.size)).mono B2.out.size)
  have HR4 := Lib.hid R4; have HD4 := Lib.hid D4; have HB4 := Lib.hid B4
  clear R4 D4 B4 b3 b4 R2 B2 H2 q3
  dsimp only [recV]
  go_upto_region 4 with fail
  generalize w3.alloc (.cells #[.int .i64 q.kind, .int .i64 q.txn, .string q.key, .string q.value, .int .i64 q.pass, .int .i64 q.unit, .int .i64 q.num, .slice a3 q.pairs.length C3] RT) = w4 at *
  generalize w3.heap.size = By at *
  have D0 := Lib.hid (show GetsSt w w4.drew Bx By q a1 a3 C1 C3 from ⟨HR4.out.below ((Below.refl _ w4).drew), HD4.out.below ((Below.refl _ w4).drew), HL.out.step (HB4.out.drew), HB4.out.drew⟩)
  have K0 := Lib.hid D0.out.cells
  have CRf := ref_any q a1 C1
  have CS := Lib.hid (fun W (h : GetsSt w W Bx By q a1 a3 C1 C3) => rsame_any W q q a1 a3 C1 C3 h.x.prs h.y.prs (by omega) (by omega))
  rw [show sameB q q = true from (sameB_iff _ _).2 rfl] at CS
  dsimp only [recV] at CRf CS
  have HRf := Lib.hid CRf
  clear CRf HR4 HD4 HB4 HL
  go_region_held3 (fun W => W.cell? ⟨Bx, 0, none⟩ = some (.int .i64 q.kind) ∧ W.cell? ⟨Bx, 1, none⟩ = some (.int .i64 q.txn) ∧ W.cell? ⟨Bx, 2, none⟩ = some (.string q.key) ∧ W.cell? ⟨Bx, 3, none⟩ = some (.string q.value) ∧ W.cell? ⟨Bx, 4, none⟩ = some (.int .i64 q.pass) ∧ W.cell? ⟨Bx, 5, none⟩ = some (.int .i64 q.unit) ∧ W.cell? ⟨Bx, 6, none⟩ = some (.int .i64 q.num) ∧ W.cell? ⟨Bx, 7, none⟩ = some (.slice a1 q.pairs.length C1) ∧ W.cell? ⟨By, 0, none⟩ = some (.int .i64 q.kind) ∧ W.cell? ⟨By, 1, none⟩ = some (.int .i64 q.txn) ∧ W.cell? ⟨By, 2, none⟩ = some (.string q.key) ∧ W.cell? ⟨By, 3, none⟩ = some (.string q.value) ∧ W.cell? ⟨By, 4, none⟩ = some (.int .i64 q.pass) ∧ W.cell? ⟨By, 5, none⟩ = some (.int .i64 q.unit) ∧ W.cell? ⟨By, 6, none⟩ = some (.int .i64 q.num) ∧ W.cell? ⟨By, 7, none⟩ = some (.slice a3 q.pairs.length C3)) (first | exact K0.out | exact K1.out | exact K2.out | exact K3.out)
    (first
      | (go_at_call 13; refine (HRf.out _).mono ?_; rintro e v1 ⟨rfl, b1⟩; have D1 := Lib.hid (D0.out.below b1); have K1 := Lib.hid D1.out.cells; clear b1)
      | (go_at_call 17; refine (CS.out _ D1.out).mono ?_; rintro e v2 ⟨rfl, b2⟩; have D2 := Lib.hid (D1.out.below b2); have K2 := Lib.hid D2.out.cells; clear b2)
      | (go_at_call 22; refine (CF.out _ D2.out.L).mono ?_; rintro e v3 ⟨rfl, b3⟩; have D3 := Lib.hid (D2.out.below b3); have K3 := Lib.hid D3.out.cells; clear b3))
  all_goals
    go_wp2
    go_ret
    exact ⟨by first | rfl | (simp; done), D3.out.bel⟩
theorem walk_RecGets (s : ByteArray) (hs : s.size ≤ maxLen) (w : World) (hL : Laid5 w) :
    Calls Tryd.prog 4 #[.string s] w fun e w' => e = .returned (.bool true) ∧ Below w.heap.size w w' := by
  obtain ⟨n1, p1, p2, p3, p4⟩ := cutM_at s 600
  have hs' : s.size ≤ 9223372036854775807 := by unfold maxLen at hs; omega
  rcases dec_split (s.extract 0 n1) with ⟨q, hq, he⟩ | hno
  · exact gets_walk s _ n1 p1 p2 p3 rfl hs' p4 q 0 (rightP_small hq).2 (fun W hW => decode_any W _ hW (by omega) q 0 (.inl ⟨q, hq, he, rfl, rfl⟩)) (fun W => rdec_ok _ q W (by omega) hq he) w hL
  · exact gets_walk s _ n1 p1 p2 p3 rfl hs' p4 zeroR 4 (by decide) (fun W hW => decode_any W _ hW (by omega) zeroR 4 (.inr ⟨hno, rfl, rfl⟩)) (fun W => rdec_no _ W (by omega) hno) w hL
end Go.Proofs.YthnpkhejfcclcaaDoor
