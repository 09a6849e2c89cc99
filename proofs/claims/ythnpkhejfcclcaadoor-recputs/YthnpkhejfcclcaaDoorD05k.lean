/-
  Package rec: the contract of the reader's record.
-/
import Derived.Test.YthnpkhejfcclcaaDoorD05j
namespace Go.Proofs.YthnpkhejfcclcaaDoor
open Go.RowKit

/-- the reader's record at work: the reader (R), the result (B0), the record (B1), what its kind has (D) -/
structure InD (w0 w : World) (R B0 B1 D : Nat) (s : ByteArray) (p : Nat) (k t : Int) (ke va : ByteArray) (pa un nu : Int) (v : Value) (x0 x1 x2 x3 x4 : Bool) : Prop where
  rd : Rd w R s p
  z0 : Box8 QT w B0 0 0 ⟨#[]⟩ ⟨#[]⟩ 0 0 0 (.slice none 0 0)
  x8 : Box8 QT w B1 k t ke va pa un nu v
  x5 : Box5 w D x0 x1 x2 x3 x4
  gr : w0.grownBy w (some R)
  lt : R < w0.heap.size
  l0 : w0.heap.size ≤ B0
  l1 : B0 < B1
section
variable {w0 w w' : World} {R B0 B1 D : Nat} {s : ByteArray} {p q : Nat} {k t : Int} {ke va : ByteArray} {pa un nu : Int} {v : Value} {x0 x1 x2 x3 x4 : Bool}
theorem InD.ne (h : InD w0 w R B0 B1 D s p k t ke va pa un nu v x0 x1 x2 x3 x4) : ¬ D = B1 ∧ ¬ R = B1 ∧ ¬ D = B0 ∧ ¬ D = R := by
  have e1 : w.heap[B1]? = _ := h.x8
  have e0 : w.heap[B0]? = _ := h.z0
  have e5 : w.heap[D]? = _ := h.x5
  have er : w.heap[R]? = _ := h.rd
  have := h.lt; have := h.l0; have := h.l1
  refine ⟨fun e => ?_, by omega, fun e => ?_, fun e => ?_⟩
  · subst e; rw [e5] at e1; cases e1
  · subst e; rw [e5] at e0; cases e0
  · subst e; rw [e5] at er; cases er
theorem InD.step (h : InD w0 w R B0 B1 D s p k t ke va pa un nu v x0 x1 x2 x3 x4) (g : w.grownBy w' (some R)) (hr : Rd w' R s q) : InD w0 w' R B0 B1 D s q k t ke va pa un nu v x0 x1 x2 x3 x4 := by
  obtain ⟨n1, n2, n3, n4⟩ := h.ne
  have := h.lt; have := h.l0; have := h.l1
  exact ⟨hr, (g.block B0 h.z0.lt (by intro e; cases e; omega)).trans h.z0, (g.block B1 h.x8.lt (by intro e; cases e; omega)).trans h.x8, (g.block D h.x5.lt (by intro e; cases e; exact n4 rfl)).trans h.x5, h.gr.trans g, h.lt, h.l0, h.l1⟩
theorem InD.set (h : InD w0 w R B0 B1 D s p k t ke va pa un nu v x0 x1 x2 x3 x4) (i : Nat) (u : Value) {k' t' : Int} {ke' va' : ByteArray} {pa' un' nu' : Int} {v' : Value} (hb : Box8 QT (w.setCell ⟨B1, i, none⟩ u) B1 k' t' ke' va' pa' un' nu' v') :
    InD w0 (w.setCell ⟨B1, i, none⟩ u) R B0 B1 D s p k' t' ke' va' pa' un' nu' v' x0 x1 x2 x3 x4 := by
  obtain ⟨n1, n2, n3, n4⟩ := h.ne
  have := h.lt; have := h.l0; have := h.l1
  exact ⟨(Below.heap_setCell _ _ _ _ n2).trans h.rd, (Below.heap_setCell _ _ _ _ (Nat.ne_of_lt h.l1)).trans h.z0, hb, (Below.heap_setCell _ _ _ _ n1).trans h.x5, h.gr.andThen (grown_set w B1 i u) (fun j hj => by cases hj; exact .inl (by omega)), h.lt, h.l0, h.l1⟩
end
theorem pairs_far {w : World} {a : Option Addr} {l : Prs} (h : PairsAt w a l) (B i : Nat) (u : Value) (hB : ∀ x, a = some x → x.block ≠ B) : PairsAt (w.setCell ⟨B, i, none⟩ u) a l := by
  intro j p hp
  obtain ⟨b, off, rfl, c0, c1⟩ := h j p hp
  have hh : (w.setCell ⟨B, i, none⟩ u).heap[b]? = w.heap[b]? := Below.heap_setCell _ _ _ _ (hB _ rfl)
  exact ⟨b, off, rfl, (World.cell?_of_block hh (a := ⟨b, off + j * 2, none⟩)).trans c0, (World.cell?_of_block hh (a := ⟨b, off + j * 2 + 1, none⟩)).trans c1⟩
theorem put8_grown (w : World) (B : Nat) (k t : Int) (ke va : ByteArray) (pa un nu : Int) (v : Value) : w.grownBy (put8 w B k t ke va pa un nu v) (some B) :=
  (((((((grown_set w B 0 _).trans (grown_set _ B 1 _)).trans (grown_set _ B 2 _)).trans (grown_set _ B 3 _)).trans (grown_set _ B 4 _)).trans (grown_set _ B 5 _)).trans (grown_set _ B 6 _)).trans (grown_set _ B 7 _)
theorem InD.done {w0 w : World} {R B0 B1 D : Nat} {s : ByteArray} {p : Nat} {k t : Int} {ke va : ByteArray} {pa un nu : Int} {a : Option Addr} {C : Nat} {pr : Prs} {x0 x1 x2 x3 x4 : Bool} (h : InD w0 w R B0 B1 D s p k t ke va pa un nu (.slice a pr.length C) x0 x1 x2 x3 x4) (hP : PairsAt w a pr) (hF : ∀ y, a = some y → B1 < y.block) :
    Box8 QT (put8 w B0 k t ke va pa un nu (.slice a pr.length C)) B0 k t ke va pa un nu (.slice a pr.length C) ∧ PairsAt (put8 w B0 k t ke va pa un nu (.slice a pr.length C)) a pr ∧ Rd (put8 w B0 k t ke va pa un nu (.slice a pr.length C)) R s p ∧ w0.grownBy (put8 w B0 k t ke va pa un nu (.slice a pr.length C)) (some R) ∧ ∀ y, a = some y → w0.heap.size ≤ y.block := by
  have := h.lt; have := h.l0; have := h.l1
  exact ⟨h.z0.put _ _ _ _ _ _ _ _, put8_pairs hP (fun x hx => by have := hF x hx; omega) _ _ _ _ _ _ _ _, (put8_far _ _ _ _ _ _ _ _ _ _ _ (by omega)).trans h.rd, h.gr.andThen (put8_grown _ _ _ _ _ _ _ _ _ _) (fun j hj => by cases hj; exact .inl (by omega)), fun y hy => by have := hF y hy; omega⟩
/-- what the reader's record answers -/
def RecordOut (w : World) (R : Nat) (s : ByteArray) (res : Option (RecP × List UInt8)) (e : Ending) (w' : World) : Prop := w.grownBy w' (some R) ∧
  match res with
  | none => e = .panicked odd5
  | some (r, x) => ∃ a C p, e = .returned (recV r a C) ∧ PairsAt w' a r.pairs ∧ Rd w' R s p ∧ x = s.data.toList.drop p ∧ p ≤ s.size ∧ ∀ y, a = some y → w.heap.size ≤ y.block
set_option maxRecDepth 100000 in
set_option maxHeartbeats 4000000 in
theorem record_any (w : World) (R : Nat) (s : ByteArray) (hL : Laid5 w) (hR : Rd w R s 0) (hR0 : 0 < R) (hs : s.size ≤ 1000000) : Calls Tryd.prog 41 #[.pointer (some ⟨R, 0, none⟩)] w (RecordOut w R s (parseL s.data.toList)) := by
  obtain ⟨res, Hres⟩ : ∃ res, Hid (parseL (s.data.toList.drop 0) = res) := ⟨_, rfl⟩
  rw [show s.data.toList = s.data.toList.drop 0 from rfl, Hres.out]
  have ba := (Below.refl w.heap.size w).alloc (Nat.le_refl _) (.cells #[.int .i64 0, .int .i64 0, .string ⟨#[]⟩, .string ⟨#[]⟩, .int .i64 0, .int .i64 0, .int .i64 0, .slice none 0 0] QT)
  have X0 := Lib.hid (box8_new QT w 0 0 ⟨#[]⟩ ⟨#[]⟩ 0 0 0 (.slice none 0 0))
  have HL := Lib.hid (hL.step ba)
  have HR1 := Lib.hid (hR.below ba)
  have HB1 := Lib.hid ba
  have hlt := hR.lt
  have hlt0 : w.heap.size < (w.alloc (.cells #[.int .i64 0, .int .i64 0, .string ⟨#[]⟩, .string ⟨#[]⟩, .int .i64 0, .int .i64 0, .int .i64 0, .slice none 0 0] QT)).heap.size := by simp
  clear ba hL hR
  go_enter Tryd.func41, Tryd.ntmps41
  go_upto_region 1 with fail
  generalize w.alloc (.cells #[.int .i64 0, .int .i64 0, .string ⟨#[]⟩, .string ⟨#[]⟩, .int .i64 0, .int .i64 0, .int .i64 0, .slice none 0 0] QT) = w1 at *
  cases hk1 : numL 1 (s.data.toList.drop 0) with
  | none =>
    have CT := Lib.hid (number_no w1 R s 0 1 HR1.out hs (by omega) hk1)
    have HE := Lib.hid (show res = none by rw [← Hres.out]; simp only [parseL, hk1])
    clear hk1
    go_wp2_with fail
    refine CT.out.mono ?_; rintro e w2 ⟨rfl, g2⟩
    go_wp2
    rw [HE.out]
    exact ⟨rfl, (grown_ofBelow HB1.out _).trans g2, rfl⟩
  | some y =>
    obtain ⟨n, l1⟩ := y
    have CT := Lib.hid (number_ok w1 R s 0 1 n l1 HR1.out hs (by decide) (by decide) (by omega) hk1)
    have hn := (numL_got hk1).2.1
    rw [show (256 : Nat) ^ 1 = 256 from rfl] at hn
    have HK1 := Lib.hid hk1
    clear hk1
    go_wp2_with fail
    refine CT.out.mono ?_; rintro e w2 ⟨rfl, r2, x2, q2, g2⟩
    subst x2
    have L2 := HL.out
    have hLne : Laid5 w2 := fun k h1 h2 => by
      have hb := g2.block 0 (HL.out.pos) (by intro e; cases e; exact absurd hR0 (by decide))
      obtain ⟨c0, c1, c2, c3, c4⟩ := L2 k h1 h2
      exact ⟨(World.cell?_of_block hb (a := ⟨0, _, none⟩)).trans c0, (World.cell?_of_block hb (a := ⟨0, _, none⟩)).trans c1, (World.cell?_of_block hb (a := ⟨0, _, none⟩)).trans c2, (World.cell?_of_block hb (a := ⟨0, _, none⟩)).trans c3, (World.cell?_of_block hb (a := ⟨0, _, none⟩)).trans c4⟩
    have Y0 : Box8 QT w2 w.heap.size 0 0 ⟨#[]⟩ ⟨#[]⟩ 0 0 0 (.slice none 0 0) := (g2.block w.heap.size hlt0 (by intro e; cases e; omega)).trans X0.out
    have G2 := (grown_ofBelow HB1.out (some R)).trans g2
    have hlt2 : w.heap.size < w2.heap.size := Nat.lt_of_lt_of_le hlt0 g2.size
    have bb := (Below.refl w2.heap.size w2).alloc (Nat.le_refl _) (.cells #[.int .i64 (n : Int), .int .i64 0, .string ⟨#[]⟩, .string ⟨#[]⟩, .int .i64 0, .int .i64 0, .int .i64 0, .slice none 0 0] QT)
    have HX := Lib.hid (box8_new QT w2 n 0 ⟨#[]⟩ ⟨#[]⟩ 0 0 0 (.slice none 0 0))
    have HY := Lib.hid (Y0.below bb hlt2)
    have HL3 := Lib.hid (hLne.step bb)
    have HR3 := Lib.hid (r2.below bb)
    have HG3 := Lib.hid (G2.trans (grown_ofBelow bb _))
    clear CT HL L2 hLne Y0 G2 bb r2 g2 X0 HR1 HB1 hlt0
    go_upto_region 2 with fail
    generalize w2.alloc (.cells #[.int .i64 (n : Int), .int .i64 0, .string ⟨#[]⟩, .string ⟨#[]⟩, .int .i64 0, .int .i64 0, .int .i64 0, .slice none 0 0] QT) = w3 at *
    generalize hB1 : w2.heap.size = B1 at *
    have c0 := HX.out.c0
    have CK := isKind_any n
    by_cases hk : 1 ≤ n ∧ n ≤ 7
    · rw [decide_eq_true (show 1 ≤ (n : Int) ∧ (n : Int) < 8 by omega)] at CK
      have HC := Lib.hid CK
      clear CK
      go_wp2_with fail
      refine (HC.out _).mono ?_; rintro e w4 ⟨rfl, rfl⟩
      go_wp2_with fail
      refine (giveUp_no _).mono ?_; rintro e w4 ⟨rfl, rfl⟩
      obtain ⟨p0, p1, p2, p3, p4⟩ := HL3.out n hk.1 hk.2
      have hp3 := HL3.out.pos
      have g1 : (n : Int) < 8 := by omega
      have g0 : (0 : Int) ≤ (n : Int) := by omega
      have bb := (Below.refl w3.heap.size w3).alloc (Nat.le_refl _) (.cells #[.bool (hasT n), .bool (hasF n), .bool (hasK n), .bool (hasV n), .bool (hasL n)] 50)
      have I0 := Lib.hid (show InD w (w3.alloc (.cells #[.bool (hasT n), .bool (hasF n), .bool (hasK n), .bool (hasV n), .bool (hasL n)] 50)) R w.heap.size B1 w3.heap.size s (0 + 1) n 0 ⟨#[]⟩ ⟨#[]⟩ 0 0 0 (.slice none 0 0) (hasT n) (hasF n) (hasK n) (hasV n) (hasL n) from
        ⟨HR3.out.below bb, HY.out.below bb HY.out.lt, HX.out.below bb HX.out.lt, box5_new _ _ _ _ _ _, HG3.out.trans (grown_ofBelow bb _), hlt, Nat.le_refl _, hlt2⟩)
      clear bb HL3 HR3 HY HG3 HX
      go_upto_region 4 with fail
      clear p0 p1 p2 p3 p4 hp3 g1 g0 c0
      generalize w3.alloc (.cells #[.bool (hasT n), .bool (hasF n), .bool (hasK n), .bool (hasV n), .bool (hasL n)] 50) = w4 at *
      generalize w3.heap.size = D at *
      generalize hB0 : w.heap.size = B0 at *
      have HK := Lib.hid (kind_has n hk.1 hk.2)
      --GEN
      have hpl := HK.out
      clear HK
      rcases hpl with ⟨h0, h1, h2, h3, h4, n2, n3, n5⟩ | ⟨h0, h1, h2, h3, h4, rfl⟩ | ⟨h0, h1, h2, h3, h4, rfl⟩ | ⟨h0, h1, h2, h3, h4, rfl⟩ | ⟨h0, h1, h2, h3, h4, rfl⟩
      · rw [h0, h1, h2, h3, h4] at I0
        clear h0 h1 h2 h3 h4
        have HQ0 := Lib.hid q2
        cases e0 : numL 6 (s.data.toList.drop (0 + 1)) with
        | none =>
          have CT := Lib.hid (number_no _ R s _ 6 I0.out.rd hs HQ0.out e0)
          have HE := Lib.hid (show res = none by rw [← Hres.out]; unfold parseL; rw [HK1.out]; dsimp only; rw [if_pos hk, if_pos n5]; rw [e0] <;> rfl)
          have d0 := I0.out.x5.c0; have d1 := I0.out.x5.c1; have d2 := I0.out.x5.c2; have d3 := I0.out.x5.c3; have d4 := I0.out.x5.c4
          have HG := Lib.hid I0.out.gr
          clear e0 HK1
          go_wp2_with fail
          refine CT.out.mono ?_; rintro e w5 ⟨rfl, g5⟩
          go_wp2
          rw [HE.out]
          exact ⟨rfl, HG.out.trans g5, rfl⟩
        | some y =>
          obtain ⟨y0, l0⟩ := y
          have CT := Lib.hid (number_ok _ R s _ 6 y0 l0 I0.out.rd hs (by decide) (by decide) HQ0.out e0)
          have HN0 := Lib.hid e0
          have d0 := I0.out.x5.c0; have d1 := I0.out.x5.c1; have d2 := I0.out.x5.c2; have d3 := I0.out.x5.c3; have d4 := I0.out.x5.c4
          clear e0
          go_wp2_with fail
          clear d0 d1 d2 d3 d4
          refine CT.out.mono ?_; rintro e w5 ⟨rfl, r5, x5, q5, g5⟩
          subst x5
          have J5 := I0.out.step g5 r5
          have cc := J5.x8.c1; have zz := J5.x8.fz 1
          have I5 := Lib.hid (J5.set 1 (.int .i64 (y0 : Int)) (J5.x8.set1 y0))
          clear J5 r5 g5 CT I0
          go_upto_region 6 with fail
          clear cc zz
          generalize w5.setCell ⟨B1, 1, none⟩ (.int .i64 (y0 : Int)) = u5 at *
          have HE := Lib.hid (show res = some (⟨(n : Int), (y0 : Int), ⟨#[]⟩, ⟨#[]⟩, 0, 0, 0, []⟩, s.data.toList.drop ((0 + 1) + 6)) by rw [← Hres.out]; unfold parseL; rw [HK1.out]; dsimp only; rw [if_pos hk, if_pos n5]; rw [HN0.out]; dsimp only; rw [if_neg (show ¬ (n = 2 ∨ n = 3) by omega)] <;> rfl)
          have HQ := Lib.hid q5
          clear HK1 Hres
          have d0 := I5.out.x5.c0; have d1 := I5.out.x5.c1; have d2 := I5.out.x5.c2; have d3 := I5.out.x5.c3; have d4 := I5.out.x5.c4
          go_upto_region 16 with fail
          clear d0 d1 d2 d3 d4
          have DN := Lib.hid (InD.done (pr := []) I5.out (pairsAt_nil _ none) (fun y hy => by cases hy))
          have c0 := I5.out.x8.c0; have m0 := I5.out.z0.c0; have z0 := I5.out.z0.fz 0
          have c1 := I5.out.x8.c1; have m1 := I5.out.z0.c1; have z1 := I5.out.z0.fz 1
          have c2 := I5.out.x8.c2; have m2 := I5.out.z0.c2; have z2 := I5.out.z0.fz 2
          have c3 := I5.out.x8.c3; have m3 := I5.out.z0.c3; have z3 := I5.out.z0.fz 3
          have c4 := I5.out.x8.c4; have m4 := I5.out.z0.c4; have z4 := I5.out.z0.fz 4
          have c5 := I5.out.x8.c5; have m5 := I5.out.z0.c5; have z5 := I5.out.z0.fz 5
          have c6 := I5.out.x8.c6; have m6 := I5.out.z0.c6; have z6 := I5.out.z0.fz 6
          have c7 := I5.out.x8.c7; have m7 := I5.out.z0.c7; have z7 := I5.out.z0.fz 7
          clear I5
          go_wp2
          refine bodyPost_ret (v := recV ⟨(n : Int), (y0 : Int), ⟨#[]⟩, ⟨#[]⟩, 0, 0, 0, []⟩ none 0) ?_ rfl ?_
          · obtain ⟨WW, hW⟩ : ∃ W, put8 u5 B0 (n : Int) (y0 : Int) ⟨#[]⟩ ⟨#[]⟩ 0 0 0 (.slice none (List.length (α := ByteArray × ByteArray) []) 0) = W := ⟨_, rfl⟩
            have D := DN.out.1
            rw [hW] at D
            unfold put8 at hW
            try dsimp only [List.length_nil] at hW
            rw [hW]
            have f0 := D.c0; have f1 := D.c1; have f2 := D.c2; have f3 := D.c3; have f4 := D.c4; have f5 := D.c5; have f6 := D.c6; have f7 := D.c7
            clear hW D
            simp [results, Tryd.results41, go_sem, recV, f0, f1, f2, f3, f4, f5, f6, f7]
          · have D := DN.out
            rw [HE.out]
            exact ⟨D.2.2.2.1, none, 0, _, rfl, D.2.1, D.2.2.1, rfl, HQ.out, by rw [hB0]; exact fun y hy => by have := D.2.2.2.2 y hy; omega⟩
      · rw [h0, h1, h2, h3, h4] at I0
        clear h0 h1 h2 h3 h4
        rw [show ((2 : Nat) : Int) = 2 from rfl] at I0
        have HQ0 := Lib.hid q2
        cases e0 : numL 6 (s.data.toList.drop (0 + 1)) with
        | none =>
          have CT := Lib.hid (number_no _ R s _ 6 I0.out.rd hs HQ0.out e0)
          have HE := Lib.hid (show res = none by rw [← Hres.out]; unfold parseL; rw [HK1.out]; dsimp only; rw [if_pos hk, if_pos (by decide)]; rw [e0] <;> rfl)
          have d0 := I0.out.x5.c0; have d1 := I0.out.x5.c1; have d2 := I0.out.x5.c2; have d3 := I0.out.x5.c3; have d4 := I0.out.x5.c4
          have HG := Lib.hid I0.out.gr
          clear e0 HK1
          go_wp2_with fail
          refine CT.out.mono ?_; rintro e w5 ⟨rfl, g5⟩
          go_wp2
          rw [HE.out]
          exact ⟨rfl, HG.out.trans g5, rfl⟩
        | some y =>
          obtain ⟨y0, l0⟩ := y
          have CT := Lib.hid (number_ok _ R s _ 6 y0 l0 I0.out.rd hs (by decide) (by decide) HQ0.out e0)
          have HN0 := Lib.hid e0
          have d0 := I0.out.x5.c0; have d1 := I0.out.x5.c1; have d2 := I0.out.x5.c2; have d3 := I0.out.x5.c3; have d4 := I0.out.x5.c4
          clear e0
          go_wp2_with fail
          clear d0 d1 d2 d3 d4
          refine CT.out.mono ?_; rintro e w5 ⟨rfl, r5, x5, q5, g5⟩
          subst x5
          have J5 := I0.out.step g5 r5
          have cc := J5.x8.c1; have zz := J5.x8.fz 1
          have I5 := Lib.hid (J5.set 1 (.int .i64 (y0 : Int)) (J5.x8.set1 y0))
          clear J5 r5 g5 CT I0
          go_upto_region 6 with fail
          clear cc zz
          generalize w5.setCell ⟨B1, 1, none⟩ (.int .i64 (y0 : Int)) = u5 at *
          have HQ1 := Lib.hid q5
          cases e1 : textL (s.data.toList.drop ((0 + 1) + 6)) with
          | none =>
            have CT := Lib.hid (text_no _ R s _ I5.out.rd hs HQ1.out e1)
            have HE := Lib.hid (show res = none by rw [← Hres.out]; unfold parseL; rw [HK1.out]; dsimp only; rw [if_pos hk, if_pos (by decide)]; rw [HN0.out]; dsimp only; rw [if_pos (by decide)]; rw [e1] <;> rfl)
            have d0 := I5.out.x5.c0; have d1 := I5.out.x5.c1; have d2 := I5.out.x5.c2; have d3 := I5.out.x5.c3; have d4 := I5.out.x5.c4
            have HG := Lib.hid I5.out.gr
            clear e1 HK1
            go_wp2_with fail
            refine CT.out.mono ?_; rintro e w5 ⟨rfl, g5⟩
            go_wp2
            rw [HE.out]
            exact ⟨rfl, HG.out.trans g5, rfl⟩
          | some y =>
            obtain ⟨y1, l1⟩ := y
            have CT := Lib.hid (text_yes _ R s y1 _ l1 I5.out.rd hs HQ1.out e1)
            have HN1 := Lib.hid e1
            have d0 := I5.out.x5.c0; have d1 := I5.out.x5.c1; have d2 := I5.out.x5.c2; have d3 := I5.out.x5.c3; have d4 := I5.out.x5.c4
            clear e1
            go_wp2_with fail
            clear d0 d1 d2 d3 d4
            refine CT.out.mono ?_; rintro e w6 ⟨rfl, r6, x6, q6, g6⟩
            subst x6
            have J6 := I5.out.step g6 r6
            have cc := J6.x8.c2; have zz := J6.x8.fz 2
            have I6 := Lib.hid (J6.set 2 (.string y1) (J6.x8.set2 y1))
            clear J6 r6 g6 CT I5
            go_upto_region 12 with fail
            clear cc zz
            generalize w6.setCell ⟨B1, 2, none⟩ (.string y1) = u6 at *
            have HQ2 := Lib.hid q6
            cases e2 : textL (s.data.toList.drop (((0 + 1) + 6) + 1 + y1.size)) with
            | none =>
              have CT := Lib.hid (text_no _ R s _ I6.out.rd hs HQ2.out e2)
              have HE := Lib.hid (show res = none by rw [← Hres.out]; unfold parseL; rw [HK1.out]; dsimp only; rw [if_pos hk, if_pos (by decide)]; rw [HN0.out]; dsimp only; rw [if_pos (by decide)]; rw [HN1.out]; dsimp only; rw [if_pos (by decide)]; rw [e2] <;> rfl)
              have d0 := I6.out.x5.c0; have d1 := I6.out.x5.c1; have d2 := I6.out.x5.c2; have d3 := I6.out.x5.c3; have d4 := I6.out.x5.c4
              have HG := Lib.hid I6.out.gr
              clear e2 HK1
              go_wp2_with fail
              refine CT.out.mono ?_; rintro e w5 ⟨rfl, g5⟩
              go_wp2
              rw [HE.out]
              exact ⟨rfl, HG.out.trans g5, rfl⟩
            | some y =>
              obtain ⟨y2, l2⟩ := y
              have CT := Lib.hid (text_yes _ R s y2 _ l2 I6.out.rd hs HQ2.out e2)
              have HN2 := Lib.hid e2
              have d0 := I6.out.x5.c0; have d1 := I6.out.x5.c1; have d2 := I6.out.x5.c2; have d3 := I6.out.x5.c3; have d4 := I6.out.x5.c4
              clear e2
              go_wp2_with fail
              clear d0 d1 d2 d3 d4
              refine CT.out.mono ?_; rintro e w7 ⟨rfl, r7, x7, q7, g7⟩
              subst x7
              have J7 := I6.out.step g7 r7
              have cc := J7.x8.c3; have zz := J7.x8.fz 3
              have I7 := Lib.hid (J7.set 3 (.string y2) (J7.x8.set3 y2))
              clear J7 r7 g7 CT I6
              go_upto_region 14 with fail
              clear cc zz
              generalize w7.setCell ⟨B1, 3, none⟩ (.string y2) = u7 at *
              have HE := Lib.hid (show res = some (⟨(2 : Int), (y0 : Int), y1, y2, 0, 0, 0, []⟩, s.data.toList.drop ((((0 + 1) + 6) + 1 + y1.size) + 1 + y2.size)) by rw [← Hres.out]; unfold parseL; rw [HK1.out]; dsimp only; rw [if_pos hk, if_pos (by decide)]; rw [HN0.out]; dsimp only; rw [if_pos (by decide)]; rw [HN1.out]; dsimp only; rw [if_pos (by decide)]; rw [HN2.out] <;> rfl)
              have HQ := Lib.hid q7
              clear HK1 Hres
              have d0 := I7.out.x5.c0; have d1 := I7.out.x5.c1; have d2 := I7.out.x5.c2; have d3 := I7.out.x5.c3; have d4 := I7.out.x5.c4
              go_upto_region 16 with fail
              clear d0 d1 d2 d3 d4
              have DN := Lib.hid (InD.done (pr := []) I7.out (pairsAt_nil _ none) (fun y hy => by cases hy))
              have c0 := I7.out.x8.c0; have m0 := I7.out.z0.c0; have z0 := I7.out.z0.fz 0
              have c1 := I7.out.x8.c1; have m1 := I7.out.z0.c1; have z1 := I7.out.z0.fz 1
              have c2 := I7.out.x8.c2; have m2 := I7.out.z0.c2; have z2 := I7.out.z0.fz 2
              have c3 := I7.out.x8.c3; have m3 := I7.out.z0.c3; have z3 := I7.out.z0.fz 3
              have c4 := I7.out.x8.c4; have m4 := I7.out.z0.c4; have z4 := I7.out.z0.fz 4
              have c5 := I7.out.x8.c5; have m5 := I7.out.z0.c5; have z5 := I7.out.z0.fz 5
              have c6 := I7.out.x8.c6; have m6 := I7.out.z0.c6; have z6 := I7.out.z0.fz 6
              have c7 := I7.out.x8.c7; have m7 := I7.out.z0.c7; have z7 := I7.out.z0.fz 7
              clear I7
              go_wp2
              refine bodyPost_ret (v := recV ⟨(2 : Int), (y0 : Int), y1, y2, 0, 0, 0, []⟩ none 0) ?_ rfl ?_
              · obtain ⟨WW, hW⟩ : ∃ W, put8 u7 B0 (2 : Int) (y0 : Int) y1 y2 0 0 0 (.slice none (List.length (α := ByteArray × ByteArray) []) 0) = W := ⟨_, rfl⟩
                have D := DN.out.1
                rw [hW] at D
                unfold put8 at hW
                try dsimp only [List.length_nil] at hW
                rw [hW]
                have f0 := D.c0; have f1 := D.c1; have f2 := D.c2; have f3 := D.c3; have f4 := D.c4; have f5 := D.c5; have f6 := D.c6; have f7 := D.c7
                clear hW D
                simp [results, Tryd.results41, go_sem, recV, f0, f1, f2, f3, f4, f5, f6, f7]
              · have D := DN.out
                rw [HE.out]
                exact ⟨D.2.2.2.1, none, 0, _, rfl, D.2.1, D.2.2.1, rfl, HQ.out, by rw [hB0]; exact fun y hy => by have := D.2.2.2.2 y hy; omega⟩
      · rw [h0, h1, h2, h3, h4] at I0
        clear h0 h1 h2 h3 h4
        rw [show ((3 : Nat) : Int) = 3 from rfl] at I0
        have HQ0 := Lib.hid q2
        cases e0 : numL 6 (s.data.toList.drop (0 + 1)) with
        | none =>
          have CT := Lib.hid (number_no _ R s _ 6 I0.out.rd hs HQ0.out e0)
          have HE := Lib.hid (show res = none by rw [← Hres.out]; unfold parseL; rw [HK1.out]; dsimp only; rw [if_pos hk, if_pos (by decide)]; rw [e0] <;> rfl)
          have d0 := I0.out.x5.c0; have d1 := I0.out.x5.c1; have d2 := I0.out.x5.c2; have d3 := I0.out.x5.c3; have d4 := I0.out.x5.c4
          have HG := Lib.hid I0.out.gr
          clear e0 HK1
          go_wp2_with fail
          refine CT.out.mono ?_; rintro e w5 ⟨rfl, g5⟩
          go_wp2
          rw [HE.out]
          exact ⟨rfl, HG.out.trans g5, rfl⟩
        | some y =>
          obtain ⟨y0, l0⟩ := y
          have CT := Lib.hid (number_ok _ R s _ 6 y0 l0 I0.out.rd hs (by decide) (by decide) HQ0.out e0)
          have HN0 := Lib.hid e0
          have d0 := I0.out.x5.c0; have d1 := I0.out.x5.c1; have d2 := I0.out.x5.c2; have d3 := I0.out.x5.c3; have d4 := I0.out.x5.c4
          clear e0
          go_wp2_with fail
          clear d0 d1 d2 d3 d4
          refine CT.out.mono ?_; rintro e w5 ⟨rfl, r5, x5, q5, g5⟩
          subst x5
          have J5 := I0.out.step g5 r5
          have cc := J5.x8.c1; have zz := J5.x8.fz 1
          have I5 := Lib.hid (J5.set 1 (.int .i64 (y0 : Int)) (J5.x8.set1 y0))
          clear J5 r5 g5 CT I0
          go_upto_region 6 with fail
          clear cc zz
          generalize w5.setCell ⟨B1, 1, none⟩ (.int .i64 (y0 : Int)) = u5 at *
          have HQ1 := Lib.hid q5
          cases e1 : textL (s.data.toList.drop ((0 + 1) + 6)) with
          | none =>
            have CT := Lib.hid (text_no _ R s _ I5.out.rd hs HQ1.out e1)
            have HE := Lib.hid (show res = none by rw [← Hres.out]; unfold parseL; rw [HK1.out]; dsimp only; rw [if_pos hk, if_pos (by decide)]; rw [HN0.out]; dsimp only; rw [if_pos (by decide)]; rw [e1] <;> rfl)
            have d0 := I5.out.x5.c0; have d1 := I5.out.x5.c1; have d2 := I5.out.x5.c2; have d3 := I5.out.x5.c3; have d4 := I5.out.x5.c4
            have HG := Lib.hid I5.out.gr
            clear e1 HK1
            go_wp2_with fail
            refine CT.out.mono ?_; rintro e w5 ⟨rfl, g5⟩
            go_wp2
            rw [HE.out]
            exact ⟨rfl, HG.out.trans g5, rfl⟩
          | some y =>
            obtain ⟨y1, l1⟩ := y
            have CT := Lib.hid (text_yes _ R s y1 _ l1 I5.out.rd hs HQ1.out e1)
            have HN1 := Lib.hid e1
            have d0 := I5.out.x5.c0; have d1 := I5.out.x5.c1; have d2 := I5.out.x5.c2; have d3 := I5.out.x5.c3; have d4 := I5.out.x5.c4
            clear e1
            go_wp2_with fail
            clear d0 d1 d2 d3 d4
            refine CT.out.mono ?_; rintro e w6 ⟨rfl, r6, x6, q6, g6⟩
            subst x6
            have J6 := I5.out.step g6 r6
            have cc := J6.x8.c2; have zz := J6.x8.fz 2
            have I6 := Lib.hid (J6.set 2 (.string y1) (J6.x8.set2 y1))
            clear J6 r6 g6 CT I5
            go_upto_region 12 with fail
            clear cc zz
            generalize w6.setCell ⟨B1, 2, none⟩ (.string y1) = u6 at *
            have HE := Lib.hid (show res = some (⟨(3 : Int), (y0 : Int), y1, ⟨#[]⟩, 0, 0, 0, []⟩, s.data.toList.drop (((0 + 1) + 6) + 1 + y1.size)) by rw [← Hres.out]; unfold parseL; rw [HK1.out]; dsimp only; rw [if_pos hk, if_pos (by decide)]; rw [HN0.out]; dsimp only; rw [if_pos (by decide)]; rw [HN1.out]; dsimp only; rw [if_neg (by decide)] <;> rfl)
            have HQ := Lib.hid q6
            clear HK1 Hres
            have d0 := I6.out.x5.c0; have d1 := I6.out.x5.c1; have d2 := I6.out.x5.c2; have d3 := I6.out.x5.c3; have d4 := I6.out.x5.c4
            go_upto_region 16 with fail
            clear d0 d1 d2 d3 d4
            have DN := Lib.hid (InD.done (pr := []) I6.out (pairsAt_nil _ none) (fun y hy => by cases hy))
            have c0 := I6.out.x8.c0; have m0 := I6.out.z0.c0; have z0 := I6.out.z0.fz 0
            have c1 := I6.out.x8.c1; have m1 := I6.out.z0.c1; have z1 := I6.out.z0.fz 1
            have c2 := I6.out.x8.c2; have m2 := I6.out.z0.c2; have z2 := I6.out.z0.fz 2
            have c3 := I6.out.x8.c3; have m3 := I6.out.z0.c3; have z3 := I6.out.z0.fz 3
            have c4 := I6.out.x8.c4; have m4 := I6.out.z0.c4; have z4 := I6.out.z0.fz 4
            have c5 := I6.out.x8.c5; have m5 := I6.out.z0.c5; have z5 := I6.out.z0.fz 5
            have c6 := I6.out.x8.c6; have m6 := I6.out.z0.c6; have z6 := I6.out.z0.fz 6
            have c7 := I6.out.x8.c7; have m7 := I6.out.z0.c7; have z7 := I6.out.z0.fz 7
            clear I6
            go_wp2
            refine bodyPost_ret (v := recV ⟨(3 : Int), (y0 : Int), y1, ⟨#[]⟩, 0, 0, 0, []⟩ none 0) ?_ rfl ?_
            · obtain ⟨WW, hW⟩ : ∃ W, put8 u6 B0 (3 : Int) (y0 : Int) y1 ⟨#[]⟩ 0 0 0 (.slice none (List.length (α := ByteArray × ByteArray) []) 0) = W := ⟨_, rfl⟩
              have D := DN.out.1
              rw [hW] at D
              unfold put8 at hW
              try dsimp only [List.length_nil] at hW
              rw [hW]
              have f0 := D.c0; have f1 := D.c1; have f2 := D.c2; have f3 := D.c3; have f4 := D.c4; have f5 := D.c5; have f6 := D.c6; have f7 := D.c7
              clear hW D
              simp [results, Tryd.results41, go_sem, recV, f0, f1, f2, f3, f4, f5, f6, f7]
            · have D := DN.out
              rw [HE.out]
              exact ⟨D.2.2.2.1, none, 0, _, rfl, D.2.1, D.2.2.1, rfl, HQ.out, by rw [hB0]; exact fun y hy => by have := D.2.2.2.2 y hy; omega⟩
      · rw [h0, h1, h2, h3, h4] at I0
        clear h0 h1 h2 h3 h4
        rw [show ((6 : Nat) : Int) = 6 from rfl] at I0
        have HQ0 := Lib.hid q2
        cases e0 : numL 6 (s.data.toList.drop (0 + 1)) with
        | none =>
          have CT := Lib.hid (number_no _ R s _ 6 I0.out.rd hs HQ0.out e0)
          have HE := Lib.hid (show res = none by rw [← Hres.out]; unfold parseL; rw [HK1.out]; dsimp only; rw [if_pos hk, if_neg (by decide)]; rw [e0] <;> rfl)
          have d0 := I0.out.x5.c0; have d1 := I0.out.x5.c1; have d2 := I0.out.x5.c2; have d3 := I0.out.x5.c3; have d4 := I0.out.x5.c4
          have HG := Lib.hid I0.out.gr
          clear e0 HK1
          go_wp2_with fail
          refine CT.out.mono ?_; rintro e w5 ⟨rfl, g5⟩
          go_wp2
          rw [HE.out]
          exact ⟨rfl, HG.out.trans g5, rfl⟩
        | some y =>
          obtain ⟨y0, l0⟩ := y
          have CT := Lib.hid (number_ok _ R s _ 6 y0 l0 I0.out.rd hs (by decide) (by decide) HQ0.out e0)
          have HN0 := Lib.hid e0
          have d0 := I0.out.x5.c0; have d1 := I0.out.x5.c1; have d2 := I0.out.x5.c2; have d3 := I0.out.x5.c3; have d4 := I0.out.x5.c4
          clear e0
          go_wp2_with fail
          clear d0 d1 d2 d3 d4
          refine CT.out.mono ?_; rintro e w5 ⟨rfl, r5, x5, q5, g5⟩
          subst x5
          have J5 := I0.out.step g5 r5
          have cc := J5.x8.c4; have zz := J5.x8.fz 4
          have I5 := Lib.hid (J5.set 4 (.int .i64 (y0 : Int)) (J5.x8.set4 y0))
          clear J5 r5 g5 CT I0
          go_upto_region 8 with fail
          clear cc zz
          generalize w5.setCell ⟨B1, 4, none⟩ (.int .i64 (y0 : Int)) = u5 at *
          have HQ1 := Lib.hid q5
          cases e1 : numL 6 (s.data.toList.drop ((0 + 1) + 6)) with
          | none =>
            have CT := Lib.hid (number_no _ R s _ 6 I5.out.rd hs HQ1.out e1)
            have HE := Lib.hid (show res = none by rw [← Hres.out]; unfold parseL; rw [HK1.out]; dsimp only; rw [if_pos hk, if_neg (by decide)]; rw [HN0.out]; dsimp only; rw [e1] <;> rfl)
            have d0 := I5.out.x5.c0; have d1 := I5.out.x5.c1; have d2 := I5.out.x5.c2; have d3 := I5.out.x5.c3; have d4 := I5.out.x5.c4
            have HG := Lib.hid I5.out.gr
            clear e1 HK1
            go_wp2_with fail
            refine CT.out.mono ?_; rintro e w5 ⟨rfl, g5⟩
            go_wp2
            rw [HE.out]
            exact ⟨rfl, HG.out.trans g5, rfl⟩
          | some y =>
            obtain ⟨y1, l1⟩ := y
            have CT := Lib.hid (number_ok _ R s _ 6 y1 l1 I5.out.rd hs (by decide) (by decide) HQ1.out e1)
            have HN1 := Lib.hid e1
            have d0 := I5.out.x5.c0; have d1 := I5.out.x5.c1; have d2 := I5.out.x5.c2; have d3 := I5.out.x5.c3; have d4 := I5.out.x5.c4
            clear e1
            go_wp2_with fail
            clear d0 d1 d2 d3 d4
            refine CT.out.mono ?_; rintro e w6 ⟨rfl, r6, x6, q6, g6⟩
            subst x6
            have J6 := I5.out.step g6 r6
            have cc := J6.x8.c5; have zz := J6.x8.fz 5
            have I6 := Lib.hid (J6.set 5 (.int .i64 (y1 : Int)) (J6.x8.set5 y1))
            clear J6 r6 g6 CT I5
            go_upto_region 9 with fail
            clear cc zz
            generalize w6.setCell ⟨B1, 5, none⟩ (.int .i64 (y1 : Int)) = u6 at *
            have HQ2 := Lib.hid q6
            cases e2 : numL 6 (s.data.toList.drop (((0 + 1) + 6) + 6)) with
            | none =>
              have CT := Lib.hid (number_no _ R s _ 6 I6.out.rd hs HQ2.out e2)
              have HE := Lib.hid (show res = none by rw [← Hres.out]; unfold parseL; rw [HK1.out]; dsimp only; rw [if_pos hk, if_neg (by decide)]; rw [HN0.out]; dsimp only; rw [HN1.out]; dsimp only; rw [e2] <;> rfl)
              have d0 := I6.out.x5.c0; have d1 := I6.out.x5.c1; have d2 := I6.out.x5.c2; have d3 := I6.out.x5.c3; have d4 := I6.out.x5.c4
              have HG := Lib.hid I6.out.gr
              clear e2 HK1
              go_wp2_with fail
              refine CT.out.mono ?_; rintro e w5 ⟨rfl, g5⟩
              go_wp2
              rw [HE.out]
              exact ⟨rfl, HG.out.trans g5, rfl⟩
            | some y =>
              obtain ⟨y2, l2⟩ := y
              have CT := Lib.hid (number_ok _ R s _ 6 y2 l2 I6.out.rd hs (by decide) (by decide) HQ2.out e2)
              have HN2 := Lib.hid e2
              have d0 := I6.out.x5.c0; have d1 := I6.out.x5.c1; have d2 := I6.out.x5.c2; have d3 := I6.out.x5.c3; have d4 := I6.out.x5.c4
              clear e2
              go_wp2_with fail
              clear d0 d1 d2 d3 d4
              refine CT.out.mono ?_; rintro e w7 ⟨rfl, r7, x7, q7, g7⟩
              subst x7
              have J7 := I6.out.step g7 r7
              have cc := J7.x8.c6; have zz := J7.x8.fz 6
              have I7 := Lib.hid (J7.set 6 (.int .i64 (y2 : Int)) (J7.x8.set6 y2))
              clear J7 r7 g7 CT I6
              go_upto_region 10 with fail
              clear cc zz
              generalize w7.setCell ⟨B1, 6, none⟩ (.int .i64 (y2 : Int)) = u7 at *
              have HE := Lib.hid (show res = some (⟨(6 : Int), 0, ⟨#[]⟩, ⟨#[]⟩, (y0 : Int), (y1 : Int), (y2 : Int), []⟩, s.data.toList.drop ((((0 + 1) + 6) + 6) + 6)) by rw [← Hres.out]; unfold parseL; rw [HK1.out]; dsimp only; rw [if_pos hk, if_neg (by decide)]; rw [HN0.out]; dsimp only; rw [HN1.out]; dsimp only; rw [HN2.out]; dsimp only; rw [if_neg (by decide)] <;> rfl)
              have HQ := Lib.hid q7
              clear HK1 Hres
              have d0 := I7.out.x5.c0; have d1 := I7.out.x5.c1; have d2 := I7.out.x5.c2; have d3 := I7.out.x5.c3; have d4 := I7.out.x5.c4
              go_upto_region 16 with fail
              clear d0 d1 d2 d3 d4
              have DN := Lib.hid (InD.done (pr := []) I7.out (pairsAt_nil _ none) (fun y hy => by cases hy))
              have c0 := I7.out.x8.c0; have m0 := I7.out.z0.c0; have z0 := I7.out.z0.fz 0
              have c1 := I7.out.x8.c1; have m1 := I7.out.z0.c1; have z1 := I7.out.z0.fz 1
              have c2 := I7.out.x8.c2; have m2 := I7.out.z0.c2; have z2 := I7.out.z0.fz 2
              have c3 := I7.out.x8.c3; have m3 := I7.out.z0.c3; have z3 := I7.out.z0.fz 3
              have c4 := I7.out.x8.c4; have m4 := I7.out.z0.c4; have z4 := I7.out.z0.fz 4
              have c5 := I7.out.x8.c5; have m5 := I7.out.z0.c5; have z5 := I7.out.z0.fz 5
              have c6 := I7.out.x8.c6; have m6 := I7.out.z0.c6; have z6 := I7.out.z0.fz 6
              have c7 := I7.out.x8.c7; have m7 := I7.out.z0.c7; have z7 := I7.out.z0.fz 7
              clear I7
              go_wp2
              refine bodyPost_ret (v := recV ⟨(6 : Int), 0, ⟨#[]⟩, ⟨#[]⟩, (y0 : Int), (y1 : Int), (y2 : Int), []⟩ none 0) ?_ rfl ?_
              · obtain ⟨WW, hW⟩ : ∃ W, put8 u7 B0 (6 : Int) 0 ⟨#[]⟩ ⟨#[]⟩ (y0 : Int) (y1 : Int) (y2 : Int) (.slice none (List.length (α := ByteArray × ByteArray) []) 0) = W := ⟨_, rfl⟩
                have D := DN.out.1
                rw [hW] at D
                unfold put8 at hW
                try dsimp only [List.length_nil] at hW
                rw [hW]
                have f0 := D.c0; have f1 := D.c1; have f2 := D.c2; have f3 := D.c3; have f4 := D.c4; have f5 := D.c5; have f6 := D.c6; have f7 := D.c7
                clear hW D
                simp [results, Tryd.results41, go_sem, recV, f0, f1, f2, f3, f4, f5, f6, f7]
              · have D := DN.out
                rw [HE.out]
                exact ⟨D.2.2.2.1, none, 0, _, rfl, D.2.1, D.2.2.1, rfl, HQ.out, by rw [hB0]; exact fun y hy => by have := D.2.2.2.2 y hy; omega⟩
      · rw [h0, h1, h2, h3, h4] at I0
        clear h0 h1 h2 h3 h4
        rw [show ((7 : Nat) : Int) = 7 from rfl] at I0
        have HQ0 := Lib.hid q2
        cases e0 : numL 6 (s.data.toList.drop (0 + 1)) with
        | none =>
          have CT := Lib.hid (number_no _ R s _ 6 I0.out.rd hs HQ0.out e0)
          have HE := Lib.hid (show res = none by rw [← Hres.out]; unfold parseL; rw [HK1.out]; dsimp only; rw [if_pos hk, if_neg (by decide)]; rw [e0] <;> rfl)
          have d0 := I0.out.x5.c0; have d1 := I0.out.x5.c1; have d2 := I0.out.x5.c2; have d3 := I0.out.x5.c3; have d4 := I0.out.x5.c4
          have HG := Lib.hid I0.out.gr
          clear e0 HK1
          go_wp2_with fail
          refine CT.out.mono ?_; rintro e w5 ⟨rfl, g5⟩
          go_wp2
          rw [HE.out]
          exact ⟨rfl, HG.out.trans g5, rfl⟩
        | some y =>
          obtain ⟨y0, l0⟩ := y
          have CT := Lib.hid (number_ok _ R s _ 6 y0 l0 I0.out.rd hs (by decide) (by decide) HQ0.out e0)
          have HN0 := Lib.hid e0
          have d0 := I0.out.x5.c0; have d1 := I0.out.x5.c1; have d2 := I0.out.x5.c2; have d3 := I0.out.x5.c3; have d4 := I0.out.x5.c4
          clear e0
          go_wp2_with fail
          clear d0 d1 d2 d3 d4
          refine CT.out.mono ?_; rintro e w5 ⟨rfl, r5, x5, q5, g5⟩
          subst x5
          have J5 := I0.out.step g5 r5
          have cc := J5.x8.c4; have zz := J5.x8.fz 4
          have I5 := Lib.hid (J5.set 4 (.int .i64 (y0 : Int)) (J5.x8.set4 y0))
          clear J5 r5 g5 CT I0
          go_upto_region 8 with fail
          clear cc zz
          generalize w5.setCell ⟨B1, 4, none⟩ (.int .i64 (y0 : Int)) = u5 at *
          have HQ1 := Lib.hid q5
          cases e1 : numL 6 (s.data.toList.drop ((0 + 1) + 6)) with
          | none =>
            have CT := Lib.hid (number_no _ R s _ 6 I5.out.rd hs HQ1.out e1)
            have HE := Lib.hid (show res = none by rw [← Hres.out]; unfold parseL; rw [HK1.out]; dsimp only; rw [if_pos hk, if_neg (by decide)]; rw [HN0.out]; dsimp only; rw [e1] <;> rfl)
            have d0 := I5.out.x5.c0; have d1 := I5.out.x5.c1; have d2 := I5.out.x5.c2; have d3 := I5.out.x5.c3; have d4 := I5.out.x5.c4
            have HG := Lib.hid I5.out.gr
            clear e1 HK1
            go_wp2_with fail
            refine CT.out.mono ?_; rintro e w5 ⟨rfl, g5⟩
            go_wp2
            rw [HE.out]
            exact ⟨rfl, HG.out.trans g5, rfl⟩
          | some y =>
            obtain ⟨y1, l1⟩ := y
            have CT := Lib.hid (number_ok _ R s _ 6 y1 l1 I5.out.rd hs (by decide) (by decide) HQ1.out e1)
            have HN1 := Lib.hid e1
            have d0 := I5.out.x5.c0; have d1 := I5.out.x5.c1; have d2 := I5.out.x5.c2; have d3 := I5.out.x5.c3; have d4 := I5.out.x5.c4
            clear e1
            go_wp2_with fail
            clear d0 d1 d2 d3 d4
            refine CT.out.mono ?_; rintro e w6 ⟨rfl, r6, x6, q6, g6⟩
            subst x6
            have J6 := I5.out.step g6 r6
            have cc := J6.x8.c5; have zz := J6.x8.fz 5
            have I6 := Lib.hid (J6.set 5 (.int .i64 (y1 : Int)) (J6.x8.set5 y1))
            clear J6 r6 g6 CT I5
            go_upto_region 9 with fail
            clear cc zz
            generalize w6.setCell ⟨B1, 5, none⟩ (.int .i64 (y1 : Int)) = u6 at *
            have HQ2 := Lib.hid q6
            cases e2 : numL 6 (s.data.toList.drop (((0 + 1) + 6) + 6)) with
            | none =>
              have CT := Lib.hid (number_no _ R s _ 6 I6.out.rd hs HQ2.out e2)
              have HE := Lib.hid (show res = none by rw [← Hres.out]; unfold parseL; rw [HK1.out]; dsimp only; rw [if_pos hk, if_neg (by decide)]; rw [HN0.out]; dsimp only; rw [HN1.out]; dsimp only; rw [e2] <;> rfl)
              have d0 := I6.out.x5.c0; have d1 := I6.out.x5.c1; have d2 := I6.out.x5.c2; have d3 := I6.out.x5.c3; have d4 := I6.out.x5.c4
              have HG := Lib.hid I6.out.gr
              clear e2 HK1
              go_wp2_with fail
              refine CT.out.mono ?_; rintro e w5 ⟨rfl, g5⟩
              go_wp2
              rw [HE.out]
              exact ⟨rfl, HG.out.trans g5, rfl⟩
            | some y =>
              obtain ⟨y2, l2⟩ := y
              have CT := Lib.hid (number_ok _ R s _ 6 y2 l2 I6.out.rd hs (by decide) (by decide) HQ2.out e2)
              have HN2 := Lib.hid e2
              have d0 := I6.out.x5.c0; have d1 := I6.out.x5.c1; have d2 := I6.out.x5.c2; have d3 := I6.out.x5.c3; have d4 := I6.out.x5.c4
              clear e2
              go_wp2_with fail
              clear d0 d1 d2 d3 d4
              refine CT.out.mono ?_; rintro e w7 ⟨rfl, r7, x7, q7, g7⟩
              subst x7
              have J7 := I6.out.step g7 r7
              have cc := J7.x8.c6; have zz := J7.x8.fz 6
              have I7 := Lib.hid (J7.set 6 (.int .i64 (y2 : Int)) (J7.x8.set6 y2))
              clear J7 r7 g7 CT I6
              go_upto_region 10 with fail
              clear cc zz
              generalize w7.setCell ⟨B1, 6, none⟩ (.int .i64 (y2 : Int)) = u7 at *
              have HQ3 := Lib.hid q7
              cases e3 : numL 2 (s.data.toList.drop ((((0 + 1) + 6) + 6) + 6)) with
              | none =>
                have CT := Lib.hid (pairs_no _ R s _ I7.out.rd hs HQ3.out e3)
                have HE := Lib.hid (show res = none by rw [← Hres.out]; unfold parseL; rw [HK1.out]; dsimp only; rw [if_pos hk, if_neg (by decide)]; rw [HN0.out]; dsimp only; rw [HN1.out]; dsimp only; rw [HN2.out]; dsimp only; rw [if_pos (by decide)]; rw [e3] <;> rfl)
                have d0 := I7.out.x5.c0; have d1 := I7.out.x5.c1; have d2 := I7.out.x5.c2; have d3 := I7.out.x5.c3; have d4 := I7.out.x5.c4
                have HG := Lib.hid I7.out.gr
                clear e3 HK1
                go_wp2_with fail
                refine CT.out.mono ?_; rintro e w5 ⟨rfl, g5⟩
                go_wp2
                rw [HE.out]
                exact ⟨rfl, HG.out.trans g5, rfl⟩
              | some y =>
                obtain ⟨m, lm⟩ := y
                have CT := Lib.hid (pairs_any _ R s _ m lm I7.out.rd hs HQ3.out e3)
                have HN3 := Lib.hid e3
                have d0 := I7.out.x5.c0; have d1 := I7.out.x5.c1; have d2 := I7.out.x5.c2; have d3 := I7.out.x5.c3; have d4 := I7.out.x5.c4
                clear e3
                go_wp2_with fail
                clear d0 d1 d2 d3 d4
                refine CT.out.mono ?_; rintro e w8 ⟨g8, hm⟩
                cases hp : pairsR m lm with
                | none =>
                  rw [hp] at hm
                  obtain rfl : e = _ := hm
                  have HE := Lib.hid (show res = none by rw [← Hres.out]; unfold parseL; rw [HK1.out]; dsimp only; rw [if_pos hk, if_neg (by decide)]; rw [HN0.out]; dsimp only; rw [HN1.out]; dsimp only; rw [HN2.out]; dsimp only; rw [if_pos (by decide)]; rw [HN3.out]; dsimp only; rw [hp] <;> rfl)
                  have HG := Lib.hid (I7.out.gr.trans g8)
                  clear hp HK1 CT I7
                  go_wp2
                  rw [HE.out]
                  exact ⟨rfl, HG.out, rfl⟩
                | some y =>
                  obtain ⟨pr, lx⟩ := y
                  rw [hp] at hm
                  obtain ⟨va, vC, pp, rfl, hPA, r8, xx, q8, hFr⟩ := hm
                  subst xx
                  have J8 := I7.out.step g8 r8
                  have cc := J8.x8.c7; have zz := J8.x8.fz 7
                  have I8 := Lib.hid (J8.set 7 (.slice va pr.length vC) (J8.x8.set7 (.slice va pr.length vC)))
                  have hlB := I7.out.x8.lt
                  have PA1 := Lib.hid (show PairsAt (w8.setCell ⟨B1, 7, none⟩ (.slice va pr.length vC)) va pr from pairs_far hPA B1 7 _ (fun y hy e => by have := hFr y hy; omega))
                  have HF1 := Lib.hid (show ∀ y, va = some y → B1 < y.block from fun y hy => by have := hFr y hy; omega)
                  have HP := Lib.hid hp
                  clear J8 r8 g8 CT I7 hPA hFr hp hlB
                  go_upto_region 16 with fail
                  clear cc zz
                  generalize w8.setCell ⟨B1, 7, none⟩ (.slice va pr.length vC) = u8 at *
                  have HE := Lib.hid (show res = some (⟨(7 : Int), 0, ⟨#[]⟩, ⟨#[]⟩, (y0 : Int), (y1 : Int), (y2 : Int), pr⟩, s.data.toList.drop pp) by rw [← Hres.out]; unfold parseL; rw [HK1.out]; dsimp only; rw [if_pos hk, if_neg (by decide)]; rw [HN0.out]; dsimp only; rw [HN1.out]; dsimp only; rw [HN2.out]; dsimp only; rw [if_pos (by decide)]; rw [HN3.out]; dsimp only; rw [HP.out] <;> rfl)
                  have HQ := Lib.hid q8
                  clear HK1 Hres
                  have DN := Lib.hid (InD.done (pr := pr) I8.out PA1.out HF1.out)
                  have c0 := I8.out.x8.c0; have m0 := I8.out.z0.c0; have z0 := I8.out.z0.fz 0
                  have c1 := I8.out.x8.c1; have m1 := I8.out.z0.c1; have z1 := I8.out.z0.fz 1
                  have c2 := I8.out.x8.c2; have m2 := I8.out.z0.c2; have z2 := I8.out.z0.fz 2
                  have c3 := I8.out.x8.c3; have m3 := I8.out.z0.c3; have z3 := I8.out.z0.fz 3
                  have c4 := I8.out.x8.c4; have m4 := I8.out.z0.c4; have z4 := I8.out.z0.fz 4
                  have c5 := I8.out.x8.c5; have m5 := I8.out.z0.c5; have z5 := I8.out.z0.fz 5
                  have c6 := I8.out.x8.c6; have m6 := I8.out.z0.c6; have z6 := I8.out.z0.fz 6
                  have c7 := I8.out.x8.c7; have m7 := I8.out.z0.c7; have z7 := I8.out.z0.fz 7
                  clear I8
                  go_wp2
                  refine bodyPost_ret (v := recV ⟨(7 : Int), 0, ⟨#[]⟩, ⟨#[]⟩, (y0 : Int), (y1 : Int), (y2 : Int), pr⟩ va vC) ?_ rfl ?_
                  · obtain ⟨WW, hW⟩ : ∃ W, put8 u8 B0 (7 : Int) 0 ⟨#[]⟩ ⟨#[]⟩ (y0 : Int) (y1 : Int) (y2 : Int) (.slice va (List.length (α := ByteArray × ByteArray) pr) vC) = W := ⟨_, rfl⟩
                    have D := DN.out.1
                    rw [hW] at D
                    unfold put8 at hW
                    try dsimp only [List.length_nil] at hW
                    rw [hW]
                    have f0 := D.c0; have f1 := D.c1; have f2 := D.c2; have f3 := D.c3; have f4 := D.c4; have f5 := D.c5; have f6 := D.c6; have f7 := D.c7
                    clear hW D
                    simp [results, Tryd.results41, go_sem, recV, f0, f1, f2, f3, f4, f5, f6, f7]
                  · have D := DN.out
                    rw [HE.out]
                    exact ⟨D.2.2.2.1, va, vC, _, rfl, D.2.1, D.2.2.1, rfl, HQ.out, by rw [hB0]; exact fun y hy => by have := D.2.2.2.2 y hy; omega⟩
    · rw [decide_eq_false (show ¬ (1 ≤ (n : Int) ∧ (n : Int) < 8) by omega)] at CK
      have HC := Lib.hid CK
      have HE := Lib.hid (show res = none by rw [← Hres.out]; simp only [parseL, HK1.out, if_neg hk])
      clear CK HK1
      go_wp2_with fail
      refine (HC.out _).mono ?_; rintro e w4 ⟨rfl, rfl⟩
      go_wp2_with fail
      refine (giveUp_yes _).mono ?_; rintro e w4 ⟨rfl, rfl⟩
      go_wp2
      rw [HE.out]
      exact ⟨rfl, HG3.out, rfl⟩
end Go.Proofs.YthnpkhejfcclcaaDoor
