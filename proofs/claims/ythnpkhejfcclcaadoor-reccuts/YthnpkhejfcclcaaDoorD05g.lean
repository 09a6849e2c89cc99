/-
  Package rec: the contract of Encode.
-/
import Derived.Test.YthnpkhejfcclcaaDoorD05f
namespace Go.Proofs.YthnpkhejfcclcaaDoor
open Go.RowKit

/-- Encode at work: the record's box, what its kind has, the bytes so far -/
structure InE (w0 w : World) (B D : Nat) (k t : Int) (ke va : ByteArray) (pa un nu : Int) (s : Value) (x0 x1 x2 x3 x4 : Bool) (v : Value) (l : List UInt8) : Prop where
  x8 : Box8 QT w B k t ke va pa un nu s
  x5 : Box5 w D x0 x1 x2 x3 x4
  own : OwnB w0.heap.size w v l
  bel : Below w0.heap.size w0 w
section
variable {w0 w w' : World} {B D : Nat} {k t : Int} {ke va : ByteArray} {pa un nu : Int} {s : Value} {x0 x1 x2 x3 x4 : Bool} {v v' : Value} {l l' : List UInt8}
theorem InE.kp (h : InE w0 w B D k t ke va pa un nu s x0 x1 x2 x3 x4 v l) (o : OwnB w0.heap.size w' v' l') (a : Kp w0.heap.size w w') : InE w0 w' B D k t ke va pa un nu s x0 x1 x2 x3 x4 v' l' :=
  ⟨h.x8.kp a, h.x5.kp a, o, h.bel.trans a.bel⟩
theorem InE.number (h : InE w0 w B D k t ke va pa un nu s x0 x1 x2 x3 x4 v l) (z : Nat) (n : Int) (h1 : 1 ≤ z) (h8 : z ≤ 6) (hn0 : 0 ≤ n) (hn : n.toNat < 256 ^ z) (hn2 : n < 18446744073709551616) (hl : l.length ≤ 1000) :
    Calls Tryd.prog 33 #[v, .int .i64 (z : Int), .int .i64 n] w fun e w' => ∃ v', e = .returned v' ∧ InE w0 w' B D k t ke va pa un nu s x0 x1 x2 x3 x4 v' (l ++ Lib.leBytes z n.toNat) := by
  obtain ⟨m, rfl⟩ := Int.eq_ofNat_of_zero_le hn0
  rw [Int.toNat_natCast] at hn ⊢
  refine (putNumber_any w0.heap.size v l z m w h.own h.bel.size h1 (by omega) hn (by omega) (by omega)).mono ?_
  rintro e w' ⟨v', rfl, o, g⟩
  exact ⟨v', rfl, h.kp o (Kp.ofGrown h.own h.bel.size g)⟩
theorem InE.six (h : InE w0 w B D k t ke va pa un nu s x0 x1 x2 x3 x4 v l) (n : Int) (hn0 : 0 ≤ n) (hn : n ≤ 1099511627776) (hl : l.length ≤ 1000) :
    Calls Tryd.prog 33 #[v, .int .i64 6, .int .i64 n] w fun e w' => ∃ v', e = .returned v' ∧ InE w0 w' B D k t ke va pa un nu s x0 x1 x2 x3 x4 v' (l ++ num6 n) :=
  h.number 6 n (by decide) (by decide) hn0 (by rw [show (256 : Nat) ^ 6 = 281474976710656 from rfl]; omega) (by omega) hl
theorem InE.text (h : InE w0 w B D k t ke va pa un nu s x0 x1 x2 x3 x4 v l) (q : ByteArray) (hq : q.size ≤ 255) (hl : l.length ≤ 1000) :
    Calls Tryd.prog 34 #[v, .string q] w fun e w' => ∃ v', e = .returned v' ∧ InE w0 w' B D k t ke va pa un nu s x0 x1 x2 x3 x4 v' (l ++ txtL q) := by
  refine (putText_rec w0.heap.size v l q w h.own h.bel.size hq (by omega)).mono ?_
  rintro e w' ⟨v', rfl, o, g⟩
  exact ⟨v', rfl, h.kp o (Kp.ofGrown h.own h.bel.size g)⟩
theorem InE.list (h : InE w0 w B D k t ke va pa un nu s x0 x1 x2 x3 x4 v l) (a : Option Addr) (pr : Prs) (C : Nat) (hP : PairsAt w0 a pr) (hr : rowB pr = true) (hl : l.length ≤ 1000) :
    Calls Tryd.prog 35 #[v, .slice a pr.length C] w fun e w' => ∃ v', e = .returned v' ∧ InE w0 w' B D k t ke va pa un nu s x0 x1 x2 x3 x4 v' (l ++ (Lib.leBytes 2 pr.length ++ pairsL pr)) := by
  obtain ⟨r1, r2⟩ := rowB_parts hr
  refine (putPairs_any w0 w a pr C v l hP r2 r1 h.bel h.own hl).mono ?_
  rintro e w' ⟨v', rfl, o, g⟩
  exact ⟨v', rfl, h.kp o g⟩
end
set_option maxRecDepth 100000 in
set_option maxHeartbeats 1000000 in
theorem enc_no (w : World) (r : RecP) (a : Option Addr) (C : Nat) (hL : Laid5 w) (hP : PairsAt w a r.pairs) (hS : SmallP r.pairs) (hn : r.pairs.length ≤ 1000000) (h1 : r.key.size ≤ 1000000) (h2 : r.value.size ≤ 1000000) (hr : rightB r = false) :
    Calls Tryd.prog 14 #[recV r a C] w fun e w' => e = .returned (.string ⟨#[]⟩) ∧ Below w.heap.size w w' := by
  have hB : Below w.heap.size w (w.alloc (.cells #[.int .i64 r.kind, .int .i64 r.txn, .string r.key, .string r.value, .int .i64 r.pass, .int .i64 r.unit, .int .i64 r.num, .slice a r.pairs.length C] QT)) := (Below.refl w.heap.size w).alloc (Nat.le_refl _) _
  have CR := right_any _ r a C (hL.step hB) (hP.below hB) hS hn h1 h2
  rw [hr] at CR
  have HC := Lib.hid CR; have HB := Lib.hid hB
  clear CR hB hr hP hS hL
  obtain ⟨k, t, ke, va, pa, un, nu, pr⟩ := r
  dsimp only [recV] at *
  go_enter Tryd.func14, Tryd.ntmps14
  go_wp2_with fail
  refine HC.out.mono ?_; rintro e w2 ⟨rfl, b2⟩
  go_wp2
  go_ret
  exact ⟨rfl, HB.out.trans (b2.mono (by simp))⟩
/-- a kind of 1 to 7, and what it has -/
theorem kind_has (n : Nat) (h1 : 1 ≤ n) (h2 : n ≤ 7) : (hasT n = true ∧ hasF n = false ∧ hasK n = false ∧ hasV n = false ∧ hasL n = false ∧ n ≠ 2 ∧ n ≠ 3 ∧ n ≤ 5) ∨ (hasT n = true ∧ hasF n = false ∧ hasK n = true ∧ hasV n = true ∧ hasL n = false ∧ n = 2)
    ∨ (hasT n = true ∧ hasF n = false ∧ hasK n = true ∧ hasV n = false ∧ hasL n = false ∧ n = 3) ∨ (hasT n = false ∧ hasF n = true ∧ hasK n = false ∧ hasV n = false ∧ hasL n = false ∧ n = 6) ∨ (hasT n = false ∧ hasF n = true ∧ hasK n = false ∧ hasV n = false ∧ hasL n = true ∧ n = 7) := by
  obtain rfl | rfl | rfl | rfl | rfl | rfl | rfl : n = 1 ∨ n = 2 ∨ n = 3 ∨ n = 4 ∨ n = 5 ∨ n = 6 ∨ n = 7 := by omega
  all_goals simp [hasT, hasF, hasK, hasV, hasL]
set_option maxRecDepth 100000 in
set_option maxHeartbeats 4000000 in
theorem enc_yes (w : World) (n : Nat) (t : Int) (ke va : ByteArray) (pa un nu : Int) (pr : Prs) (a : Option Addr) (C : Nat) (hL : Laid5 w) (hP : PairsAt w a pr) (hS : SmallP pr) (hn : pr.length ≤ 1000000) (hke : ke.size ≤ 1000000) (hva : va.size ≤ 1000000) (hr : RightP ⟨n, t, ke, va, pa, un, nu, pr⟩) :
    Calls Tryd.prog 14 #[recV ⟨n, t, ke, va, pa, un, nu, pr⟩ a C] w fun e w' => e = .returned (.string (encB ⟨n, t, ke, va, pa, un, nu, pr⟩)) ∧ Below w.heap.size w w' := by
  obtain ⟨r1, r2, r3, r4, r5, r6⟩ := id hr
  dsimp only at r1 r2 r3 r4 r5 r6
  have hB := boxW_bel w n t ke va pa un nu (.slice a pr.length C)
  have CR := right_any _ ⟨n, t, ke, va, pa, un, nu, pr⟩ a C (hL.step hB) (hP.below hB) hS hn hke hva
  rw [(rightB_iff _).2 hr] at CR
  dsimp only [recV] at CR ⊢
  have HC := Lib.hid CR; have HB := Lib.hid hB
  have HX := Lib.hid (box8_new QT w n t ke va pa un nu (.slice a pr.length C))
  have HP := Lib.hid hP; have HL := Lib.hid (hL.step hB)
  have hp := (hL.step hB).pos
  have g1 : (n : Int) < 8 := by omega
  have g0 : (0 : Int) ≤ (n : Int) := by omega
  have HK := Lib.hid (kind_has n (by omega) (by omega))
  have hn1 : 1 ≤ n := by omega
  have hn7 : n ≤ 7 := by omega
  have R3 := Lib.hid r3; have R4 := Lib.hid r4; have R5 := Lib.hid r5; have R6 := Lib.hid r6
  clear CR hB hL hP hS r3 r4 r5 r6 hr r1 r2
  obtain ⟨RR, HRR⟩ : ∃ R, Hid (encB ⟨n, t, ke, va, pa, un, nu, pr⟩ = R) := ⟨_, rfl⟩
  rw [HRR.out]
  go_enter Tryd.func14, Tryd.ntmps14
  go_wp2_with fail
  refine HC.out.mono ?_; rintro e w2 ⟨rfl, b2⟩
  have X2 := HX.out.below b2 HX.out.lt
  have c0 := X2.c0
  have L2 := HL.out.step b2
  have hp2 := L2.pos
  obtain ⟨p0, p1, p2, p3, p4⟩ := L2 n hn1 hn7
  have B2 := HB.out.trans (b2.mono HB.out.size)
  have bb := (Below.refl w2.heap.size w2).alloc (Nat.le_refl _) (.cells #[.bool (hasT n), .bool (hasF n), .bool (hasK n), .bool (hasV n), .bool (hasL n)] 50)
  have I0 := Lib.hid (show InE w (w2.alloc (.cells #[.bool (hasT n), .bool (hasF n), .bool (hasK n), .bool (hasV n), .bool (hasL n)] 50)) w.heap.size w2.heap.size n t ke va pa un nu (.slice a pr.length C) (hasT n) (hasF n) (hasK n) (hasV n) (hasL n) (.slice none 0 0) [] from
    ⟨X2.below bb X2.lt, box5_new _ _ _ _ _ _, ownB_nil _ _, B2.trans (bb.mono B2.size)⟩)
  have C1 := Lib.hid (I0.out.number 1 n (by decide) (by decide) (by omega) (by rw [show (256 : Nat) ^ 1 = 256 from rfl]; omega) (by omega) (by simp))
  have y0 := I0.out.x8.c0
  clear X2 L2 B2 bb b2 HC HX HB HL I0
  go_wp2_with fail
  clear p0 p1 p2 p3 p4 y0
  refine C1.out.mono ?_; rintro e w3 ⟨v3, rfl, i3⟩
  have e8 : ([] : List UInt8) ++ Lib.leBytes 1 (n : Int).toNat = [n.toUInt8] := by
    rw [Int.toNat_natCast]; simp [Lib.leBytes]; rw [Nat.mod_eq_of_lt (by omega)]
  rw [e8] at i3
  have I3 := Lib.hid i3
  clear i3 C1 e8 c0
  --GEN
  have hpl := HK.out
  clear HK
  rcases hpl with ⟨h0, h1, h2, h3, h4, n2, n3, n5⟩ | ⟨h0, h1, h2, h3, h4, rfl⟩ | ⟨h0, h1, h2, h3, h4, rfl⟩ | ⟨h0, h1, h2, h3, h4, rfl⟩ | ⟨h0, h1, h2, h3, h4, rfl⟩
  · have q3 := R3.out; have q4 := R4.out; have q5 := R5.out; have q6 := R6.out
    rw [if_pos (show (n : Int) ≤ 5 by omega)] at q3
    rw [if_neg (show ¬ (n : Int) = 7 by omega)] at q6
    have HE := Lib.hid (show RR = baL ([n.toUInt8] ++ num6 t) by rw [← HRR.out, encB_baL]; congr 1 <;> (unfold encL; dsimp only; rw [if_pos (show (n : Int) ≤ 5 by omega), if_neg (show ¬ ((n : Int) = 2 ∨ (n : Int) = 3) by omega), if_neg (show ¬ (n : Int) = 2 by omega), if_neg (show ¬ (n : Int) = 7 by omega)]; simp))
    unfold top at q3
    clear HRR R3 R4 R5 R6
    rw [h0, h1, h2, h3, h4] at I3
    clear h0 h1 h2 h3 h4
    have d0 := I3.out.x5.c0; have d1 := I3.out.x5.c1; have d2 := I3.out.x5.c2; have d3 := I3.out.x5.c3; have d4 := I3.out.x5.c4; have cf := I3.out.x8.c1
    have CC := Lib.hid (I3.out.six t (by omega) (by omega) (by simp; try omega))
    clear I3
    go_wp2_with fail
    clear d0 d1 d2 d3 d4 cf
    refine CC.out.mono ?_; rintro e w4 ⟨v4, rfl, i4⟩
    have I4 := Lib.hid i4
    clear i4 CC
    have d0 := I4.out.x5.c0; have d1 := I4.out.x5.c1; have d2 := I4.out.x5.c2; have d3 := I4.out.x5.c3; have d4 := I4.out.x5.c4
    have hst := I4.out.own.str (by simp)
    have HB := Lib.hid I4.out.bel
    clear I4
    generalize baL ([n.toUInt8] ++ num6 t) = S at *
    go_wp2
    go_ret
    rw [HE.out]
    exact ⟨rfl, HB.out⟩
  · have q3 := R3.out; have q4 := R4.out; have q5 := R5.out; have q6 := R6.out
    rw [if_pos (by decide)] at q3
    rw [if_pos (by decide)] at q4
    rw [if_pos (by decide)] at q5
    have sk := keyB_size q4
    have sv := valB_size q5
    have HE := Lib.hid (show RR = baL ([(2 : Nat).toUInt8] ++ num6 t ++ txtL ke ++ txtL va) by rw [← HRR.out, encB_baL]; congr 1 <;> (unfold encL; dsimp only; simp))
    unfold top at q3
    clear HRR R3 R4 R5 R6
    rw [h0, h1, h2, h3, h4] at I3
    clear h0 h1 h2 h3 h4
    have d0 := I3.out.x5.c0; have d1 := I3.out.x5.c1; have d2 := I3.out.x5.c2; have d3 := I3.out.x5.c3; have d4 := I3.out.x5.c4; have cf := I3.out.x8.c1
    have CC := Lib.hid (I3.out.six t (by omega) (by omega) (by simp; try omega))
    clear I3
    go_wp2_with fail
    clear d0 d1 d2 d3 d4 cf
    refine CC.out.mono ?_; rintro e w4 ⟨v4, rfl, i4⟩
    have I4 := Lib.hid i4
    clear i4 CC
    have d0 := I4.out.x5.c0; have d1 := I4.out.x5.c1; have d2 := I4.out.x5.c2; have d3 := I4.out.x5.c3; have d4 := I4.out.x5.c4; have cf := I4.out.x8.c2
    have CC := Lib.hid (I4.out.text ke (by omega) (by simp [num6_len]; try omega))
    clear I4
    go_wp2_with fail
    clear d0 d1 d2 d3 d4 cf
    refine CC.out.mono ?_; rintro e w5 ⟨v5, rfl, i5⟩
    have I5 := Lib.hid i5
    clear i5 CC
    have d0 := I5.out.x5.c0; have d1 := I5.out.x5.c1; have d2 := I5.out.x5.c2; have d3 := I5.out.x5.c3; have d4 := I5.out.x5.c4; have cf := I5.out.x8.c3
    have CC := Lib.hid (I5.out.text va (by omega) (by simp [num6_len, txtL_len]; try omega))
    clear I5
    go_wp2_with fail
    clear d0 d1 d2 d3 d4 cf
    refine CC.out.mono ?_; rintro e w6 ⟨v6, rfl, i6⟩
    have I6 := Lib.hid i6
    clear i6 CC
    have d0 := I6.out.x5.c0; have d1 := I6.out.x5.c1; have d2 := I6.out.x5.c2; have d3 := I6.out.x5.c3; have d4 := I6.out.x5.c4
    have hst := I6.out.own.str (by simp)
    have HB := Lib.hid I6.out.bel
    clear I6
    generalize baL ([(2 : Nat).toUInt8] ++ num6 t ++ txtL ke ++ txtL va) = S at *
    go_wp2
    go_ret
    rw [HE.out]
    exact ⟨rfl, HB.out⟩
  · have q3 := R3.out; have q4 := R4.out; have q5 := R5.out; have q6 := R6.out
    rw [if_pos (by decide)] at q3
    rw [if_pos (by decide)] at q4
    rw [if_neg (by decide)] at q5
    have sk := keyB_size q4
    have HE := Lib.hid (show RR = baL ([(3 : Nat).toUInt8] ++ num6 t ++ txtL ke) by rw [← HRR.out, encB_baL]; congr 1 <;> (unfold encL; dsimp only; simp))
    unfold top at q3
    clear HRR R3 R4 R5 R6
    rw [h0, h1, h2, h3, h4] at I3
    clear h0 h1 h2 h3 h4
    have d0 := I3.out.x5.c0; have d1 := I3.out.x5.c1; have d2 := I3.out.x5.c2; have d3 := I3.out.x5.c3; have d4 := I3.out.x5.c4; have cf := I3.out.x8.c1
    have CC := Lib.hid (I3.out.six t (by omega) (by omega) (by simp; try omega))
    clear I3
    go_wp2_with fail
    clear d0 d1 d2 d3 d4 cf
    refine CC.out.mono ?_; rintro e w4 ⟨v4, rfl, i4⟩
    have I4 := Lib.hid i4
    clear i4 CC
    have d0 := I4.out.x5.c0; have d1 := I4.out.x5.c1; have d2 := I4.out.x5.c2; have d3 := I4.out.x5.c3; have d4 := I4.out.x5.c4; have cf := I4.out.x8.c2
    have CC := Lib.hid (I4.out.text ke (by omega) (by simp [num6_len]; try omega))
    clear I4
    go_wp2_with fail
    clear d0 d1 d2 d3 d4 cf
    refine CC.out.mono ?_; rintro e w5 ⟨v5, rfl, i5⟩
    have I5 := Lib.hid i5
    clear i5 CC
    have d0 := I5.out.x5.c0; have d1 := I5.out.x5.c1; have d2 := I5.out.x5.c2; have d3 := I5.out.x5.c3; have d4 := I5.out.x5.c4
    have hst := I5.out.own.str (by simp)
    have HB := Lib.hid I5.out.bel
    clear I5
    generalize baL ([(3 : Nat).toUInt8] ++ num6 t ++ txtL ke) = S at *
    go_wp2
    go_ret
    rw [HE.out]
    exact ⟨rfl, HB.out⟩
  · have q3 := R3.out; have q4 := R4.out; have q5 := R5.out; have q6 := R6.out
    rw [if_neg (by decide)] at q3
    have HE := Lib.hid (show RR = baL ([(6 : Nat).toUInt8] ++ num6 pa ++ num6 un ++ num6 nu) by rw [← HRR.out, encB_baL]; congr 1 <;> (unfold encL; dsimp only; simp))
    unfold top at q3
    clear HRR R3 R4 R5 R6
    rw [h0, h1, h2, h3, h4] at I3
    clear h0 h1 h2 h3 h4
    have d0 := I3.out.x5.c0; have d1 := I3.out.x5.c1; have d2 := I3.out.x5.c2; have d3 := I3.out.x5.c3; have d4 := I3.out.x5.c4; have cf := I3.out.x8.c4
    have CC := Lib.hid (I3.out.six pa (by omega) (by omega) (by simp; try omega))
    clear I3
    go_wp2_with fail
    clear d0 d1 d2 d3 d4 cf
    refine CC.out.mono ?_; rintro e w4 ⟨v4, rfl, i4⟩
    have I4 := Lib.hid i4
    clear i4 CC
    have d0 := I4.out.x5.c0; have d1 := I4.out.x5.c1; have d2 := I4.out.x5.c2; have d3 := I4.out.x5.c3; have d4 := I4.out.x5.c4; have cf := I4.out.x8.c5
    have CC := Lib.hid (I4.out.six un (by omega) (by omega) (by simp [num6_len]; try omega))
    clear I4
    go_wp2_with fail
    clear d0 d1 d2 d3 d4 cf
    refine CC.out.mono ?_; rintro e w5 ⟨v5, rfl, i5⟩
    have I5 := Lib.hid i5
    clear i5 CC
    have d0 := I5.out.x5.c0; have d1 := I5.out.x5.c1; have d2 := I5.out.x5.c2; have d3 := I5.out.x5.c3; have d4 := I5.out.x5.c4; have cf := I5.out.x8.c6
    have CC := Lib.hid (I5.out.six nu (by omega) (by omega) (by simp [num6_len]; try omega))
    clear I5
    go_wp2_with fail
    clear d0 d1 d2 d3 d4 cf
    refine CC.out.mono ?_; rintro e w6 ⟨v6, rfl, i6⟩
    have I6 := Lib.hid i6
    clear i6 CC
    have d0 := I6.out.x5.c0; have d1 := I6.out.x5.c1; have d2 := I6.out.x5.c2; have d3 := I6.out.x5.c3; have d4 := I6.out.x5.c4
    have hst := I6.out.own.str (by simp)
    have HB := Lib.hid I6.out.bel
    clear I6
    generalize baL ([(6 : Nat).toUInt8] ++ num6 pa ++ num6 un ++ num6 nu) = S at *
    go_wp2
    go_ret
    rw [HE.out]
    exact ⟨rfl, HB.out⟩
  · have q3 := R3.out; have q4 := R4.out; have q5 := R5.out; have q6 := R6.out
    rw [if_neg (by decide)] at q3
    rw [if_pos (by decide)] at q6
    have HE := Lib.hid (show RR = baL ([(7 : Nat).toUInt8] ++ num6 pa ++ num6 un ++ num6 nu ++ (Lib.leBytes 2 pr.length ++ pairsL pr)) by rw [← HRR.out, encB_baL]; congr 1 <;> (unfold encL; dsimp only; simp))
    unfold top at q3
    clear HRR R3 R4 R5 R6
    rw [h0, h1, h2, h3, h4] at I3
    clear h0 h1 h2 h3 h4
    have d0 := I3.out.x5.c0; have d1 := I3.out.x5.c1; have d2 := I3.out.x5.c2; have d3 := I3.out.x5.c3; have d4 := I3.out.x5.c4; have cf := I3.out.x8.c4
    have CC := Lib.hid (I3.out.six pa (by omega) (by omega) (by simp; try omega))
    clear I3
    go_wp2_with fail
    clear d0 d1 d2 d3 d4 cf
    refine CC.out.mono ?_; rintro e w4 ⟨v4, rfl, i4⟩
    have I4 := Lib.hid i4
    clear i4 CC
    have d0 := I4.out.x5.c0; have d1 := I4.out.x5.c1; have d2 := I4.out.x5.c2; have d3 := I4.out.x5.c3; have d4 := I4.out.x5.c4; have cf := I4.out.x8.c5
    have CC := Lib.hid (I4.out.six un (by omega) (by omega) (by simp [num6_len]; try omega))
    clear I4
    go_wp2_with fail
    clear d0 d1 d2 d3 d4 cf
    refine CC.out.mono ?_; rintro e w5 ⟨v5, rfl, i5⟩
    have I5 := Lib.hid i5
    clear i5 CC
    have d0 := I5.out.x5.c0; have d1 := I5.out.x5.c1; have d2 := I5.out.x5.c2; have d3 := I5.out.x5.c3; have d4 := I5.out.x5.c4; have cf := I5.out.x8.c6
    have CC := Lib.hid (I5.out.six nu (by omega) (by omega) (by simp [num6_len]; try omega))
    clear I5
    go_wp2_with fail
    clear d0 d1 d2 d3 d4 cf
    refine CC.out.mono ?_; rintro e w6 ⟨v6, rfl, i6⟩
    have I6 := Lib.hid i6
    clear i6 CC
    have d0 := I6.out.x5.c0; have d1 := I6.out.x5.c1; have d2 := I6.out.x5.c2; have d3 := I6.out.x5.c3; have d4 := I6.out.x5.c4; have cf := I6.out.x8.c7
    have CC := Lib.hid (I6.out.list a pr C HP.out q6 (by simp [num6_len]; try omega))
    clear I6
    go_wp2_with fail
    clear d0 d1 d2 d3 d4 cf
    refine CC.out.mono ?_; rintro e w7 ⟨v7, rfl, i7⟩
    have I7 := Lib.hid i7
    clear i7 CC
    have d0 := I7.out.x5.c0; have d1 := I7.out.x5.c1; have d2 := I7.out.x5.c2; have d3 := I7.out.x5.c3; have d4 := I7.out.x5.c4
    have hst := I7.out.own.str (by simp)
    have HB := Lib.hid I7.out.bel
    clear I7
    generalize baL ([(7 : Nat).toUInt8] ++ num6 pa ++ num6 un ++ num6 nu ++ (Lib.leBytes 2 pr.length ++ pairsL pr)) = S at *
    go_wp2
    go_ret
    rw [HE.out]
    exact ⟨rfl, HB.out⟩
/-- Encode -/
theorem encode_any (w : World) (r : RecP) (a : Option Addr) (C : Nat) (hL : Laid5 w) (hP : PairsAt w a r.pairs) (hS : SmallP r.pairs) (hn : r.pairs.length ≤ 1000000) (h1 : r.key.size ≤ 1000000) (h2 : r.value.size ≤ 1000000) :
    Calls Tryd.prog 14 #[recV r a C] w fun e w' => e = .returned (.string (encOut r)) ∧ Below w.heap.size w w' := by
  by_cases hr : rightB r = true
  · have : encOut r = encB r := by unfold encOut; rw [if_pos hr]
    rw [this]
    have hR := (rightB_iff r).1 hr
    obtain ⟨k, t, ke, va, pa, un, nu, pr⟩ := r
    have hk := hR.1
    dsimp only at hk
    obtain ⟨n, rfl⟩ := Int.eq_ofNat_of_zero_le (show 0 ≤ k by omega)
    exact enc_yes w n t ke va pa un nu pr a C hL hP hS hn h1 h2 hR
  · have : encOut r = ⟨#[]⟩ := by unfold encOut; rw [if_neg hr]
    rw [this]
    exact enc_no w r a C hL hP hS hn h1 h2 (by simpa using hr)
end Go.Proofs.YthnpkhejfcclcaaDoor
