/-
  The law package's Play and fixed; the document's Ints.
-/
import Derived.Test.YtainnhcmhgloaaaGreatDoorW09x
import Derived.Test.YtainnhcmhgloaaaGreatDoorA09
namespace Go.Proofs.YtainnhcmhgloaaaGreatDoor
open Go.RowKit Go.Shelf Go.MapKept Go.Maps Go.Sort Go.Lib

section
variable {w w' w0 : World} {o o' : Nat → Nat} {i g B : Nat} {H W : Hs} {v : Value} {l : List Int}
/-- a []int that reads as l -/
def IsI9 (w : World) (v : Value) (l : List Int) : Prop := ∃ a C, v = .slice a l.length C ∧ ∀ k x, l[k]? = some x → ∃ b, a = some ⟨b, 0, none⟩ ∧ w.cell? ⟨b, k, none⟩ = some (.int .i64 x)
theorem KI.is (h : KI w o v l) : IsI9 w v l := by
  obtain ⟨a, C, rfl⟩ := h.sl
  exact ⟨a, C, rfl, fun k x hx => h.cell hx⟩
theorem IsI9.reads (h : IsI9 w v l) (b : Below w.heap.size w w') : IsI9 w' v l := by
  obtain ⟨a, C, rfl, hc⟩ := h
  refine ⟨a, C, rfl, fun k x hx => ?_⟩
  obtain ⟨q, h1, h2⟩ := hc k x hx
  exact ⟨q, h1, (b.cell (World.block_lt_of_cell? w _ h2)).trans h2⟩
theorem isI9_new (w : World) (x : Int) (t : TypeId) : IsI9 (w.alloc (.cells #[.int .i64 x] t)) (.slice (some ⟨w.heap.size, 0, none⟩) 1 1) [x] :=
  ⟨_, _, rfl, fun k y hy => by
    cases k with
    | zero => cases hy; exact ⟨_, rfl, (At.new w #[.int .i64 x] t).cell 0⟩
    | succ k => simp at hy⟩
set_option maxRecDepth 100000 in
set_option maxHeartbeats 1000000 in
theorem ints9 (w : World) (v1 v2 : Value) (l : List Int) (h1 : IsI9 w v1 l) (h2 : IsI9 w v2 l) (hl : l.length ≤ 1000000) :
    Calls Tryz.prog 20 #[v1, v2] w fun e w' => e = .returned (.bool true) ∧ Below w.heap.size w w' := by
  obtain ⟨a1, C1, rfl, hc1⟩ := h1
  obtain ⟨a2, C2, rfl, hc2⟩ := h2
  have H1 := Lib.hid hc1
  have H2 := Lib.hid hc2
  clear hc1 hc2
  go_enter Tryz.func20, Tryz.ntmps20
  go_wp2
  go_loopw [5] (fun i wr => ∃ k : Nat, k ≤ l.length ∧ i = .int .i64 (k : Int) ∧ ∃ m, wr = w.drewN m) (fun i _ => l.length - (intOf i).toNat)
  case atStart => exact ⟨0, by omega, rfl, 0, rfl⟩
  case round =>
    obtain ⟨k, hk, rfl, m, rfl⟩ := hrel
    by_cases hlt : k < l.length
    · have hlt' : (k : Int) < (l.length : Int) := by omega
      have h0 : (0 : Int) ≤ (k : Int) := by omega
      obtain ⟨x, hx⟩ : ∃ x, l[k]? = some x := ⟨_, List.getElem?_eq_getElem hlt⟩
      obtain ⟨g1, rfl, c1⟩ := H1.out k x hx
      obtain ⟨g2, rfl, c2⟩ := H2.out k x hx
      have d1 : (w.drewN m).cell? ⟨g1, k, none⟩ = some (.int .i64 x) := c1
      have d2 : (w.drewN m).cell? ⟨g2, k, none⟩ = some (.int .i64 x) := c2
      clear c1 c2 H1 H2
      obtain ⟨w1, HW⟩ : ∃ w1, Hid (w.drewN m = w1) := ⟨_, rfl⟩
      rw [HW.out] at d1 d2 ⊢
      go_wp2
      go_quiet (fail)
      go_wp2
      refine ⟨⟨k + 1, by omega, by go_num, m + nq, ?_⟩, by simp [intOf]; omega⟩
      rw [← HW.out]; simp [World.drewN, Nat.add_assoc]
    · obtain rfl : k = l.length := by omega
      go_wp2
      go_ret
      exact ⟨rfl, below_drewN _ _⟩

/-- kept cells -/
def KA (w : World) (o : Nat → Nat) (b : Nat) (cs : Array Value) (t : TypeId) : Prop := At w b cs t ∧ o b ≠ 1
theorem KA.step {b : Nat} {cs : Array Value} {t : TypeId} (h : KA w o b cs t) (s : Stp o 1 w o' w') : KA w' o' b cs t := ⟨h.1.same (s.blk b h.1.lt h.2), by rw [s.own b h.1.lt]; exact h.2⟩
theorem KA.reads {b : Nat} {cs : Array Value} {t : TypeId} (h : KA w o b cs t) (s : Below w.heap.size w w') : KA w' o b cs t := ⟨h.1.reads s, h.2⟩
theorem KA.new (w : World) (o : Nat → Nat) (cs : Array Value) (t : TypeId) : KA (w.alloc (.cells cs t)) (gives o w.heap.size 2) w.heap.size cs t := ⟨At.new w cs t, by rw [gives_new (Nat.le_refl _)]; decide⟩
theorem hrow_sl {z n : Nat} {t : TypeId} {xs : List Value} (h : Row w o z t 2 v n xs) : ∃ a C, v = .slice a n C := by
  rcases h.val with ⟨rfl, h0, _⟩ | ⟨gq, C, rfl, _⟩
  · exact ⟨_, _, by rw [h0]⟩
  · exact ⟨_, _, rfl⟩
theorem beq_hold (_w : World) (_a : ByteArray) (_x : Int) : True := trivial
set_option maxRecDepth 100000 in
set_option maxHeartbeats 8000000 in
theorem c_fixed (w : World) (hL : Laid9 w) : Calls Tryz.prog 9 #[] w fun e w' => e = .returned (.bool true) ∧ Below w.heap.size w w' := by
  have CN := Lib.hid (lk_New w hL)
  unfold ptr9 at *
  go_enter Tryz.func9, Tryz.ntmps9
  go_wp2_with fail
  refine CN.out.mono ?_; rintro r w1 ⟨g, o1, rfl, S1⟩
  have HS1 := Lib.hid S1
  clear CN S1
  go_wp2_with fail
  refine (lk_Ask HS1.out (by omega) (1) 4 (by omega) nA (by decide)).mono ?_; rintro r w2 ⟨k2, rfl, H2, W2, o2, hs2, S2, st2⟩
  obtain ⟨rfl, rfl, rfl⟩ := fx1 hs2
  clear hs2
  have HS2 := Lib.hid S2
  clear HS1 S2 st2
  go_wp2_with fail
  refine (lk_Ask HS2.out (by omega) (2) 3 (by omega) nA (by decide)).mono ?_; rintro r w3 ⟨k3, rfl, H3, W3, o3, hs3, S3, st3⟩
  obtain ⟨rfl, rfl, rfl⟩ := fx2 hs3
  clear hs3
  have HS3 := Lib.hid S3
  clear HS2 S3 st3
  go_wp2_with fail
  refine (lk_Ask HS3.out (by omega) (2) 3 (by omega) nB (by decide)).mono ?_; rintro r w4 ⟨k4, rfl, H4, W4, o4, hs4, S4, st4⟩
  obtain ⟨rfl, rfl, rfl⟩ := fx3 hs4
  clear hs4
  have HS4 := Lib.hid S4
  clear HS3 S4 st4
  go_wp2_with fail
  have CW := lk_Waits HS4.out 2
  unfold forV at CW
  rw [fxW] at CW
  simp only at CW
  refine CW.mono ?_; rintro r w0a ⟨rfl, b0⟩
  have S0 := HS4.out.reads b0
  have SF := S0.fresh ((Below.refl _ w0a).alloc (Nat.le_refl _) (.cells #[.string nA, .int .i64 3] 41)) 2
  have HS5 := Lib.hid SF
  have Ka5 := Lib.hid (KA.new w0a o4 #[.string nA, .int .i64 3] 41)
  clear CW S0 SF HS4 b0
  unfold nA at *
  go_wp2_with (fail)
  generalize hbx : w0a.heap.size = bx at *
  generalize w0a.alloc (.cells #[.string ⟨#[97]⟩, .int .i64 3] 41) = w5 at *
  refine (lk_Ask HS5.out (by omega) (3) 4 (by omega) nB (by decide)).mono ?_; rintro r w6 ⟨k6, rfl, H6, W6, o6, hs6, S6, st6⟩
  obtain ⟨rfl, rfl, rfl⟩ := fx4 hs6
  clear hs6
  have HS6 := Lib.hid S6
  have Ka6 := Lib.hid (Ka5.out.step st6)
  clear HS5 S6 Ka5 st6
  go_wp2_with fail
  refine (lk_Ask HS6.out (by omega) (1) 3 (by omega) nB (by decide)).mono ?_; rintro r w7 ⟨k7, rfl, H7, W7, o7, hs7, S7, st7⟩
  obtain ⟨rfl, rfl, rfl⟩ := fx5 hs7
  clear hs7
  have HS7 := Lib.hid S7
  have Ka7 := Lib.hid (Ka6.out.step st7)
  clear HS6 S7 Ka6 st7
  go_wp2_with fail
  refine (lk_Behind HS7.out (by omega) 1).mono ?_; rintro r w8 ⟨v8, rfl, o8, S8, st8, kk8⟩
  rw [fxB] at kk8
  have HS8 := Lib.hid S8
  have Ka8 := Lib.hid (Ka7.out.step st8)
  have Kb8 := Lib.hid kk8
  clear HS7 S8 Ka7 kk8 st8
  go_wp2_with fail
  refine (lk_Ask HS8.out (by omega) (3) 3 (by omega) nA (by decide)).mono ?_; rintro r w9 ⟨k9, rfl, H9, W9, o9, hs9, S9, st9⟩
  obtain ⟨rfl, rfl, rfl⟩ := fx6 hs9
  clear hs9
  have HS9 := Lib.hid S9
  have Ka9 := Lib.hid (Ka8.out.step st9)
  have Kb9 := Lib.hid (Kb8.out.step st9)
  clear HS8 S9 Ka8 Kb8 st9
  go_wp2_with fail
  refine (lk_Free HS9.out (by omega) 3 nB (by decide)).mono ?_; rintro r w10 ⟨v10, k10, rfl, H10, W10, l10, o10, hs10, S10, st10, kk10⟩
  obtain ⟨rfl, rfl, rfl, rfl⟩ := fx7 hs10
  clear hs10
  have HS10 := Lib.hid S10
  have Ka10 := Lib.hid (Ka9.out.step st10)
  have Kb10 := Lib.hid (Kb9.out.step st10)
  have Kg10 := Lib.hid kk10
  clear HS9 S10 Ka9 Kb9 kk10 st10
  go_wp2_with fail
  refine (lk_Free HS10.out (by omega) 3 nB (by decide)).mono ?_; rintro r w11 ⟨v11, k11, rfl, H11, W11, l11, o11, hs11, S11, st11, kk11⟩
  obtain ⟨rfl, rfl, rfl, rfl⟩ := fx8 hs11
  clear hs11
  clear kk11
  have HS11 := Lib.hid S11
  have Ka11 := Lib.hid (Ka10.out.step st11)
  have Kb11 := Lib.hid (Kb10.out.step st11)
  have Kg11 := Lib.hid (Kg10.out.step st11)
  clear HS10 S11 Ka10 Kb10 Kg10 st11
  go_wp2_with fail
  refine (lk_Drop HS11.out (by omega) 1).mono ?_; rintro r w12 ⟨v12, rfl, o12, S12, st12, kk12⟩
  rw [fxD1, fxD2] at S12
  rw [fxD3] at kk12
  have HS12 := Lib.hid S12
  have Ka12 := Lib.hid (Ka11.out.step st12)
  have Kb12 := Lib.hid (Kb11.out.step st12)
  have Kg12 := Lib.hid (Kg11.out.step st12)
  have Kd12 := Lib.hid kk12
  clear HS11 S12 Ka11 Kb11 Kg11 kk12 st12
  go_wp2_with fail
  refine (lk_Ask HS12.out (by omega) (2) 4 (by omega) nA (by decide)).mono ?_; rintro r w13 ⟨k13, rfl, H13, W13, o13, hs13, S13, st13⟩
  obtain ⟨rfl, rfl, rfl⟩ := fx10 hs13
  clear hs13
  have HS13 := Lib.hid S13
  have Ka13 := Lib.hid (Ka12.out.step st13)
  have Kb13 := Lib.hid (Kb12.out.step st13)
  have Kg13 := Lib.hid (Kg12.out.step st13)
  have Kd13 := Lib.hid (Kd12.out.step st13)
  clear HS12 S13 Ka12 Kb12 Kg12 Kd12 st13
  go_wp2_with fail
  refine (lk_Ask HS13.out (by omega) (-1) 3 (by omega) nA (by decide)).mono ?_; rintro r w14 ⟨k14, rfl, H14, W14, o14, hs14, S14, st14⟩
  obtain ⟨rfl, rfl, rfl⟩ := fx11 hs14
  clear hs14
  have HS14 := Lib.hid S14
  have Ka14 := Lib.hid (Ka13.out.step st14)
  have Kb14 := Lib.hid (Kb13.out.step st14)
  have Kg14 := Lib.hid (Kg13.out.step st14)
  have Kd14 := Lib.hid (Kd13.out.step st14)
  clear HS13 S14 Ka13 Kb13 Kg13 Kd13 st14
  go_wp2_with fail
  refine (lk_Ask HS14.out (by omega) (4) 0 (by omega) nA (by decide)).mono ?_; rintro r w15 ⟨k15, rfl, H15, W15, o15, hs15, S15, st15⟩
  obtain ⟨rfl, rfl, rfl⟩ := fx12 hs15
  clear hs15
  have HS15 := Lib.hid S15
  have Ka15 := Lib.hid (Ka14.out.step st15)
  have Kb15 := Lib.hid (Kb14.out.step st15)
  have Kg15 := Lib.hid (Kg14.out.step st15)
  have Kd15 := Lib.hid (Kd14.out.step st15)
  clear HS14 S15 Ka14 Kb14 Kg14 Kd14 st15

  have ca := Ka15.out.1.cell 0
  have cb := Ka15.out.1.cell 1
  simp only [List.getElem?_toArray, List.getElem?_cons_zero, List.getElem?_cons_succ] at ca cb
  go_wp2_with fail
  clear Ka15 ca cb
  have bN16 : Below w15.heap.size w15 (w15.alloc (.cells #[.int .i64 3] 3)) := (Below.refl _ _).alloc (Nat.le_refl _) _
  refine (ints9 _ v8 _ [3] (Kb15.out.is.reads bN16) (isI9_new w15 3 3) (by simp)).mono ?_; rintro r w16 ⟨rfl, bM16⟩
  have bR16 := bN16.trans (bM16.mono bN16.size)
  clear Kb15
  have HS16 := Lib.hid (HS15.out.reads bR16)
  have Kg16 := Lib.hid (Kg15.out.reads bR16)
  have Kd16 := Lib.hid (Kd15.out.reads bR16)
  clear HS15 Kg15 Kd15
  clear bN16 bM16 bR16
  go_wp2_with fail
  have bN17 : Below w16.heap.size w16 (w16.alloc (.cells #[.int .i64 1] 3)) := (Below.refl _ _).alloc (Nat.le_refl _) _
  refine (ints9 _ v10 _ [1] (Kg16.out.is.reads bN17) (isI9_new w16 1 3) (by simp)).mono ?_; rintro r w17 ⟨rfl, bM17⟩
  have bR17 := bN17.trans (bM17.mono bN17.size)
  clear Kg16
  have HS17 := Lib.hid (HS16.out.reads bR17)
  have Kd17 := Lib.hid (Kd16.out.reads bR17)
  clear HS16 Kd16
  clear bN17 bM17 bR17
  go_wp2_with fail
  have bN18 : Below w17.heap.size w17 (w17.alloc (.cells #[.int .i64 2] 3)) := (Below.refl _ _).alloc (Nat.le_refl _) _
  refine (ints9 _ v12 _ [2] (Kd17.out.is.reads bN18) (isI9_new w17 2 3) (by simp)).mono ?_; rintro r w18 ⟨rfl, bM18⟩
  have bR18 := bN18.trans (bM18.mono bN18.size)
  clear Kd17
  have HS18 := Lib.hid (HS17.out.reads bR18)
  clear HS17 
  clear bN18 bM18 bR18
  go_wp2_with fail
  have CM := lk_Mode HS18.out 2 nA
  rw [fxM] at CM
  refine CM.mono ?_; rintro r _ ⟨rfl, rfl⟩
  clear CM
  go_wp2_with fail
  have CH := lk_Holders HS18.out (by omega) nA
  rw [show holdersI S10 nA = [2] from fxH] at CH
  refine CH.mono ?_; rintro r wh ⟨vh, rfl, oh, Sh, _, kh⟩
  have HSh := Lib.hid Sh; have Kh := Lib.hid kh
  clear CH HS18 Sh kh
  go_wp2_with fail
  have bN : Below wh.heap.size wh (wh.alloc (.cells #[.int .i64 2] 3)) := (Below.refl _ _).alloc (Nat.le_refl _) _
  refine (ints9 _ vh _ [2] (Kh.out.is.reads bN) (isI9_new wh 2 3) (by simp)).mono ?_; rintro r wi ⟨rfl, bM⟩
  have HSi := Lib.hid (HSh.out.reads (bN.trans (bM.mono bN.size)))
  clear HSh Kh bN bM
  go_wp2_with fail
  have CQ := lk_Queue HSi.out (by omega) nA
  rw [show queueI [] nA = [] from rfl] at CQ
  refine CQ.mono ?_; rintro r wq ⟨vq, rfl, oq, Sq, _, kq⟩
  obtain ⟨qa, qc, rfl⟩ := kq.sl
  have HSq := Lib.hid Sq
  clear CQ HSi Sq kq
  simp only [List.length_nil]
  go_wp2_with fail
  refine (lk_Held HSq.out (by omega) 1).mono ?_; rintro r wa ⟨va, rfl, oa, Sa, _, za, _, ra⟩
  obtain ⟨aa, ac, rfl⟩ := hrow_sl ra
  rw [heldN_len, fxF1] at ra ⊢
  have HSa := Lib.hid Sa
  clear HSq Sa ra
  go_wp2_with fail
  refine (lk_Held HSa.out (by omega) 2).mono ?_; rintro r wb ⟨vb, rfl, ob, Sb, _, zb, _, rb⟩
  obtain ⟨ba, bc, rfl⟩ := hrow_sl rb
  rw [heldN_len, fxF2] at rb ⊢
  have HSb := Lib.hid Sb.Z.bel
  clear HSa Sb rb
  go_wp2_with fail
  go_ret
  exact ⟨rfl, HSb.out⟩
end
end Go.Proofs.YtainnhcmhgloaaaGreatDoor
