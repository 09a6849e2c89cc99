/-
  Calls whose answers the document fixes (law05's fixed).
-/
import Derived.Test.YthnpkhejfcclcaaDoorD05l
namespace Go.Proofs.YthnpkhejfcclcaaDoor
open Go.RowKit

def sD : ByteArray := ⟨#[3, 5, 0, 0, 0, 0, 0, 2, 97, 98]⟩
def dP : RecP := ⟨3, 5, ⟨#[97, 98]⟩, ⟨#[]⟩, 0, 0, 0, []⟩
def oP : RecP := ⟨3, 5, ⟨#[97, 98]⟩, ⟨#[120]⟩, 0, 0, 0, []⟩
def cP : RecP := ⟨7, 0, ⟨#[]⟩, ⟨#[]⟩, 1, 2, 3, [(⟨#[97]⟩, ⟨#[]⟩), (⟨#[98]⟩, ⟨#[120]⟩)]⟩
theorem dP_right : RightP dP := by
  refine ⟨by decide, by decide, ?_, ?_, ?_, ?_⟩
  · show (1 : Int) ≤ 5 ∧ (5 : Int) ≤ top ∧ _; decide
  · show keyB _ = true; decide
  · rfl
  · rfl
theorem cP_right : RightP cP := by
  refine ⟨by decide, by decide, ?_, ?_, ?_, ?_⟩
  · show (0 : Int) = 0 ∧ (0 : Int) ≤ 1 ∧ (1 : Int) ≤ 4 ∧ (0 : Int) ≤ 2 ∧ (2 : Int) ≤ top ∧ (0 : Int) ≤ 3 ∧ (3 : Int) ≤ top; decide
  · rfl
  · rfl
  · show rowB _ = true; decide
theorem oP_wrong : ¬ RightP oP := by
  rintro ⟨_, _, _, _, h, _⟩
  have h' : (⟨#[120]⟩ : ByteArray) = ⟨#[]⟩ := h
  exact absurd (congrArg ByteArray.size h') (by decide)
theorem enc_dP : encOut dP = sD := by unfold encOut; rw [if_pos ((rightB_iff _).2 dP_right)]; apply ba_ext; decide
theorem encB_dP : encB dP = sD := by apply ba_ext; decide
theorem enc_cP : encOut cP = encB cP := by unfold encOut; rw [if_pos ((rightB_iff _).2 cP_right)]
theorem enc_oP : encOut oP = ⟨#[]⟩ := by unfold encOut; rw [if_neg (by rw [rightB_no oP_wrong]; decide)]
theorem no_rec (s : ByteArray) (h : ∀ q, parseL s.data.toList ≠ some (q, [])) : ∀ q, RightP q → encB q ≠ s := fun q hq he => by
  have := parseL_put q [] hq
  rw [List.append_nil, show encL q = s.data.toList by rw [← he]; rfl] at this
  exact h q this
theorem no_dx : ∀ q, RightP q → encB q ≠ sD ++ ⟨#[120]⟩ := no_rec _ (fun q h => by
  have h1 := parseL_put dP [120] dP_right
  have e : (sD ++ ⟨#[120]⟩ : ByteArray).data.toList = encL dP ++ [120] := by rw [ByteArray.data_append]; decide
  rw [e, h1] at h
  simp at h)
theorem no_8 : ∀ q, RightP q → encB q ≠ ⟨#[8]⟩ := no_rec _ (fun q h => by
  have e : parseL (⟨#[8]⟩ : ByteArray).data.toList = none := by decide +kernel
  rw [e] at h; cases h)
theorem no_0 : ∀ q, RightP q → encB q ≠ ⟨#[]⟩ := no_rec _ (fun q h => by
  have e : parseL (⟨#[]⟩ : ByteArray).data.toList = none := rfl
  rw [e] at h; cases h)
theorem sD_eq : (sD.toList == (⟨#[3, 5, 0, 0, 0, 0, 0, 2, 97, 98]⟩ : ByteArray).toList) = true := by show (sD.toList == sD.toList) = true; simp
theorem same_dd : sameB dP dP = true := (sameB_iff _ _).2 rfl
theorem same_cc : sameB cP cP = true := (sameB_iff _ _).2 rfl
theorem same_cd : sameB cP dP = false := by
  cases h : sameB cP dP with
  | false => rfl
  | true => have := (sameB_iff _ _).1 h; exact absurd (congrArg RecP.kind this) (by decide)
/-- a record in a box of its own, its pairs beside it -/
structure RecAt (w : World) (B : Nat) (r : RecP) (a : Option Addr) (C : Nat) : Prop where
  box : Box8 QT w B r.kind r.txn r.key r.value r.pass r.unit r.num (.slice a r.pairs.length C)
  prs : PairsAt w a r.pairs
theorem RecAt.below {w w' : World} {B : Nat} {r : RecP} {a : Option Addr} {C : Nat} (h : RecAt w B r a C) (b : Below w.heap.size w w') : RecAt w' B r a C := ⟨h.box.below b h.box.lt, h.prs.below b⟩
theorem recAt_new (w : World) (r : RecP) (a : Option Addr) (C : Nat) (h : PairsAt w a r.pairs) : RecAt (boxW w r.kind r.txn r.key r.value r.pass r.unit r.num (.slice a r.pairs.length C)) w.heap.size r a C :=
  ⟨box8_new QT w _ _ _ _ _ _ _ _, h.below (boxW_bel _ _ _ _ _ _ _ _ _)⟩
/-- fixed at work -/
structure InX (w0 w : World) (B1 B2 : Nat) (p : Option Addr) (C : Nat) : Prop where
  d : RecAt w B1 dP none 0
  c : RecAt w B2 cP p C
  L : Laid5 w
  bel : Below w0.heap.size w0 w
theorem InX.below {w0 w w' : World} {B1 B2 : Nat} {p : Option Addr} {C : Nat} (h : InX w0 w B1 B2 p C) (b : Below w.heap.size w w') : InX w0 w' B1 B2 p C :=
  ⟨h.d.below b, h.c.below b, h.L.step b, h.bel.trans (b.mono h.bel.size)⟩
theorem mk_zeros5 (w : World) (n : Nat) (z : Int) (hz : z = n) (h : n ≤ 1000) : (Instr.makeSlice 43 (.int .i64 z) (.int .i64 z)).run Tryd.prog w = .ok (.slice (some ⟨w.heap.size, 0, none⟩) n n) (w.alloc (.cells (brow (List.replicate n 0)) 5)) := by
  obtain ⟨ib, hi, hz0, hz1, hz2⟩ := Tryd.info_byte
  rw [hz]
  exact run_make_bytes (P := Tryd.prog) w 43 5 ib Tryd.underlying43 hi hz0 hz1 hz2 n (by omega)
theorem st_zeros5 (w : World) (n : Nat) : (convert 43 9 (.slice (some ⟨w.heap.size, 0, none⟩) n n)).run Tryd.prog (w.alloc (.cells (brow (List.replicate n 0)) 5)) = .ok (.string (baL (List.replicate n 0))) (w.alloc (.cells (brow (List.replicate n 0)) 5)) :=
  run_string_bytes (P := Tryd.prog) w 43 9 5 n n (List.replicate n 0) (by simp) Tryd.underlying43 Tryd.underlying5 Tryd.underlying9
theorem smallP_nil : SmallP [] := fun p hp => by simp at hp
theorem cP_small : SmallP cP.pairs := by
  intro p hp
  rcases List.mem_cons.1 hp with rfl | hp
  · decide
  · rcases List.mem_cons.1 hp with rfl | hp
    · decide
    · simp at hp
set_option maxRecDepth 100000 in
set_option maxHeartbeats 8000000 in
theorem fixed_any (w : World) (hL : Laid5 w) : Calls Tryd.prog 22 #[] w fun e w' => e = .returned (.bool true) ∧ Below w.heap.size w w' := by
  have HL := Lib.hid hL
  clear hL
  go_enter Tryd.func22, Tryd.ntmps22
  go_upto_region 3 with fail
  have b1 : Below w.heap.size w (w.alloc (.cells #[.int .i64 3, .int .i64 5, .string ⟨#[97, 98]⟩, .string ⟨#[]⟩, .int .i64 0, .int .i64 0, .int .i64 0, .slice none 0 0] QT)) := boxW_bel w 3 5 ⟨#[97, 98]⟩ ⟨#[]⟩ 0 0 0 (.slice none 0 0)
  have d1 : RecAt (w.alloc (.cells #[.int .i64 3, .int .i64 5, .string ⟨#[97, 98]⟩, .string ⟨#[]⟩, .int .i64 0, .int .i64 0, .int .i64 0, .slice none 0 0] QT)) w.heap.size dP none 0 := recAt_new w dP none 0 (pairsAt_nil _ _)
  have s1 : (w.alloc (.cells #[.int .i64 3, .int .i64 5, .string ⟨#[97, 98]⟩, .string ⟨#[]⟩, .int .i64 0, .int .i64 0, .int .i64 0, .slice none 0 0] QT)).heap.size = w.heap.size + 1 := by simp
  generalize w.alloc (.cells #[.int .i64 3, .int .i64 5, .string ⟨#[97, 98]⟩, .string ⟨#[]⟩, .int .i64 0, .int .i64 0, .int .i64 0, .slice none 0 0] QT) = w1 at *
  have b2 := (Below.refl w1.heap.size w1).alloc (Nat.le_refl _) (.cells #[.string ⟨#[97]⟩, .string ⟨#[]⟩, .string ⟨#[98]⟩, .string ⟨#[120]⟩] 47)
  have p2 : PairsAt (w1.alloc (.cells #[.string ⟨#[97]⟩, .string ⟨#[]⟩, .string ⟨#[98]⟩, .string ⟨#[120]⟩] 47)) (some ⟨w1.heap.size, 0, none⟩) cP.pairs := by
    intro i p hp
    refine ⟨w1.heap.size, 0, rfl, ?_⟩
    match i with
    | 0 => cases hp; exact ⟨by rw [World.cell?_alloc_at _ _ _ _ rfl]; rfl, by rw [World.cell?_alloc_at _ _ _ _ rfl]; rfl⟩
    | 1 => cases hp; exact ⟨by rw [World.cell?_alloc_at _ _ _ _ rfl]; rfl, by rw [World.cell?_alloc_at _ _ _ _ rfl]; rfl⟩
    | i + 2 => simp [cP] at hp
  have s2 : (w1.alloc (.cells #[.string ⟨#[97]⟩, .string ⟨#[]⟩, .string ⟨#[98]⟩, .string ⟨#[120]⟩] 47)).heap.size = w1.heap.size + 1 := by simp
  generalize w1.alloc (.cells #[.string ⟨#[97]⟩, .string ⟨#[]⟩, .string ⟨#[98]⟩, .string ⟨#[120]⟩] 47) = w2 at *
  rw [s1] at p2 s2
  have c3 : RecAt (w2.alloc (.cells #[.int .i64 7, .int .i64 0, .string ⟨#[]⟩, .string ⟨#[]⟩, .int .i64 1, .int .i64 2, .int .i64 3, .slice (some ⟨w.heap.size + 1, 0, none⟩) 2 2] QT)) w2.heap.size cP (some ⟨w.heap.size + 1, 0, none⟩) 2 := recAt_new w2 cP _ 2 p2
  have b3 : Below w2.heap.size w2 (w2.alloc (.cells #[.int .i64 7, .int .i64 0, .string ⟨#[]⟩, .string ⟨#[]⟩, .int .i64 1, .int .i64 2, .int .i64 3, .slice (some ⟨w.heap.size + 1, 0, none⟩) 2 2] QT)) := boxW_bel w2 7 0 ⟨#[]⟩ ⟨#[]⟩ 1 2 3 _
  rw [s2] at c3
  have B2 := b1.trans (b2.mono (by omega))
  have B3 := B2.trans (b3.mono (by omega))
  have I0 := Lib.hid (show InX w (w2.alloc (.cells #[.int .i64 7, .int .i64 0, .string ⟨#[]⟩, .string ⟨#[]⟩, .int .i64 1, .int .i64 2, .int .i64 3, .slice (some ⟨w.heap.size + 1, 0, none⟩) 2 2] QT)) w.heap.size (w.heap.size + 1 + 1) (some ⟨w.heap.size + 1, 0, none⟩) 2 from ⟨(d1.below b2).below b3, c3, HL.out.step B3, B3⟩)
  generalize w2.alloc (.cells #[.int .i64 7, .int .i64 0, .string ⟨#[]⟩, .string ⟨#[]⟩, .int .i64 1, .int .i64 2, .int .i64 3, .slice (some ⟨w.heap.size + 1, 0, none⟩) 2 2] QT) = w3 at *
  clear b1 d1 s1 b2 p2 s2 c3 b3 B2 B3 HL
  obtain ⟨B0, HB0⟩ : ∃ B0, Hid (w.heap.size = B0) := ⟨_, rfl⟩
  rw [HB0.out] at I0 ⊢
  generalize B0 + 1 + 1 = B2 at *
  generalize B0 + 1 = B1 at *
  have c0 := I0.out.d.box.c0; have c1 := I0.out.d.box.c1; have c2 := I0.out.d.box.c2; have c3 := I0.out.d.box.c3; have c4 := I0.out.d.box.c4; have c5 := I0.out.d.box.c5; have c6 := I0.out.d.box.c6; have c7 := I0.out.d.box.c7
  dsimp only [dP, cP, oP, List.length_nil, List.length_cons, Nat.zero_add, Nat.reduceAdd] at c0 c1 c2 c3 c4 c5 c6 c7
  have CE := encode_any w3 dP none 0 I0.out.L (pairsAt_nil _ _) smallP_nil (by decide) (by decide) (by decide)
  rw [enc_dP] at CE; have HC := Lib.hid CE; clear CE
  go_wp2_with fail
  clear c0 c1 c2 c3 c4 c5 c6 c7
  refine HC.out.mono ?_; rintro e w4 ⟨rfl, b4⟩
  have I1 := Lib.hid (I0.out.below b4); clear b4 I0 HC
  have CD := Lib.hid (decode_any w4 sD I1.out.L (by decide) dP 0 (.inl ⟨dP, dP_right, encB_dP, rfl, rfl⟩))
  go_wp2_with fail
  refine CD.out.mono ?_; rintro e w5 ⟨a1, C1, rfl, p5, b5, _⟩
  have I2 := I1.out.below b5
  have bb : Below w5.heap.size w5 (w5.alloc (.cells #[.int .i64 3, .int .i64 5, .string ⟨#[97, 98]⟩, .string ⟨#[]⟩, .int .i64 0, .int .i64 0, .int .i64 0, .slice a1 0 C1] QT)) := boxW_bel _ _ _ _ _ _ _ _ _
  have Xx : RecAt (w5.alloc (.cells #[.int .i64 3, .int .i64 5, .string ⟨#[97, 98]⟩, .string ⟨#[]⟩, .int .i64 0, .int .i64 0, .int .i64 0, .slice a1 0 C1] QT)) w5.heap.size dP a1 C1 := recAt_new w5 dP a1 C1 p5
  have HXx := Lib.hid Xx; clear Xx
  have I3 := Lib.hid (I2.below bb); clear I2 I1 CD b5 p5 bb
  dsimp only [recV, dP, List.length_nil]
  go_upto_region 5 with fail
  generalize w5.alloc (.cells #[.int .i64 3, .int .i64 5, .string ⟨#[97, 98]⟩, .string ⟨#[]⟩, .int .i64 0, .int .i64 0, .int .i64 0, .slice a1 0 C1] QT) = u5 at *
  generalize w5.heap.size = Bx at *
  have c0 := I3.out.c.box.c0; have c1 := I3.out.c.box.c1; have c2 := I3.out.c.box.c2; have c3 := I3.out.c.box.c3; have c4 := I3.out.c.box.c4; have c5 := I3.out.c.box.c5; have c6 := I3.out.c.box.c6; have c7 := I3.out.c.box.c7
  dsimp only [dP, cP, oP, List.length_nil, List.length_cons, Nat.zero_add, Nat.reduceAdd] at c0 c1 c2 c3 c4 c5 c6 c7
  have CE := encode_any u5 cP (some ⟨B1, 0, none⟩) 2 I3.out.L I3.out.c.prs cP_small (by decide) (by decide) (by decide)
  rw [enc_cP] at CE; have HC := Lib.hid CE; clear CE
  go_wp2_with fail
  clear c0 c1 c2 c3 c4 c5 c6 c7
  refine HC.out.mono ?_; rintro e w6 ⟨rfl, b6⟩
  have I4 := Lib.hid (I3.out.below b6); have HX4 := Lib.hid (HXx.out.below b6); clear b6 I3 HC HXx
  have CD := Lib.hid (decode_any w6 (encB cP) I4.out.L (by decide) cP 0 (.inl ⟨cP, cP_right, rfl, rfl, rfl⟩))
  go_wp2_with fail
  refine CD.out.mono ?_; rintro e w7 ⟨a2, C2, rfl, p7, b7, _⟩
  have I5 := I4.out.below b7; have X5 := HX4.out.below b7
  have bb : Below w7.heap.size w7 (w7.alloc (.cells #[.int .i64 7, .int .i64 0, .string ⟨#[]⟩, .string ⟨#[]⟩, .int .i64 1, .int .i64 2, .int .i64 3, .slice a2 2 C2] QT)) := boxW_bel _ _ _ _ _ _ _ _ _
  have Xy : RecAt (w7.alloc (.cells #[.int .i64 7, .int .i64 0, .string ⟨#[]⟩, .string ⟨#[]⟩, .int .i64 1, .int .i64 2, .int .i64 3, .slice a2 2 C2] QT)) w7.heap.size cP a2 C2 := recAt_new w7 cP a2 C2 p7
  have HXy := Lib.hid Xy; clear Xy
  have I6 := Lib.hid (I5.below bb); have HX6 := Lib.hid (X5.below bb); clear I5 X5 I4 HX4 CD b7 p7 bb
  dsimp only [recV, cP, List.length_nil, List.length_cons, Nat.zero_add, Nat.reduceAdd]
  go_upto_region 6 with fail
  generalize w7.alloc (.cells #[.int .i64 7, .int .i64 0, .string ⟨#[]⟩, .string ⟨#[]⟩, .int .i64 1, .int .i64 2, .int .i64 3, .slice a2 2 C2] QT) = u7 at *
  generalize w7.heap.size = By at *
  have CD := Lib.hid (decode_any u7 (sD ++ ⟨#[120]⟩) I6.out.L (by decide) zeroR 4 (.inr ⟨no_dx, rfl, rfl⟩))
  have hsz : sD.size = 10 := by decide
  go_wp2_with fail
  refine CD.out.mono ?_; rintro e w8 ⟨a3, C3, rfl, p8, b8, _⟩
  have bb := boxW_bel w8 0 0 ⟨#[]⟩ ⟨#[]⟩ 0 0 0 (.slice a3 0 C3)
  have bc := b8.trans (bb.mono b8.size)
  have J := Lib.hid (I6.out.below bc); have JX := Lib.hid (HX6.out.below bc); have JY := Lib.hid (HXy.out.below bc)
  clear I6 HX6 HXy bb bc p8 b8 CD
  dsimp only [recV, zeroR, List.length_nil]
  go_upto_region 7 with fail
  unfold boxW at J JX JY
  generalize w8.alloc (.cells #[.int .i64 0, .int .i64 0, .string ⟨#[]⟩, .string ⟨#[]⟩, .int .i64 0, .int .i64 0, .int .i64 0, .slice a3 0 C3] QT) = u8 at *
  have I8 := J; have K8 := JX; have L8 := JY; clear J JX JY
  have CD := Lib.hid (decode_any u8 ⟨#[8]⟩ I8.out.L (by decide) zeroR 4 (.inr ⟨no_8, rfl, rfl⟩))
  go_wp2_with fail
  refine CD.out.mono ?_; rintro e w9 ⟨a3, C3, rfl, p9, b9, _⟩
  have bb := boxW_bel w9 0 0 ⟨#[]⟩ ⟨#[]⟩ 0 0 0 (.slice a3 0 C3)
  have bc := b9.trans (bb.mono b9.size)
  have J := Lib.hid (I8.out.below bc); have JX := Lib.hid (K8.out.below bc); have JY := Lib.hid (L8.out.below bc)
  clear I8 K8 L8 bb bc p9 b9 CD
  dsimp only [recV, zeroR, List.length_nil]
  go_upto_region 8 with fail
  unfold boxW at J JX JY
  generalize w9.alloc (.cells #[.int .i64 0, .int .i64 0, .string ⟨#[]⟩, .string ⟨#[]⟩, .int .i64 0, .int .i64 0, .int .i64 0, .slice a3 0 C3] QT) = u9 at *
  have I9 := J; have K9 := JX; have L9 := JY; clear J JX JY
  have CD := Lib.hid (decode_any u9 ⟨#[]⟩ I9.out.L (by decide) zeroR 4 (.inr ⟨no_0, rfl, rfl⟩))
  go_wp2_with fail
  refine CD.out.mono ?_; rintro e w10 ⟨a3, C3, rfl, p10, b10, _⟩
  have bb := boxW_bel w10 0 0 ⟨#[]⟩ ⟨#[]⟩ 0 0 0 (.slice a3 0 C3)
  have bc := b10.trans (bb.mono b10.size)
  have J := Lib.hid (I9.out.below bc); have JX := Lib.hid (K9.out.below bc); have JY := Lib.hid (L9.out.below bc)
  clear I9 K9 L9 bb bc p10 b10 CD
  dsimp only [recV, zeroR, List.length_nil]
  go_upto_region 9 with fail
  unfold boxW at J JX JY
  generalize w10.alloc (.cells #[.int .i64 0, .int .i64 0, .string ⟨#[]⟩, .string ⟨#[]⟩, .int .i64 0, .int .i64 0, .int .i64 0, .slice a3 0 C3] QT) = u10 at *
  have I10 := J; have K10 := JX; have L10 := JY; clear J JX JY
  have c0 := I10.out.d.box.c0; have c1 := I10.out.d.box.c1; have c2 := I10.out.d.box.c2; have c3 := I10.out.d.box.c3; have c4 := I10.out.d.box.c4; have c5 := I10.out.d.box.c5; have c6 := I10.out.d.box.c6; have c7 := I10.out.d.box.c7
  dsimp only [dP, cP, oP, List.length_nil, List.length_cons, Nat.zero_add, Nat.reduceAdd] at c0 c1 c2 c3 c4 c5 c6 c7
  have bb := boxW_bel u10 3 5 ⟨#[97, 98]⟩ ⟨#[]⟩ 0 0 0 (.slice none 0 0)
  have Z := box8_new QT u10 3 5 ⟨#[97, 98]⟩ ⟨#[]⟩ 0 0 0 (.slice none 0 0)
  have bs := bb.setCell (p := ⟨u10.heap.size, 3, none⟩) (Nat.le_refl _) (.string ⟨#[120]⟩)
  have ne1 : ¬ B0 = u10.heap.size := by have := I10.out.d.box.lt; omega
  have ne2 : ¬ Bx = u10.heap.size := by have := K10.out.box.lt; omega
  have V := Lib.hid (I10.out.below bb); have VX := Lib.hid (K10.out.below bb)
  have J := Lib.hid (I10.out.below bs); have JX := Lib.hid (K10.out.below bs); have JY := Lib.hid (L10.out.below bs)
  have JZ := Lib.hid (show RecAt _ _ oP none 0 from ⟨Z.set3 ⟨#[120]⟩, pairsAt_nil _ _⟩)
  have z3 := Z.c3; have zf := Z.fz 3
  clear I10 K10 L10 bb Z bs
  go_upto_region 10 with fail
  clear c0 c1 c2 c3 c4 c5 c6 c7
  unfold boxW at V VX J JX JY JZ z3 zf
  generalize u10.alloc (.cells #[.int .i64 3, .int .i64 5, .string ⟨#[97, 98]⟩, .string ⟨#[]⟩, .int .i64 0, .int .i64 0, .int .i64 0, .slice none 0 0] QT) = v0 at *
  generalize u10.heap.size = Bo at *
  have c0 := V.out.d.box.c0; have c1 := V.out.d.box.c1; have c2 := V.out.d.box.c2; have c3 := V.out.d.box.c3; have c4 := V.out.d.box.c4; have c5 := V.out.d.box.c5; have c6 := V.out.d.box.c6; have c7 := V.out.d.box.c7
  dsimp only [dP, cP, oP, List.length_nil, List.length_cons, Nat.zero_add, Nat.reduceAdd] at c0 c1 c2 c3 c4 c5 c6 c7
  have k0 := VX.out.box.c0; have k1 := VX.out.box.c1; have k2 := VX.out.box.c2; have k3 := VX.out.box.c3; have k4 := VX.out.box.c4; have k5 := VX.out.box.c5; have k6 := VX.out.box.c6; have k7 := VX.out.box.c7
  dsimp only [dP, cP, oP, List.length_nil, List.length_cons, Nat.zero_add, Nat.reduceAdd] at k0 k1 k2 k3 k4 k5 k6 k7
  have CS := same_any _ dP dP a1 none C1 0 JX.out.prs (pairsAt_nil _ _) (by decide) (by decide)
  rw [same_dd] at CS; have HC := Lib.hid CS; clear CS V VX
  dsimp only [sD]
  go_wp2_with fail
  clear c0 c1 c2 c3 c4 c5 c6 c7 k0 k1 k2 k3 k4 k5 k6 k7 ne1 ne2 z3 zf
  refine HC.out.mono ?_; rintro e w11 ⟨rfl, b11⟩
  clear HC
  have J11 := Lib.hid (J.out.below b11); have Y11 := Lib.hid (JY.out.below b11); have Z11 := Lib.hid (JZ.out.below b11)
  clear J JY JZ b11
  have c0 := Y11.out.box.c0; have c1 := Y11.out.box.c1; have c2 := Y11.out.box.c2; have c3 := Y11.out.box.c3; have c4 := Y11.out.box.c4; have c5 := Y11.out.box.c5; have c6 := Y11.out.box.c6; have c7 := Y11.out.box.c7
  dsimp only [dP, cP, oP, List.length_nil, List.length_cons, Nat.zero_add, Nat.reduceAdd] at c0 c1 c2 c3 c4 c5 c6 c7
  have k0 := J11.out.c.box.c0; have k1 := J11.out.c.box.c1; have k2 := J11.out.c.box.c2; have k3 := J11.out.c.box.c3; have k4 := J11.out.c.box.c4; have k5 := J11.out.c.box.c5; have k6 := J11.out.c.box.c6; have k7 := J11.out.c.box.c7
  dsimp only [dP, cP, oP, List.length_nil, List.length_cons, Nat.zero_add, Nat.reduceAdd] at k0 k1 k2 k3 k4 k5 k6 k7
  have CS := same_any w11 cP cP a2 (some ⟨B1, 0, none⟩) C2 2 Y11.out.prs J11.out.c.prs (by decide) (by decide)
  rw [same_cc] at CS; have HC := Lib.hid CS; clear CS
  go_wp2_with fail
  clear c0 c1 c2 c3 c4 c5 c6 c7 k0 k1 k2 k3 k4 k5 k6 k7
  refine HC.out.mono ?_; rintro e w12 ⟨rfl, b12⟩
  clear HC
  have J12 := Lib.hid (J11.out.below b12); have Y12 := Lib.hid (Y11.out.below b12); have Z12 := Lib.hid (Z11.out.below b12)
  clear J11 Y11 Z11 b12
  have c0 := J12.out.d.box.c0; have c1 := J12.out.d.box.c1; have c2 := J12.out.d.box.c2; have c3 := J12.out.d.box.c3; have c4 := J12.out.d.box.c4; have c5 := J12.out.d.box.c5; have c6 := J12.out.d.box.c6; have c7 := J12.out.d.box.c7
  dsimp only [dP, cP, oP, List.length_nil, List.length_cons, Nat.zero_add, Nat.reduceAdd] at c0 c1 c2 c3 c4 c5 c6 c7
  have CS := right_any w12 dP none 0 J12.out.L (pairsAt_nil _ _) smallP_nil (by decide) (by decide) (by decide)
  rw [(rightB_iff _).2 dP_right] at CS; have HC := Lib.hid CS; clear CS
  go_wp2_with fail
  clear c0 c1 c2 c3 c4 c5 c6 c7
  refine HC.out.mono ?_; rintro e w13 ⟨rfl, b13⟩
  clear HC
  have J13 := Lib.hid (J12.out.below b13); have Y13 := Lib.hid (Y12.out.below b13); have Z13 := Lib.hid (Z12.out.below b13)
  clear J12 Y12 Z12 b13
  have c0 := Z13.out.box.c0; have c1 := Z13.out.box.c1; have c2 := Z13.out.box.c2; have c3 := Z13.out.box.c3; have c4 := Z13.out.box.c4; have c5 := Z13.out.box.c5; have c6 := Z13.out.box.c6; have c7 := Z13.out.box.c7
  dsimp only [dP, cP, oP, List.length_nil, List.length_cons, Nat.zero_add, Nat.reduceAdd] at c0 c1 c2 c3 c4 c5 c6 c7
  have CS := right_any w13 oP none 0 J13.out.L (pairsAt_nil _ _) smallP_nil (by decide) (by decide) (by decide)
  rw [rightB_no oP_wrong] at CS; have HC := Lib.hid CS; clear CS
  go_wp2_with fail
  clear c0 c1 c2 c3 c4 c5 c6 c7
  refine HC.out.mono ?_; rintro e w14 ⟨rfl, b14⟩
  clear HC
  have J14 := Lib.hid (J13.out.below b14); have Y14 := Lib.hid (Y13.out.below b14); have Z14 := Lib.hid (Z13.out.below b14)
  clear J13 Y13 Z13 b14
  have CK := fun W => key_any ⟨#[97]⟩ W (by decide)
  rw [show keyB ⟨#[97]⟩ = true by decide] at CK; have HC := Lib.hid CK; clear CK
  go_wp2_with fail
  refine (HC.out _).mono ?_; rintro e wx ⟨rfl, rfl⟩
  clear HC
  have CK := fun W => key_any ⟨#[]⟩ W (by decide)
  rw [show keyB ⟨#[]⟩ = false by decide] at CK; have HC := Lib.hid CK; clear CK
  go_wp2_with fail
  refine (HC.out _).mono ?_; rintro e wx ⟨rfl, rfl⟩
  clear HC
  have CK := fun W => value_any ⟨#[]⟩ W (by decide)
  rw [show valB ⟨#[]⟩ = true by decide] at CK; have HC := Lib.hid CK; clear CK
  go_wp2_with fail
  refine (HC.out _).mono ?_; rintro e wx ⟨rfl, rfl⟩
  clear HC
  have hmk := mk_zeros5 w14 33 33 rfl (by decide)
  have hst := st_zeros5 w14 33
  have CK := fun W => value_any (baL (List.replicate 33 0)) W (by decide)
  rw [show valB (baL (List.replicate 33 0)) = false by decide] at CK; have HC := Lib.hid CK; clear CK
  have b15 := (Below.refl w14.heap.size w14).alloc (Nat.le_refl _) (.cells (brow (List.replicate 33 0)) 5)
  have J15 := Lib.hid (J14.out.below b15); have Y15 := Lib.hid (Y14.out.below b15); have Z15 := Lib.hid (Z14.out.below b15)
  clear J14 Y14 Z14 b15
  generalize baL (List.replicate 33 0) = Z33 at *
  generalize brow (List.replicate 33 0) = R33 at *
  go_wp2_with fail
  refine (HC.out _).mono ?_; rintro e wx ⟨rfl, rfl⟩
  clear HC hmk hst
  generalize w14.alloc (.cells R33 5) = w15 at *
  have c0 := J15.out.c.box.c0; have c1 := J15.out.c.box.c1; have c2 := J15.out.c.box.c2; have c3 := J15.out.c.box.c3; have c4 := J15.out.c.box.c4; have c5 := J15.out.c.box.c5; have c6 := J15.out.c.box.c6; have c7 := J15.out.c.box.c7
  dsimp only [dP, cP, oP, List.length_nil, List.length_cons, Nat.zero_add, Nat.reduceAdd] at c0 c1 c2 c3 c4 c5 c6 c7
  have k0 := J15.out.d.box.c0; have k1 := J15.out.d.box.c1; have k2 := J15.out.d.box.c2; have k3 := J15.out.d.box.c3; have k4 := J15.out.d.box.c4; have k5 := J15.out.d.box.c5; have k6 := J15.out.d.box.c6; have k7 := J15.out.d.box.c7
  dsimp only [dP, cP, oP, List.length_nil, List.length_cons, Nat.zero_add, Nat.reduceAdd] at k0 k1 k2 k3 k4 k5 k6 k7
  have CS := same_any w15 cP dP (some ⟨B1, 0, none⟩) none 2 0 J15.out.c.prs (pairsAt_nil _ _) (by decide) (by decide)
  rw [same_cd] at CS; have HC := Lib.hid CS; clear CS
  go_wp2_with fail
  clear c0 c1 c2 c3 c4 c5 c6 c7 k0 k1 k2 k3 k4 k5 k6 k7
  refine HC.out.mono ?_; rintro e w16 ⟨rfl, b16⟩
  clear HC
  have J16 := Lib.hid (J15.out.below b16); have Y16 := Lib.hid (Y15.out.below b16); have Z16 := Lib.hid (Z15.out.below b16)
  clear J15 Y15 Z15 b16
  have c0 := Z16.out.box.c0; have c1 := Z16.out.box.c1; have c2 := Z16.out.box.c2; have c3 := Z16.out.box.c3; have c4 := Z16.out.box.c4; have c5 := Z16.out.box.c5; have c6 := Z16.out.box.c6; have c7 := Z16.out.box.c7
  dsimp only [dP, cP, oP, List.length_nil, List.length_cons, Nat.zero_add, Nat.reduceAdd] at c0 c1 c2 c3 c4 c5 c6 c7
  have CS := encode_any w16 oP none 0 J16.out.L (pairsAt_nil _ _) smallP_nil (by decide) (by decide) (by decide)
  rw [enc_oP] at CS; have HC := Lib.hid CS; clear CS
  go_wp2_with fail
  clear c0 c1 c2 c3 c4 c5 c6 c7
  refine HC.out.mono ?_; rintro e w17 ⟨rfl, b17⟩
  clear HC
  have J17 := Lib.hid (J16.out.below b17); have Y17 := Lib.hid (Y16.out.below b17); have Z17 := Lib.hid (Z16.out.below b17)
  clear J16 Y16 Z16 b17
  have he1 : (⟨#[]⟩ : ByteArray).toList = [] := by rw [Lib.toList_data]
  go_wp2
  go_ret
  exact ⟨by first | rfl | (simp; done) | (simp [he1]; done), J17.out.bel⟩
end Go.Proofs.YthnpkhejfcclcaaDoor
