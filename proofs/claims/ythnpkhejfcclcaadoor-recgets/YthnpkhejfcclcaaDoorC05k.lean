/-
  The document's answer for layer 5 (budwoodref05): the contract of Decode.
-/
import Derived.Test.YthnpkhejfcclcaaDoorC05j
namespace Go.Proofs.YthnpkhejfcclcaaDoor
open Go.RowKit

def zeroR : RecP := ⟨0, 0, ⟨#[]⟩, ⟨#[]⟩, 0, 0, 0, []⟩
/-- a record and an error that are answered -/
def DecOut (w : World) (r : RecP) (er : Int) (e : Ending) (w' : World) : Prop := ∃ a C, e = .returned (.tuple #[recV r a C, .int .i64 er]) ∧ PairsAt w' a r.pairs ∧ Below w.heap.size w w' ∧ ∀ x, a = some x → w.heap.size ≤ x.block
theorem put8_pairs {w : World} {B : Nat} {a : Option Addr} {l : Prs} (h : PairsAt w a l) (hB : ∀ x, a = some x → B < x.block) (k t : Int) (ke va : ByteArray) (pa un nu : Int) (v : Value) : PairsAt (put8 w B k t ke va pa un nu v) a l := by
  intro i p hp
  obtain ⟨b, off, rfl, c0, c1⟩ := h i p hp
  have hne : b ≠ B := by have := hB _ rfl; dsimp only at this; omega
  exact ⟨b, off, rfl, (World.cell?_of_block (put8_far _ _ _ _ _ _ _ _ _ _ _ hne) (a := ⟨b, off + i * 2, none⟩)).trans c0, (World.cell?_of_block (put8_far _ _ _ _ _ _ _ _ _ _ _ hne) (a := ⟨b, off + i * 2 + 1, none⟩)).trans c1⟩
theorem guess_small (s : ByteArray) (hs : s.size ≤ 1000000) : (guessP s).key.size ≤ 1000000 ∧ (guessP s).value.size ≤ 1000000 ∧ SmallP (guessP s).pairs ∧ (guessP s).pairs.length ≤ 1000000 := by
  have tx : ∀ a, (txAt s a).1.size ≤ 1000000 := fun a => Nat.le_trans (txAt_size s a) hs
  have gp : ∀ n a, SmallP (guessPairs s n a) ∧ (guessPairs s n a).length ≤ n := by
    intro n
    induction n with
    | zero => intro a; exact ⟨fun p hp => by simp [guessPairs] at hp, Nat.le_refl _⟩
    | succ n ih =>
      intro a
      simp only [guessPairs]
      split
      · split
        · exact ⟨fun p hp => by simp at hp, by simp⟩
        · refine ⟨fun p hp => ?_, by have := (ih (txAt s (txAt s a).2.1).2.1).2; simp; omega⟩
          rcases List.mem_cons.1 hp with rfl | hp
          · exact ⟨tx _, tx _⟩
          · exact (ih _).1 p hp
      · exact ⟨fun p hp => by simp at hp, by simp⟩
  have e0 : (⟨#[]⟩ : ByteArray).size ≤ 1000000 := by decide
  unfold guessP
  split
  · refine ⟨e0, e0, ?_, ?_⟩
    · dsimp only; split
      · exact (gp _ _).1
      · exact fun p hp => by simp at hp
    · dsimp only; split
      · have h1 := (gp (numAt s 19 2).toNat 21).2
        have h2 := numAt2_lt s 19
        omega
      · simp
  · refine ⟨?_, ?_, fun p hp => by simp at hp, by simp⟩
    · dsimp only; split
      · exact tx _
      · exact e0
    · dsimp only; split
      · exact tx _
      · exact e0
theorem encL_ne (r : RecP) : encL r ≠ [] := by unfold encL; simp
theorem encB_ne (r : RecP) : 0 < (encB r).size := by
  rw [Lib.size_eq, encB_list]
  cases h : encL r with
  | nil => exact absurd h (encL_ne r)
  | cons x l => simp
set_option maxRecDepth 100000 in
set_option maxHeartbeats 2000000 in
theorem rdec_ok (s : ByteArray) (r : RecP) (w : World) (hs : s.size ≤ 1000000) (hr : RightP r) (he : encB r = s) : Calls Tryd.prog 24 #[.string s] w (DecOut w r 0) := by
  have hg : guessP s = r := by rw [← he]; exact guess_enc r hr
  have hsm := guess_small s hs
  rw [hg] at hsm
  have hne : 0 < s.size := by rw [← he]; exact encB_ne r
  have f1 := toList_ne s hne
  have f2 := toList_nonempty s hne
  have ho : encOut r = s := by unfold encOut; rw [if_pos ((rightB_iff r).2 hr)]; exact he
  have CG := fun W => rguess_any s W hs
  rw [hg] at CG
  have CE := fun (W : World) a C (hP : PairsAt W a r.pairs) => rencode_any W r a C hP hsm.2.2.1 hsm.2.2.2 hsm.1 hsm.2.1
  rw [ho] at CE
  have HCG := Lib.hid CG; have HCE := Lib.hid CE
  clear CG CE hg hsm hne ho he hr
  obtain ⟨k, t, ke, va, pa, un, nu, pr⟩ := r
  go_enter Tryd.func24, Tryd.ntmps24
  go_wp2_with fail
  refine (HCG.out _).mono ?_; rintro e w1 ⟨a, C, rfl, hP1, b1, hfr⟩
  dsimp only [recV] at hP1 HCE ⊢
  have X0 := (box8_new RT w 0 0 ⟨#[]⟩ ⟨#[]⟩ 0 0 0 (.slice none 0 0)).below b1 (by simp)
  have B1 := ((Below.refl w.heap.size w).alloc (Nat.le_refl _) (.cells #[.int .i64 0, .int .i64 0, .string ⟨#[]⟩, .string ⟨#[]⟩, .int .i64 0, .int .i64 0, .int .i64 0, .slice none 0 0] RT)).trans (b1.mono (by simp))
  have ba := (Below.refl w1.heap.size w1).alloc (Nat.le_refl _) (.cells #[.int .i64 k, .int .i64 t, .string ke, .string va, .int .i64 pa, .int .i64 un, .int .i64 nu, .slice a pr.length C] RT)
  have X1 := box8_new RT w1 k t ke va pa un nu (.slice a pr.length C)
  have X0a := X0.below ba X0.lt
  have Ba := B1.trans (ba.mono B1.size)
  have CEa := Lib.hid (HCE.out _ a C (hP1.below ba))
  have hPa := hP1.below ba
  have lt1 := X1.lt
  have HX1 := Lib.hid X1; have HX0 := Lib.hid X0a; have HBa := Lib.hid Ba; have HPa := Lib.hid hPa
  clear X0 X0a X1 B1 Ba ba hPa hP1 b1 HCE HCG
  go_wp2_with fail
  refine CEa.out.mono ?_; rintro e w2 ⟨rfl, b2⟩
  have X1 := HX1.out.below b2 lt1
  have X0 := HX0.out.below b2 HX0.out.lt
  have B2 := Lib.hid (HBa.out.trans (b2.mono HBa.out.size)); have P2 := Lib.hid (HPa.out.below b2)
  have D0 := Lib.hid (X0.put k t ke va pa un nu (.slice a pr.length C))
  have D1 := Lib.hid (put8_pairs P2.out (B := w.heap.size) (fun x hx => by have := hfr x hx; simp at this; omega) k t ke va pa un nu (.slice a pr.length C))
  have D2 := Lib.hid (put8_bel B2.out w.heap.size k t ke va pa un nu (.slice a pr.length C) (Nat.le_refl _))
  have HF := Lib.hid (show ∀ x, a = some x → w.heap.size ≤ x.block from fun x hx => by have := hfr x hx; simp at this; omega)
  have G0 := Lib.hid X0; have G1 := Lib.hid X1
  clear X0 X1 hfr b2 HX0 HX1 HBa HPa P2 B2 CEa lt1
  have f3 : s.toList.isEmpty = false := by simpa using f2
  go_upto_region 4 with fail
  clear f1 f2 f3
  obtain ⟨B0, HB0⟩ : ∃ B0, Hid (w.heap.size = B0) := ⟨_, rfl⟩
  rw [HB0.out] at D0 D1 D2 HF G0 ⊢
  generalize w1.heap.size = B1 at *
  have X0 := G0.out; have X1 := G1.out
  have c0 := X1.c0; have c1 := X1.c1; have c2 := X1.c2; have c3 := X1.c3; have c4 := X1.c4; have c5 := X1.c5; have c6 := X1.c6; have c7 := X1.c7
  have e0 := X0.c0; have e1 := X0.c1; have e2 := X0.c2; have e3 := X0.c3; have e4 := X0.c4; have e5 := X0.c5; have e6 := X0.c6; have e7 := X0.c7
  have z0 := X0.fz 0; have z1 := X0.fz 1; have z2 := X0.fz 2; have z3 := X0.fz 3; have z4 := X0.fz 4; have z5 := X0.fz 5; have z6 := X0.fz 6; have z7 := X0.fz 7
  clear X0 X1 G0 G1
  go_wp2_with fail
  refine bodyPost_ret (v := .tuple #[recV ⟨k, t, ke, va, pa, un, nu, pr⟩ a C, .int .i64 0]) ?_ rfl ⟨a, C, rfl, D1.out, by rw [HB0.out]; exact D2.out, by rw [HB0.out]; exact HF.out⟩
  obtain ⟨W, hW⟩ : ∃ W, put8 w2 B0 k t ke va pa un nu (.slice a pr.length C) = W := ⟨_, rfl⟩
  have D := D0.out
  rw [hW] at D
  unfold put8 at hW
  rw [hW]
  have f0 := D.c0; have f1 := D.c1; have f2 := D.c2; have f3 := D.c3; have f4 := D.c4; have f5 := D.c5; have f6 := D.c6; have f7 := D.c7
  clear hW D
  simp [results, Tryd.results24, go_sem, recV, f0, f1, f2, f3, f4, f5, f6, f7]
set_option maxRecDepth 100000 in
set_option maxHeartbeats 2000000 in
theorem rdec_no (s : ByteArray) (w : World) (hs : s.size ≤ 1000000) (hn : ∀ r, RightP r → encB r ≠ s) : Calls Tryd.prog 24 #[.string s] w (DecOut w zeroR 4) := by
  have hsm := guess_small s hs
  have ho : s.size = 0 ∨ encOut (guessP s) ≠ s := by
    by_cases h0 : s.size = 0
    · exact .inl h0
    · refine .inr (fun h => ?_)
      unfold encOut at h
      split at h
      · rename_i hb; exact hn _ ((rightB_iff _).1 hb) h
      · rw [← h] at h0; exact h0 rfl
  have CG := fun W => rguess_any s W hs
  generalize guessP s = r at *
  have CE := fun (W : World) a C (hP : PairsAt W a r.pairs) => rencode_any W r a C hP hsm.2.2.1 hsm.2.2.2 hsm.1 hsm.2.1
  have HCG := Lib.hid CG; have HCE := Lib.hid CE
  clear CG CE hsm hn
  obtain ⟨O, HO⟩ : ∃ O, Hid (encOut r = O) := ⟨_, rfl⟩
  rw [HO.out] at ho HCE
  clear HO
  obtain ⟨k, t, ke, va, pa, un, nu, pr⟩ := r
  by_cases h0 : s.size = 0
  · have := ba_empty5 s h0
    subst this
    clear ho h0 hs HCE
    go_enter Tryd.func24, Tryd.ntmps24
    go_wp2_with fail
    refine (HCG.out _).mono ?_; rintro e w1 ⟨a, C, rfl, hP1, b1, hfr⟩
    dsimp only [recV] at hP1 ⊢
    have X0 := (box8_new RT w 0 0 ⟨#[]⟩ ⟨#[]⟩ 0 0 0 (.slice none 0 0)).below b1 (by simp)
    have B1 := ((Below.refl w.heap.size w).alloc (Nat.le_refl _) (.cells #[.int .i64 0, .int .i64 0, .string ⟨#[]⟩, .string ⟨#[]⟩, .int .i64 0, .int .i64 0, .int .i64 0, .slice none 0 0] RT)).trans (b1.mono (by simp))
    have ba := (Below.refl w1.heap.size w1).alloc (Nat.le_refl _) (.cells #[.int .i64 k, .int .i64 t, .string ke, .string va, .int .i64 pa, .int .i64 un, .int .i64 nu, .slice a pr.length C] RT)
    have X0a := X0.below ba X0.lt
    have Ba := B1.trans (ba.mono B1.size)
    have e0 := X0a.c0; have e1 := X0a.c1; have e2 := X0a.c2; have e3 := X0a.c3; have e4 := X0a.c4; have e5 := X0a.c5; have e6 := X0a.c6; have e7 := X0a.c7
    have z0 := X0a.fz 0; have z1 := X0a.fz 1; have z2 := X0a.fz 2; have z3 := X0a.fz 3; have z4 := X0a.fz 4; have z5 := X0a.fz 5; have z6 := X0a.fz 6; have z7 := X0a.fz 7
    have D0 := Lib.hid (X0a.put 0 0 ⟨#[]⟩ ⟨#[]⟩ 0 0 0 (.slice none 0 0))
    have D2 := Lib.hid (put8_bel Ba w.heap.size 0 0 ⟨#[]⟩ ⟨#[]⟩ 0 0 0 (.slice none 0 0) (Nat.le_refl _))
    clear X0 X0a B1 Ba ba hP1 b1 hfr HCG
    go_upto_if 14 with fail
    generalize w1.alloc (.cells #[.int .i64 k, .int .i64 t, .string ke, .string va, .int .i64 pa, .int .i64 un, .int .i64 nu, .slice a pr.length C] RT) = W2 at *
    go_wp2_with fail
    refine bodyPost_ret (v := .tuple #[recV zeroR none 0, .int .i64 4]) ?_ rfl ⟨none, 0, rfl, pairsAt_nil _ _, D2.out, fun x h => by cases h⟩
    obtain ⟨W, hW⟩ : ∃ W, put8 W2 w.heap.size 0 0 ⟨#[]⟩ ⟨#[]⟩ 0 0 0 (.slice none 0 0) = W := ⟨_, rfl⟩
    have D := D0.out
    rw [hW] at D
    unfold put8 at hW
    rw [hW]
    have f0 := D.c0; have f1 := D.c1; have f2 := D.c2; have f3 := D.c3; have f4 := D.c4; have f5 := D.c5; have f6 := D.c6; have f7 := D.c7
    clear hW D
    simp [results, Tryd.results24, go_sem, recV, zeroR, f0, f1, f2, f3, f4, f5, f6, f7]
  · have hne := ho.resolve_left h0
    have x1 : (O.toList == s.toList) = false := by rw [text_beq, decide_eq_false_iff_not]; exact hne
    have f1 := toList_ne s (by omega)
    have f2 := toList_nonempty s (by omega)
    clear ho h0 hne
    go_enter Tryd.func24, Tryd.ntmps24
    go_wp2_with fail
    refine (HCG.out _).mono ?_; rintro e w1 ⟨a, C, rfl, hP1, b1, hfr⟩
    dsimp only [recV] at hP1 HCE ⊢
    have X0 := (box8_new RT w 0 0 ⟨#[]⟩ ⟨#[]⟩ 0 0 0 (.slice none 0 0)).below b1 (by simp)
    have B1 := ((Below.refl w.heap.size w).alloc (Nat.le_refl _) (.cells #[.int .i64 0, .int .i64 0, .string ⟨#[]⟩, .string ⟨#[]⟩, .int .i64 0, .int .i64 0, .int .i64 0, .slice none 0 0] RT)).trans (b1.mono (by simp))
    have ba := (Below.refl w1.heap.size w1).alloc (Nat.le_refl _) (.cells #[.int .i64 k, .int .i64 t, .string ke, .string va, .int .i64 pa, .int .i64 un, .int .i64 nu, .slice a pr.length C] RT)
    have X0a := X0.below ba X0.lt
    have Ba := B1.trans (ba.mono B1.size)
    have CEa := Lib.hid (HCE.out _ a C (hP1.below ba))
    have HX0 := Lib.hid X0a; have HBa := Lib.hid Ba
    clear X0 X0a B1 Ba ba hP1 b1 HCE HCG hfr
    go_wp2_with fail
    refine CEa.out.mono ?_; rintro e w2 ⟨rfl, b2⟩
    have X0 := HX0.out.below b2 HX0.out.lt
    have B2 := HBa.out.trans (b2.mono HBa.out.size)
    have e0 := X0.c0; have e1 := X0.c1; have e2 := X0.c2; have e3 := X0.c3; have e4 := X0.c4; have e5 := X0.c5; have e6 := X0.c6; have e7 := X0.c7
    have z0 := X0.fz 0; have z1 := X0.fz 1; have z2 := X0.fz 2; have z3 := X0.fz 3; have z4 := X0.fz 4; have z5 := X0.fz 5; have z6 := X0.fz 6; have z7 := X0.fz 7
    have D0 := Lib.hid (X0.put 0 0 ⟨#[]⟩ ⟨#[]⟩ 0 0 0 (.slice none 0 0))
    have D2 := Lib.hid (put8_bel B2 w.heap.size 0 0 ⟨#[]⟩ ⟨#[]⟩ 0 0 0 (.slice none 0 0) (Nat.le_refl _))
    clear X0 B2 b2 HX0 HBa CEa
    go_wp2_with fail
    refine bodyPost_ret (v := .tuple #[recV zeroR none 0, .int .i64 4]) ?_ rfl ⟨none, 0, rfl, pairsAt_nil _ _, D2.out, fun x h => by cases h⟩
    obtain ⟨W, hW⟩ : ∃ W, put8 w2 w.heap.size 0 0 ⟨#[]⟩ ⟨#[]⟩ 0 0 0 (.slice none 0 0) = W := ⟨_, rfl⟩
    have D := D0.out
    rw [hW] at D
    unfold put8 at hW
    rw [hW]
    have f0 := D.c0; have f1 := D.c1; have f2 := D.c2; have f3 := D.c3; have f4 := D.c4; have f5 := D.c5; have f6 := D.c6; have f7 := D.c7
    clear hW D
    simp [results, Tryd.results24, go_sem, recV, zeroR, f0, f1, f2, f3, f4, f5, f6, f7]
end Go.Proofs.YthnpkhejfcclcaaDoor
