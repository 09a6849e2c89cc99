/-
  Package leaf: the contract of Decode.
-/
import Derived.Test.YtajbnfobmnibjaaD10r
namespace Go.Proofs.Ytajbnfobmnibjaa
open Go.RowKit

theorem small_of_wgt {l : Prs} {n : Nat} (h : wgt l ≤ n) (hn : n ≤ 1000000) : SmallP l := fun p hp => by
  have := wgt_mem hp
  unfold pairN at this; omega
theorem extract_suffix (s : ByteArray) (p : Nat) (_hp : p ≤ s.size) : (s.extract p s.size).data.toList = s.data.toList.drop p := by
  rw [Lib.extract_data]
  exact List.take_of_length_le (by rw [List.length_drop, ← Lib.size_eq]; omega)
theorem bare_empty (s : ByteArray) : (s.extract 0 (bareLen s.data.toList)).toList.isEmpty = decide (bareLen s.data.toList = 0) := by
  have hle := bareLen_le s.data.toList
  rw [Lib.toList_data, Lib.extract_data, List.drop_zero, Nat.sub_zero]
  cases hb : bareLen s.data.toList with
  | zero => simp
  | succ n =>
    cases hl : s.data.toList with
    | nil => rw [hl] at hb hle; rw [hb] at hle; simp at hle
    | cons c l => simp
set_option maxRecDepth 100000 in
set_option maxHeartbeats 8000000 in
theorem decode10 (s : ByteArray) (w : World) (hs : s.size ≤ 1000000) :
    Calls Try.prog 11 #[.string s] w (LfOut w (decL s.data.toList) (decE s.data.toList)) := by
  have hz : s.data.toList.length = s.size := (Lib.size_eq s).symm
  have X0 := Lib.hid (At.new w #[.slice none 0 0, .string ⟨#[]⟩, .int .i64 0] 24)
  have HB := Lib.hid ((Below.refl w.heap.size w).alloc (Nat.le_refl _) (.cells #[.slice none 0 0, .string ⟨#[]⟩, .int .i64 0] 24))
  by_cases h252 : s.size ≤ 252
  · have g1 : ¬ (s.size : Int) > 252 := by omega
    have g2 : decide ((252 : Int) < (s.size : Int)) = false := by rw [decide_eq_false_iff_not]; omega
    have CR := Lib.hid (fun W => read10 s W hs)
    cases hp : parseLf s.data.toList with
    | none =>
      have hdec : decR s.data.toList = none := by unfold decR; rw [if_pos (by omega), hp]
      rw [hp] at CR
      obtain ⟨e1, e2⟩ := decL_none hdec
      rw [e1, e2]
      clear hdec hp e1 e2 hz
      go_enter Try.func11, Try.ntmps11
      go_upto_region 1 with fail
      generalize w.alloc (.cells #[.slice none 0 0, .string ⟨#[]⟩, .int .i64 0] 24) = W1 at *
      go_wp2_with fail
      refine (CR.out _).mono ?_; rintro r W2 ⟨b2, a, C, l, p, rfl⟩
      have X2 := Lib.hid (X0.out.reads b2); have HB2 := Lib.hid (HB.out.trans (b2.mono HB.out.size))
      have b3 := (Below.refl W2.heap.size W2).alloc (Nat.le_refl _) (.cells #[.slice a l.pairs.length C, .string l.high, .int .i64 l.next] 24)
      have X3 := X2.out.reads b3; have HB3 := Lib.hid (HB2.out.trans (b3.mono HB2.out.size))
      clear b2 b3 X2 HB2 X0 HB CR
      unfold lfV
      have d0 := X3.cell 0; have d1 := X3.cell 1; have d2 := X3.cell 2
      have z0 := X3.fz 0; have z1 := X3.fz 1; have z2 := X3.fz 2
      have D := X3.put3 (u := .slice none 0 0) (v := .string ⟨#[]⟩) (t := .int .i64 0)
      have BF := Lib.hid (below_put3 (u := .slice none 0 0) (v := .string ⟨#[]⟩) (t := .int .i64 0) HB3.out (Nat.le_refl _))
      have f0 := D.cell 0; have f1 := D.cell 1; have f2 := D.cell 2
      simp only [List.getElem?_toArray, List.getElem?_cons_zero, List.getElem?_cons_succ] at d0 d1 d2 f0 f1 f2
      clear D X3 HB3
      go_wp2_with fail
      refine bodyPost_ret (v := Value.tuple #[zero10, .int .i64 4]) ?_ rfl ⟨none, 0, rfl, PrAt.zero _, BF.out⟩
      simp [results, Try.results11, go_sem, f0, f1, f2, zero10]
    | some y =>
      obtain ⟨r, x⟩ := y
      have hdec : decR s.data.toList = if bareLen x = 0 ∧ rightL r = true then some r else none := by unfold decR; rw [if_pos (by omega), hp]
      rw [hp] at CR
      obtain ⟨hg, hnx⟩ := parseLf_got hp
      have hlen := congrArg List.length hg
      rw [hz, List.length_append, encLf_len] at hlen
      unfold sizeL at hlen
      have hSm : SmallP r.pairs := small_of_wgt (n := 252) (by omega) (by omega)
      have CRt := Lib.hid (fun a C W (hPA : PairsAt W a r.pairs) => right10 a C r W hPA hSm (by omega) (by omega))
      obtain ⟨LL, hLL⟩ : ∃ L, Hid (decL s.data.toList = L) := ⟨_, rfl⟩
      obtain ⟨EE, hEE⟩ : ∃ L, Hid (decE s.data.toList = L) := ⟨_, rfl⟩
      rw [hLL.out, hEE.out]
      clear hg hlen hSm hnx hp
      go_enter Try.func11, Try.ntmps11
      go_upto_region 1 with fail
      generalize w.alloc (.cells #[.slice none 0 0, .string ⟨#[]⟩, .int .i64 0] 24) = W1 at *
      go_wp2_with fail
      refine (CR.out _).mono ?_; rintro e W2 ⟨b2, a, C, p, rfl, hPA, hx, hps⟩
      have X2 := Lib.hid (X0.out.reads b2); have HB2 := Lib.hid (HB.out.trans (b2.mono HB.out.size))
      have b3 := (Below.refl W2.heap.size W2).alloc (Nat.le_refl _) (.cells #[.slice a r.pairs.length C, .string r.high, .int .i64 r.next] 24)
      have X3 := Lib.hid (X2.out.reads b3); have HB3 := Lib.hid (HB2.out.trans (b3.mono HB2.out.size))
      have Y3 := Lib.hid (At.new W2 #[.slice a r.pairs.length C, .string r.high, .int .i64 r.next] 24)
      have PA3 := Lib.hid (hPA.below b3)
      clear b2 b3 X2 HB2 X0 HB CR
      unfold lfV at *
      go_upto_region 4 with fail
      generalize W2.alloc (.cells #[.slice a r.pairs.length C, .string r.high, .int .i64 r.next] 24) = W3 at *
      generalize W2.heap.size = B at *
      have hsz : s.data.toList.drop p = x := hx.symm
      have hex := extract_suffix s p hps
      rw [hsz] at hex
      have hbe := bare_empty (s.extract p s.size)
      have CBr := fun W => bare_any (s.extract p s.size) W (by rw [ByteArray.size_extract]; omega)
      rw [hex] at CBr hbe
      have p1 : (p : Int) ≤ (s.size : Int) := by omega
      have p0 : (0 : Int) ≤ (p : Int) := by omega
      generalize (s.extract p s.size).extract 0 (bareLen x) = BB at *
      have CBr := Lib.hid CBr
      clear hex hx hPA hsz hps
      by_cases hb : bareLen x = 0
      · rw [decide_eq_true hb] at hbe
        cases hr : rightL r with
        | false =>
          rw [if_neg (fun h => by rw [hr] at h; exact Bool.false_ne_true h.2)] at hdec
          obtain ⟨e1, e2⟩ := decL_none hdec
          rw [hLL.out] at e1; rw [hEE.out] at e2
          subst e1 e2
          rw [hr] at CRt
          clear hdec hr hb
          go_wp2_with fail
          refine (CBr.out _).mono ?_; rintro e W4 ⟨rfl, b4⟩
          have X4 := Lib.hid (X3.out.reads b4); have HB4 := Lib.hid (HB3.out.trans (b4.mono HB3.out.size))
          have Y4 := Lib.hid (Y3.out.reads b4); have CR4 := Lib.hid (CRt.out a C _ (PA3.out.below b4).at')
          clear b4 X3 HB3 Y3 CRt PA3 CBr
          have y0 := Y4.out.cell 0; have y1 := Y4.out.cell 1; have y2 := Y4.out.cell 2
          simp only [List.getElem?_toArray, List.getElem?_cons_zero, List.getElem?_cons_succ] at y0 y1 y2
          go_wp2_with fail
          refine CR4.out.mono ?_; rintro e W5 ⟨rfl, b5⟩
          have X5 := Lib.hid (X4.out.reads b5); have HB5 := Lib.hid (HB4.out.trans (b5.mono HB4.out.size))
          clear b5 X4 HB4 Y4 CR4 y0 y1 y2
          have d0 := X5.out.cell 0; have d1 := X5.out.cell 1; have d2 := X5.out.cell 2
          have z0 := X5.out.fz 0; have z1 := X5.out.fz 1; have z2 := X5.out.fz 2
          have D := X5.out.put3 (u := .slice none 0 0) (v := .string ⟨#[]⟩) (t := .int .i64 0)
          have BF := Lib.hid (below_put3 (u := .slice none 0 0) (v := .string ⟨#[]⟩) (t := .int .i64 0) HB5.out (Nat.le_refl _))
          have f0 := D.cell 0; have f1 := D.cell 1; have f2 := D.cell 2
          simp only [List.getElem?_toArray, List.getElem?_cons_zero, List.getElem?_cons_succ] at d0 d1 d2 f0 f1 f2
          clear D
          go_wp2_with fail
          refine bodyPost_ret (v := Value.tuple #[zero10, .int .i64 4]) ?_ rfl ⟨none, 0, rfl, PrAt.zero _, BF.out⟩
          simp [results, Try.results11, go_sem, f0, f1, f2, zero10]
        | true =>
          rw [if_pos ⟨hb, hr⟩] at hdec
          obtain ⟨e1, e2⟩ := decL_some hdec
          rw [hLL.out] at e1; rw [hEE.out] at e2
          have e3 := e1.symm
          subst e3 e2
          rw [hr] at CRt
          clear hdec hr hb
          go_wp2_with fail
          refine (CBr.out _).mono ?_; rintro e W4 ⟨rfl, b4⟩
          have X4 := Lib.hid (X3.out.reads b4); have HB4 := Lib.hid (HB3.out.trans (b4.mono HB3.out.size))
          have Y4 := Lib.hid (Y3.out.reads b4); have CR4 := Lib.hid (CRt.out a C _ (PA3.out.below b4).at')
          have PA4 := Lib.hid (PA3.out.below b4)
          clear b4 X3 HB3 Y3 CRt PA3 CBr
          have y0 := Y4.out.cell 0; have y1 := Y4.out.cell 1; have y2 := Y4.out.cell 2
          simp only [List.getElem?_toArray, List.getElem?_cons_zero, List.getElem?_cons_succ] at y0 y1 y2
          go_wp2_with fail
          refine CR4.out.mono ?_; rintro e W5 ⟨rfl, b5⟩
          have X5 := Lib.hid (X4.out.reads b5); have HB5 := Lib.hid (HB4.out.trans (b5.mono HB4.out.size))
          have Y5 := Lib.hid (Y4.out.reads b5); have PA5 := Lib.hid (PA4.out.below b5)
          clear b5 X4 HB4 Y4 CR4 PA4 y0 y1 y2
          have y0 := Y5.out.cell 0; have y1 := Y5.out.cell 1; have y2 := Y5.out.cell 2
          have d0 := X5.out.cell 0; have d1 := X5.out.cell 1; have d2 := X5.out.cell 2
          have z0 := X5.out.fz 0; have z1 := X5.out.fz 1; have z2 := X5.out.fz 2
          have D := X5.out.put3 (u := .slice a r.pairs.length C) (v := .string r.high) (t := .int .i64 r.next)
          have BF := Lib.hid (below_put3 (u := .slice a r.pairs.length C) (v := .string r.high) (t := .int .i64 r.next) HB5.out (Nat.le_refl _))
          have PF := Lib.hid (PrAt.put3 X5.out PA5.out (.slice a r.pairs.length C) (.string r.high) (.int .i64 r.next))
          have f0 := D.cell 0; have f1 := D.cell 1; have f2 := D.cell 2
          simp only [List.getElem?_toArray, List.getElem?_cons_zero, List.getElem?_cons_succ] at y0 y1 y2 d0 d1 d2 f0 f1 f2
          clear D X5 HB5 Y5 PA5
          go_wp2_with fail
          refine bodyPost_ret (v := Value.tuple #[lfV a C r, .int .i64 0]) ?_ rfl ⟨a, C, rfl, PF.out, BF.out⟩
          simp [results, Try.results11, go_sem, f0, f1, f2, lfV]
      · rw [if_neg (fun h => hb h.1)] at hdec
        obtain ⟨e1, e2⟩ := decL_none hdec
        rw [hLL.out] at e1; rw [hEE.out] at e2
        subst e1 e2
        rw [decide_eq_false hb] at hbe
        clear hdec hb CRt
        go_wp2_with fail
        refine (CBr.out _).mono ?_; rintro e W4 ⟨rfl, b4⟩
        have X4 := Lib.hid (X3.out.reads b4); have HB4 := Lib.hid (HB3.out.trans (b4.mono HB3.out.size))
        clear b4 X3 HB3 Y3 PA3 CBr
        have d0 := X4.out.cell 0; have d1 := X4.out.cell 1; have d2 := X4.out.cell 2
        have z0 := X4.out.fz 0; have z1 := X4.out.fz 1; have z2 := X4.out.fz 2
        have D := X4.out.put3 (u := .slice none 0 0) (v := .string ⟨#[]⟩) (t := .int .i64 0)
        have BF := Lib.hid (below_put3 (u := .slice none 0 0) (v := .string ⟨#[]⟩) (t := .int .i64 0) HB4.out (Nat.le_refl _))
        have f0 := D.cell 0; have f1 := D.cell 1; have f2 := D.cell 2
        simp only [List.getElem?_toArray, List.getElem?_cons_zero, List.getElem?_cons_succ] at d0 d1 d2 f0 f1 f2
        clear D
        go_wp2_with fail
        refine bodyPost_ret (v := Value.tuple #[zero10, .int .i64 4]) ?_ rfl ⟨none, 0, rfl, PrAt.zero _, BF.out⟩
        simp [results, Try.results11, go_sem, f0, f1, f2, zero10]
  · have hdec : decR s.data.toList = none := by unfold decR; rw [if_neg (by omega)]
    obtain ⟨e1, e2⟩ := decL_none hdec
    rw [e1, e2]
    have g1 : (s.size : Int) > 252 := by omega
    have g2 : decide ((252 : Int) < (s.size : Int)) = true := by rw [decide_eq_true_iff]; omega
    have g3 : (252 : Int) < (s.size : Int) := by omega
    clear hdec e1 e2 h252 hz
    go_enter Try.func11, Try.ntmps11
    go_upto_region 1 with fail
    generalize w.alloc (.cells #[.slice none 0 0, .string ⟨#[]⟩, .int .i64 0] 24) = W1 at *
    have d0 := X0.out.cell 0; have d1 := X0.out.cell 1; have d2 := X0.out.cell 2
    have z0 := X0.out.fz 0; have z1 := X0.out.fz 1; have z2 := X0.out.fz 2
    have D := X0.out.put3 (u := .slice none 0 0) (v := .string ⟨#[]⟩) (t := .int .i64 0)
    have BF := Lib.hid (below_put3 (u := .slice none 0 0) (v := .string ⟨#[]⟩) (t := .int .i64 0) HB.out (Nat.le_refl _))
    have f0 := D.cell 0; have f1 := D.cell 1; have f2 := D.cell 2
    simp only [List.getElem?_toArray, List.getElem?_cons_zero, List.getElem?_cons_succ] at d0 d1 d2 f0 f1 f2
    clear D
    go_wp2_with fail
    refine bodyPost_ret (v := Value.tuple #[zero10, .int .i64 4]) ?_ rfl ⟨none, 0, rfl, PrAt.zero _, BF.out⟩
    simp [results, Try.results11, go_sem, f0, f1, f2, zero10]
end Go.Proofs.Ytajbnfobmnibjaa
