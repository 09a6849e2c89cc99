/-
  The document's pool: the contract of free, where a page goes.
-/
import Derived.Test.YthjlbfijfpfohaaGreatZ07f
namespace Go.Proofs.YthjlbfijfpfohaaGreat
open Go.RowKit Go.MapKept
section
variable {w w' : World} {o o' : Nat → Nat} {i j g x n q : Nat} {su : Int} {v : Value} {E : List Qn} {S : List ByteArray} {Ws : Wrs}
theorem updQ_erase (hn : (E.map (·.pg)).Nodup) {t : Nat} {e : Qn} (ht : E[t]? = some e) (F : Qn → Qn) : (updQ E e.pg F).eraseIdx t = E.eraseIdx t := by
  unfold updQ
  rw [← Go.ChangeMaps.map_eraseIdx]
  conv => rhs; rw [← List.map_id (E.eraseIdx t)]
  refine List.map_congr_left (fun y hy => ?_)
  have htl := (List.getElem?_eq_some_iff.1 ht).1
  have e1 : E[t] = e := (List.getElem?_eq_some_iff.1 ht).2
  obtain ⟨k, hk, rfl⟩ := List.mem_iff_getElem.1 hy
  rw [List.length_eraseIdx_of_lt htl] at hk
  rw [List.nodup_iff_pairwise_ne, List.pairwise_map, List.pairwise_iff_getElem] at hn
  rw [List.getElem_eraseIdx]
  split
  · rename_i hkt
    have := hn k t (by omega) htl hkt
    rw [e1] at this
    rw [if_neg this]; rfl
  · rename_i hkt
    have := hn t (k + 1) htl (by omega) (by omega)
    rw [e1] at this
    rw [if_neg (fun h => this h.symm)]; rfl
set_option maxRecDepth 100000 in
set_option maxHeartbeats 4000000 in
theorem qfree_yes (h : IsQ w o j g x n su v E) (D : IsR w o q x S Ws) (hqj : q ≠ j) (hl : n ≤ E.length) (hl2 : E.length ≤ 1000) {t : Nat} {e : Qn} (ht : E[t]? = some e) (hg : e.goes su = true) (hno : ∀ k y, k < t → E[k]? = some y → y.goes su = false) (hpg : e.pg < S.length) (hs : e.s.size ≤ 252) (hW : Ws.length ≤ 100000) :
    Calls Tryz.prog 49 #[.pointer (some ⟨g, 0, none⟩)] w fun y w' => y = .returned (.bool true) ∧ ∃ v' o', IsQ w' o' j g x n su v' (E.eraseIdx t) ∧ IsR w' o' q x S (Ws ++ if e.d then [(e.pg, pageOf e.s)] else []) ∧ Moves (Two j q) o w o' w' ∧ KeptQ o j w w' (fun b => b = g ∨ b = e.b) := by
  obtain ⟨va, vC, rfl⟩ := h.slot
  have c3 : ∀ c, (w.drewN c).cell? ⟨g, 3, none⟩ = some (.slice va E.length vC) := fun c => h.hp.cell 3
  have c1 : ∀ c, (w.drewN c).cell? ⟨g, 1, none⟩ = some (.int .i64 (n : Int)) := fun c => h.hp.cell 1
  have k1 : ¬ (E.length : Int) < (n : Int) := by omega
  have k1' : decide (E.length < n) = false := decide_eq_false (by omega)
  have htl := (List.getElem?_eq_some_iff.1 ht).1
  have HH := Lib.hid h; have HN := Lib.hid hno; have HD := Lib.hid D; have HT := Lib.hid ht; have HG := Lib.hid hg
  generalize hWX : (Ws ++ if e.d then [(e.pg, pageOf e.s)] else []) = WX
  have HWX := Lib.hid hWX
  clear h hno D ht hg hWX
  go_enter Tryz.func49, Tryz.ntmps49
  go_wp2_with fail
  go_quiet (fail)
  have H2 := Lib.hid (HH.out.reads (below_drew w nq)); have HD2 := Lib.hid (HD.out.reads (below_drew w nq))
  have HB := Lib.hid (below_drew w nq)
  have hnk := HH.out.nk
  clear c3 c1 HH HD
  generalize w.drewN nq = W2 at *
  go_wp2_with fail
  go_loopw [3] (fun u wr => ∃ k : Nat, k ≤ t ∧ u = .int .i64 (k : Int) ∧ IsQ wr o j g x n su (.slice va E.length vC) E ∧ IsR wr o q x S Ws ∧ Below w.heap.size w wr) (fun u _ => E.length - (intOf u).toNat)
  case atStart => exact ⟨0, by omega, rfl, H2.out, HD2.out, HB.out⟩
  case round =>
    obtain ⟨k, hk, rfl, h3, d3, b3⟩ := hrel
    have H3 := Lib.hid h3; have HB3 := Lib.hid b3; have HD3 := Lib.hid d3
    have c3 : wr.cell? ⟨g, 3, none⟩ = some (.slice va E.length vC) := h3.hp.cell 3
    clear H2 HB HD2 h3 b3 d3
    have hlt : k < E.length := by omega
    have t1 : (k : Int) < (E.length : Int) := by omega
    have t0 : (0 : Int) ≤ (k : Int) := by omega
    by_cases hkt : k = t
    · subst hkt
      have hm := List.mem_of_getElem? HT.out
      obtain ⟨gb, C, hv, cc⟩ := H3.out.at' HT.out
      cases hv
      unfold qptr at cc
      have b2 : wr.cell? ⟨e.b, 2, none⟩ = some (.int .i64 (e.pins : Int)) := (H3.out.hb e hm).cell 2
      have b3 : wr.cell? ⟨e.b, 3, none⟩ = some (.bool e.d) := (H3.out.hb e hm).cell 3
      have CM := qmay H3.out hm
      have hg := HG.out
      unfold Qn.goes at hg
      have hp : e.pins = 0 := by simp at hg; exact hg.1
      rw [hp] at b2
      cases hd : e.d with
      | false =>
        rw [hd] at b3
        have HX : WX = Ws := by have := HWX.out; rw [hd] at this; simpa using this.symm
        subst HX
        have CC := Lib.hid (qcut H3.out HT.out hl2)
        clear hg CM hd hp
        go_wp2_with fail
        refine CC.out.mono ?_; rintro y W5 ⟨rfl, v5, o5, Q5, S5, K5⟩
        have HQ5 := Lib.hid Q5; have HS5 := Lib.hid S5
        have hkq : KeptQ o j w W5 (fun b => b = g ∨ b = e.b) := ⟨Nat.le_trans HB3.out.size K5.1, fun b hb ho hx => (K5.2 b (Nat.lt_of_lt_of_le hb HB3.out.size) ho (fun y => hx (.inl y))).trans (HB3.out.block b hb)⟩
        have HKQ := Lib.hid hkq
        clear Q5 S5 CC K5 hkq
        go_wp2_with fail
        go_ret
        exact ⟨rfl, v5, o5, HQ5.out, HD3.out.other HS5.out hqj, (Moves.of (.inl rfl) (Stp.ofBelow HB3.out o j)).trans (Moves.of (.inl rfl) HS5.out), HKQ.out⟩
      | true =>
        have hla : decide (e.la ≤ su) = true := by rw [hp, hd] at hg; simpa using hg
        rw [hd, hla] at CM
        rw [hd] at b3
        have HX : WX = Ws ++ [(e.pg, pageOf e.s)] := by have := HWX.out; rw [hd] at this; simpa using this.symm
        subst HX
        have HCM := Lib.hid CM
        have CWr := Lib.hid (fun c : Nat => qwrite (H3.out.reads (below_drew wr c)) (HD3.out.reads (below_drew wr c)) hqj hm hpg hs hW)
        have b3' : ∀ c, (wr.drewN c).cell? ⟨e.b, 3, none⟩ = some (.bool true) := fun c => b3
        clear hg CM hla hd hp
        go_wp2_with (go_at_call 55; refine HCM.out.mono ?_; rintro y W5 ⟨rfl, nq5, rfl⟩)
        refine (CWr.out nq5).mono ?_; rintro y W6 ⟨rfl, o6, Q6, D6, M6, K6⟩
        have ht6 : (updQ E e.pg (fun z => { z with d := false }))[k]? = some { e with d := false } := by
          unfold updQ; rw [List.getElem?_map, HT.out]; simp
        have CC := qcut Q6 ht6 (by rw [updQ_length]; exact hl2)
        rw [updQ_erase hnk HT.out] at CC
        have HCC := Lib.hid CC; have HD6 := Lib.hid D6; have HM6 := Lib.hid M6; have HK6 := Lib.hid K6
        have hoj : ∀ b, b < wr.heap.size → o6 b = o b := fun b hb => M6 (fun o1 w1 => wr.heap.size ≤ w1.heap.size ∧ ∀ b, b < wr.heap.size → o1 b = o b) (fun _ _ _ _ _ _ s1 h1 => ⟨Nat.le_trans h1.1 s1.size, fun b hb => (s1.own b (Nat.lt_of_lt_of_le hb h1.1)).trans (h1.2 b hb)⟩) ⟨Nat.le_refl _, fun _ _ => rfl⟩ |>.2 b hb
        have HOJ := Lib.hid hoj
        clear CC Q6 D6 M6 K6 ht6 CWr HCM hoj
        go_wp2_with fail
        refine HCC.out.mono ?_; rintro y W7 ⟨rfl, v7, o7, Q7, S7, K7⟩
        have HQ7 := Lib.hid Q7; have HS7 := Lib.hid S7
        have hkq : KeptQ o j w W7 (fun b => b = g ∨ b = e.b) := ⟨Nat.le_trans HB3.out.size (Nat.le_trans HK6.out.1 K7.1), fun b hb ho hx => by
          have hb1 := Nat.lt_of_lt_of_le hb HB3.out.size
          refine (K7.2 b (Nat.lt_of_lt_of_le hb1 HK6.out.1) (by rw [HOJ.out b hb1]; exact ho) (fun y => hx (.inl y))).trans ?_
          exact (HK6.out.2 b hb1 ho (fun y => hx (.inr y))).trans (HB3.out.block b hb)⟩
        have HKQ := Lib.hid hkq
        clear Q7 S7 HCC K7 hkq HK6 HOJ
        go_wp2_with fail
        go_ret
        exact ⟨rfl, v7, o7, HQ7.out, HD6.out.other HS7.out hqj, (((Moves.of (.inl rfl) (Stp.ofBelow (HB3.out.trans ((below_drew wr nq5).mono HB3.out.size)) o j))).trans HM6.out).trans (Moves.of (.inl rfl) HS7.out), HKQ.out⟩
    · have he := List.getElem?_eq_getElem hlt
      have hm := List.mem_of_getElem? he
      obtain ⟨gb, C, hv, cc⟩ := H3.out.at' he
      cases hv
      unfold qptr at cc
      have hg := HN.out k _ (by omega) he
      obtain ⟨y, hee⟩ : ∃ y, E[k] = y := ⟨_, rfl⟩
      rw [hee] at cc hg hm
      have b2 : wr.cell? ⟨y.b, 2, none⟩ = some (.int .i64 (y.pins : Int)) := (H3.out.hb y hm).cell 2
      have b3 : wr.cell? ⟨y.b, 3, none⟩ = some (.bool y.d) := (H3.out.hb y hm).cell 3
      have CM := Lib.hid (qmay H3.out hm)
      unfold Qn.goes at hg
      clear he hee hm
      by_cases hp : y.pins = 0
      · cases hd : y.d with
        | false => rw [hp, hd] at hg; simp at hg
        | true =>
          have hla : decide (y.la ≤ su) = false := by rw [hp, hd] at hg; simpa using hg
          rw [hd, hla] at CM
          rw [hd] at b3
          rw [hp] at b2
          clear hg hla hd hp
          go_wp2_with (go_at_call 55; refine CM.out.mono ?_; rintro y W5 ⟨rfl, nq5, rfl⟩)
          exact ⟨⟨k + 1, by omega, by go_num, H3.out.reads (below_drew wr nq5), HD3.out.reads (below_drew wr nq5), HB3.out.trans ((below_drew wr nq5).mono HB3.out.size)⟩, by simp [intOf]; omega⟩
      · have hz : ((y.pins : Int) == 0) = false := by rw [beq_eq_false_iff_ne]; omega
        generalize (y.pins : Int) = pn at *
        clear hg hp CM
        go_wp2_with fail
        exact ⟨⟨k + 1, by omega, by go_num, H3.out, HD3.out, HB3.out⟩, by simp [intOf]; omega⟩
end
end Go.Proofs.YthjlbfijfpfohaaGreat
