/-
  The document's pool: the contract of Clean.
-/
import Derived.Test.YthjlbfijfpfohaaGreatZ07m
namespace Go.Proofs.YthjlbfijfpfohaaGreat
open Go.RowKit Go.MapKept
def cleanQ (E : List Qn) (xs : List Int) : List Qn := E.map (fun e => if (e.pg : Int) ∈ xs then { e with d := false } else e)
def mayQ (E : List Qn) (su : Int) (x : Int) : Bool := E.any (fun e => decide ((e.pg : Int) = x) && (e.d && decide (e.la ≤ su)))
def wrsQ (E : List Qn) (xs : List Int) : Wrs := xs.map (fun x => match E.find? (fun e => decide ((e.pg : Int) = x)) with
  | some e => (e.pg, pageOf e.s)
  | none => (0, ⟨#[]⟩))
theorem cleanQ_nil (E : List Qn) : cleanQ E [] = E := by unfold cleanQ; simp
theorem cleanQ_snoc (E : List Qn) (xs : List Int) (k : Nat) : updQ (cleanQ E xs) k (fun z => { z with d := false }) = cleanQ E (xs ++ [(k : Int)]) := by
  unfold updQ cleanQ; rw [List.map_map]; congr 1; funext e; simp only [Function.comp]
  by_cases h1 : (e.pg : Int) ∈ xs
  · have h2 : (e.pg : Int) ∈ xs ++ [(k : Int)] := List.mem_append_left _ h1
    rw [if_pos h1, if_pos h2]
    split <;> rfl
  · rw [if_neg h1]
    by_cases h2 : e.pg = k
    · rw [if_pos h2, if_pos (by rw [h2]; simp)]
    · have h3 : ¬ (e.pg : Int) = (k : Int) := by omega
      rw [if_neg h2, if_neg (by simp [h1, h3])]
theorem fresh_owner (o : Nat → Nat) (n j q : Nat) : ∃ r, r ≠ j ∧ r ≠ q ∧ ∀ k, k < n → o k ≠ r := by
  have : ∃ M, ∀ k, k < n → o k ≤ M := by
    induction n with
    | zero => exact ⟨0, fun k h => absurd h (by omega)⟩
    | succ n ih =>
      obtain ⟨M, hM⟩ := ih
      refine ⟨M + o n, fun k hk => ?_⟩
      by_cases h : k = n
      · rw [h]; omega
      · have := hM k (by omega); omega
  obtain ⟨M, hM⟩ := this
  exact ⟨M + j + q + 1, by omega, by omega, fun k hk => by have := hM k hk; omega⟩
section
variable {w w' : World} {o o' : Nat → Nat} {i j g x n q r : Nat} {su : Int} {v : Value} {E : List Qn} {S : List ByteArray} {Ws : Wrs}
theorem Stp.any (s : Stp o r w o' w') (h : ∀ k, k < w.heap.size → o k ≠ r) (j : Nat) : Stp o j w o' w' :=
  ⟨s.1, s.2, s.3, s.size, fun k hk _ => s.blk k hk (h k hk), s.own⟩
theorem pagesQ_nodup (E : List Qn) (dt : Bool) (N : Nat) : (pagesQ E dt N).Nodup := by
  unfold pagesQ
  refine List.pairwise_map.2 ((List.nodup_range.filter _).imp (fun hne e => hne (by omega)))
theorem pagesQ_mem {x : Int} {dt : Bool} {N : Nat} (h : x ∈ pagesQ E dt N) : ∃ e ∈ E, (e.pg : Int) = x ∧ (!dt || e.d) = true := by
  unfold pagesQ at h
  obtain ⟨k, hk, rfl⟩ := List.mem_map.1 h
  have h2 := (List.mem_filter.1 hk).2
  unfold inQ at h2
  obtain ⟨e, he, hh⟩ := List.any_eq_true.1 h2
  rw [Bool.and_eq_true] at hh
  exact ⟨e, he, by have := of_decide_eq_true hh.1; omega, hh.2⟩
theorem mayQ_at (hn : (E.map (·.pg)).Nodup) {e : Qn} (he : e ∈ E) (su : Int) : mayQ E su (e.pg : Int) = (e.d && decide (e.la ≤ su)) := by
  unfold mayQ
  rw [Bool.eq_iff_iff, List.any_eq_true]
  constructor
  · rintro ⟨y, hy, hh⟩
    rw [Bool.and_eq_true] at hh
    obtain rfl : y = e := map_inj_of_nodup hn hy he (by have := of_decide_eq_true hh.1; omega)
    exact hh.2
  · intro hh; exact ⟨e, he, by rw [hh]; simp⟩
theorem findQ_at (hn : (E.map (·.pg)).Nodup) {e : Qn} (he : e ∈ E) : E.find? (fun y => decide ((y.pg : Int) = (e.pg : Int))) = some e := by
  cases hf : E.find? (fun y => decide ((y.pg : Int) = (e.pg : Int))) with
  | none => have := List.find?_eq_none.1 hf e he; simp at this
  | some y =>
    have h1 := List.mem_of_find?_eq_some hf
    have h2 := List.find?_some hf
    have h3 : (y.pg : Int) = (e.pg : Int) := of_decide_eq_true h2
    rw [map_inj_of_nodup hn h1 he (by omega)]
theorem wrsQ_snoc (hn : (E.map (·.pg)).Nodup) {e : Qn} (he : e ∈ E) (xs : List Int) : wrsQ E (xs ++ [(e.pg : Int)]) = wrsQ E xs ++ [(e.pg, pageOf e.s)] := by
  unfold wrsQ; rw [List.map_append]; simp only [List.map_cons, List.map_nil]; rw [findQ_at hn he]
theorem OInts.get {u : Value} {l : List Int} (h : OInts w o r u l) {t : Nat} {y : Int} (ht : l[t]? = some y) : ∃ gb C, u = .slice (some ⟨gb, 0, none⟩) l.length C ∧ w.cell? ⟨gb, t, none⟩ = some (.int .i64 y) := by
  rcases Row.val h with ⟨_, e0, _⟩ | ⟨gb, C, e, _, _, hc, _⟩
  · have := (List.getElem?_eq_some_iff.1 ht).1; omega
  · exact ⟨gb, C, e, hc t _ (by rw [List.getElem?_map, ht]; rfl)⟩
set_option maxRecDepth 100000 in
set_option maxHeartbeats 4000000 in
theorem qclean (h : IsQ w o j g x n su v E) (D : IsR w o q x S Ws) (hqj : q ≠ j) (hl : E.length ≤ 1000) (hp : ∀ e ∈ E, e.pg < S.length) (hs : ∀ e ∈ E, e.s.size ≤ 252) (hW : Ws.length ≤ 50000) (hSl : S.length ≤ 10000) :
    Calls Tryz.prog 32 #[.pointer (some ⟨g, 0, none⟩)] w fun y w' => y = .returned (.int .i64 (((pagesQ E true S.length).filter (mayQ E su)).length : Int)) ∧ ∃ o', IsQ w' o' j g x n su v (cleanQ E ((pagesQ E true S.length).filter (mayQ E su))) ∧ IsR w' o' q x S (Ws ++ wrsQ E ((pagesQ E true S.length).filter (mayQ E su))) ∧ Moves (Two j q) o w o' w' := by
  obtain ⟨r, hrj, hrq, hro⟩ := fresh_owner o w.heap.size j q
  have CP := Lib.hid (qpages h D r (fun e => hrj e.symm) (fun e => hrq e.symm) true hl (by omega))
  have hll := pagesQ_length E true S.length
  have HH := Lib.hid h; have HD := Lib.hid D
  have HP := Lib.hid hp; have HS := Lib.hid hs; have HRO := Lib.hid hro
  have hnk := h.nk
  have HN := Lib.hid (pagesQ_nodup E true S.length)
  have HM := Lib.hid (fun y hy => pagesQ_mem (E := E) (x := y) (dt := true) (N := S.length) hy)
  have hzj : ¬ Two j q r := by unfold Two; omega
  have HZ := Lib.hid hzj
  generalize pagesQ E true S.length = l at *
  clear h D hp hs hro hzj hrj hrq
  go_enter Tryz.func32, Tryz.ntmps32
  go_wp2_with fail
  refine CP.out.mono ?_; rintro y w1 ⟨u, o1, rfl, U1, S1⟩
  have HM1 := Lib.hid (Moves.of (X := Two j q) (.inl rfl) (S1.any HRO.out j))
  have S1' := S1.any HRO.out j
  have HU1 := Lib.hid U1
  have Q1 := Lib.hid (HH.out.other (S1.any HRO.out (j + q + 1)) (by omega)); have D1 := Lib.hid (HD.out.other (S1.any HRO.out (j + q + 1)) (by omega))
  obtain ⟨au, Cu, rfl⟩ : ∃ a C, u = .slice a l.length C := by
    rcases Row.val U1 with ⟨e, h0, _⟩ | ⟨gb, C, e, _⟩
    · exact ⟨none, 0, by rw [e, h0]⟩
    · exact ⟨_, C, e⟩
  clear U1 S1 S1' HH HD CP HRO
  go_wp2_with fail
  go_loopw [3, 5] (fun a c wr => ∃ (t : Nat) (o' : Nat → Nat), t ≤ l.length ∧ c = .int .i64 (t : Int) ∧ a = .int .i64 (((l.take t).filter (mayQ E su)).length : Int) ∧ IsQ wr o' j g x n su v (cleanQ E ((l.take t).filter (mayQ E su))) ∧ IsR wr o' q x S (Ws ++ wrsQ E ((l.take t).filter (mayQ E su))) ∧ OInts wr o' r (.slice au l.length Cu) l ∧ Moves (Two j q) o w o' wr) (fun _ c _ => l.length - (intOf c).toNat)
  case atStart =>
    refine ⟨0, o1, by omega, rfl, rfl, ?_, ?_, HU1.out, HM1.out⟩
    · rw [List.take_zero, List.filter_nil, cleanQ_nil]; exact Q1.out
    · rw [List.take_zero, List.filter_nil]; show IsR _ _ _ _ _ (Ws ++ []); rw [List.append_nil]; exact D1.out
  case round =>
    obtain ⟨t, o2, ht, rfl, rfl, h2, d2, u2, m2⟩ := hrel
    clear Q1 D1 HU1 HM1
    by_cases hlt : t < l.length
    · have t1 : (t : Int) < (l.length : Int) := by omega
      have t0 : (0 : Int) ≤ (t : Int) := by omega
      obtain ⟨y, hy⟩ : ∃ y, l[t]? = some y := ⟨_, List.getElem?_eq_getElem hlt⟩
      obtain ⟨e, he, rfl, hd⟩ := HM.out _ (List.mem_of_getElem? hy)
      have hed : e.d = true := by simpa using hd
      have HED := Lib.hid hed
      have hgone := gone_nodup (p := mayQ E su) HN.out hy
      obtain ⟨gu, Cu', eu, cu⟩ := u2.get hy
      cases eu
      have hmay := mayQ_at hnk he su
      rw [hed, Bool.true_and] at hmay
      have hts := filter_take_succ (p := mayQ E su) hy
      obtain ⟨te, htel, hte⟩ := List.mem_iff_getElem.1 he
      have hcl : (cleanQ E ((l.take t).filter (mayQ E su)))[te]? = some e := by
        unfold cleanQ; rw [List.getElem?_map, List.getElem?_eq_getElem htel, hte]
        exact congrArg some (if_neg hgone)
      have hlen : (cleanQ E ((l.take t).filter (mayQ E su))).length ≤ 1000 := by unfold cleanQ; rw [List.length_map]; exact hl
      obtain ⟨gb, C', hv, cc⟩ := h2.at' hcl
      subst hv
      unfold qptr at cc
      have e3 : ∀ c, (wr.drewN c).cell? ⟨g, 3, none⟩ = some (.slice (some ⟨gb, 0, none⟩) (cleanQ E ((l.take t).filter (mayQ E su))).length C') := fun c => h2.hp.cell 3
      have cc' : ∀ c, (wr.drewN c).cell? ⟨gb, te, none⟩ = some (.pointer (some ⟨e.b, 0, none⟩)) := fun c => cc
      have cu' : ∀ c, (wr.drewN c).cell? ⟨gu, t, none⟩ = some (.int .i64 (e.pg : Int)) := fun c => cu
      have te0 : (0 : Int) ≤ (te : Int) := by omega
      have hclen : (cleanQ E ((l.take t).filter (mayQ E su))).length = E.length := by unfold cleanQ; rw [List.length_map]
      have te1 : (te : Int) < ((cleanQ E ((l.take t).filter (mayQ E su))).length : Int) := by rw [hclen]; omega
      have CF := Lib.hid (fun c : Nat => qfind_some (h2.reads (below_drew wr c)) hcl hlen)
      have H2 := Lib.hid h2; have D2 := Lib.hid d2; have U2 := Lib.hid u2; have M2 := Lib.hid m2
      have HCL := Lib.hid hcl; have HTS := Lib.hid hts; have HE := Lib.hid he; have HLN := Lib.hid hlen
      have hwl : (wrsQ E ((l.take t).filter (mayQ E su))).length ≤ 10000 := by
        unfold wrsQ; rw [List.length_map]
        exact Nat.le_trans (List.length_filter_le _ _) (by rw [List.length_take]; omega)
      clear h2 d2 u2 m2 hcl hts he hlen hte htel hgone hd hed cc cu hclen hy
      generalize hFL : (l.take t).filter (mayQ E su) = FL at *
      generalize (cleanQ E FL).length = cn at *
      go_wp2_with fail
      go_quiet ((go_at_call 36; exact Calls.quiet_of_same ((CF.out _).mono (fun e w' h => ⟨h.1, h.2.symm⟩))))
      have B3 := below_drew wr nq
      have H3 := Lib.hid (H2.out.reads B3); have D3 := Lib.hid (D2.out.reads B3); have U3 := Lib.hid (show OInts _ _ _ _ _ from Row.reads U2.out B3)
      have M3 := Lib.hid (M2.out.trans (Moves.of (.inl rfl) (Stp.ofBelow B3 o2 j)))
      clear e3 cc' cu' CF H2 D2 U2 M2 B3
      generalize wr.drewN nq = W3 at *
      have CM := qmay H3.out (List.mem_of_getElem? HCL.out)
      rw [HED.out, Bool.true_and] at CM
      by_cases hla : e.la ≤ su
      · rw [decide_eq_true hla] at hmay CM
        have HCM := Lib.hid CM
        have CWr := Lib.hid (fun c : Nat => qwrite (H3.out.reads (below_drew W3 c)) (D3.out.reads (below_drew W3 c)) hqj (List.mem_of_getElem? HCL.out) (HP.out e HE.out) (HS.out e HE.out) (by rw [List.length_append]; omega))
        have hxs : (l.take (t + 1)).filter (mayQ E su) = FL ++ [(e.pg : Int)] := by rw [HTS.out, hmay]; rfl
        have HXS := Lib.hid hxs
        clear hmay CM hla hxs
        go_wp2_with fail
        refine HCM.out.mono ?_; rintro y W5 ⟨rfl, nq5, rfl⟩
        go_wp2_with fail
        refine (CWr.out nq5).mono ?_; rintro y W6 ⟨rfl, o6, Q6, D6, M6, _⟩
        rw [cleanQ_snoc] at Q6
        rw [List.append_assoc, ← wrsQ_snoc hnk HE.out, ← HXS.out] at D6
        rw [← HXS.out] at Q6
        have U6 := Row.moves (Row.reads U3.out (below_drew W3 nq5)) M6 HZ.out
        have HQ6 := Lib.hid Q6; have HD6 := Lib.hid D6; have HU6 := Lib.hid U6
        have HM6 := Lib.hid ((M3.out.trans (Moves.of (.inl rfl) (Stp.ofBelow (below_drew W3 nq5) o2 j))).trans M6)
        have hn1 : (((l.take (t + 1)).filter (mayQ E su)).length : Int) = (FL.length : Int) + 1 := by rw [HXS.out, List.length_append]; simp
        have hFb : FL.length ≤ 10000 := by rw [← hFL]; exact Nat.le_trans (List.length_filter_le _ _) (by rw [List.length_take]; omega)
        have HN1 := Lib.hid hn1
        clear Q6 D6 U6 M6 CWr HCM H3 D3 U3 M3 hn1
        go_wp2_with fail
        exact ⟨⟨t + 1, o6, by omega, by go_num, by rw [HN1.out], HQ6.out, HD6.out, HU6.out, HM6.out⟩, by simp [intOf]; omega⟩
      · rw [decide_eq_false hla] at hmay CM
        have HCM := Lib.hid CM
        have hxs : (l.take (t + 1)).filter (mayQ E su) = FL := by rw [HTS.out, hmay]; simp
        have HXS := Lib.hid hxs
        clear hmay CM hla hxs
        go_wp2_with fail
        refine HCM.out.mono ?_; rintro y W5 ⟨rfl, nq5, rfl⟩
        have B5 := below_drew W3 nq5
        have HQ6 := Lib.hid (H3.out.reads B5); have HD6 := Lib.hid (D3.out.reads B5); have HU6 := Lib.hid (Row.reads U3.out B5)
        have HM6 := Lib.hid (M3.out.trans (Moves.of (.inl rfl) (Stp.ofBelow B5 o2 j)))
        clear B5 HCM H3 D3 U3 M3
        go_wp2_with fail
        exact ⟨⟨t + 1, o2, by omega, by go_num, by rw [HXS.out], by rw [HXS.out]; exact HQ6.out, by rw [HXS.out]; exact HD6.out, HU6.out, HM6.out⟩, by simp [intOf]; omega⟩
    · obtain rfl : t = l.length := by omega
      rw [List.take_length] at *
      have H2 := Lib.hid h2; have D2 := Lib.hid d2; have M2 := Lib.hid m2
      clear h2 d2 u2 m2
      go_wp2_with fail
      go_ret
      exact ⟨rfl, o2, H2.out, D2.out, M2.out⟩
end
end Go.Proofs.YthjlbfijfpfohaaGreat
