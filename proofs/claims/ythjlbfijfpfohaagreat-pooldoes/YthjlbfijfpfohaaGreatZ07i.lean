/-
  The document's pool: the contract of Pages.
-/
import Derived.Test.YthjlbfijfpfohaaGreatZ07h
namespace Go.Proofs.YthjlbfijfpfohaaGreat
open Go.RowKit Go.MapKept
/-- is a page in memory (or: is it dirty there)? -/
def inQ (E : List Qn) (dt : Bool) (k : Nat) : Bool := E.any (fun e => decide (e.pg = k) && (!dt || e.d))
/-- those below N -/
def pagesQ (E : List Qn) (dt : Bool) (N : Nat) : List Int := ((List.range N).filter (inQ E dt)).map (fun k : Nat => (k : Int))
theorem pagesQ_length (E : List Qn) (dt : Bool) (N : Nat) : (pagesQ E dt N).length ≤ N := by
  unfold pagesQ; rw [List.length_map]
  exact Nat.le_trans (List.length_filter_le _ _) (by rw [List.length_range]; exact Nat.le_refl _)
theorem pagesQ_yes {E : List Qn} {dt : Bool} {k : Nat} (h : inQ E dt k = true) : pagesQ E dt (k + 1) = pagesQ E dt k ++ [(k : Int)] := by
  unfold pagesQ; rw [List.range_succ, List.filter_append, List.map_append, List.filter_cons, if_pos h]; rfl
theorem pagesQ_no {E : List Qn} {dt : Bool} {k : Nat} (h : inQ E dt k = false) : pagesQ E dt (k + 1) = pagesQ E dt k := by
  unfold pagesQ; rw [List.range_succ, List.filter_append, List.map_append, List.filter_cons, if_neg (by rw [h]; decide)]; simp
section
variable {w w' : World} {o o' : Nat → Nat} {i j g x n q : Nat} {su : Int} {v : Value} {E : List Qn} {S : List ByteArray} {Ws : Wrs}
theorem inQ_none {dt : Bool} {k : Nat} (h : ∀ e ∈ E, e.pg ≠ k) : inQ E dt k = false := by
  unfold inQ; rw [List.any_eq_false]
  intro e he hh; simp at hh; exact h e he hh.1
theorem inQ_some (hn : (E.map (·.pg)).Nodup) {e : Qn} (he : e ∈ E) (dt : Bool) : inQ E dt e.pg = (!dt || e.d) := by
  unfold inQ
  rw [Bool.eq_iff_iff, List.any_eq_true]
  constructor
  · rintro ⟨y, hy, hh⟩
    rw [Bool.and_eq_true] at hh
    obtain rfl : y = e := map_inj_of_nodup hn hy he (of_decide_eq_true hh.1)
    exact hh.2
  · intro hh; exact ⟨e, he, by rw [hh]; simp⟩
set_option maxRecDepth 100000 in
set_option maxHeartbeats 2000000 in
theorem qpages (h : IsQ w o j g x n su v E) (D : IsR w o q x S Ws) (r : Nat) (hjr : j ≠ r) (hqr : q ≠ r) (dt : Bool) (hl : E.length ≤ 1000) (hSl : S.length ≤ 100000) :
    Calls Tryz.prog 13 #[.pointer (some ⟨g, 0, none⟩), .bool dt] w fun y w' => ∃ u o', y = .returned u ∧ OInts w' o' r u (pagesQ E dt S.length) ∧ Stp o r w o' w' := by
  obtain ⟨vl, vw, D⟩ := D
  obtain ⟨a, C, b, DD, rfl, rfl⟩ := D.slots
  obtain ⟨va, vC, rfl⟩ := h.slot
  have HH := Lib.hid h; have HD := Lib.hid D
  have s1 := stp_new o r w (.cells #[] 3)
  have r1 := Lib.hid (show OInts _ _ r _ (pagesQ E dt 0) from Row.made w o r 3 1)
  have S1 := Lib.hid s1
  clear h D s1
  go_enter Tryz.func13, Tryz.ntmps13
  go_wp2_with fail
  generalize gives o w.heap.size r = o1 at *
  go_loopw [5, 6] (fun u c wr => ∃ (k : Nat) (o' : Nat → Nat), k ≤ S.length ∧ c = .int .i64 (k : Int) ∧ OInts wr o' r u (pagesQ E dt k) ∧ Stp o r w o' wr) (fun _ c _ => S.length - (intOf c).toNat)
  case atStart => exact ⟨0, o1, by omega, rfl, r1.out, S1.out⟩
  case round =>
    obtain ⟨k, o2, hk, rfl, hU, hS⟩ := hrel
    have hN := HD.out.other hS hqr
    have h3 := HH.out.other hS hjr
    have c0 := hN.c0
    have e0 : wr.cell? ⟨g, 0, none⟩ = some (.pointer (some ⟨x, 0, none⟩)) := h3.hp.cell 0
    have e3 : wr.cell? ⟨g, 3, none⟩ = some (.slice va E.length vC) := h3.hp.cell 3
    clear r1 S1 hN HD HH
    by_cases hlt : k < S.length
    · have h0 : (k : Int) < (S.length : Int) := by omega
      have hpl := pagesQ_length E dt k
      have HS := Lib.hid hS
      by_cases hex : ∃ e ∈ E, e.pg = k
      · obtain ⟨e, he, rfl⟩ := hex
        obtain ⟨t, htl, hte⟩ := List.mem_iff_getElem.1 he
        have ht : E[t]? = some e := by rw [List.getElem?_eq_getElem htl, hte]
        have t0 : (0 : Int) ≤ (t : Int) := by omega
        have t1 : (t : Int) < (E.length : Int) := by omega
        have hin := inQ_some h3.nk he dt
        have CF := Lib.hid (qfind_some h3 ht hl)
        obtain ⟨gb, C', hv, cc⟩ := h3.at' ht
        cases hv
        unfold qptr at cc
        have b3 : wr.cell? ⟨e.b, 3, none⟩ = some (.bool e.d) := (h3.hb e he).cell 3
        by_cases hyes : (!dt || e.d) = true
        · rw [hyes] at hin
          have HX := Lib.hid (pagesQ_yes hin)
          obtain ⟨v1, w10, o10, hap1, hR1, hS1⟩ := OInts.append hU (e.pg : Int) (by omega)
          have HU := Lib.hid hR1; have HS10 := Lib.hid (hS.trans hS1); have HAP := Lib.hid hap1
          clear hU hS hap1 hR1 hS1 h3 ht hte he hin
          generalize e.d = ed at *
          generalize e.pg = kk at *
          generalize e.b = eb at *
          cases dt with
          | false =>
            go_wp2_with fail
            refine CF.out.mono ?_; rintro y W5 ⟨rfl, rfl⟩
            go_wp2_with (at_builtin; refine wpList_append_run rfl (.tmp 42) (.tmp 44) _ _ rfl _ _ rfl rfl _ _ HAP.out ?_)
            exact ⟨⟨kk + 1, o10, by omega, by go_num, by rw [HX.out]; exact HU.out, HS10.out⟩, by simp [intOf]; omega⟩
          | true =>
            obtain rfl : ed = true := by simpa using hyes
            go_wp2_with fail
            refine CF.out.mono ?_; rintro y W5 ⟨rfl, rfl⟩
            go_wp2_with (at_builtin; refine wpList_append_run rfl (.tmp 42) (.tmp 44) _ _ rfl _ _ rfl rfl _ _ HAP.out ?_)
            exact ⟨⟨kk + 1, o10, by omega, by go_num, by rw [HX.out]; exact HU.out, HS10.out⟩, by simp [intOf]; omega⟩
        · have hno : (!dt || e.d) = false := by simpa using hyes
          rw [hno] at hin
          have HX := Lib.hid (pagesQ_no hin)
          have HU := Lib.hid hU
          obtain ⟨hd1, hd2⟩ : dt = true ∧ e.d = false := by simpa using hno
          subst hd1
          rw [hd2] at b3
          clear hU hS h3 ht hte he hin hyes hno hd2
          generalize e.pg = kk at *
          generalize e.b = eb at *
          go_wp2_with fail
          refine CF.out.mono ?_; rintro y W5 ⟨rfl, rfl⟩
          go_wp2_with fail
          exact ⟨⟨kk + 1, o2, by omega, by go_num, by rw [HX.out]; exact HU.out, HS.out⟩, by simp [intOf]; omega⟩
      · have hne : ∀ e ∈ E, e.pg ≠ k := fun e he y => hex ⟨e, he, y⟩
        have HX := Lib.hid (pagesQ_no (inQ_none (dt := dt) hne))
        have HU := Lib.hid hU
        have CF := Lib.hid (qfind_none h3 (k : Int) hl (fun e he y => hne e he (by omega)))
        clear hU hS h3 hex hne
        go_wp2_with fail
        refine CF.out.mono ?_; rintro y W5 ⟨rfl, rfl⟩
        go_wp2_with fail
        exact ⟨⟨k + 1, o2, by omega, by go_num, by rw [HX.out]; exact HU.out, HS.out⟩, by simp [intOf]; omega⟩
    · obtain rfl : k = S.length := by omega
      have HU := Lib.hid hU; have HS := Lib.hid hS
      clear hU hS h3
      go_wp2_with fail
      go_ret
      exact ⟨_, o2, rfl, HU.out, HS.out⟩
end
end Go.Proofs.YthjlbfijfpfohaaGreat
