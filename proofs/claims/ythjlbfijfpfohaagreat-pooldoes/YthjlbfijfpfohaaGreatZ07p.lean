/-
  The document's pool and its disk: one contract a call, in the same plain words as the program's.
-/
import Derived.Test.YthjlbfijfpfohaaGreatZ07o
namespace Go.Proofs.YthjlbfijfpfohaaGreat
open Go.RowKit Go.MapKept
structure QD (w : World) (o : Nat → Nat) (q x j g : Nat) (S : List ByteArray) (Ws : Wrs) (p : PoolP) (c : Nat) : Prop where
  D : IsR w o q x S Ws
  ex : ∃ v E, IsQ w o j g x p.n p.sure v E ∧ E.map qC = p.L.map pC
  I : PI S Ws p
  ne : q ≠ j
  cW : Ws.length ≤ 64 * c
  cp : ∀ a ∈ p.L, a.pins ≤ c
section
variable {w w' : World} {o o' : Nat → Nat} {q x j g c : Nat} {S : List ByteArray} {Ws : Wrs} {p : PoolP} {X : Nat → Prop}
theorem IsQ.moves {n : Nat} {su : Int} {v : Value} {E : List Qn} (h : IsQ w o j g x n su v E) (M : Moves X o w o' w') (hj : ¬ X j) : IsQ w' o' j g x n su v E :=
  M (fun o w => IsQ w o j g x n su v E) (fun _ _ _i _ _ hi s h => h.other s (fun e => hj (e ▸ hi))) h
theorem IsR.moves7 (h : IsR w o j x S Ws) (M : Moves X o w o' w') (hj : ¬ X j) : IsR w' o' j x S Ws :=
  M (fun o w => IsR w o j x S Ws) (fun _ _ _i _ _ hi s h => h.other s (fun e => hj (e ▸ hi))) h
theorem QD.moves (h : QD w o q x j g S Ws p c) (M : Moves X o w o' w') (h1 : ¬ X q) (h2 : ¬ X j) : QD w' o' q x j g S Ws p c := by
  obtain ⟨v, E, hE, hh⟩ := h.ex
  exact ⟨h.D.moves7 M h1, ⟨v, E, hE.moves M h2, hh⟩, h.I, h.ne, h.cW, h.cp⟩
theorem QD.reads (h : QD w o q x j g S Ws p c) (b : Below w.heap.size w w') : QD w' o q x j g S Ws p c := by
  obtain ⟨v, E, hE, hh⟩ := h.ex
  exact ⟨h.D.reads b, ⟨v, E, hE.reads b, hh⟩, h.I, h.ne, h.cW, h.cp⟩
theorem QD.later (h : QD w o q x j g S Ws p c) : QD w o q x j g S Ws p (c + 1) := ⟨h.D, h.ex, h.I, h.ne, by have := h.cW; omega, fun a ha => by have := h.cp a ha; omega⟩
theorem QD.len (h : QD w o q x j g S Ws p c) : p.L.length ≤ 64 := Nat.le_trans h.I.I.len h.I.I.n2
theorem QD.n2 (h : QD w o q x j g S Ws p c) : S.length ≤ 1024 := by obtain ⟨m, v, H⟩ := h.D; exact H.n2
theorem qd_pin (H : QD w o q x j g S Ws p c) (hc : c ≤ 400) (k : Int) :
    Calls Tryz.prog 25 #[.pointer (some ⟨g, 0, none⟩), .int .i64 k] w fun e w' => e = .returned (.tuple #[.string (pinS S Ws p k), .int .i64 (pinE S p k)]) ∧ ∃ o', QD w' o' q x j g S (pinW S Ws p k) (pinL S Ws p k) (c + 1) ∧ Moves (Two j q) o w o' w' := by
  obtain ⟨v, E, hE, hh⟩ := H.ex
  have hI := pi_pin H.I k
  have hlen := same_len hh
  have hl64 := H.len
  have hcW := H.cW
  have hS := H.n2
  cases pinWay H.I.I Ws k with
  | arg hx =>
    obtain ⟨e1, e2, e3, e4⟩ := pin_arg (p := p) (Ws := Ws) hx
    rw [e1, e2, e3, e4]
    refine (qpin_arg hE H.D k hx).mono ?_
    rintro e w' ⟨rfl, rfl⟩
    exact ⟨rfl, o, H.later, Moves.refl _ _ _⟩
  | held a ha hx hk =>
    subst hx
    obtain ⟨e1, e2, e3, e4⟩ := pin_held (S := S) (Ws := Ws) H.I.I.nd ha hk
    rw [e3, e4] at hI
    rw [e1, e2, e3, e4]
    obtain ⟨t, e, he, hta, hq⟩ := same_mem' hh ha
    obtain ⟨q1, q2, q3, q4, q5, q6⟩ := qc_eq hq
    have := H.cp _ ha
    have C := qpin_in hE H.D H.ne (by omega) he (by omega) (by omega)
    rw [q1, q2] at C
    refine C.mono ?_
    rintro y w' ⟨rfl, v', o', E', D', s'⟩
    refine ⟨rfl, o', ⟨D', ⟨v', _, E', ?_⟩, hI, H.ne, by omega, fun b hb => ?_⟩, Moves.of (.inl rfl) s'⟩
    · show _ = (cutP p.L a.page ++ [a.bump p.t]).map pC
      rw [cutP_erase H.I.I.nd hta, List.map_append, List.map_append, same_erase hh]
      congr 1
      simp only [List.map_cons, List.map_nil]
      rw [eq_qc (e := e.bump) (a := a.bump p.t) q1 q2 (by show e.pins + 1 = a.pins + 1; rw [q3]) q4 q5 q6]
    · rcases List.mem_append.1 hb with hb | hb
      · have := H.cp b (mem_cutP.1 hb).1; omega
      · obtain rfl := List.mem_singleton.1 hb
        show a.pins + 1 ≤ c + 1; omega
  | room k hx hk hno hn =>
    subst hx
    obtain ⟨e1, e2, e3, e4⟩ := pin_room (S := S) (Ws := Ws) hk hno hn
    rw [e3, e4] at hI
    rw [e1, e2, e3, e4]
    have hs : S[k]? = some S[k] := List.getElem?_eq_getElem hk
    have hno' : ∀ e ∈ E, e.pg ≠ k := fun e he y => by
      obtain ⟨a, ha, hq⟩ := same_mem hh he
      exact hno a ha (by rw [← (qc_eq hq).1]; exact y)
    rw [bodyAt_of (Ws := Ws) hs] at hI ⊢
    have hln := H.I.I.len
    refine (qpin_room hE H.D H.ne (by omega) (by omega) (by omega) hs hno' (H.I.err k _ hs)).mono ?_
    rintro y w' ⟨rfl, v', o', b, E', D', M'⟩
    refine ⟨rfl, o', ⟨D', ⟨v', _, E', ?_⟩, hI, H.ne, by omega, fun b hb => ?_⟩, M'⟩
    · show _ = (p.L ++ [_]).map pC
      rw [List.map_append, List.map_append, hh]
      congr 1
    · rcases List.mem_append.1 hb with hb | hb
      · have := H.cp b hb; omega
      · obtain rfl := List.mem_singleton.1 hb
        show 0 + 1 ≤ c + 1; omega
  | full k hx hk hno hn hg =>
    subst hx
    obtain ⟨e1, e2, e3, e4⟩ := pin_full (S := S) (Ws := Ws) hk hno hn hg
    rw [e1, e2, e3, e4]
    have hs : S[k]? = some S[k] := List.getElem?_eq_getElem hk
    have hno' : ∀ e ∈ E, e.pg ≠ k := fun e he y => by
      obtain ⟨a, ha, hq⟩ := same_mem hh he
      exact hno a ha (by rw [← (qc_eq hq).1]; exact y)
    refine (qpin_full hE H.D (by omega) (by omega) (by omega) hs hno' (H.I.err k _ hs) (fun e he => ?_)).mono ?_
    · obtain ⟨a, ha, hq⟩ := same_mem hh he
      rw [same_goes hq]; exact hg a ha
    · rintro y w' ⟨rfl, b⟩
      exact ⟨rfl, o, (H.reads b).later, Moves.of (.inl rfl) (Stp.ofBelow b o j)⟩
  | swap k hx hk hno hn a ha =>
    subst hx
    obtain ⟨e1, e2, e3, e4⟩ := pin_swap (S := S) (Ws := Ws) hk hno hn ha
    rw [e3, e4] at hI
    rw [e1, e2, e3, e4]
    have hs : S[k]? = some S[k] := List.getElem?_eq_getElem hk
    have hno' : ∀ e ∈ E, e.pg ≠ k := fun e he y => by
      obtain ⟨a, ha, hq⟩ := same_mem hh he
      exact hno a ha (by rw [← (qc_eq hq).1]; exact y)
    rw [bodyAt_of (Ws := Ws) hs] at hI ⊢
    obtain ⟨hga, t, htl, hta, hbef⟩ := List.find?_eq_some_iff_getElem.1 ha
    have hta' : p.L[t]? = some a := by rw [List.getElem?_eq_getElem htl, hta]
    obtain ⟨e, he, hq⟩ := same_at' hh hta'
    obtain ⟨q1, q2, q3, q4, q5, q6⟩ := qc_eq hq
    have ham := List.mem_of_getElem? hta'
    have hpa := H.I.I.pg a ham
    have hba := H.I.I.bs a ham
    have C := qpin_swap hE H.D H.ne (by omega) (by omega) (by omega) hs hno' (H.I.err k _ hs) he (by rw [same_goes hq]; exact hga) (fun i y hi hy => by
      obtain ⟨b, hb, hqb⟩ := same_at hh hy
      rw [same_goes hqb]
      have := hbef i hi
      obtain ⟨hil, hib⟩ := List.getElem?_eq_some_iff.1 hb
      rw [hib] at this
      simpa using this) (by omega) (by rw [q2]; omega)
    rw [q1, q2, q4] at C
    refine C.mono ?_
    rintro y w' ⟨rfl, v', o', b, E', D', M'⟩
    refine ⟨rfl, o', ⟨D', ⟨v', _, E', ?_⟩, hI, H.ne, ?_, fun b hb => ?_⟩, M'⟩
    · show _ = (cutP p.L a.page ++ [_]).map pC
      rw [cutP_erase H.I.I.nd hta', List.map_append, List.map_append, same_erase hh]
      congr 1
    · rw [List.length_append]; split <;> simp <;> omega
    · rcases List.mem_append.1 hb with hb | hb
      · have := H.cp b (mem_cutP.1 hb).1; omega
      · obtain rfl := List.mem_singleton.1 hb
        show 0 + 1 ≤ c + 1; omega
theorem qd_unpin (H : QD w o q x j g S Ws p c) (hc : c ≤ 400) (k : Int) :
    Calls Tryz.prog 27 #[.pointer (some ⟨g, 0, none⟩), .int .i64 k] w fun e w' => e = .returned (.int .i64 (unE p k)) ∧ ∃ o', QD w' o' q x j g S Ws (unL p k) (c + 1) ∧ Moves (Two j q) o w o' w' := by
  obtain ⟨v, E, hE, hh⟩ := H.ex
  have hI := pi_un H.I k
  have hlen := same_len hh
  have hl64 := H.len
  cases hf : findP p.L k with
  | none =>
    have e1 : unE p k = 7 := by unfold unE; rw [hf]
    rw [e1, unL_no (by rw [e1]; decide)]
    refine (qunpin_none hE k (by omega) (same_none hh (findP_none hf))).mono ?_
    rintro e w' ⟨rfl, rfl⟩
    exact ⟨rfl, o, H.later, Moves.refl _ _ _⟩
  | some a =>
    obtain ⟨ha, rfl⟩ := findP_some hf
    obtain ⟨t, e, he, hta, hq⟩ := same_mem' hh ha
    obtain ⟨q1, q2, q3, q4, q5, q6⟩ := qc_eq hq
    by_cases h0 : a.pins = 0
    · have e1 : unE p a.page = 9 := by unfold unE; rw [hf]; simp only; rw [if_pos h0]
      rw [e1, unL_no (by rw [e1]; decide)]
      have C := qunpin_state hE he (by omega) (by omega)
      rw [q1] at C
      refine C.mono ?_
      rintro e w' ⟨rfl, rfl⟩
      exact ⟨rfl, o, H.later, Moves.refl _ _ _⟩
    · have e1 : unE p a.page = 0 := by unfold unE; rw [hf]; simp only; rw [if_neg h0]
      have e2 : unL p a.page = { p with L := updP p.L a.page Pl.less } := if_pos e1
      rw [e2] at hI
      rw [e1, e2]
      have := H.cp _ ha
      have C := qunpin_ok hE he (by omega) (by omega) (by omega)
      rw [q1] at C
      refine C.mono ?_
      rintro y w' ⟨rfl, E', s'⟩
      refine ⟨rfl, o, ⟨H.D.other s' H.ne, ⟨v, _, E', ?_⟩, hI, H.ne, by have := H.cW; omega, fun b hb => ?_⟩, Moves.of (.inl rfl) s'⟩
      · refine same_upd hh a.page _ _ (fun y b _ _ _ hqb => ?_)
        obtain ⟨r1, r2, r3, r4, r5, r6⟩ := qc_eq hqb
        exact eq_qc r1 r2 (by show y.pins - 1 = b.pins - 1; rw [r3]) r4 r5 r6
      · rcases mem_updP hb with ⟨hb, _⟩ | ⟨b', hb', _, rfl⟩
        · have := H.cp b hb; omega
        · have := H.cp b' hb'; show b'.pins - 1 ≤ c + 1; omega
theorem qd_put (H : QD w o q x j g S Ws p c) (k : Int) (s : ByteArray) (l : Int) :
    Calls Tryz.prog 29 #[.pointer (some ⟨g, 0, none⟩), .int .i64 k, .string s, .int .i64 l] w fun e w' => e = .returned (.int .i64 (putE p k s l)) ∧ ∃ o', QD w' o' q x j g S Ws (putL p k s l) (c + 1) ∧ Moves (Two j q) o w o' w' := by
  obtain ⟨v, E, hE, hh⟩ := H.ex
  have hI := pi_put H.I k s l
  have hlen := same_len hh
  have hl64 := H.len
  cases hf : findP p.L k with
  | none =>
    have e1 : putE p k s l = 7 := by unfold putE; rw [hf]
    rw [e1, putL_no (by rw [e1]; decide)]
    refine (qput_none hE k (by omega) (same_none hh (findP_none hf)) s l).mono ?_
    rintro e w' ⟨rfl, rfl⟩
    exact ⟨rfl, o, H.later, Moves.refl _ _ _⟩
  | some a =>
    obtain ⟨ha, rfl⟩ := findP_some hf
    obtain ⟨t, e, he, hta, hq⟩ := same_mem' hh ha
    obtain ⟨q1, q2, q3, q4, q5, q6⟩ := qc_eq hq
    by_cases h0 : a.pins = 0
    · have e1 : putE p a.page s l = 9 := by unfold putE; rw [hf]; simp only; rw [if_pos h0]
      rw [e1, putL_no (by rw [e1]; decide)]
      have C := qput_state hE he (by omega) (by omega) s l
      rw [q1] at C
      refine C.mono ?_
      rintro e w' ⟨rfl, rfl⟩
      exact ⟨rfl, o, H.later, Moves.refl _ _ _⟩
    · by_cases hs : 252 < s.size
      · have e1 : putE p a.page s l = 2 := by unfold putE; rw [hf]; simp only; rw [if_neg h0, if_pos hs]
        rw [e1, putL_no (by rw [e1]; decide)]
        have C := qput_big hE he (by omega) (by omega) s l hs
        rw [q1] at C
        refine C.mono ?_
        rintro e w' ⟨rfl, rfl⟩
        exact ⟨rfl, o, H.later, Moves.refl _ _ _⟩
      · by_cases hl : l < 1 ∨ l < a.last
        · have e1 : putE p a.page s l = 1 := by unfold putE; rw [hf]; simp only; rw [if_neg h0, if_neg hs, if_pos hl]
          rw [e1, putL_no (by rw [e1]; decide)]
          have C := qput_arg hE he (by omega) (by omega) s l (by omega) (by rw [q5]; exact hl)
          rw [q1] at C
          refine C.mono ?_
          rintro e w' ⟨rfl, b⟩
          exact ⟨rfl, o, (H.reads b).later, Moves.of (.inl rfl) (Stp.ofBelow b o j)⟩
        · have e1 : putE p a.page s l = 0 := by unfold putE; rw [hf]; simp only; rw [if_neg h0, if_neg hs, if_neg hl]
          have e2 : putL p a.page s l = { p with L := updP p.L a.page (Pl.put s l) } := if_pos e1
          rw [e2] at hI
          rw [e1, e2]
          have C := qput_ok hE he (by omega) (by omega) s l (by omega) (by omega) (by rw [q5]; omega)
          rw [q1] at C
          refine C.mono ?_
          rintro y w' ⟨rfl, E', s'⟩
          refine ⟨rfl, o, ⟨H.D.other s' H.ne, ⟨v, _, E', ?_⟩, hI, H.ne, by have := H.cW; omega, fun b hb => ?_⟩, Moves.of (.inl rfl) s'⟩
          · refine same_upd hh a.page _ _ (fun y b _ hb hbk hqb => ?_)
            obtain ⟨r1, r2, r3, r4, r5, r6⟩ := qc_eq hqb
            have hb0 := H.I.I.lf b hb
            refine eq_qc r1 rfl r3 ?_ rfl (fun _ => ?_)
            · show true = decide (0 < (if b.dirty then b.first else l))
              cases hbd : b.dirty with
              | true => rw [if_pos rfl]; exact hbd.symm
              | false => rw [if_neg (by decide)]; exact (decide_eq_true (by omega)).symm
            · show (if y.d then y.fi else l) = (if b.dirty then b.first else l)
              rw [r4]
              cases hbd : b.dirty with
              | true => rw [if_pos rfl, if_pos rfl]; exact r6 hbd
              | false => rfl
          · rcases mem_updP hb with ⟨hb, _⟩ | ⟨b', hb', _, rfl⟩
            · have := H.cp b hb; omega
            · have := H.cp b' hb'; show b'.pins ≤ c + 1; omega
/-- r.Sure = max(r.Sure, l) -/
theorem qd_sure (H : QD w o q x j g S Ws p c) (l : Int) : w.cell? ⟨g, 2, none⟩ = some (.int .i64 p.sure) ∧ w.frozen? ⟨g, 2, none⟩ = false ∧ QD (w.setCell ⟨g, 2, none⟩ (.int .i64 (max p.sure l))) o q x j g S Ws (sureL p l) (c + 1) ∧ Stp o j w o (w.setCell ⟨g, 2, none⟩ (.int .i64 (max p.sure l))) := by
  obtain ⟨v, E, hE, hh⟩ := H.ex
  have s := Stp.setCell o j w g 2 (.int .i64 (max p.sure l)) hE.op
  refine ⟨hE.hp.cell 2, hE.hp.fz 2, ⟨H.D.other s H.ne, ⟨v, E, ⟨hE.hp.set 2 (.int .i64 (max p.sure l)), ⟨ownsRow_same hE.hv.row (fun gb hgb => Below.heap_setCell w ⟨g, 2, none⟩ _ gb (hE.rowNe hE.hp (by decide) gb hgb)), hE.hv.own⟩, fun e he => (hE.hb e he).setOther 2 _ (hE.ngb he), hE.op, hE.ob, hE.nb, hE.nk⟩, hh⟩, pi_sure H.I l, H.ne, by have := H.cW; omega, fun a ha => by have := H.cp a ha; omega⟩, s⟩
theorem qd_clean (H : QD w o q x j g S Ws p c) (hc : c ≤ 400) :
    Calls Tryz.prog 32 #[.pointer (some ⟨g, 0, none⟩)] w fun e w' => e = .returned (.int .i64 ((cleanI p.L p.sure).length : Int)) ∧ ∃ o', QD w' o' q x j g S (cleanW Ws p) (cleanL p) (c + 1) ∧ Moves (Two j q) o w o' w' := by
  obtain ⟨v, E, hE, hh⟩ := H.ex
  have hlen := same_len hh
  have hl64 := H.len
  have hcW := H.cW
  have hS := H.n2
  have hpg : ∀ e ∈ E, e.pg < S.length := fun e he => by
    obtain ⟨a, ha, hq⟩ := same_mem hh he
    rw [(qc_eq hq).1]; exact H.I.I.pg a ha
  have hbs : ∀ e ∈ E, e.s.size ≤ 252 := fun e he => by
    obtain ⟨a, ha, hq⟩ := same_mem hh he
    rw [(qc_eq hq).2.1]; have := H.I.I.bs a ha; omega
  have C := qclean hE H.D H.ne (by omega) hpg hbs (by omega) (by omega)
  rw [same_cleanI hh H.I.I.nd H.I.I.pg, same_wrs hh H.I.I.nd] at C
  refine C.mono ?_
  rintro y w' ⟨rfl, o', E', D', M'⟩
  refine ⟨rfl, o', ⟨D', ⟨v, _, E', same_clean hh _⟩, pi_clean H.I, H.ne, ?_, fun b hb => ?_⟩, M'⟩
  · have := cleanI_length p.L p.sure
    unfold cleanW
    rw [List.length_append, wrsOf_length]; omega
  · obtain ⟨a, ha, rfl⟩ := List.mem_map.1 hb
    have := H.cp a ha
    split
    · show a.pins ≤ c + 1; omega
    · omega
theorem qd_pins (H : QD w o q x j g S Ws p c) (k : Int) :
    Calls Tryz.prog 16 #[.pointer (some ⟨g, 0, none⟩), .int .i64 k] w fun e w' => e = .returned (.int .i64 (pinsN p k : Int)) ∧ w = w' := by
  obtain ⟨v, E, hE, hh⟩ := H.ex
  have hlen := same_len hh
  have hl64 := H.len
  unfold pinsN
  cases hf : findP p.L k with
  | none => exact qpins_none hE k (by omega) (same_none hh (findP_none hf))
  | some a =>
    obtain ⟨ha, rfl⟩ := findP_some hf
    obtain ⟨t, e, he, hta, hq⟩ := same_mem' hh ha
    have C := qpins_some hE he (by omega)
    rw [(qc_eq hq).1, (qc_eq hq).2.2.1] at C
    exact C
theorem qd_pages (H : QD w o q x j g S Ws p c) (r : Nat) (hjr : j ≠ r) (hqr : q ≠ r) (dt : Bool) :
    Calls Tryz.prog 13 #[.pointer (some ⟨g, 0, none⟩), .bool dt] w fun y w' => ∃ u, y = .returned u ∧ ∃ o', IsInts w' u (if dt then dirtyI p.L else pagesI p.L) ∧ Stp o r w o' w' := by
  obtain ⟨v, E, hE, hh⟩ := H.ex
  have hlen := same_len hh
  have hl64 := H.len
  have hS := H.n2
  refine (qpages hE H.D r hjr hqr dt (by omega) (by omega)).mono ?_
  rintro y w' ⟨u, o', rfl, h, s⟩
  refine ⟨u, rfl, o', ?_, s⟩
  cases dt with
  | true => rw [if_pos rfl, ← same_dirty hh H.I.I.nd H.I.I.pg]; exact h.ints
  | false => rw [if_neg (by decide), ← same_pages hh H.I.I.nd H.I.I.pg]; exact h.ints
theorem qd_least (H : QD w o q x j g S Ws p c) {y : Int} (hy : LeastOf p.L y) :
    Calls Tryz.prog 10 #[.pointer (some ⟨g, 0, none⟩)] w fun e w' => e = .returned (.tuple #[.int .i64 y, .bool (decide (0 < y))]) ∧ w = w' := by
  obtain ⟨v, E, hE, hh⟩ := H.ex
  have hlen := same_len hh
  have hl64 := H.len
  have C := qleast hE (by omega)
  obtain ⟨e1, e2⟩ := same_least hh hy
  rw [e1, e2] at C
  exact C
theorem qd_new {N : Nat} (D : IsR w o q x (List.replicate N blank) []) (j n : Nat) (hne : q ≠ j) (h1 : 1 ≤ n) (h2 : n ≤ 64) :
    Calls Tryz.prog 7 #[.pointer (some ⟨x, 0, none⟩), .int .i64 (n : Int)] w fun e w' => ∃ g, e = .returned (.tuple #[.pointer (some ⟨g, 0, none⟩), .int .i64 0]) ∧ ∃ o', QD w' o' q x j g (List.replicate N blank) [] ⟨n, [], 0, 0⟩ 0 ∧ Stp o j w o' w' ∧ Below w.heap.size w w' := by
  refine (qnew_ok w o j x n h1 h2).mono ?_
  rintro e w' ⟨g, rfl, v, o', E', s', b'⟩
  exact ⟨g, rfl, o', ⟨D.other s' hne, ⟨v, [], E', rfl⟩, pi_new N n h1 h2, hne, by simp, by simp⟩, s', b'⟩
end
end Go.Proofs.YthjlbfijfpfohaaGreat
