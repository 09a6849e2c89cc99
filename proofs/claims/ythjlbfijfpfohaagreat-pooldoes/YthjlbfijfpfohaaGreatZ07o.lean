/-
  The document's pool and the program's, plain: the same places in the same order.
-/
import Derived.Test.YthjlbfijfpfohaaGreatZ07n
namespace Go.Proofs.YthjlbfijfpfohaaGreat
open Go.RowKit Go.MapKept
/-- what of a place counts -/
def qC (e : Qn) : Nat × ByteArray × Nat × Bool × Int × Int := (e.pg, e.s, e.pins, e.d, e.la, if e.d then e.fi else 0)
def pC (a : Pl) : Nat × ByteArray × Nat × Bool × Int × Int := (a.page, a.body, a.pins, a.dirty, a.last, if a.dirty then a.first else 0)
theorem qc_eq {e : Qn} {a : Pl} (h : qC e = pC a) : e.pg = a.page ∧ e.s = a.body ∧ e.pins = a.pins ∧ e.d = a.dirty ∧ e.la = a.last ∧ (a.dirty = true → e.fi = a.first) := by
  simp only [qC, pC, Prod.mk.injEq] at h
  obtain ⟨h1, h2, h3, h4, h5, h6⟩ := h
  refine ⟨h1, h2, h3, h4, h5, fun hd => ?_⟩
  rw [h4, hd, if_pos rfl, if_pos rfl] at h6; exact h6
theorem eq_qc {e : Qn} {a : Pl} (h1 : e.pg = a.page) (h2 : e.s = a.body) (h3 : e.pins = a.pins) (h4 : e.d = a.dirty) (h5 : e.la = a.last) (h6 : a.dirty = true → e.fi = a.first) : qC e = pC a := by
  simp only [qC, pC, Prod.mk.injEq]
  refine ⟨h1, h2, h3, h4, h5, ?_⟩
  rw [h4]
  cases hd : a.dirty with
  | false => rfl
  | true => rw [if_pos rfl, if_pos rfl]; exact h6 hd
theorem map_pt : ∀ (E : List Qn) (L : List Pl), E.map qC = L.map pC → ∀ (F : Qn → Qn) (f : Pl → Pl), (∀ e a, e ∈ E → a ∈ L → qC e = pC a → qC (F e) = pC (f a)) → (E.map F).map qC = (L.map f).map pC
  | [], [], _, _, _, _ => rfl
  | [], _ :: _, h, _, _, _ => by simp at h
  | _ :: _, [], h, _, _, _ => by simp at h
  | e :: E, a :: L, h, F, f, hf => by
    simp only [List.map_cons, List.cons.injEq] at h ⊢
    exact ⟨hf e a List.mem_cons_self List.mem_cons_self h.1, map_pt E L h.2 F f (fun e a he ha => hf e a (List.mem_cons_of_mem _ he) (List.mem_cons_of_mem _ ha))⟩
section
variable {E : List Qn} {L : List Pl}
theorem same_len (h : E.map qC = L.map pC) : E.length = L.length := by have := congrArg List.length h; simpa using this
theorem same_at (h : E.map qC = L.map pC) {t : Nat} {e : Qn} (ht : E[t]? = some e) : ∃ a, L[t]? = some a ∧ qC e = pC a := by
  have h1 := congrArg (·[t]?) h
  simp only [List.getElem?_map, ht, Option.map_some] at h1
  cases ha : L[t]? with
  | none => rw [ha] at h1; cases h1
  | some a => rw [ha] at h1; exact ⟨a, rfl, Option.some.inj h1⟩
theorem same_at' (h : E.map qC = L.map pC) {t : Nat} {a : Pl} (ht : L[t]? = some a) : ∃ e, E[t]? = some e ∧ qC e = pC a := by
  have h1 := congrArg (·[t]?) h
  simp only [List.getElem?_map, ht, Option.map_some] at h1
  cases ha : E[t]? with
  | none => rw [ha] at h1; cases h1
  | some a => rw [ha] at h1; exact ⟨a, rfl, Option.some.inj h1⟩
theorem same_mem (h : E.map qC = L.map pC) {e : Qn} (he : e ∈ E) : ∃ a ∈ L, qC e = pC a := by
  obtain ⟨t, ht⟩ := List.getElem?_of_mem he
  obtain ⟨a, ha, hq⟩ := same_at h ht
  exact ⟨a, List.mem_of_getElem? ha, hq⟩
theorem same_mem' (h : E.map qC = L.map pC) {a : Pl} (ha : a ∈ L) : ∃ (t : Nat) (e : Qn), E[t]? = some e ∧ L[t]? = some a ∧ qC e = pC a := by
  obtain ⟨t, ht⟩ := List.getElem?_of_mem ha
  obtain ⟨e, he, hq⟩ := same_at' h ht
  exact ⟨t, e, he, ht, hq⟩
theorem same_none (h : E.map qC = L.map pC) {k : Int} (hf : ∀ a ∈ L, (a.page : Int) ≠ k) : ∀ e ∈ E, (e.pg : Int) ≠ k := fun e he => by
  obtain ⟨a, ha, hq⟩ := same_mem h he
  rw [(qc_eq hq).1]; exact hf a ha
theorem same_upd (h : E.map qC = L.map pC) (k : Nat) (F : Qn → Qn) (f : Pl → Pl) (hf : ∀ e a, e ∈ E → a ∈ L → a.page = k → qC e = pC a → qC (F e) = pC (f a)) : (updQ E k F).map qC = (updP L (k : Int) f).map pC := by
  unfold updQ updP
  refine map_pt E L h _ _ (fun e a he ha hq => ?_)
  have hp := (qc_eq hq).1
  by_cases hk : a.page = k
  · rw [if_pos (hp.trans hk), if_pos (by omega)]; exact hf e a he ha hk hq
  · rw [if_neg (by rw [hp]; exact hk), if_neg (by omega)]; exact hq
theorem cutP_erase : ∀ {L : List Pl}, (L.map (·.page)).Nodup → ∀ {t : Nat} {a : Pl}, L[t]? = some a → cutP L (a.page : Int) = L.eraseIdx t
  | [], _, t, a, h => by simp at h
  | x :: l, hn, 0, a, h => by
    simp only [List.getElem?_cons_zero, Option.some.injEq] at h
    subst h
    simp only [List.map_cons, List.nodup_cons] at hn
    unfold cutP
    rw [List.filter_cons, if_neg (by simp), List.eraseIdx_zero, List.tail_cons]
    refine List.filter_eq_self.2 (fun y hy => ?_)
    have : y.page ≠ x.page := fun e => hn.1 (List.mem_map.2 ⟨y, hy, e⟩)
    simp; omega
  | x :: l, hn, t + 1, a, h => by
    simp only [List.getElem?_cons_succ] at h
    simp only [List.map_cons, List.nodup_cons] at hn
    have hne : x.page ≠ a.page := fun e => hn.1 (List.mem_map.2 ⟨a, List.mem_of_getElem? h, e.symm⟩)
    have ih := cutP_erase hn.2 h
    unfold cutP at ih ⊢
    rw [List.filter_cons, if_pos (by simp; omega), ih, List.eraseIdx_cons_succ]
theorem same_erase (h : E.map qC = L.map pC) (t : Nat) : (E.eraseIdx t).map qC = (L.eraseIdx t).map pC := by
  rw [Go.ChangeMaps.map_eraseIdx, h, ← Go.ChangeMaps.map_eraseIdx]
theorem same_goes {e : Qn} {a : Pl} (h : qC e = pC a) (su : Int) : e.goes su = a.goes su := by
  obtain ⟨_, _, h3, h4, h5, _⟩ := qc_eq h
  unfold Qn.goes Pl.goes Pl.may
  rw [h3, h4, h5]
theorem same_may (h : E.map qC = L.map pC) (hn : (L.map (·.page)).Nodup) (su x : Int) : mayQ E su x = mayI L su x := by
  unfold mayI
  cases hf : findP L x with
  | none =>
    have := same_none h (findP_none hf)
    simp only
    unfold mayQ
    rw [List.any_eq_false]
    intro e he hh
    rw [Bool.and_eq_true] at hh
    exact this e he (of_decide_eq_true hh.1)
  | some a =>
    obtain ⟨ha, rfl⟩ := findP_some hf
    obtain ⟨t, e, he, _, hq⟩ := same_mem' h ha
    obtain ⟨h1, _, _, h4, h5, _⟩ := qc_eq hq
    have hnE : (E.map (·.pg)).Nodup := by
      have := congrArg (List.map (fun c : Nat × ByteArray × Nat × Bool × Int × Int => c.1)) h
      rw [List.map_map, List.map_map] at this
      have e2 : E.map (·.pg) = L.map (·.page) := this
      rw [e2]; exact hn
    rw [← h1, mayQ_at hnE (List.mem_of_getElem? he) su, h4, h5]
    rfl
theorem same_nk (h : E.map qC = L.map pC) : E.map (·.pg) = L.map (·.page) := by
  have := congrArg (List.map (fun c : Nat × ByteArray × Nat × Bool × Int × Int => c.1)) h
  rw [List.map_map, List.map_map] at this
  exact this
theorem same_in (h : E.map qC = L.map pC) (hn : (L.map (·.page)).Nodup) (dt : Bool) (k : Nat) : inQ E dt k = (L.any (fun a => decide (a.page = k)) && (!dt || isDirty L (k : Int))) := by
  cases hf : findP L (k : Int) with
  | none =>
    have h1 := findP_none hf
    have h2 := same_none h h1
    rw [inQ_none (fun e he y => h2 e he (by omega))]
    have : L.any (fun a => decide (a.page = k)) = false := by
      rw [List.any_eq_false]; intro a ha hh; have := h1 a ha; simp at hh; omega
    rw [this]; rfl
  | some a =>
    obtain ⟨ha, hk⟩ := findP_some hf
    obtain rfl : a.page = k := by omega
    obtain ⟨t, e, he, _, hq⟩ := same_mem' h ha
    obtain ⟨h1, _, _, h4, _, _⟩ := qc_eq hq
    have hnE : (E.map (·.pg)).Nodup := by rw [same_nk h]; exact hn
    have hin := inQ_some hnE (List.mem_of_getElem? he) dt
    rw [h1] at hin
    rw [hin, h4]
    have : L.any (fun b => decide (b.page = a.page)) = true := List.any_eq_true.2 ⟨a, ha, by simp⟩
    rw [this, Bool.true_and]
    unfold isDirty
    rw [hf]
/-- the pages, rising -/
theorem same_pages (h : E.map qC = L.map pC) (hn : (L.map (·.page)).Nodup) {N : Nat} (hp : ∀ a ∈ L, a.page < N) : pagesQ E false N = pagesI L := by
  have hnI : (L.map (fun a => (a.page : Int))).Nodup := by
    have e : L.map (fun a => (a.page : Int)) = (L.map (·.page)).map (fun k : Nat => (k : Int)) := by rw [List.map_map]; rfl
    rw [e]; exact List.pairwise_map.2 (hn.imp (fun hne e => hne (by omega)))
  have hperm : (pagesQ E false N).Perm (L.map (fun a => (a.page : Int))) := by
    refine (List.perm_ext_iff_of_nodup (pagesQ_nodup E false N) hnI).2 (fun x => ?_)
    constructor
    · intro hx
      obtain ⟨e, he, rfl, _⟩ := pagesQ_mem hx
      obtain ⟨a, ha, hq⟩ := same_mem h he
      exact List.mem_map.2 ⟨a, ha, by rw [(qc_eq hq).1]⟩
    · intro hx
      obtain ⟨a, ha, rfl⟩ := List.mem_map.1 hx
      obtain ⟨t, e, he, _, hq⟩ := same_mem' h ha
      refine List.mem_map.2 ⟨a.page, List.mem_filter.2 ⟨List.mem_range.2 (hp a ha), ?_⟩, rfl⟩
      rw [← (qc_eq hq).1, inQ_some (by rw [same_nk h]; exact hn) (List.mem_of_getElem? he)]; rfl
  have hs : (pagesQ E false N).mergeSort leI = pagesQ E false N := by
    apply List.mergeSort_of_pairwise
    unfold pagesQ
    refine List.pairwise_map.2 ((List.pairwise_lt_range.filter _).imp (fun hlt => ?_))
    simp only [leI, decide_eq_true_eq]; omega
  rw [← hs]
  unfold pagesI
  exact mergeSort_of_perm_i hperm
theorem same_dirty (h : E.map qC = L.map pC) (hn : (L.map (·.page)).Nodup) {N : Nat} (hp : ∀ a ∈ L, a.page < N) : pagesQ E true N = dirtyI L := by
  unfold dirtyI
  rw [← same_pages h hn hp]
  unfold pagesQ
  rw [List.filter_map, List.filter_filter]
  congr 1
  refine List.filter_congr (fun k _ => ?_)
  rw [same_in h hn true k, same_in h hn false k]
  simp only [Function.comp]
  cases L.any (fun a => decide (a.page = k)) <;> cases isDirty L (k : Int) <;> rfl
theorem same_cleanI (h : E.map qC = L.map pC) (hn : (L.map (·.page)).Nodup) {N : Nat} (hp : ∀ a ∈ L, a.page < N) (su : Int) : (pagesQ E true N).filter (mayQ E su) = cleanI L su := by
  unfold cleanI
  rw [same_dirty h hn hp]
  exact List.filter_congr (fun x _ => same_may h hn su x)
theorem same_clean (h : E.map qC = L.map pC) (xs : List Int) : (cleanQ E xs).map qC = (cleanP L xs).map pC := by
  unfold cleanQ cleanP
  refine map_pt E L h _ _ (fun e a _ _ hq => ?_)
  obtain ⟨h1, h2, h3, h4, h5, h6⟩ := qc_eq hq
  have hx' : (e.pg : Int) ∈ xs ↔ (a.page : Int) ∈ xs := by rw [h1]
  by_cases hx : (e.pg : Int) ∈ xs
  · rw [if_pos hx, if_pos (hx'.1 hx)]
    exact eq_qc h1 h2 h3 (by show false = decide (0 < (0 : Int)); rfl) h5 (fun hd => by cases hd)
  · rw [if_neg hx, if_neg (fun h => hx (hx'.2 h))]; exact hq
theorem same_wrs (h : E.map qC = L.map pC) (hn : (L.map (·.page)).Nodup) (xs : List Int) : wrsQ E xs = wrsOf L xs := by
  unfold wrsQ wrsOf
  congr 1; funext x
  cases hf : findP L x with
  | none =>
    have h2 := same_none h (findP_none hf)
    rw [List.find?_eq_none.2 (fun e he => by simpa using h2 e he)]
  | some a =>
    obtain ⟨ha, rfl⟩ := findP_some hf
    obtain ⟨t, e, he, _, hq⟩ := same_mem' h ha
    obtain ⟨h1, h2, _⟩ := qc_eq hq
    have := findQ_at (by rw [same_nk h]; exact hn) (List.mem_of_getElem? he)
    rw [h1] at this
    rw [this]
    show (e.pg, pageOf e.s) = (a.page, pageOf a.body)
    rw [h1, h2]
theorem leastQ_told (E : List Qn) : ((leastQ E).2 = false ∧ (leastQ E).1 = 0 ∧ ∀ e ∈ E, e.d = false) ∨ ((leastQ E).2 = true ∧ (∃ e ∈ E, e.d = true ∧ e.fi = (leastQ E).1) ∧ ∀ e ∈ E, e.d = true → (leastQ E).1 ≤ e.fi) := by
  generalize hk : E.length = k
  induction k generalizing E with
  | zero =>
    obtain rfl := List.eq_nil_of_length_eq_zero hk
    exact .inl ⟨rfl, rfl, by simp⟩
  | succ k ih =>
    have hl : k < E.length := by omega
    have ht := leastQ_take hl
    rw [show k + 1 = E.length by omega, List.take_length] at ht
    have ih := ih (E.take k) (by rw [List.length_take]; omega)
    have hmem : ∀ e, e ∈ E ↔ e ∈ E.take k ∨ e = E[k] := fun e => by
      have := List.mem_append (a := e) (s := E.take k) (t := [E[k]])
      rw [← List.take_succ_eq_append_getElem hl, show k + 1 = E.length by omega, List.take_length, List.mem_singleton] at this
      exact this
    generalize leastQ (E.take k) = r at *
    generalize E[k] = y at *
    rw [ht]
    obtain ⟨r1, r2⟩ := r
    unfold lstepQ
    dsimp only at ih ⊢
    cases hd : y.d with
    | false =>
      rw [Bool.false_and, if_neg (by decide)]
      rcases ih with ⟨i1, i2, i3⟩ | ⟨i1, ⟨e, he, i2, i3⟩, i4⟩
      · refine .inl ⟨i1, i2, fun e he => ?_⟩
        rcases (hmem e).1 he with he | rfl
        · exact i3 e he
        · exact hd
      · refine .inr ⟨i1, ⟨e, (hmem e).2 (.inl he), i2, i3⟩, fun e he hed => ?_⟩
        rcases (hmem e).1 he with he | rfl
        · exact i4 e he hed
        · rw [hd] at hed; cases hed
    | true =>
      rw [Bool.true_and]
      rcases ih with ⟨i1, i2, i3⟩ | ⟨i1, ⟨e, he, i2, i3⟩, i4⟩
      · subst i1
        rw [if_pos (by simp)]
        refine .inr ⟨rfl, ⟨y, (hmem y).2 (.inr rfl), hd, rfl⟩, fun e he hed => ?_⟩
        rcases (hmem e).1 he with he | rfl
        · rw [i3 e he] at hed; cases hed
        · exact Int.le_refl _
      · subst i1
        by_cases hf : y.fi < r1
        · rw [if_pos (by simp [hf])]
          refine .inr ⟨rfl, ⟨y, (hmem y).2 (.inr rfl), hd, rfl⟩, fun z hz hzd => ?_⟩
          rcases (hmem z).1 hz with hz | rfl
          · have := i4 z hz hzd; show y.fi ≤ z.fi; omega
          · exact Int.le_refl _
        · rw [if_neg (by simp [hf])]
          refine .inr ⟨rfl, ⟨e, (hmem e).2 (.inl he), i2, i3⟩, fun z hz hzd => ?_⟩
          rcases (hmem z).1 hz with hz | rfl
          · exact i4 z hz hzd
          · show r1 ≤ z.fi; omega
theorem same_least (h : E.map qC = L.map pC) {y : Int} (H : LeastOf L y) : (leastQ E).1 = y ∧ (leastQ E).2 = decide (0 < y) := by
  rcases leastQ_told E with ⟨i1, i2, i3⟩ | ⟨i1, ⟨e, he, i2, i3⟩, i4⟩
  · have hy : y = 0 := by
      rcases H.some with h0 | ⟨a, ha, hd, _⟩
      · exact h0
      · obtain ⟨t, e, he, _, hq⟩ := same_mem' h ha
        have := i3 e (List.mem_of_getElem? he)
        rw [(qc_eq hq).2.2.2.1, hd] at this; cases this
    rw [i1, i2, hy]; exact ⟨rfl, rfl⟩
  · obtain ⟨a, ha, hq⟩ := same_mem h he
    obtain ⟨_, _, _, h4, _, h6⟩ := qc_eq hq
    have hd : a.dirty = true := by rw [← h4]; exact i2
    obtain ⟨l1, l2⟩ := H.least a ha hd
    have hfi := h6 hd
    rcases H.some with h0 | ⟨b, hb, hbd, hby⟩
    · omega
    · obtain ⟨t, f, hf, _, hqf⟩ := same_mem' h hb
      obtain ⟨_, _, _, g4, _, g6⟩ := qc_eq hqf
      have := i4 f (List.mem_of_getElem? hf) (by rw [g4]; exact hbd)
      have g := g6 hbd
      rw [i1, decide_eq_true l1]
      exact ⟨by omega, rfl⟩
end
end Go.Proofs.YthjlbfijfpfohaaGreat
