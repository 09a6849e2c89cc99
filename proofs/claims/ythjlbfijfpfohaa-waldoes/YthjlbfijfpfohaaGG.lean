/-
  A log on its disk: what holds of both together, plain. No program in this text.
  A log on its disk: what holds at every call, plain. No program in this text.
  A log on its disk: Sync, Turn, a crash; a new disk; plain. No program in this text.
  A log and its disk: one contract a call.
  The document's Same (budwoodref02): are two rows of texts alike?
  A log on its disk: ages that stand; plain. No program in this text.
  The law package's fixed(): calls whose answers the document fixes.
  The law package's fixed(), walked.
  What the walks of the stage's statements share.
  What the walks of the stage's statements share: a crash, and Open behind it; starts().
-/
import Derived.Test.YthjlbfijfpfohaaGF
import Derived.Test.YthjlbfijfpfohaaGB
import Derived.Test.YthjlbfijfpfohaaGA
namespace Go.Proofs.Ythjlbfijfpfohaa

/-- what was written in an age, and waits -/
def allW (m h A p : Nat) (ws : List Rcs) : Wrs := (laidAll ws).mapIdx fun j c => (h * m + (p + j), leafPg A (p + j) c.1 c.2)
def pendW (m h A p : Nat) (ws a : List Rcs) : Wrs := (allW m h A p ws).drop (laidAll a).length
theorem allW_length (m h A p : Nat) (ws : List Rcs) : (allW m h A p ws).length = (laidAll ws).length := by simp [allW]
theorem allW_write (m h A p : Nat) (ws : List Rcs) (w : Rcs) : allW m h A p (ws ++ [w]) = allW m h A p ws ++ layW m h A (p + (laidAll ws).length) (recsL w) := by
  unfold allW layW
  rw [laidAll_append, List.mapIdx_append]
  congr 1
  have : laidAll [w] = laid (recsL w) := by simp [laidAll]
  rw [this]
  congr 1
  funext i c
  have e : p + (i + (laidAll ws).length) = p + (laidAll ws).length + i := by omega
  rw [e]
theorem pendW_write (m h A p : Nat) (ws a : List Rcs) (w : Rcs) (hle : (laidAll a).length ≤ (laidAll ws).length) : pendW m h A p (ws ++ [w]) a = pendW m h A p ws a ++ layW m h A (p + (laidAll ws).length) (recsL w) := by
  unfold pendW
  rw [allW_write, List.drop_append_of_le_length (by rw [allW_length]; exact hle)]
theorem pendW_none (m h A p : Nat) (ws a : List Rcs) (hle : (laidAll ws).length ≤ (laidAll a).length) : pendW m h A p ws a = [] := by
  unfold pendW; exact List.drop_eq_nil_of_le (by rw [allW_length]; exact hle)
theorem pendW_mem {m h A p : Nat} {ws a : List Rcs} {x : Nat × ByteArray} (hx : x ∈ pendW m h A p ws a) : ∃ j c, (laidAll a).length ≤ j ∧ (laidAll ws)[j]? = some c ∧ x = (h * m + (p + j), leafPg A (p + j) c.1 c.2) := by
  unfold pendW at hx
  obtain ⟨i, hi⟩ := List.getElem?_of_mem hx
  rw [List.getElem?_drop] at hi
  unfold allW at hi
  rw [List.getElem?_mapIdx] at hi
  cases hc : (laidAll ws)[(laidAll a).length + i]? with
  | none => rw [hc] at hi; cases hi
  | some c =>
    rw [hc] at hi
    simp only [Option.map_some, Option.some.injEq] at hi
    exact ⟨_, c, by omega, hc, hi.symm⟩
theorem pendW_has {m h A p : Nat} {ws a : List Rcs} {j : Nat} {c : Bool × List UInt8} (hj : (laidAll a).length ≤ j) (hc : (laidAll ws)[j]? = some c) : (h * m + (p + j), leafPg A (p + j) c.1 c.2) ∈ pendW m h A p ws a := by
  unfold pendW
  have : (allW m h A p ws)[j]? = some (h * m + (p + j), leafPg A (p + j) c.1 c.2) := by unfold allW; rw [List.getElem?_mapIdx, hc]; rfl
  refine List.mem_of_getElem? (i := j - (laidAll a).length) ?_
  rw [List.getElem?_drop, show (laidAll a).length + (j - (laidAll a).length) = j by omega]; exact this
theorem rawAt_all : ∀ (Ws : Wrs) (k : Nat) (s R : ByteArray), (∀ x ∈ Ws, x.1 = k → x.2 = R) → (s = R ∨ ∃ x ∈ Ws, x.1 = k) → rawAt Ws k s = R
  | [], k, s, R, _, h => by
    rcases h with h | ⟨x, hx, _⟩
    · exact h
    · cases hx
  | y :: t, k, s, R, ha, h => by
    show rawAt t k (if y.1 = k then y.2 else s) = R
    by_cases hy : y.1 = k
    · rw [if_pos hy]
      exact rawAt_all t k _ R (fun x hx => ha x (List.mem_cons_of_mem _ hx)) (.inl (ha y (List.mem_cons_self) hy))
    · rw [if_neg hy]
      refine rawAt_all t k s R (fun x hx => ha x (List.mem_cons_of_mem _ hx)) ?_
      rcases h with h | ⟨x, hx, hk⟩
      · exact .inl h
      · rcases List.mem_cons.1 hx with e | e
        · subst e; exact absurd hk hy
        · exact .inr ⟨x, e, hk⟩
section
variable {S0 S : List ByteArray} {p h A m : Nat} {ws a : List Rcs}
theorem pend_sized (H : EraS S0 S p h A ws a) (hm : S0.length / 2 = m) : ∀ x ∈ pendW m h A p ws a, x.1 < S.length ∧ x.2.size = 256 := by
  intro x hx
  obtain ⟨j, c, h1, h2, rfl⟩ := pendW_mem hx
  have hj := (List.getElem?_eq_some_iff.1 h2).1
  have hf := H.fit
  have hsm := laidAll_small ws c (List.mem_of_getElem? h2)
  refine ⟨?_, leafPg_size A (p + j) c.1 c.2 hsm⟩
  rw [H.len, ← hm]
  exact half_in S0.length h (p + j) H.hh (by omega)
theorem pend_crashed (H : EraS S0 S p h A ws a) (hm : S0.length / 2 = m) (fs : List Int) : Crashed S0 S (crashOf S (pendW m h A p ws a) fs) p h A ws a := by
  refine ⟨crashOf_length _ _ _, fun k s hs => ?_⟩
  have hW := pend_sized H hm
  by_cases ht : texts (pendW m h A p ws a) k = []
  · refine ⟨s, ?_, .inl rfl⟩
    rw [← hs]; exact crN_same S _ fs k ht _ (Nat.le_refl _)
  · obtain ⟨r, hr, hv⟩ := crN_halved S (pendW m h A p ws a) fs k s hs (fun x hx => (hW x hx).2) _ (Nat.le_refl _)
    obtain ⟨t, tl, htl⟩ := List.exists_cons_of_ne_nil ht
    have hmem : (k, t) ∈ pendW m h A p ws a := texts_mem (by rw [htl]; exact List.mem_cons_self)
    obtain ⟨j, c, h1, h2, h3⟩ := pendW_mem hmem
    simp only [Prod.mk.injEq] at h3
    have hall : ∀ y ∈ s :: texts (pendW m h A p ws a) k, y ∈ [s, leafPg A (p + j) c.1 c.2] := by
      intro y hy
      rcases List.mem_cons.1 hy with e | e
      · subst e; exact List.mem_cons_self
      · obtain ⟨j', c', _, g2, g3⟩ := pendW_mem (texts_mem e)
        simp only [Prod.mk.injEq] at g3
        obtain rfl : j' = j := by omega
        rw [h2] at g2
        simp only [Option.some.injEq] at g2
        subst g2
        rw [g3.2]; exact List.mem_cons_of_mem _ (List.mem_cons_self)
    obtain ⟨x, hx, y, hy, e1, e2⟩ := hv
    exact ⟨r, hr, .inr ⟨j, c, h1, h2, by rw [hm]; exact h3.1, x, hall x hx, y, hall y hy, e1, e2⟩⟩
theorem pend_synced (H : EraS S0 S p h A ws a) (hm : S0.length / 2 = m) : EraS S0 (syncOf S (pendW m h A p ws a)) p h A ws ws := by
  have hW := pend_sized H hm
  refine H.synced (syncOf_length _ _) ?_ ?_
  · intro j c hj hc
    have hin := (hW _ (pendW_has (m := m) (h := h) (A := A) (p := p) hj hc)).1
    rw [hm]
    have hs : S[h * m + (p + j)]? = some S[h * m + (p + j)] := List.getElem?_eq_getElem hin
    rw [sync_raw S _ _ _ hs, rawAt_all _ _ _ (leafPg A (p + j) c.1 c.2) ?_ (.inr ⟨_, pendW_has hj hc, rfl⟩)]
    intro x hx hk
    obtain ⟨j', c', _, g2, rfl⟩ := pendW_mem hx
    simp only at hk
    obtain rfl : j' = j := by omega
    rw [hc] at g2
    simp only [Option.some.injEq] at g2
    rw [g2]
  · intro k hk
    cases hs : S[k]? with
    | none =>
      have : S.length ≤ k := by
        rcases Nat.lt_or_ge k S.length with h' | h'
        · rw [List.getElem?_eq_getElem h'] at hs; cases hs
        · exact h'
      exact List.getElem?_eq_none (by rw [syncOf_length]; exact this)
    | some s =>
      rw [sync_raw S _ _ _ hs, rawAt_none]
      intro x hx he
      obtain ⟨j, c, h1, h2, rfl⟩ := pendW_mem hx
      exact hk j h1 ((List.getElem?_eq_some_iff.1 h2).1) (by rw [hm]; exact he.symm)
end
end Go.Proofs.Ythjlbfijfpfohaa

namespace Go.Proofs.Ythjlbfijfpfohaa

structure LI (m : Nat) (S : List ByteArray) (Ws : Wrs) (L : LogP) (S0 : List ByteArray) (B : Lfs) (p : Nat) (ws a : List Rcs) (A0 : Nat) : Prop where
  E : EraS S0 S p L.h A0 ws a
  K : BaseS S0 B p L.h A0 a
  hm : S0.length / 2 = m
  n : L.n = p + (laidAll ws).length
  wr : (L.R.take L.wr).map bl = outH B ++ ws.flatten
  su : L.su = (outH B).length + a.flatten.length
  wl : L.wr ≤ L.R.length
  sz : ∀ s ∈ L.R, s.size ≤ 100000
  fit : L.n + needOf (waitL L) ≤ m
  non : L.tu = none → A0 = L.A ∧ Ws = pendW m L.h L.A p ws a
  som : ∀ s, L.tu = some s → ws = a ∧ L.su = L.R.length ∧ s.size ≤ 100000 ∧ EraS S S 0 (1 - L.h) L.A [[bl s]] [] ∧ Ws = pendW m (1 - L.h) L.A 0 [[bl s]] []
def LInv (m : Nat) (S : List ByteArray) (Ws : Wrs) (L : LogP) : Prop := ∃ S0 B p ws a A0, LI m S Ws L S0 B p ws a A0
theorem bl_small {R : List ByteArray} (h : ∀ s ∈ R, s.size ≤ 100000) : ∀ x ∈ R.map bl, x.length < 16777216 := by
  intro x hx
  obtain ⟨s, hs, rfl⟩ := List.mem_map.1 hx
  rw [bl_length]; have := h s hs; omega
theorem map_bt_bl (l : Rcs) : (l.map bt).map bl = l := by
  rw [List.map_map]
  have : (bl ∘ bt) = id := by funext x; exact bl_bt x
  rw [this, List.map_id]
theorem map_bl_bt (l : List ByteArray) : (l.map bl).map bt = l := by
  rw [List.map_map]
  have : (bt ∘ bl) = id := by funext x; exact bt_bl x
  rw [this, List.map_id]
theorem needOf_zero : needOf 0 = 0 := rfl
theorem laidAll_app_le (a b : List Rcs) : (laidAll a).length ≤ (laidAll (a ++ b)).length := by rw [laidAll_append, List.length_append]; omega
section
variable {m : Nat} {S : List ByteArray} {Ws : Wrs} {L : LogP}
theorem LInv.len (H : LInv m S Ws L) : S.length / 2 = m := by obtain ⟨S0, B, p, ws, a, A0, H⟩ := H; rw [H.E.len]; exact H.hm
theorem LInv.half (H : LInv m S Ws L) : L.h < 2 := by obtain ⟨S0, B, p, ws, a, A0, H⟩ := H; exact H.E.hh
theorem LInv.wl (H : LInv m S Ws L) : L.wr ≤ L.R.length := by obtain ⟨S0, B, p, ws, a, A0, H⟩ := H; exact H.wl
theorem LInv.sz (H : LInv m S Ws L) : ∀ s ∈ L.R, s.size ≤ 100000 := by obtain ⟨S0, B, p, ws, a, A0, H⟩ := H; exact H.sz
theorem LInv.fit (H : LInv m S Ws L) : L.n + needOf (waitL L) ≤ m := by obtain ⟨S0, B, p, ws, a, A0, H⟩ := H; exact H.fit
theorem LInv.su_le (H : LInv m S Ws L) : L.su ≤ L.wr := by
  obtain ⟨S0, B, p, ws, a, A0, H⟩ := H
  obtain ⟨b, hb⟩ := H.E.pre
  have h1 := congrArg List.length H.wr
  have h2 := H.su; have h3 := H.wl
  rw [List.length_map, List.length_take, List.length_append, hb, List.flatten_append, List.length_append] at h1
  omega
/-- all numbers that stand for ages are at most the log's -/
theorem LInv.wait0 (H : LInv m S Ws L) (ht : L.tu ≠ none) : waitL L = 0 := by
  have h1 := H.su_le; have h2 := H.wl
  obtain ⟨S0, B, p, ws, a, A0, H⟩ := H
  cases htu : L.tu with
  | none => exact absurd htu ht
  | some s =>
    have h3 := (H.som s htu).2.1
    unfold waitL
    rw [List.drop_eq_nil_of_le (by omega), recsB_nil]; rfl
theorem inv_open (S : List ByteArray) (hm : S.length / 2 = m) (hm2 : m ≤ 512) (hT : maxTag S + 1 < 281474976710656) (hsz : ∀ s ∈ (openS S).2.1, s.length ≤ 100000) : LInv m S [] (openedL S) := by
  obtain ⟨E, K, e⟩ := opened S (by omega) hT
  have hw : waitL (openedL S) = 0 := by
    unfold waitL openedL
    simp only
    rw [List.drop_eq_nil_of_le (by rw [List.length_map]; exact Nat.le_refl _), recsB_nil]; rfl
  refine ⟨S, _, _, [], [], _, ⟨E, K, hm, rfl, ?_, ?_, ?_, ?_, ?_, fun _ => ⟨rfl, rfl⟩, fun s hs => by cases hs⟩⟩
  · show (((openS S).2.1.map bt).take (openS S).2.1.length).map bl = _
    rw [List.take_of_length_le (by rw [List.length_map]; exact Nat.le_refl _), map_bt_bl]
    simp only [List.flatten_nil, List.append_nil]
    exact e.symm
  · show (openS S).2.1.length = _
    simp only [List.flatten_nil, List.length_nil, Nat.add_zero]
    rw [e]
  · show (openS S).2.1.length ≤ ((openS S).2.1.map bt).length
    rw [List.length_map]; exact Nat.le_refl _
  · intro s hs
    obtain ⟨x, hx, rfl⟩ := List.mem_map.1 hs
    rw [bt_size]; exact hsz x hx
  · rw [hw, needOf_zero]
    have := E.fit
    simp only [laidAll, List.flatMap_nil, List.length_nil, Nat.add_zero] at this
    show (openS S).2.2 + 0 ≤ m
    omega
theorem inv_append (H : LInv m S Ws L) (s : ByteArray) (hs : s.size ≤ 100000) (ht : L.tu = none) (hf : waitL L + 3 + s.size ≤ (m - L.n) * 234) : LInv m S Ws { L with R := L.R ++ [s] } := by
  obtain ⟨S0, B, p, ws, a, A0, H⟩ := H
  refine ⟨S0, B, p, ws, a, A0, ⟨H.E, H.K, H.hm, H.n, ?_, H.su, ?_, ?_, ?_, H.non, fun x hx => by rw [ht] at hx; cases hx⟩⟩
  · show ((L.R ++ [s]).take L.wr).map bl = _
    rw [List.take_append_of_le_length H.wl]; exact H.wr
  · show L.wr ≤ (L.R ++ [s]).length
    rw [List.length_append]; have := H.wl; omega
  · intro x hx
    rcases List.mem_append.1 hx with h | h
    · exact H.sz x h
    · simp only [List.mem_singleton] at h; subst h; exact hs
  · rw [waitL_app L s H.wl]
    have := H.fit
    show L.n + needOf (waitL L + 3 + s.size) ≤ m
    unfold needOf at this ⊢
    omega
theorem inv_write (H : LInv m S Ws L) (ht : L.tu = none) : LInv m S (Ws ++ layW m L.h L.A L.n (recsB (L.R.drop L.wr))) (wroteL L) := by
  obtain ⟨S0, B, p, ws, a, A0, H⟩ := H
  obtain ⟨hA, hW⟩ := H.non ht
  obtain ⟨b, hb⟩ := H.E.pre
  have hle : (laidAll a).length ≤ (laidAll ws).length := by rw [hb]; exact laidAll_app_le a b
  have hfit := H.fit
  have hn := H.n
  have hsm : ∀ x ∈ (L.R.drop L.wr).map bl, x.length < 16777216 := bl_small (fun s hs => H.sz s (List.mem_of_mem_drop hs))
  have hE := H.E.write ((L.R.drop L.wr).map bl) hsm (by
    rw [H.hm]
    have : needOf (recsL ((L.R.drop L.wr).map bl)).length = needOf (waitL L) := rfl
    omega)
  have hlen : (laidAll (ws ++ [(L.R.drop L.wr).map bl])).length = (laidAll ws).length + needOf (waitL L) := by
    rw [laidAll_append, List.length_append]
    simp only [laidAll, List.flatMap_cons, List.flatMap_nil, List.append_nil, laid_length]
    rfl
  refine ⟨S0, B, p, ws ++ [(L.R.drop L.wr).map bl], a, A0, ⟨hE, H.K, H.hm, ?_, ?_, H.su, Nat.le_refl _, H.sz, ?_, fun _ => ⟨hA, ?_⟩, fun x hx => by rw [show (wroteL L).tu = L.tu from rfl, ht] at hx; cases hx⟩⟩
  · show L.n + needOf (waitL L) = _
    rw [hlen]; omega
  · show (L.R.take L.R.length).map bl = _
    rw [List.take_length, List.flatten_append, ← List.append_assoc, ← H.wr]
    simp only [List.flatten_cons, List.flatten_nil, List.append_nil]
    rw [← List.map_append, List.take_append_drop]
  · rw [wroteL_wait, needOf_zero]
    show L.n + needOf (waitL L) + 0 ≤ m
    omega
  · show _ = pendW m L.h L.A p (ws ++ [(L.R.drop L.wr).map bl]) a
    rw [pendW_write _ _ _ _ _ _ _ hle, ← hW, ← hn]; rfl
end
end Go.Proofs.Ythjlbfijfpfohaa

namespace Go.Proofs.Ythjlbfijfpfohaa
section
variable {m : Nat} {S : List ByteArray} {Ws : Wrs} {L : LogP}
theorem laid_nil : laid [] = [] := by unfold laid; rw [chunks_nil]; rfl
theorem laidAll_flat_nil : ∀ b : List Rcs, b.flatten = [] → laidAll b = []
  | [], _ => rfl
  | x :: t, h => by
    rw [List.flatten_cons] at h
    obtain ⟨h1, h2⟩ := List.append_eq_nil_iff.1 h
    subst h1
    rw [show ([] : Rcs) :: t = [[]] ++ t from rfl, laidAll_append, laidAll_flat_nil t h2]
    simp [laidAll, recsL_nil, laid_nil]
theorem EraS.shrink {S0 S : List ByteArray} {p h A : Nat} {a b : List Rcs} (H : EraS S0 S p h A (a ++ b) a) (hb : b.flatten = []) : EraS S0 S p h A a a := by
  have e : laidAll (a ++ b) = laidAll a := by rw [laidAll_append, laidAll_flat_nil b hb, List.append_nil]
  refine ⟨H.hh, H.len, ⟨[], by simp⟩, H.pos, H.top, H.tags, fun s hs => H.small s (by rw [List.flatten_append]; exact List.mem_append_left _ hs), ?_, H.pages, ?_, H.rest⟩
  · have := H.fit; rw [e] at this; exact this
  · intro j c hj hc
    exact H.sync j c hj (by rw [e]; exact hc)
theorem inv_sync (H : LInv m S Ws L) : LInv m (syncOf S Ws) [] (syncL L) := by
  have hsl := H.su_le
  have hlen := H.len
  obtain ⟨S0, B, p, ws, a, A0, H⟩ := H
  cases htu : L.tu with
  | none =>
    obtain ⟨hA, hW⟩ := H.non htu
    have e : syncL L = { L with su := L.wr } := by unfold syncL; rw [htu]
    rw [e]
    obtain ⟨b, hb⟩ := H.E.pre
    have hE : EraS S0 (syncOf S Ws) p L.h A0 ws ws := by
      rw [hW]
      have := pend_synced H.E H.hm
      rw [hA] at this ⊢; exact this
    have hK : BaseS S0 B p L.h A0 ws := by rw [hb]; exact H.K.grow b
    refine ⟨S0, B, p, ws, ws, A0, ⟨hE, hK, H.hm, H.n, H.wr, ?_, H.wl, H.sz, H.fit, fun _ => ⟨hA, (pendW_none _ _ _ _ _ _ (Nat.le_refl _)).symm⟩, fun s hs => by rw [show ({ L with su := L.wr } : LogP).tu = L.tu from rfl, htu] at hs; cases hs⟩⟩
    show L.wr = _
    have h1 := congrArg List.length H.wr
    rw [List.length_map, List.length_take, List.length_append] at h1
    have := H.wl
    omega
  | some s =>
    obtain ⟨h1, h2, h3, T, hW⟩ := H.som s htu
    have e : syncL L = ⟨1 - L.h, L.A, needOf (recsB [s]).length, [s], 1, 1, none⟩ := by unfold syncL; rw [htu]
    rw [e]
    have hE : EraS S (syncOf S Ws) 0 (1 - L.h) L.A [[bl s]] [[bl s]] := by rw [hW]; exact pend_synced T hlen
    have hl1 : (laidAll [[bl s]]).length = needOf (recsB [s]).length := by rw [laidAll_one, laid_length]; rfl
    have hfit := T.fit
    have hn : 0 < S.length / 2 := by
      have : 0 < (laidAll [[bl s]]).length := by
        rw [hl1]; unfold needOf; rw [recsB_one, List.length_append, Lib.leBytes_length]; omega
      omega
    have hK := turned_base S (1 - L.h) L.A (bl s) T.hh T.pos (fun r hr => (T.tags r hr).1) hn
    have hout : outH (none :: (halfL S (1 - L.h)).tail) = [] := out_none hK.pgs
    refine ⟨S, _, 0, [[bl s]], [[bl s]], L.A, ⟨hE, hK, hlen, ?_, ?_, ?_, Nat.le_refl _, ?_, ?_, fun _ => ⟨rfl, (pendW_none _ _ _ _ _ _ (Nat.le_refl _)).symm⟩, fun x hx => by cases hx⟩⟩
    · show needOf (recsB [s]).length = _; rw [hl1]; omega
    · rw [hout]; rfl
    · rw [hout]; rfl
    · intro x hx; simp only [List.mem_singleton] at hx; subst hx; exact h3
    · have ew : waitL ⟨1 - L.h, L.A, needOf (recsB [s]).length, [s], 1, 1, none⟩ = 0 := by simp [waitL, recsB_nil]
      rw [ew, needOf_zero]
      show needOf (recsB [s]).length + 0 ≤ m
      rw [← hl1]; omega
theorem LInv.tags (H : LInv m S Ws L) : ∀ r ∈ S, tgA r ≤ L.A ∧ tgB r ≤ L.A := by
  obtain ⟨S0, B, p, ws, a, A0, H⟩ := H
  intro r hr
  cases htu : L.tu with
  | none =>
    obtain ⟨hA, _⟩ := H.non htu
    have := era_tags H.E crashed_same r hr
    rw [hA] at this; exact this
  | some s =>
    obtain ⟨_, _, _, T, _⟩ := H.som s htu
    have := T.tags r hr
    omega
theorem LInv.pos (H : LInv m S Ws L) : 0 < L.A := by
  obtain ⟨S0, B, p, ws, a, A0, H⟩ := H
  cases htu : L.tu with
  | none => rw [← (H.non htu).1]; exact H.E.pos
  | some s => exact (H.som s htu).2.2.2.1.pos
theorem inv_turn (H : LInv m S Ws L) (s : ByteArray) (h2 : s.size ≤ 100000) (ht : L.tu = none) (hsu : ¬ L.su < L.R.length) (hA : L.A + 1 < 281474976710656) (hm2 : m ≤ 512) (hf : 3 + s.size ≤ m * 234) : LInv m S (Ws ++ layW m (1 - L.h) (L.A + 1) 0 (recsB [s])) (turnL L s) := by
  have hsl := H.su_le
  have hlen := H.len
  have htg := H.tags
  have hh := H.half
  obtain ⟨S0, B, p, ws, a, A0, H⟩ := H
  obtain ⟨hA0, hW⟩ := H.non ht
  obtain ⟨b, hb⟩ := H.E.pre
  have hwl := H.wl
  have h1 := congrArg List.length H.wr
  have h3 := H.su
  rw [List.length_map, List.length_take, List.length_append, hb, List.flatten_append, List.length_append] at h1
  have hbf : b.flatten = [] := List.eq_nil_of_length_eq_zero (by omega)
  have hla : laidAll ws = laidAll a := by rw [hb, laidAll_append, laidAll_flat_nil b hbf, List.append_nil]
  have hE : EraS S0 S p L.h A0 a a := by
    have := H.E; rw [hb] at this; exact this.shrink hbf
  have hWn : Ws = [] := by rw [hW]; exact pendW_none _ _ _ _ _ _ (by rw [hla]; exact Nat.le_refl _)
  have hrl : (recL (bl s)).length = 3 + s.size := by rw [recL_length, bl_length]
  have hT := EraS.turn S (1 - L.h) (L.A + 1) (bl s) (by omega) (by omega) hA (fun r hr => by have := htg r hr; omega) (by rw [bl_length]; omega) (by rw [hrl, hlen]; unfold needOf; omega) (by omega)
  refine ⟨S0, B, p, a, a, A0, ⟨hE, H.K, H.hm, ?_, ?_, H.su, H.wl, H.sz, H.fit, fun hx => (by cases hx), fun x hx => ?_⟩⟩
  · show L.n = _; rw [H.n, hla]
  · show (L.R.take L.wr).map bl = _
    rw [H.wr, hb, List.flatten_append, hbf, List.append_nil]
  · cases hx
    refine ⟨rfl, ?_, h2, hT, ?_⟩
    · show L.su = L.R.length; omega
    · show _ = pendW m (1 - L.h) (L.A + 1) 0 [[bl s]] []
      rw [hWn, show ([[bl s]] : List Rcs) = [] ++ [[bl s]] from rfl, pendW_write _ _ _ _ _ _ _ (by simp [laidAll])]
      rw [pendW_none _ _ _ _ _ _ (Nat.le_refl _)]
      rfl
/-- what a crash leaves -/
theorem inv_crash (H : LInv m S Ws L) (fs : List Int) : maxTag (crashOf S Ws fs) ≤ L.A ∧
    ((∃ u, L.su ≤ u ∧ u ≤ L.wr ∧ (openS (crashOf S Ws fs)).1 = L.h ∧ (openS (crashOf S Ws fs)).2.1 = (L.R.take u).map bl) ∨ ∃ s, L.tu = some s ∧ (openS (crashOf S Ws fs)).1 = 1 - L.h ∧ (openS (crashOf S Ws fs)).2.1 = [bl s]) := by
  have hsl := H.su_le
  have hlen := H.len
  obtain ⟨S0, B, p, ws, a, A0, H⟩ := H
  have hwl := H.wl
  have h1 := congrArg List.length H.wr
  have h3 := H.su
  rw [List.length_map, List.length_take, List.length_append] at h1
  cases htu : L.tu with
  | none =>
    obtain ⟨hA, hW⟩ := H.non htu
    have hC : Crashed S0 S (crashOf S Ws fs) p L.h A0 ws a := by
      rw [hW]
      have := pend_crashed H.E H.hm fs
      rw [hA] at this ⊢; exact this
    have ht := era_tags H.E hC
    refine ⟨maxTag_le _ _ (fun r hr => by have := ht r hr; rw [hA] at this; exact this), .inl ?_⟩
    obtain ⟨t, t1, t2, e1, e2⟩ := crash_told H.E hC H.K
    refine ⟨(outH B).length + t, by omega, by omega, e1, ?_⟩
    rw [e2]
    have e3 : (L.R.take ((outH B).length + t)).map bl = ((L.R.take L.wr).map bl).take ((outH B).length + t) := by
      rw [← List.map_take, List.take_take, Nat.min_eq_left (by omega)]
    rw [e3, H.wr, List.take_append, List.take_of_length_le (Nat.le_add_right _ _), Nat.add_sub_cancel_left]
  | some s =>
    obtain ⟨q1, q2, q3, T, hW⟩ := H.som s htu
    have hC : Crashed S S (crashOf S Ws fs) 0 (1 - L.h) L.A [[bl s]] [] := by rw [hW]; exact pend_crashed T hlen fs
    have ht := era_tags T hC
    refine ⟨maxTag_le _ _ ht, ?_⟩
    subst q1
    rcases turn_told H.E H.K T hC with ⟨g1, g2⟩ | ⟨g1, g2⟩
    · exact .inr ⟨s, rfl, g1, g2⟩
    · refine .inl ⟨L.wr, hsl, Nat.le_refl _, g1, ?_⟩
      rw [g2, H.wr]
end
theorem blank_zero : ∃ c, blank.data.toList = List.replicate 252 0 ++ c := by
  refine ⟨Lib.leBytes 4 (crcOf (padOf ⟨#[]⟩ 252).data.toList), ?_⟩
  show (pageOf ⟨#[]⟩).data.toList = _
  rw [pageOf_list]; rfl
theorem tags_blank : tgA blank = 0 ∧ tgB blank = 0 := by
  obtain ⟨c, hc⟩ := blank_zero
  unfold tgA tgB tagA tagB
  rw [hc]
  constructor
  · rw [List.take_append_of_le_length (by rw [List.length_replicate]; omega), List.take_replicate]; rfl
  · rw [List.drop_append_of_le_length (by rw [List.length_replicate]; omega), List.drop_replicate, List.take_append_of_le_length (by rw [List.length_replicate]; omega), List.take_replicate]; rfl
theorem pgLeaf_blank (i : Nat) : pgLeaf blank i = none := by
  cases h : pgLeaf blank i with
  | none => rfl
  | some x =>
    have := pgLeaf_tags h
    rw [tags_blank.1] at this
    omega
theorem maxTag_new (n : Nat) : maxTag (List.replicate n blank) = 0 := by
  have := maxTag_le (List.replicate n blank) 0 (fun r hr => by rw [List.eq_of_mem_replicate hr, tags_blank.1, tags_blank.2]; omega)
  omega
theorem halfL_new (n h : Nat) (hh : h < 2) : ∀ x ∈ halfL (List.replicate n blank) h, x = none := by
  intro x hx
  unfold halfL at hx
  obtain ⟨i, hi, rfl⟩ := List.mem_map.1 hx
  rw [List.length_replicate] at hi ⊢
  have hi2 := List.mem_range.1 hi
  rw [List.getD_eq_getElem?_getD, List.getElem?_replicate, if_pos (half_in n h i hh hi2)]
  exact pgLeaf_blank i
theorem runS_nones : ∀ L : Lfs, (∀ x ∈ L, x = none) → runS scS0 L = scS0
  | [], _ => rfl
  | x :: t, h => by
    rw [h x List.mem_cons_self]
    exact runS_stopped _ _ _ rfl
theorem openS_new (n : Nat) : openS (List.replicate n blank) = (0, [], 0) := by
  have h0 := runS_nones _ (halfL_new n 0 (by omega))
  have h1 := runS_nones _ (halfL_new n 1 (by omega))
  unfold openS openH outH pgsH
  rw [h0, h1]
  rfl
theorem openedL_new (n : Nat) : openedL (List.replicate n blank) = ⟨0, 1, 0, [], 0, 0, none⟩ := by
  unfold openedL
  rw [maxTag_new, openS_new]; rfl
theorem inv_new (n m : Nat) (hm : n / 2 = m) (hm2 : m ≤ 512) : LInv m (List.replicate n blank) [] ⟨0, 1, 0, [], 0, 0, none⟩ := by
  rw [← openedL_new n]
  refine inv_open _ (by rw [List.length_replicate]; exact hm) hm2 (by rw [maxTag_new]; omega) (fun s hs => ?_)
  rw [openS_new] at hs; cases hs
end Go.Proofs.Ythjlbfijfpfohaa

namespace Go.Proofs.Ythjlbfijfpfohaa
open Go.RowKit

/-- a disk's owner, and a log's on it; c: how many calls there were -/
structure LD (w : World) (o : Nat → Nat) (q pd j g m : Nat) (S : List ByteArray) (Ws : Wrs) (L : LogP) (c : Nat) : Prop where
  D : IsD w o q pd S Ws
  G : IsL w o j g pd m L
  I : LInv m S Ws L
  ne : q ≠ j
  m2 : m ≤ 512
  cW : Ws.length ≤ 600 * c
  cR : L.R.length ≤ c
  cA : L.A ≤ c + 1
section
variable {w w' : World} {o o' : Nat → Nat} {q pd j g m : Nat} {S : List ByteArray} {Ws : Wrs} {L : LogP} {c : Nat} {X : Nat → Prop}
theorem LD.moves (h : LD w o q pd j g m S Ws L c) (M : Moves X o w o' w') (h1 : ¬ X q) (h2 : ¬ X j) : LD w' o' q pd j g m S Ws L c := ⟨h.D.moves M h1, h.G.moves M h2, h.I, h.ne, h.m2, h.cW, h.cR, h.cA⟩
theorem LD.reads (h : LD w o q pd j g m S Ws L c) (b : Below w.heap.size w w') : LD w' o q pd j g m S Ws L c := ⟨h.D.reads b, h.G.reads b, h.I, h.ne, h.m2, h.cW, h.cR, h.cA⟩
theorem LD.later (h : LD w o q pd j g m S Ws L c) : LD w o q pd j g m S Ws L (c + 1) := ⟨h.D, h.G, h.I, h.ne, h.m2, by have := h.cW; omega, by have := h.cR; omega, by have := h.cA; omega⟩
theorem LD.wait (h : LD w o q pd j g m S Ws L c) : waitL L ≤ 200000 := by
  have h1 := h.I.fit; have h2 := h.m2
  unfold needOf at h1; omega
theorem LD.n (h : LD w o q pd j g m S Ws L c) : L.n ≤ m := by have := h.I.fit; omega
/-- what Append answers, and leaves -/
def appE (m : Nat) (L : LogP) (s : ByteArray) : Int := if s.size < 1 ∨ 100000 < s.size then 1 else if L.tu ≠ none then 9 else if waitL L + 3 + s.size ≤ (m - L.n) * 234 then 0 else 6
def appL (m : Nat) (L : LogP) (s : ByteArray) : LogP := if appE m L s = 0 then { L with R := L.R ++ [s] } else L
def appK (m : Nat) (L : LogP) (s : ByteArray) : Int := if appE m L s = 0 then ((L.R.length + 1 : Nat) : Int) else 0
theorem ld_append (H : LD w o q pd j g m S Ws L c) (hc : c ≤ 100) (s : ByteArray) :
    Calls Try.prog 10 #[.pointer (some ⟨g, 0, none⟩), .string s] w fun e w' => e = .returned (.tuple #[.int .i64 (appK m L s), .int .i64 (appE m L s)]) ∧ ∃ o', LD w' o' q pd j g m S Ws (appL m L s) (c + 1) ∧ Moves (Duo6 j q) o w o' w' := by
  have hw := H.wait; have hn := H.n; have hm := H.m2; have hr := H.cR
  by_cases h1 : s.size < 1 ∨ 100000 < s.size
  · have e1 : appE m L s = 1 := by unfold appE; rw [if_pos h1]
    have e2 : appL m L s = L := by unfold appL; rw [e1, if_neg (by decide)]
    have e3 : appK m L s = 0 := by unfold appK; rw [e1, if_neg (by decide)]
    rw [e1, e2, e3]
    refine (wappend_arg s h1).mono ?_
    rintro e w' ⟨rfl, rfl⟩
    exact ⟨rfl, o, H.later, Moves.refl _ _ _⟩
  · by_cases h2 : L.tu = none
    · by_cases h3 : waitL L + 3 + s.size ≤ (m - L.n) * 234
      · have e1 : appE m L s = 0 := by unfold appE; rw [if_neg h1, if_neg (by simp [h2]), if_pos h3]
        have e2 : appL m L s = { L with R := L.R ++ [s] } := by unfold appL; rw [e1, if_pos rfl]
        have e3 : appK m L s = ((L.R.length + 1 : Nat) : Int) := by unfold appK; rw [e1, if_pos rfl]
        rw [e1, e2, e3]
        refine (wappend_ok H.G s (by omega) (by omega) h2 (by omega) hn (by omega) (by omega) H.I.wl h3).mono ?_
        rintro e w' ⟨rfl, o', h, s'⟩
        refine ⟨rfl, o', ⟨H.D.other s' H.ne, h, inv_append H.I s (by omega) h2 h3, H.ne, H.m2, by have := H.cW; omega, ?_, by have := H.cA; show L.A ≤ _; omega⟩, Moves.of (.inl rfl) s'⟩
        show (L.R ++ [s]).length ≤ c + 1
        rw [List.length_append]; simp only [List.length_cons, List.length_nil]; omega
      · have e1 : appE m L s = 6 := by unfold appE; rw [if_neg h1, if_neg (by simp [h2]), if_neg h3]
        have e2 : appL m L s = L := by unfold appL; rw [e1, if_neg (by decide)]
        have e3 : appK m L s = 0 := by unfold appK; rw [e1, if_neg (by decide)]
        rw [e1, e2, e3]
        refine (wappend_full H.G s (by omega) (by omega) h2 (by omega) hn (by omega) h3).mono ?_
        rintro e w' ⟨rfl, b⟩
        exact ⟨rfl, o, (H.reads b).later, Moves.of (.inl rfl) (Stp.ofBelow b o j)⟩
    · obtain ⟨t, ht⟩ : ∃ t, L.tu = some t := by
        cases h : L.tu with
        | none => exact absurd h h2
        | some t => exact ⟨t, rfl⟩
      have e1 : appE m L s = 9 := by unfold appE; rw [if_neg h1, if_pos h2]
      have e2 : appL m L s = L := by unfold appL; rw [e1, if_neg (by decide)]
      have e3 : appK m L s = 0 := by unfold appK; rw [e1, if_neg (by decide)]
      rw [e1, e2, e3]
      refine (wappend_state H.G s t (by omega) (by omega) ht).mono ?_
      rintro e w' ⟨rfl, rfl⟩
      exact ⟨rfl, o, H.later, Moves.refl _ _ _⟩
/-- what Write answers, and leaves -/
def wrE (L : LogP) : Int := if L.tu ≠ none then 9 else 0
def wrL (L : LogP) : LogP := if L.tu ≠ none then L else wroteL L
def wrW (m : Nat) (Ws : Wrs) (L : LogP) : Wrs := if L.tu ≠ none then Ws else Ws ++ layW m L.h L.A L.n (recsB (L.R.drop L.wr))
theorem ld_write (H : LD w o q pd j g m S Ws L c) (hc : c ≤ 100) :
    Calls Try.prog 12 #[.pointer (some ⟨g, 0, none⟩)] w fun e w' => e = .returned (.int .i64 (wrE L)) ∧ ∃ o', LD w' o' q pd j g m S (wrW m Ws L) (wrL L) (c + 1) ∧ Moves (Duo6 j q) o w o' w' := by
  have hw := H.wait; have hn := H.n; have hm := H.m2; have hA := H.cA; have hW := H.cW; have hf := H.I.fit
  unfold wrE wrL wrW
  by_cases h2 : L.tu = none
  · simp only [h2, ne_eq, not_true_eq_false, if_false]
    refine (l_write H.G H.D H.ne H.I.len h2 H.I.half (by omega) H.I.wl hf (by omega) (by omega)).mono ?_
    rintro e w' ⟨rfl, o', h, d, M⟩
    refine ⟨rfl, o', ⟨d, h, inv_write H.I h2, H.ne, H.m2, ?_, by have := H.cR; show L.R.length ≤ _; omega, by show L.A ≤ _; omega⟩, M⟩
    rw [List.length_append, layW_length]
    have : needOf (recsB (L.R.drop L.wr)).length = needOf (waitL L) := rfl
    omega
  · simp only [ne_eq, h2, not_false_eq_true, if_true]
    obtain ⟨t, ht⟩ : ∃ t, L.tu = some t := by
      cases h : L.tu with
      | none => exact absurd h h2
      | some t => exact ⟨t, rfl⟩
    refine (wwrite_state H.G t ht).mono ?_
    rintro e w' ⟨rfl, rfl⟩
    exact ⟨rfl, o, H.later, Moves.refl _ _ _⟩
theorem ld_sync (H : LD w o q pd j g m S Ws L c) (hc : c ≤ 100) :
    Calls Try.prog 14 #[.pointer (some ⟨g, 0, none⟩)] w fun e w' => e = .returned (.tuple #[]) ∧ ∃ o', LD w' o' q pd j g m (syncOf S Ws) [] (syncL L) (c + 1) ∧ Moves (Duo6 j q) o w o' w' := by
  have hW := H.cW
  refine (l_sync H.G H.D H.ne H.I.half (by omega) (fun h => H.I.wait0 h)).mono ?_
  rintro e w' ⟨rfl, o', h, d, M⟩
  refine ⟨rfl, o', ⟨d, h, inv_sync H.I, H.ne, H.m2, by simp, ?_, ?_⟩, M⟩
  · have := H.cR
    unfold syncL
    cases L.tu with
    | none => simp only; omega
    | some s => simp
  · have := H.cA
    unfold syncL
    cases L.tu with
    | none => simp only; omega
    | some s => simp only; omega
/-- what Turn answers, and leaves -/
def tuE (m : Nat) (L : LogP) (s : ByteArray) : Int := if s.size < 1 ∨ 100000 < s.size then 1 else if L.su < L.R.length ∨ L.tu ≠ none then 9 else if 3 + s.size ≤ m * 234 then 0 else 6
def tuL (m : Nat) (L : LogP) (s : ByteArray) : LogP := if tuE m L s = 0 then turnL L s else L
def tuW (m : Nat) (Ws : Wrs) (L : LogP) (s : ByteArray) : Wrs := if tuE m L s = 0 then Ws ++ layW m (1 - L.h) (L.A + 1) 0 (recsB [s]) else Ws
theorem ld_turn (H : LD w o q pd j g m S Ws L c) (hc : c ≤ 100) (s : ByteArray) :
    Calls Try.prog 16 #[.pointer (some ⟨g, 0, none⟩), .string s] w fun e w' => e = .returned (.int .i64 (tuE m L s)) ∧ ∃ o', LD w' o' q pd j g m S (tuW m Ws L s) (tuL m L s) (c + 1) ∧ Moves (Duo6 j q) o w o' w' := by
  have hw := H.wait; have hn := H.n; have hm := H.m2; have hA := H.cA; have hW := H.cW
  by_cases h1 : s.size < 1 ∨ 100000 < s.size
  · have e1 : tuE m L s = 1 := by unfold tuE; rw [if_pos h1]
    have e2 : tuL m L s = L := by unfold tuL; rw [e1, if_neg (by decide)]
    have e3 : tuW m Ws L s = Ws := by unfold tuW; rw [e1, if_neg (by decide)]
    rw [e1, e2, e3]
    refine (wturn_arg s h1).mono ?_
    rintro e w' ⟨rfl, rfl⟩
    exact ⟨rfl, o, H.later, Moves.refl _ _ _⟩
  · by_cases h2 : L.su < L.R.length ∨ L.tu ≠ none
    · have e1 : tuE m L s = 9 := by unfold tuE; rw [if_neg h1, if_pos h2]
      have e2 : tuL m L s = L := by unfold tuL; rw [e1, if_neg (by decide)]
      have e3 : tuW m Ws L s = Ws := by unfold tuW; rw [e1, if_neg (by decide)]
      rw [e1, e2, e3]
      refine (wturn_state H.G s (by omega) (by omega) h2).mono ?_
      rintro e w' ⟨rfl, b⟩
      exact ⟨rfl, o, (H.reads b).later, Moves.of (.inl rfl) (Stp.ofBelow b o j)⟩
    · have h2a : ¬ L.su < L.R.length := fun h => h2 (.inl h)
      have h2b : L.tu = none := by
        cases h : L.tu with
        | none => rfl
        | some t => exact absurd (.inr (by rw [h]; simp)) h2
      by_cases h3 : 3 + s.size ≤ m * 234
      · have e1 : tuE m L s = 0 := by unfold tuE; rw [if_neg h1, if_neg h2, if_pos h3]
        have e2 : tuL m L s = turnL L s := by unfold tuL; rw [e1, if_pos rfl]
        have e3 : tuW m Ws L s = Ws ++ layW m (1 - L.h) (L.A + 1) 0 (recsB [s]) := by unfold tuW; rw [e1, if_pos rfl]
        rw [e1, e2, e3]
        refine (l_turn H.G H.D H.ne H.I.len s (by omega) (by omega) h2b h2a H.I.half (by omega) h3 (by omega)).mono ?_
        rintro e w' ⟨rfl, o', h, d, M⟩
        refine ⟨rfl, o', ⟨d, h, inv_turn H.I s (by omega) h2b h2a (by omega) H.m2 h3, H.ne, H.m2, ?_, by have := H.cR; show L.R.length ≤ _; omega, by show L.A + 1 ≤ _; omega⟩, M⟩
        rw [List.length_append, layW_length]
        have : needOf (recsB [s]).length ≤ 512 := by
          rw [recsB_one, List.length_append, Lib.leBytes_length, bl_length]; unfold needOf; omega
        omega
      · have e1 : tuE m L s = 6 := by unfold tuE; rw [if_neg h1, if_neg h2, if_neg h3]
        have e2 : tuL m L s = L := by unfold tuL; rw [e1, if_neg (by decide)]
        have e3 : tuW m Ws L s = Ws := by unfold tuW; rw [e1, if_neg (by decide)]
        rw [e1, e2, e3]
        refine (wturn_full H.G s (by omega) (by omega) h2b h2a (by omega) h3).mono ?_
        rintro e w' ⟨rfl, b⟩
        exact ⟨rfl, o, (H.reads b).later, Moves.of (.inl rfl) (Stp.ofBelow b o j)⟩
theorem ld_records (H : LD w o q pd j g m S Ws L c) (hc : c ≤ 100) :
    Calls Try.prog 24 #[.pointer (some ⟨g, 0, none⟩)] w fun e w' => ∃ v, e = .returned v ∧ NewS w w' v L.R ∧ Below w.heap.size w w' :=
  wrecords H.G (by have := H.cR; omega) (fun s hs => by have := H.I.sz s hs; omega)
theorem ld_room (H : LD w o q pd j g m S Ws L c) : Calls Try.prog 38 #[.pointer (some ⟨g, 0, none⟩)] w fun e w' => e = .returned (.int .i64 ((m - L.n : Nat) : Int)) ∧ Below w.heap.size w w' := wroom H.G (by have := H.m2; omega) H.n
end
/-- a log is opened on a disk -/
theorem ld_open {w : World} {o : Nat → Nat} {q pd m : Nat} {S : List ByteArray} (D : IsD w o q pd S []) (hm : S.length / 2 = m) (h4 : 4 ≤ S.length) (hT : maxTag S ≤ 1000) (hsz : ∀ s ∈ (openS S).2.1, s.length ≤ 100000) (j c : Nat) (hj : q ≠ j) (hcR : (openS S).2.1.length ≤ c) (hcA : maxTag S ≤ c) :
    Calls Try.prog 8 #[.pointer (some ⟨pd, 0, none⟩)] w fun e w' => ∃ g, e = .returned (.tuple #[.pointer (some ⟨g, 0, none⟩), .int .i64 0]) ∧ LD w' (gives o w.heap.size j) q pd j g m S [] (openedL S) c ∧ Stp o j w (gives o w.heap.size j) w' ∧ Below w.heap.size w w' := by
  have hn2 := D.n2
  have h := wopen_ok D h4 (by rw [rawsOf_nil]; omega) j
  rw [rawsOf_nil, hm] at h
  refine h.mono ?_
  rintro e w' ⟨g, rfl, hG, b⟩
  have s' := (Stp.ofBelow b o j).gives w.heap.size (Nat.le_refl _)
  refine ⟨g, rfl, ⟨D.other s' hj, hG, inv_open S hm (by omega) (by omega) hsz, hj, by omega, by simp, ?_, ?_⟩, s', b⟩
  · show ((openS S).2.1.map bt).length ≤ c
    rw [List.length_map]; exact hcR
  · show maxTag S + 1 ≤ c + 1; omega
end Go.Proofs.Ythjlbfijfpfohaa

namespace Go.Proofs.Ythjlbfijfpfohaa
open Go.RowKit
set_option maxRecDepth 100000 in
set_option maxHeartbeats 2000000 in
theorem rsame (w : World) (a b : Option Addr) (C D : Nat) (A B : List ByteArray) (HA : Strs w a A) (HB : Strs w b B) (hA : A.length ≤ 1000000) (_hB : B.length ≤ 1000000) (r : Bool) (hr : decide (A = B) = r) :
    Calls Try.prog 26 #[.slice a A.length C, .slice b B.length D] w fun e w' => e = .returned (.bool r) ∧ Below w.heap.size w w' := by
  by_cases hl : A.length = B.length
  · have HAh := Lib.hid HA; have HBh := Lib.hid HB
    have hl' : ((A.length : Int) == (B.length : Int)) = true := by simp [hl]
    obtain ⟨N, hN⟩ : ∃ N, A.length = N := ⟨_, rfl⟩
    have hN2 : B.length = N := by omega
    rw [hN, hN2]
    have HN := Lib.hid hN; have HN2 := Lib.hid hN2
    rw [hN] at hA
    have HR := Lib.hid hr
    clear HA HB hl hl' hN hN2 _hB hr
    go_enter Try.func26, Try.ntmps26
    go_wp2_with fail
    go_loopw [5] (fun i wr => ∃ k : Nat, k ≤ N ∧ i = .int .i64 (k : Int) ∧ A.take k = B.take k ∧ ∃ n, wr = w.drewN n) (fun i _ => N - (intOf i).toNat)
    case atStart => exact ⟨0, by omega, rfl, rfl, 0, rfl⟩
    case round =>
      obtain ⟨k, hk, rfl, hp, n0, rfl⟩ := hrel
      by_cases hlt : k < N
      · have hlt' : (k : Int) < (N : Int) := by omega
        have h0 : (0 : Int) ≤ (k : Int) := by omega
        obtain ⟨g1, f1, e1, c1, d1⟩ := HAh.out.at (k := k) (by rw [HN.out]; exact hlt)
        obtain ⟨g2, f2, e2, c2, d2⟩ := HBh.out.at (k := k) (by rw [HN2.out]; exact hlt)
        have tA := Lib.hid (show A.take (k + 1) = A.take k ++ [A.getD k ⟨#[]⟩] by rw [List.take_add_one, d1]; rfl)
        have tB := Lib.hid (show B.take (k + 1) = B.take k ++ [B.getD k ⟨#[]⟩] by rw [List.take_add_one, d2]; rfl)
        have dAB := Lib.hid (show A.getD k ⟨#[]⟩ ≠ B.getD k ⟨#[]⟩ → A ≠ B from fun h e => h (by rw [e]))
        generalize A.getD k ⟨#[]⟩ = x at *
        generalize B.getD k ⟨#[]⟩ = y at *
        subst e1 e2
        have q1 : (w.drewN n0).cell? ⟨g1, f1 + k, none⟩ = some (.string x) := c1
        have q2 : (w.drewN n0).cell? ⟨g2, f2 + k, none⟩ = some (.string y) := c2
        have HP := Lib.hid hp
        obtain ⟨W1, HW⟩ : ∃ w1, Hid (w.drewN n0 = w1) := ⟨_, rfl⟩
        rw [HW.out] at q1 q2 ⊢
        clear c1 c2 d1 d2 hp
        by_cases hxy : x = y
        · have hb : (x.toList == y.toList) = true := by rw [toList_beq]; simp [hxy]
          go_wp2_with fail
          go_quiet (fail)
          go_wp2_with fail
          refine ⟨⟨k + 1, by omega, by go_num, ?_, n0 + nq, ?_⟩, by simp [intOf]; omega⟩
          · rw [tA.out, tB.out, HP.out, hxy]
          · rw [← HW.out]; simp [World.drewN, Nat.add_assoc]
        · have hb : (x.toList == y.toList) = false := by rw [toList_beq]; simp [hxy]
          have hrf : r = false := by rw [← HR.out]; exact decide_eq_false (dAB.out hxy)
          subst hrf
          go_wp2_with fail
          go_quiet (fail)
          go_wp2_with fail
          go_ret
          refine ⟨rfl, ?_⟩
          rw [← HW.out]
          exact ⟨rfl, rfl, rfl, Nat.le_refl _, fun _ _ => rfl⟩
      · obtain rfl : k = N := by omega
        have hrt : r = true := by
          rw [← HR.out]
          refine decide_eq_true ?_
          have h1 : A.take k = A := List.take_of_length_le (by rw [HN.out]; exact Nat.le_refl _)
          have h2 : B.take k = B := List.take_of_length_le (by rw [HN2.out]; exact Nat.le_refl _)
          rw [h1, h2] at hp; exact hp
        subst hrt
        clear hp
        go_wp2_with fail
        go_ret
        exact ⟨rfl, below_drew _ _⟩
  · have hl' : ((A.length : Int) == (B.length : Int)) = false := by simp; omega
    have hrf : r = false := by rw [← hr]; exact decide_eq_false (fun e => hl (by rw [e]))
    subst hrf
    clear HA HB hl hr
    go_enter Try.func26, Try.ntmps26
    go_wp2_with fail
    go_ret
    exact ⟨rfl, Below.refl _ _⟩
theorem strs_one6 (w : World) (s : ByteArray) : Strs (w.alloc (.cells #[.string s] 9)) (some ⟨w.heap.size, 0, none⟩) [s] := by
  obtain ⟨a9, C9, e9, hs9⟩ := (rowS_one w (fun _ => 0) 1 s).slice
  cases e9; exact hs9
end Go.Proofs.Ythjlbfijfpfohaa

namespace Go.Proofs.Ythjlbfijfpfohaa
section
variable {m : Nat} {S : List ByteArray} {Ws : Wrs} {L : LogP}
theorem era_top {S0 S : List ByteArray} {p h A : Nat} {ws : List Rcs} (H : EraS S0 S p h A ws ws) (hne : ws.flatten ≠ []) : A ≤ maxTag S := by
  obtain ⟨c, hc, _⟩ := laid_some ws hne
  have hj := (List.getElem?_eq_some_iff.1 hc).1
  have h1 := H.sync 0 c hj hc
  have hmem := List.mem_of_getElem? h1
  have := (maxTag_ge S _ hmem).1
  rw [(leafPg_tags A (p + 0) c.1 c.2 (laidAll_small ws c (List.mem_of_getElem? hc)) H.top).1] at this
  exact this
theorem sync_top (H : LInv m S Ws L) (hs : L.su < L.wr) (ht : L.tu = none) : L.A ≤ maxTag (syncOf S Ws) := by
  obtain ⟨S0, B, p, ws, a, A0, H⟩ := H
  obtain ⟨hA, hW⟩ := H.non ht
  have hE : EraS S0 (syncOf S Ws) p L.h A0 ws ws := by
    rw [hW]
    have := pend_synced H.E H.hm
    rw [hA] at this ⊢; exact this
  rw [← hA]
  refine era_top hE (fun e => ?_)
  have h1 := congrArg List.length H.wr
  rw [List.length_map, List.length_take, List.length_append, e, List.length_nil] at h1
  have := H.su; have := H.wl
  omega
theorem turn_top (H : LInv m S Ws L) (s : ByteArray) (ht : L.tu = some s) : L.A ≤ maxTag (syncOf S Ws) := by
  have hlen := H.len
  obtain ⟨S0, B, p, ws, a, A0, H⟩ := H
  obtain ⟨h1, h2, h3, T, hW⟩ := H.som s ht
  have hE : EraS S (syncOf S Ws) 0 (1 - L.h) L.A [[bl s]] [[bl s]] := by rw [hW]; exact pend_synced T hlen
  exact era_top hE (by simp)
/-- what stands on a disk on which all was synced -/
theorem inv_told (H : LInv m S [] L) (ht : L.tu = none) (hs : L.su = L.wr) : maxTag S ≤ L.A ∧ (openS S).1 = L.h ∧ (openS S).2.1 = (L.R.take L.wr).map bl := by
  obtain ⟨h1, h2⟩ := inv_crash H []
  have e : crashOf S [] [] = S := rfl
  rw [e] at h1 h2
  rcases h2 with ⟨u, u1, u2, g1, g2⟩ | ⟨s, hs', _⟩
  · obtain rfl : u = L.wr := by omega
    exact ⟨h1, g1, g2⟩
  · rw [ht] at hs'; cases hs'
end
end Go.Proofs.Ythjlbfijfpfohaa

namespace Go.Proofs.Ythjlbfijfpfohaa
open Go.RowKit

abbrev sA : ByteArray := ⟨#[97]⟩
abbrev sB : ByteArray := ⟨#[98]⟩
abbrev sC : ByteArray := ⟨#[99]⟩
abbrev sT : ByteArray := ⟨#[116]⟩
abbrev sU : ByteArray := ⟨#[117]⟩
abbrev fL0 : LogP := ⟨0, 1, 0, [], 0, 0, none⟩
abbrev fL1 : LogP := ⟨0, 1, 0, [sA], 0, 0, none⟩
abbrev fL2 : LogP := ⟨0, 1, 1, [sA], 1, 0, none⟩
abbrev fL3 : LogP := ⟨0, 1, 1, [sA], 1, 1, none⟩
abbrev fL4 : LogP := ⟨0, 1, 1, [sA, sB], 1, 1, none⟩
abbrev fL5 : LogP := ⟨0, 1, 2, [sA, sB], 2, 1, none⟩
abbrev gL0 (n : Nat) : LogP := ⟨0, 2, n, [sA], 1, 1, none⟩
abbrev gL1 (n : Nat) : LogP := ⟨0, 3, n, [sA], 1, 1, some sT⟩
abbrev gL2 : LogP := ⟨1, 3, 1, [sT], 1, 1, none⟩
theorem f1e : appE 4 fL0 sA = 0 := by decide
theorem f1k : appK 4 fL0 sA = 1 := by decide
theorem f1l : appL 4 fL0 sA = fL1 := by unfold appL; rw [f1e]; rfl
theorem f2e : wrE fL1 = 0 := by decide
theorem f2l : wrL fL1 = fL2 := by unfold wrL; rw [if_neg (by decide)]; rfl
theorem f3l : syncL fL2 = fL3 := rfl
theorem f4e : appE 4 fL3 sB = 0 := by decide
theorem f4k : appK 4 fL3 sB = 2 := by decide
theorem f4l : appL 4 fL3 sB = fL4 := by unfold appL; rw [f4e]; rfl
theorem f5e : wrE fL4 = 0 := by decide
theorem f5l : wrL fL4 = fL5 := by unfold wrL; rw [if_neg (by decide)]; rfl
theorem f6e : appE 4 fL5 (zeros 470) = 6 := by
  unfold appE
  rw [zeros_size, if_neg (by decide), if_neg (by decide), if_neg (by decide)]
theorem f6k : appK 4 fL5 (zeros 470) = 0 := by unfold appK; rw [f6e]; rfl
theorem f6l : appL 4 fL5 (zeros 470) = fL5 := by unfold appL; rw [f6e]; rfl
theorem f7e : appE 4 fL5 ⟨#[]⟩ = 1 := by decide
theorem f7k : appK 4 fL5 ⟨#[]⟩ = 0 := by decide
theorem f7l : appL 4 fL5 ⟨#[]⟩ = fL5 := by unfold appL; rw [f7e]; rfl
theorem g1e (n : Nat) : tuE 4 (gL0 n) sT = 0 := by
  unfold tuE; rw [if_neg (by decide), if_neg (by show ¬ (1 < 1 ∨ none ≠ none); decide), if_pos (by decide)]
theorem g1l (n : Nat) : tuL 4 (gL0 n) sT = gL1 n := by unfold tuL; rw [g1e]; rfl
theorem g2e (n : Nat) : tuE 4 (gL1 n) sU = 9 := by
  unfold tuE; rw [if_neg (by decide), if_pos (.inr (by show some sT ≠ none; simp))]
theorem g2l (n : Nat) : tuL 4 (gL1 n) sU = gL1 n := by unfold tuL; rw [g2e]; rfl
theorem g2w (n : Nat) (Ws : Wrs) : tuW 4 Ws (gL1 n) sU = Ws := by unfold tuW; rw [g2e]; rfl
theorem g3e (n : Nat) : appE 4 (gL1 n) sC = 9 := by
  unfold appE; rw [if_neg (by decide), if_pos (by show some sT ≠ none; simp)]
theorem g3k (n : Nat) : appK 4 (gL1 n) sC = 0 := by unfold appK; rw [g3e]; rfl
theorem g3l (n : Nat) : appL 4 (gL1 n) sC = gL1 n := by unfold appL; rw [g3e]; rfl
theorem g4l (n : Nat) : syncL (gL1 n) = gL2 := rfl
theorem crash_nil (S : List ByteArray) (Ws : Wrs) : crashOf S Ws [] = S := crN_all_lost S Ws [] (fun j => by simp) _
/-- a disk on which all was synced, opened -/
theorem opened_told {m : Nat} {S : List ByteArray} {L : LogP} (H : LInv m S [] L) (ht : L.tu = none) (hs : L.su = L.wr) (ha : L.A ≤ maxTag S) : openedL S = ⟨L.h, L.A + 1, (openS S).2.2, L.R.take L.wr, L.wr, L.wr, none⟩ := by
  obtain ⟨h1, h2, h3⟩ := inv_told H ht hs
  have e : maxTag S = L.A := by omega
  have hl : (openS S).2.1.length = L.wr := by rw [h3, List.length_map, List.length_take]; have := H.wl; omega
  unfold openedL
  rw [e, h2, hl, h3, map_bl_bt]
/-- Open, of such a disk -/
theorem ld_open_told {w : World} {o : Nat → Nat} {q pd m c : Nat} {S : List ByteArray} {L : LogP} (D : IsD w o q pd S []) (I : LInv m S [] L) (h4 : 4 ≤ S.length) (ht : L.tu = none) (hs : L.su = L.wr) (ha : L.A ≤ maxTag S) (hc : c ≤ 100) (hcA : L.A ≤ c) (hcR : L.R.length ≤ c) (j : Nat) (hj : q ≠ j) :
    Calls Try.prog 8 #[.pointer (some ⟨pd, 0, none⟩)] w fun e w' => ∃ g n, e = .returned (.tuple #[.pointer (some ⟨g, 0, none⟩), .int .i64 0]) ∧ LD w' (gives o w.heap.size j) q pd j g m S [] ⟨L.h, L.A + 1, n, L.R.take L.wr, L.wr, L.wr, none⟩ c ∧ Stp o j w (gives o w.heap.size j) w' ∧ Below w.heap.size w w' := by
  obtain ⟨h1, h2, h3⟩ := inv_told I ht hs
  have hwl := I.wl
  refine (ld_open D I.len h4 (by omega) (fun s hx => ?_) j c hj ?_ (by omega)).mono ?_
  · rw [h3] at hx
    obtain ⟨y, hy, rfl⟩ := List.mem_map.1 hx
    rw [bl_length]; exact I.sz y (List.mem_of_mem_take hy)
  · rw [h3, List.length_map, List.length_take]; omega
  · rintro e w' ⟨g, rfl, h, s', b⟩
    rw [opened_told I ht hs ha] at h
    exact ⟨g, _, rfl, h, s', b⟩
end Go.Proofs.Ythjlbfijfpfohaa

namespace Go.Proofs.Ythjlbfijfpfohaa
open Go.RowKit
theorem duo_no {j q i : Nat} (h1 : i ≠ j) (h2 : i ≠ q) : ¬ Duo6 j q i := fun h => by
  rcases h with h | h
  · exact h1 h
  · exact h2 h
theorem same_one (w : World) (a : Option Addr) (C : Nat) (s t : ByteArray) (hs : Strs w a [s]) (r : Bool) (hr : decide ([s] = [t]) = r) :
    Calls Try.prog 26 #[.slice a 1 C, .slice (some ⟨w.heap.size, 0, none⟩) 1 1] (w.alloc (.cells #[.string t] 9)) fun e w' => e = .returned (.bool r) ∧ Below w.heap.size w w' := by
  have b : Below w.heap.size w (w.alloc (.cells #[.string t] 9)) := (Below.refl _ _).alloc (Nat.le_refl _) _
  refine (rsame _ a _ C 1 [s] [t] (hs.below b) (strs_one6 w t) (by simp) (by simp) r hr).mono ?_
  rintro e w' ⟨rfl, b2⟩
  exact ⟨rfl, b.trans (b2.mono b.size)⟩
set_option maxRecDepth 100000 in
set_option maxHeartbeats 8000000 in
theorem fixed6_true (w : World) : Calls Try.prog 23 #[] w fun e w' => e = .returned (.bool true) ∧ Below w.heap.size w w' := by
  have Z0 := Lib.hid (Since.start w)
  go_enter Try.func23, Try.ntmps23
  go_wp2_with fail
  refine (dnew_ok w (fun _ => 0) 1 8 (by omega) (by omega)).mono ?_; rintro e w1 ⟨p, o1, rfl, D1, S1⟩
  have Z1 := Lib.hid (Z0.out.step S1 (by decide)); have HD1 := Lib.hid D1
  clear D1 S1 Z0
  go_wp2_with fail
  refine (dnew_ok w1 o1 3 3 (by omega) (by omega)).mono ?_; rintro e w2 ⟨ps, o2, rfl, D2, S2⟩
  have Z2 := Lib.hid (Z1.out.step S2 (by decide)); have HD2 := Lib.hid (HD1.out.other S2 (by decide)); have HS2 := Lib.hid D2
  clear D2 S2 Z1 HD1
  go_wp2_with fail
  refine (wopen_arg HS2.out (by rw [List.length_replicate]; omega)).mono ?_; rintro e _ ⟨rfl, rfl⟩
  have C3 := ld_open (m := 4) HD2.out (by rw [List.length_replicate]) (by rw [List.length_replicate]; omega) (by rw [maxTag_new]; omega) (fun s hs => by rw [openS_new] at hs; cases hs) 2 0 (by decide) (by rw [openS_new]; exact Nat.le_refl _) (by rw [maxTag_new]; exact Nat.le_refl _)
  rw [openedL_new] at C3
  have HC3 := Lib.hid C3
  clear C3 HS2
  go_wp2_with fail
  refine HC3.out.mono ?_; rintro e w3 ⟨g, rfl, L3, s3, b3⟩
  have Z3 := Lib.hid (Z2.out.step s3 (by decide)); have HL3 := Lib.hid L3
  clear L3 s3 b3 Z2 HD2 HC3
  generalize gives o2 w2.heap.size 2 = o3 at *
  have C4 := ld_append HL3.out (by decide) sA
  rw [f1e, f1k, f1l] at C4
  have HC4 := Lib.hid C4
  clear C4
  go_wp2_with fail
  refine HC4.out.mono ?_; rintro e w4 ⟨rfl, o4, L4, M4⟩
  have Z4 := Lib.hid (Z3.out.moves M4 (duo_no (by decide) (by decide))); have HL4 := Lib.hid L4
  clear L4 M4 Z3 HL3 HC4
  have C5 := ld_write HL4.out (by decide)
  rw [f2e, f2l] at C5
  have HC5 := Lib.hid C5
  clear C5
  go_wp2_with fail
  refine HC5.out.mono ?_; rintro e w5 ⟨rfl, o5, L5, M5⟩
  have Z5 := Lib.hid (Z4.out.moves M5 (duo_no (by decide) (by decide))); have HL5 := Lib.hid L5
  clear L5 M5 Z4 HL4 HC5
  generalize wrW 4 [] fL1 = W5 at *
  have top6 := sync_top HL5.out.I (by decide) rfl
  have C6 := ld_sync HL5.out (by decide)
  rw [f3l] at C6
  have HC6 := Lib.hid C6
  clear C6
  go_wp2_with fail
  refine HC6.out.mono ?_; rintro e w6 ⟨rfl, o6, L6, M6⟩
  have Z6 := Lib.hid (Z5.out.moves M6 (duo_no (by decide) (by decide))); have HL6 := Lib.hid L6
  have sl6 : 4 ≤ (syncOf (List.replicate 8 blank) W5).length := by rw [syncOf_length, List.length_replicate]; omega
  have HT6 := Lib.hid (And.intro top6 sl6)
  clear L6 M6 Z5 HL5 HC6 top6 sl6
  generalize syncOf (List.replicate 8 blank) W5 = S6 at *
  have I6 := Lib.hid HL6.out.I
  have C7 := ld_append HL6.out (by decide) sB
  rw [f4e, f4k, f4l] at C7
  have HC7 := Lib.hid C7
  clear C7
  go_wp2_with fail
  refine HC7.out.mono ?_; rintro e w7 ⟨rfl, o7, L7, M7⟩
  have Z7 := Lib.hid (Z6.out.moves M7 (duo_no (by decide) (by decide))); have HL7 := Lib.hid L7
  clear L7 M7 Z6 HL6 HC7
  have C8 := ld_write HL7.out (by decide)
  rw [f5e, f5l] at C8
  have HC8 := Lib.hid C8
  clear C8
  go_wp2_with fail
  refine HC8.out.mono ?_; rintro e w8 ⟨rfl, o8, L8, M8⟩
  have Z8 := Lib.hid (Z7.out.moves M8 (duo_no (by decide) (by decide))); have HL8 := Lib.hid L8
  clear L8 M8 Z7 HL7 HC8
  generalize wrW 4 [] fL4 = W8 at *
  have hmk := mk_zeros (w := w8) 470 470 rfl (by omega)
  have hst := st_zeros (w := w8) 470
  have b9 : Below w8.heap.size w8 (w8.alloc (.cells (brow (List.replicate 470 0)) 5)) := (Below.refl _ _).alloc (Nat.le_refl _) _
  have C9 := ld_append (HL8.out.reads b9) (by decide) (zeros 470)
  rw [f6e, f6k, f6l] at C9
  have HC9 := Lib.hid C9; have Z8b := Lib.hid (Z8.out.reads b9)
  clear C9 b9 HL8 Z8
  generalize zeros 470 = ZZ at *
  generalize List.replicate 470 (0 : UInt8) = l1 at *
  go_wp2_with fail
  refine HC9.out.mono ?_; rintro e w9 ⟨rfl, o9, L9, M9⟩
  have Z9 := Lib.hid (Z8b.out.moves M9 (duo_no (by decide) (by decide))); have HL9 := Lib.hid L9
  clear L9 M9 Z8b HC9 hmk hst
  have C10 := ld_append HL9.out (by decide) ⟨#[]⟩
  rw [f7e, f7k, f7l] at C10
  have HC10 := Lib.hid C10
  clear C10
  go_wp2_with fail
  refine HC10.out.mono ?_; rintro e w10 ⟨rfl, o10, L10, M10⟩
  have Z10 := Lib.hid (Z9.out.moves M10 (duo_no (by decide) (by decide))); have HL10 := Lib.hid L10
  clear L10 M10 Z9 HL9 HC10
  have C11 := d_crash HL10.out.D (by have := HL10.out.cW; omega) none 0 0 [] (fints_nil _ _ _) (by omega)
  rw [crash_nil] at C11
  have HC11 := Lib.hid C11
  clear C11
  go_wp2_with fail
  refine HC11.out.mono ?_; rintro e w11 ⟨rfl, D11, s11⟩
  have Z11 := Lib.hid (Z10.out.step s11 (by decide)); have HD11 := Lib.hid D11; have HG11 := Lib.hid (HL10.out.G.other s11 (by decide))
  clear D11 s11 Z10 HL10 HC11
  have C12 := ld_open_told (c := 10) HD11.out I6.out HT6.out.2 rfl rfl HT6.out.1 (by omega) (by decide) (by decide) 4 (by decide)
  have HC12 := Lib.hid C12
  clear C12
  go_wp2_with fail
  refine HC12.out.mono ?_; rintro e w12 ⟨g2, n2, rfl, L12, s12, b12⟩
  have Z12 := Lib.hid (Z11.out.step s12 (by decide)); have HL12 := Lib.hid (show LD _ _ 1 p 4 g2 4 S6 [] (gL0 n2) 10 from L12); have HG12 := Lib.hid (HG11.out.other s12 (by decide))
  clear L12 s12 b12 Z11 HD11 HG11 HC12 I6
  generalize gives o10 w11.heap.size 4 = o12 at *
  have HC13 := Lib.hid (ld_records HL12.out (by decide))
  go_wp2_with fail
  refine HC13.out.mono ?_; rintro e w13 ⟨v13, rfl, N13, b13⟩
  have s13 := (Stp.ofBelow b13 o12 6).gives w12.heap.size (Nat.le_refl _)
  have R13 := N13.own o12 6
  have M13 := Moves.of (X := fun i => i = 6) rfl s13
  have Z13 := Lib.hid (Z12.out.step s13 (by decide)); have HL13 := Lib.hid (HL12.out.moves M13 (by decide) (by decide)); have HG13 := Lib.hid (HG12.out.other s13 (by decide))
  have HR13 := Lib.hid R13
  obtain ⟨a13, D13, rfl, _⟩ := R13.slice
  clear N13 b13 s13 M13 R13 Z12 HL12 HG12 HC13
  generalize gives o12 w12.heap.size 6 = o13 at *
  have C14 := ld_turn HL13.out (by decide) sT
  rw [g1e, g1l] at C14
  have HC14 := Lib.hid C14
  clear C14
  go_wp2_with fail
  refine HC14.out.mono ?_; rintro e w14 ⟨rfl, o14, L14, M14⟩
  have Z14 := Lib.hid (Z13.out.moves M14 (duo_no (by decide) (by decide))); have HL14 := Lib.hid L14; have HG14 := Lib.hid (HG13.out.moves M14 (duo_no (by decide) (by decide))); have HR14 := Lib.hid (Row.moves HR13.out M14 (duo_no (by decide) (by decide)))
  clear L14 M14 Z13 HL13 HG13 HR13 HC14
  generalize tuW 4 [] (gL0 n2) sT = W14 at *
  have C15 := ld_turn HL14.out (by decide) sU
  rw [g2e, g2l, g2w] at C15
  have HC15 := Lib.hid C15
  clear C15
  go_wp2_with fail
  refine HC15.out.mono ?_; rintro e w15 ⟨rfl, o15, L15, M15⟩
  have Z15 := Lib.hid (Z14.out.moves M15 (duo_no (by decide) (by decide))); have HL15 := Lib.hid L15; have HG15 := Lib.hid (HG14.out.moves M15 (duo_no (by decide) (by decide))); have HR15 := Lib.hid (Row.moves HR14.out M15 (duo_no (by decide) (by decide)))
  clear L15 M15 Z14 HL14 HG14 HR14 HC15
  have C16 := ld_append HL15.out (by decide) sC
  rw [g3e, g3k, g3l] at C16
  have HC16 := Lib.hid C16
  clear C16
  go_wp2_with fail
  refine HC16.out.mono ?_; rintro e w16 ⟨rfl, o16, L16, M16⟩
  have Z16 := Lib.hid (Z15.out.moves M16 (duo_no (by decide) (by decide))); have HL16 := Lib.hid L16; have HG16 := Lib.hid (HG15.out.moves M16 (duo_no (by decide) (by decide))); have HR16 := Lib.hid (Row.moves HR15.out M16 (duo_no (by decide) (by decide)))
  clear L16 M16 Z15 HL15 HG15 HR15 HC16
  go_wp2_with fail
  refine (wage HL16.out.G).mono ?_; rintro e _ ⟨rfl, rfl⟩
  have top17 := turn_top HL16.out.I sT rfl
  have C17 := ld_sync HL16.out (by decide)
  rw [g4l] at C17
  have HC17 := Lib.hid C17
  clear C17
  go_wp2_with fail
  refine HC17.out.mono ?_; rintro e w17 ⟨rfl, o17, L17, M17⟩
  have Z17 := Lib.hid (Z16.out.moves M17 (duo_no (by decide) (by decide))); have HL17 := Lib.hid L17; have HG17 := Lib.hid (HG16.out.moves M17 (duo_no (by decide) (by decide))); have HR17 := Lib.hid (Row.moves HR16.out M17 (duo_no (by decide) (by decide)))
  have sl17 : 4 ≤ (syncOf S6 W14).length := by rw [syncOf_length]; exact HT6.out.2
  have HT17 := Lib.hid (And.intro top17 sl17)
  clear L17 M17 Z16 HL16 HG16 HR16 HC17 top17 sl17
  generalize syncOf S6 W14 = S17 at *
  have C18 := ld_open_told (c := 20) HL17.out.D HL17.out.I HT17.out.2 rfl rfl HT17.out.1 (by omega) (by decide) (by decide) 5 (by decide)
  have HC18 := Lib.hid C18
  clear C18
  go_wp2_with fail
  refine HC18.out.mono ?_; rintro e w18 ⟨g3, n3, rfl, L18, s18, b18⟩
  have Z18 := Lib.hid (Z17.out.step s18 (by decide)); have HP18 := Lib.hid L18; have HG18 := Lib.hid (HG17.out.other s18 (by decide)); have HL18 := Lib.hid (HL17.out.G.other s18 (by decide)); have HR18 := Lib.hid (Row.other HR17.out s18 (by decide))
  clear L18 s18 b18 Z17 HL17 HG17 HR17 HC18
  generalize gives o17 w17.heap.size 5 = o18 at *
  have C19 : Strs w18 a13 [sA] := by
    obtain ⟨a9, D9, e9, hs9⟩ := RowS.slice HR18.out
    cases e9; exact hs9
  have HC19 := Lib.hid (same_one w18 a13 D13 sA sA C19 true (by decide))
  clear C19
  go_wp2_with fail
  refine HC19.out.mono ?_; rintro e w19 ⟨rfl, b19⟩
  have Z19 := Lib.hid (Z18.out.reads b19); have HP19 := Lib.hid (HP18.out.reads b19); have HG19 := Lib.hid (HG18.out.reads b19); have HL19 := Lib.hid (HL18.out.reads b19)
  clear b19 Z18 HP18 HG18 HL18 HR18 HC19
  go_wp2_with fail
  refine (wrecords HL19.out (by decide) (fun s hs => by simp only [List.mem_singleton] at hs; subst hs; decide)).mono ?_; rintro e w20 ⟨v20, rfl, N20, b20⟩
  obtain ⟨a20, D20, rfl, hs20⟩ := N20.slice
  have HC20 := Lib.hid (same_one w20 a20 D20 sT sT hs20 true (by decide))
  have Z20 := Lib.hid (Z19.out.reads b20); have HP20 := Lib.hid (HP19.out.reads b20); have HG20 := Lib.hid (HG19.out.reads b20); have HL20 := Lib.hid (HL19.out.reads b20)
  clear N20 b20 hs20 Z19 HP19 HG19 HL19
  go_wp2_with fail
  refine HC20.out.mono ?_; rintro e w21 ⟨rfl, b21⟩
  have Z21 := Lib.hid (Z20.out.reads b21); have HP21 := Lib.hid (HP20.out.reads b21); have HG21 := Lib.hid (HG20.out.reads b21); have HL21 := Lib.hid (HL20.out.reads b21)
  clear b21 Z20 HP20 HG20 HL20 HC20
  go_wp2_with fail
  refine (whalf HL21.out).mono ?_; rintro e _ ⟨rfl, rfl⟩
  go_wp2_with fail
  refine (wpages HL21.out).mono ?_; rintro e _ ⟨rfl, rfl⟩
  go_wp2_with fail
  refine (wroom HL21.out (by decide) (by decide)).mono ?_; rintro e w22 ⟨rfl, b22⟩
  have Z22 := Lib.hid (Z21.out.reads b22); have HP22 := Lib.hid (HP21.out.reads b22); have HG22 := Lib.hid (HG21.out.reads b22); have HL22 := Lib.hid (HL21.out.reads b22)
  clear b22 Z21 HP21 HG21 HL21
  go_wp2_with fail
  refine (wsure HL22.out).mono ?_; rintro e _ ⟨rfl, rfl⟩
  go_wp2_with fail
  refine (wrecords HP22.out.G (by simp) (fun s hs => by simp only [List.take_succ_cons, List.take_zero, List.mem_singleton] at hs; subst hs; decide)).mono ?_; rintro e w23 ⟨v23, rfl, N23, b23⟩
  have N23' : NewS w22 w23 v23 [sT] := N23
  obtain ⟨a23, D23, rfl, hs23⟩ := N23'.slice
  have HC23 := Lib.hid (same_one w23 a23 D23 sT sT hs23 true (by decide))
  have Z23 := Lib.hid (Z22.out.reads b23); have HP23 := Lib.hid (HP22.out.reads b23); have HG23 := Lib.hid (HG22.out.reads b23)
  clear N23 N23' b23 hs23 Z22 HP22 HG22 HL22
  go_wp2_with fail
  refine HC23.out.mono ?_; rintro e w24 ⟨rfl, b24⟩
  have Z24 := Lib.hid (Z23.out.reads b24); have HP24 := Lib.hid (HP23.out.reads b24); have HG24 := Lib.hid (HG23.out.reads b24)
  clear b24 Z23 HP23 HG23 HC23
  go_wp2_with fail
  refine (whalf HP24.out.G).mono ?_; rintro e _ ⟨rfl, rfl⟩
  go_wp2_with fail
  refine (wage HP24.out.G).mono ?_; rintro e _ ⟨rfl, rfl⟩
  go_wp2_with fail
  refine (wsure HG24.out).mono ?_; rintro e _ ⟨rfl, rfl⟩
  go_wp2_with fail
  go_ret
  exact ⟨rfl, Z24.out.bel⟩
end Go.Proofs.Ythjlbfijfpfohaa

namespace Go.Proofs.Ythjlbfijfpfohaa
open Go.RowKit
theorem strs_of_arg {w : World} {a : Option Addr} {len : Nat} {ss : List ByteArray} (h : IsStrs w a len ss) : ss.length = len ∧ Strs w a ss ∧ ∀ s ∈ ss, s.size ≤ maxLen := by
  rcases h with ⟨rfl, rfl, rfl⟩ | ⟨x, rfl, hl, hc, hz⟩
  · exact ⟨rfl, fun k s hs => by simp at hs, fun s hs => by cases hs⟩
  · refine ⟨hl, fun k s hs => ?_, hz⟩
    have hk := (List.getElem?_eq_some_iff.1 hs).1
    have h0 := hc 0 (by omega)
    have hsp := add_spot h0
    have hck := hc k (by omega)
    rw [add_none hsp] at hck
    refine ⟨x.block, x.off, ?_, ?_⟩
    · obtain ⟨b, o, sp⟩ := x
      simp only at hsp
      subst hsp; rfl
    · rw [hck, List.getD_eq_getElem?_getD, hs]; rfl
/-- at most c bytes of a text, as a walk shows them -/
theorem cut6 (s : ByteArray) (c : Nat) : ∃ n : Nat, min (s.size : Int) (c : Int) = (n : Int) ∧ n ≤ s.size ∧ n ≤ c ∧ (n = c ∨ n = s.size) := ⟨min s.size c, by omega, by omega, by omega, by omega⟩
theorem text_none (s : ByteArray) (h : s.size = 0) : s.toList = [] := by
  rw [Lib.toList_data]; exact List.eq_nil_of_length_eq_zero (by rw [← Lib.size_eq]; exact h)
theorem text_some (s : ByteArray) (h : s.size ≠ 0) : ¬ s.toList = [] := fun e => by
  rw [Lib.toList_data] at e
  exact h (by rw [Lib.size_eq, e]; rfl)
theorem text_some2 (s : ByteArray) (h : s.size ≠ 0) : s.toList.isEmpty = false := by
  cases hq : s.toList with
  | nil => exact absurd hq (text_some s h)
  | cons x y => rfl
theorem Strs.since {w0 w : World} {o : Nat → Nat} {a : Option Addr} {R : List ByteArray} (h : Strs w0 a R) (Z : Since w0 o w) : Strs w a R := h.below Z.bel
end Go.Proofs.Ythjlbfijfpfohaa

namespace Go.Proofs.Ythjlbfijfpfohaa
open Go.RowKit
theorem syncL_none {L : LogP} (h : L.tu = none) : syncL L = { L with su := L.wr } := by unfold syncL; rw [h]
/-- what a crash leaves of a log's disk -/
structure CrashF (m : Nat) (S' : List ByteArray) (L : LogP) : Prop where
  len : S'.length / 2 = m
  len4 : 4 ≤ S'.length
  tag : maxTag S' ≤ L.A
  told : (∃ u, L.su ≤ u ∧ u ≤ L.wr ∧ (openS S').1 = L.h ∧ (openS S').2.1 = (L.R.take u).map bl) ∨ ∃ s, L.tu = some s ∧ (openS S').1 = 1 - L.h ∧ (openS S').2.1 = [bl s]
  sz : ∀ s ∈ L.R, s.size ≤ 100000
  szt : ∀ s, L.tu = some s → s.size ≤ 100000
/-- what is told behind it -/
structure ReadF (L L' : LogP) : Prop where
  tu : L'.tu = none
  wr : L'.wr = L'.R.length
  su : L'.su = L'.R.length
  told : (∃ u, L.su ≤ u ∧ u ≤ L.wr ∧ L'.R = L.R.take u ∧ L'.h = L.h) ∨ ∃ s, L.tu = some s ∧ L'.R = [s] ∧ L'.h = 1 - L.h
section
variable {w : World} {o : Nat → Nat} {q pd j g m : Nat} {S : List ByteArray} {Ws : Wrs} {L : LogP} {c : Nat}
theorem crash_f (I : LInv m S Ws L) (h4 : 4 ≤ S.length) (fs : List Int) : CrashF m (crashOf S Ws fs) L := by
  obtain ⟨h1, h2⟩ := inv_crash I fs
  refine ⟨by rw [crashOf_length]; exact I.len, by rw [crashOf_length]; exact h4, h1, h2, I.sz, fun s hs => ?_⟩
  obtain ⟨S0, B, p, ws, a, A0, H⟩ := I
  exact (H.som s hs).2.2.1
theorem ld_crash (H : LD w o q pd j g m S Ws L c) (hc : c ≤ 100) (h4 : 4 ≤ S.length) (fa : Option Addr) (fl fc : Nat) (fs : List Int) (HF : FInts w o q fa fl fs) (hfl : fl ≤ 1000000) :
    Calls Try.prog 18 #[.pointer (some ⟨pd, 0, none⟩), .slice fa fl fc] w fun e w' => e = .returned (.tuple #[]) ∧ ∃ S', IsD w' o q pd S' [] ∧ CrashF m S' L ∧ Stp o q w o w' := by
  refine (d_crash H.D (by have := H.cW; omega) fa fl fc fs HF hfl).mono ?_
  rintro e w' ⟨rfl, d, s'⟩
  exact ⟨rfl, _, d, crash_f H.I h4 fs, s'⟩
theorem ld_reopen {S' : List ByteArray} (D : IsD w o q pd S' []) (F : CrashF m S' L) (hR : L.R.length ≤ c) (hA : L.A ≤ c + 1) (hc : c ≤ 100) (j : Nat) (hj : q ≠ j) :
    Calls Try.prog 8 #[.pointer (some ⟨pd, 0, none⟩)] w fun e w' => ∃ g, e = .returned (.tuple #[.pointer (some ⟨g, 0, none⟩), .int .i64 0]) ∧ LD w' (gives o w.heap.size j) q pd j g m S' [] (openedL S') (c + 1) ∧ ReadF L (openedL S') ∧ Stp o j w (gives o w.heap.size j) w' ∧ Below w.heap.size w w' := by
  have ht := F.tag
  refine (ld_open D F.len F.len4 (by omega) ?_ j (c + 1) hj ?_ (by omega)).mono ?_
  · intro s hs
    rcases F.told with ⟨u, _, _, _, e⟩ | ⟨t, ht, _, e⟩
    · rw [e] at hs
      obtain ⟨y, hy, rfl⟩ := List.mem_map.1 hs
      rw [bl_length]; exact F.sz y (List.mem_of_mem_take hy)
    · rw [e] at hs
      simp only [List.mem_singleton] at hs
      subst hs
      rw [bl_length]; exact F.szt t ht
  · rcases F.told with ⟨u, _, _, _, e⟩ | ⟨t, ht, _, e⟩
    · rw [e, List.length_map, List.length_take]; omega
    · rw [e]; simp
  · rintro e w' ⟨g, rfl, h, s', b⟩
    refine ⟨g, rfl, h, ⟨rfl, ?_, ?_, ?_⟩, s', b⟩
    · show (openS S').2.1.length = ((openS S').2.1.map bt).length; rw [List.length_map]
    · show (openS S').2.1.length = ((openS S').2.1.map bt).length; rw [List.length_map]
    · rcases F.told with ⟨u, u1, u2, e1, e⟩ | ⟨t, ht, e1, e⟩
      · exact .inl ⟨u, u1, u2, by show (openS S').2.1.map bt = _; rw [e, map_bl_bt], e1⟩
      · exact .inr ⟨t, ht, (congrArg (List.map bt) e).trans (by simp), e1⟩
end
set_option maxRecDepth 100000 in
set_option maxHeartbeats 1000000 in
theorem lstarts (w : World) (a b : Option Addr) (C D : Nat) (A B : List ByteArray) (HA : Strs w a A) (HB : Strs w b B) (hA : A.length ≤ 1000000) (_hB : B.length ≤ 1000000) (hD : B.length ≤ D) (r : Bool) (hr : decide (A.length ≤ B.length ∧ A = B.take A.length) = r) :
    Calls Try.prog 25 #[.slice a A.length C, .slice b B.length D] w fun e w' => e = .returned (.bool r) ∧ Below w.heap.size w w' := by
  by_cases hl : A.length ≤ B.length
  · have hl' : (A.length : Int) ≤ (B.length : Int) := by omega
    have e1 : (B.take A.length).length = A.length := by rw [List.length_take]; omega
    have hT : Strs w b (B.take A.length) := fun k s hs => HB k s (by
      rw [List.getElem?_take] at hs
      split at hs
      · exact hs
      · cases hs)
    have CS := rsame w a b C D A (B.take A.length) HA hT hA (by rw [e1]; exact hA) r (by
      rw [← hr]
      by_cases h2 : A = B.take A.length
      · rw [decide_eq_true h2, decide_eq_true ⟨hl, h2⟩]
      · rw [decide_eq_false h2, decide_eq_false (fun h => h2 h.2)])
    rw [e1] at CS
    obtain ⟨n, hn⟩ : ∃ n, A.length = n := ⟨_, rfl⟩
    rw [hn] at CS hl' hA ⊢
    obtain ⟨k, hk⟩ : ∃ k, B.length = k := ⟨_, rfl⟩
    rw [hk] at hl' hD ⊢
    have h0 : (0 : Int) ≤ (n : Int) := by omega
    have hnD : (n : Int) ≤ (D : Int) := by omega
    have HC := Lib.hid CS
    clear HA HB hT CS hr hl e1
    go_enter Try.func25, Try.ntmps25
    go_wp2_with fail
    refine HC.out.mono ?_; rintro e w1 ⟨rfl, b1⟩
    go_wp2_with fail
    go_ret
    exact ⟨rfl, b1⟩
  · have hl' : ¬ (A.length : Int) ≤ (B.length : Int) := by omega
    rw [decide_eq_false (fun h => hl h.1)] at hr
    subst hr
    clear HA HB hl
    go_enter Try.func25, Try.ntmps25
    go_wp2_with fail
    go_ret
    exact ⟨rfl, Below.refl _ _⟩
end Go.Proofs.Ythjlbfijfpfohaa
