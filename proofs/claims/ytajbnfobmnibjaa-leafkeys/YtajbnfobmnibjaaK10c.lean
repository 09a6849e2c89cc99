/-
  Leaves, plain: what the laws ask of sizes, bytes, keys that are put and taken out, halves. No program in this text.
-/
import Derived.Test.YtajbnfobmnibjaaD10p
namespace Go.Proofs.Ytajbnfobmnibjaa
open Go.RowKit

theorem highB_size {l : LfP} (h : highB l = true) : l.high.size ≤ 16 := by
  unfold highB at h
  rcases Bool.or_eq_true _ _ ▸ h with h | h
  · rw [of_decide_eq_true h]; decide
  · exact (keyB_size (Bool.and_eq_true _ _ ▸ h).1).2
theorem rightL_rise {l : LfP} (h : rightL l = true) : Rise l.pairs := (rises_iff _).1 (rightL_iff.1 h).2.1
theorem rightL_wgt {l : LfP} (h : rightL l = true) : wgt l.pairs ≤ 231 := (rightL_iff.1 h).1
theorem rightL_high {l : LfP} (h : rightL l = true) : l.high.size ≤ 16 := highB_size (rightL_iff.1 h).2.2.1
theorem rise_small {l : Prs} (h : Rise l) : SmallP l := fun p hp => by
  have h1 := h.ok p hp
  have := (keyB_size h1.1).2
  have : p.2.size ≤ 32 := valB_size h1.2
  omega
theorem rightL_small {l : LfP} (h : rightL l = true) : SmallP l.pairs := rise_small (rightL_rise h)
theorem encLf_len (l : LfP) : (encLf l).length = sizeL l := by
  unfold encLf headL sizeL
  simp only [List.length_append, Lib.leBytes_length, txtL10_len, pairsL_wgt, List.length_cons, List.length_nil]
  omega
theorem sizeL_le {l : LfP} (h : rightL l = true) : sizeL l ≤ 252 := by
  have := rightL_wgt h; have := rightL_high h; unfold sizeL; omega
/-! what bytes are -/
def decR (s : List UInt8) : Option LfP := if s.length ≤ 252 then (match parseLf s with
  | none => none
  | some (r, x) => if bareLen x = 0 ∧ rightL r = true then some r else none) else none
def decL (s : List UInt8) : LfP := (decR s).getD zeroL
def decE (s : List UInt8) : Int := if (decR s).isSome then 0 else 4
theorem bareLen_rep : ∀ k : Nat, bareLen (List.replicate k 0) = 0
  | 0 => rfl
  | k + 1 => by rw [List.replicate_succ', bareLen_snoc, if_pos rfl, bareLen_rep k]
theorem bareLen_zero (l : List UInt8) (h : bareLen l = 0) : l = List.replicate l.length 0 := by
  obtain ⟨n, hn⟩ : ∃ n, l.length = n := ⟨_, rfl⟩
  induction n generalizing l with
  | zero => rw [List.eq_nil_of_length_eq_zero hn]; rfl
  | succ n ih =>
    obtain ⟨m, b, rfl⟩ : ∃ m b, l = m ++ [b] := ⟨l.dropLast, l.getLast (by intro e; rw [e] at hn; cases hn), (List.dropLast_concat_getLast _).symm⟩
    rw [bareLen_snoc] at h
    split at h
    · rename_i hb
      have hm : m.length = n := by simpa using hn
      have := ih m h hm
      rw [List.length_append, List.length_singleton, List.replicate_succ', hb]
      rw [← this]
    · omega
theorem decR_put {l : LfP} (hr : rightL l = true) (k : Nat) (hk : sizeL l + k ≤ 252) : decR (encLf l ++ List.replicate k 0) = some l := by
  unfold decR
  rw [if_pos (by rw [List.length_append, encLf_len, List.length_replicate]; exact hk), parseLf_put _ hr]
  simp only
  rw [if_pos ⟨bareLen_rep k, hr⟩]
theorem decR_got {s : List UInt8} {r : LfP} (h : decR s = some r) : rightL r = true ∧ s = encLf r ++ List.replicate (s.length - sizeL r) 0 ∧ sizeL r ≤ s.length ∧ s.length ≤ 252 := by
  unfold decR at h
  split at h
  · rename_i hl
    split at h
    · cases h
    · rename_i r' x hp
      split at h
      · rename_i hc
        simp only [Option.some.injEq] at h
        subst h
        obtain ⟨h1, h2⟩ := parseLf_got hp
        have h3 := bareLen_zero x hc.1
        have h4 : s.length = sizeL r' + x.length := by rw [h1, List.length_append, encLf_len]
        refine ⟨hc.2, ?_, by omega, hl⟩
        rw [show s.length - sizeL r' = x.length by omega, ← h3]; exact h1
      · cases h
  · cases h
theorem decL_some {s : List UInt8} {r : LfP} (h : decR s = some r) : decL s = r ∧ decE s = 0 := by unfold decL decE; rw [h]; exact ⟨rfl, rfl⟩
theorem decL_none {s : List UInt8} (h : decR s = none) : decL s = zeroL ∧ decE s = 4 := by unfold decL decE; rw [h]; exact ⟨rfl, rfl⟩
/-! put, taken out -/
/-- all but a key's -/
def butK (l : Prs) (k : ByteArray) : Prs := l.filter (fun p => !decide (p.1 = k))
def toN (l : Prs) (k : ByteArray) : Nat := if hasN l k then findN l k + 1 else findN l k
theorem putPl_eq (l : Prs) (k v : ByteArray) : putPl l k v = l.take (findN l k) ++ (k, v) :: l.drop (toN l k) := rfl
theorem butK_take (l : Prs) (k : ByteArray) : butK (l.take (findN l k)) k = l.take (findN l k) := List.filter_eq_self.2 (fun p hp => by have := lessNe (findN_below p hp); simp [this])
theorem butK_drop {l : Prs} (h : Rise l) (k : ByteArray) : butK (l.drop (toN l k)) k = l.drop (toN l k) := List.filter_eq_self.2 (fun p hp => by have := lessNe (behind_has h hp); simp [Ne.symm this])
theorem toN_le (l : Prs) (k : ByteArray) : findN l k ≤ toN l k ∧ toN l k ≤ l.length := by
  unfold toN
  have := findN_le l k
  split
  · rename_i h
    obtain ⟨v, hv⟩ := hasN_iff.1 h
    have := (List.getElem?_eq_some_iff.1 hv).1
    omega
  · omega
theorem has_split {l : Prs} {k v : ByteArray} (h : l[findN l k]? = some (k, v)) : l = l.take (findN l k) ++ (k, v) :: l.drop (toN l k) := by
  have hh : hasN l k = true := hasN_iff.2 ⟨v, h⟩
  have hlt := (List.getElem?_eq_some_iff.1 h).1
  have hd := List.drop_eq_getElem_cons hlt
  rw [(List.getElem?_eq_some_iff.1 h).2] at hd
  unfold toN
  rw [hh, if_pos rfl, ← hd, List.take_append_drop]
theorem no_split {l : Prs} {k : ByteArray} (h : hasN l k = false) : l = l.take (findN l k) ++ l.drop (toN l k) := by
  unfold toN
  rw [h, if_neg (by simp), List.take_append_drop]
theorem butK_is {l : Prs} (h : Rise l) (k : ByteArray) : butK l k = l.take (findN l k) ++ l.drop (toN l k) := by
  cases hh : hasN l k with
  | true =>
    obtain ⟨v, hv⟩ := hasN_iff.1 hh
    conv => lhs; rw [has_split hv]
    unfold butK
    rw [List.filter_append, List.filter_cons_of_neg (by simp)]
    have h1 := butK_take l k; have h2 := butK_drop h k
    unfold butK at h1 h2
    rw [h1, h2]
  | false =>
    conv => lhs; rw [no_split hh]
    unfold butK
    rw [List.filter_append]
    have h1 := butK_take l k; have h2 := butK_drop h k
    unfold butK at h1 h2
    rw [h1, h2]
theorem delPl_is {l : Prs} (h : Rise l) {k : ByteArray} (hh : hasN l k = true) : delPl l k = butK l k := by
  rw [butK_is h]; unfold delPl toN; rw [hh, if_pos rfl]
theorem putPl_perm {l : Prs} (h : Rise l) (k v : ByteArray) : (putPl l k v).Perm (butK l k ++ [(k, v)]) := by
  rw [butK_is h, putPl_eq, List.append_assoc]
  exact List.Perm.append_left _ (List.perm_append_comm (l₁ := [(k, v)]))
theorem has_mem {l : Prs} (h : Rise l) {k v : ByteArray} : l[findN l k]? = some (k, v) ↔ (k, v) ∈ l := by
  constructor
  · exact fun e => List.mem_of_getElem? e
  · intro hm
    cases hh : hasN l k with
    | true =>
      obtain ⟨v', hv⟩ := hasN_iff.1 hh
      rw [has_split hv] at hm
      rcases List.mem_append.1 hm with hm | hm
      · have := findN_below _ hm; rw [lessI] at this; cases this
      · rcases List.mem_cons.1 hm with hm | hm
        · rw [hm]; exact hv
        · have := behind_has h hm; rw [lessI] at this; cases this
    | false =>
      rw [no_split hh] at hm
      rcases List.mem_append.1 hm with hm | hm
      · have := findN_below _ hm; rw [lessI] at this; cases this
      · have := behind_has h hm; rw [lessI] at this; cases this
theorem butK_no {l : Prs} (h : Rise l) {k : ByteArray} (hh : hasN l k = false) : butK l k = l := by rw [butK_is h, ← no_split hh]
theorem butK_len {l : Prs} (h : Rise l) (k : ByteArray) : (butK l k).length < l.length ↔ hasN l k = true := by
  cases hh : hasN l k with
  | true =>
    obtain ⟨v, hv⟩ := hasN_iff.1 hh
    have e := congrArg List.length (has_split hv)
    rw [butK_is h]
    simp only [List.length_append, List.length_cons] at e ⊢
    constructor
    · intro _; trivial
    · intro _; omega
  | false => rw [butK_no h hh]; simp
theorem putPl_find {l : Prs} {k v : ByteArray} : findN (putPl l k v) k = findN l k := by
  have hle := findN_le l k
  have hl : (l.take (findN l k)).length = findN l k := by rw [List.length_take]; omega
  refine findN_is ?_ ?_ ?_
  · rw [putPl_eq, List.length_append, hl]; omega
  · rw [putPl_eq, List.take_left' hl]; exact findN_below
  · intro p hp
    rw [putPl_eq, List.getElem?_append_right (by omega), hl, Nat.sub_self] at hp
    simp at hp; rw [← hp]; exact lessI k
theorem putPl_at {l : Prs} {k v : ByteArray} : (putPl l k v)[findN (putPl l k v) k]? = some (k, v) := by
  have hle := findN_le l k
  have hl : (l.take (findN l k)).length = findN l k := by rw [List.length_take]; omega
  rw [putPl_find, putPl_eq, List.getElem?_append_right (by omega), hl, Nat.sub_self]; rfl
theorem del_put {l : Prs} {k v : ByteArray} (hh : hasN l k = false) : delPl (putPl l k v) k = l := by
  have hle := findN_le l k
  have hl : (l.take (findN l k)).length = findN l k := by rw [List.length_take]; omega
  unfold delPl
  rw [putPl_find, putPl_eq, List.take_left' hl]
  rw [List.drop_append, hl, List.drop_eq_nil_of_le (by omega), show findN l k + 1 - findN l k = 1 by omega, List.nil_append]
  show l.take (findN l k) ++ l.drop (toN l k) = l
  rw [← no_split hh]
theorem wgt_put_no {l : Prs} {k v : ByteArray} (hh : hasN l k = false) : wgt (putPl l k v) = wgt l + pairN (k, v) := by
  have h := congrArg wgt (no_split hh)
  rw [putPl_eq, wgt_app]
  rw [wgt_app] at h
  simp only [wgt]; omega
theorem lastB_put {l : Prs} (h : Rise l) {k v s : ByteArray} (hr : Rise (putPl l k v)) (h1 : lastB l s = true) (h2 : lessB k s = true) : lastB (putPl l k v) s = true := by
  rw [lastB_iff hr]
  rw [lastB_iff h] at h1
  intro p hp
  rw [putPl_eq] at hp
  rcases List.mem_append.1 hp with hp | hp
  · exact h1 p (List.mem_of_mem_take hp)
  · rcases List.mem_cons.1 hp with rfl | hp
    · exact h2
    · exact h1 p (List.mem_of_mem_drop hp)
theorem lastB_sub {l m : Prs} (h : Rise l) (hm : Rise m) (hs : ∀ p ∈ m, p ∈ l) {s : ByteArray} (h1 : lastB l s = true) : lastB m s = true := by
  rw [lastB_iff hm]
  rw [lastB_iff h] at h1
  exact fun p hp => h1 p (hs p hp)
/-- a leaf that may be, and only its pairs are others -/
theorem rightL_of {R : Prs} {h : ByteArray} {x : Int} (h1 : wgt R ≤ 231) (h2 : Rise R) (h3 : h = noB ∨ keyB h = true ∧ lastB R h = true) (h4 : 0 ≤ x) (h5 : x ≤ 1024) : rightL ⟨R, h, x⟩ = true := by
  refine rightL_iff.2 ⟨h1, (rises_iff _).2 h2, ?_, h4, h5⟩
  unfold highB
  rcases h3 with h3 | ⟨h3, h6⟩
  · rw [decide_eq_true h3]; rfl
  · simp only; rw [h3, h6]; simp
theorem rightL_highs {l : LfP} (h : rightL l = true) : l.high = noB ∨ keyB l.high = true ∧ lastB l.pairs l.high = true := by
  have := (rightL_iff.1 h).2.2.1
  unfold highB at this
  rcases Bool.or_eq_true _ _ ▸ this with h | h
  · exact .inl (of_decide_eq_true h)
  · exact .inr (by simpa using h)
theorem putOk_iff {l : LfP} {k v : ByteArray} : putOk l k v = true ↔ rightL l = true ∧ keyB k = true ∧ valB v = true ∧ (l.high = noB ∨ lessB k l.high = true) := by unfold putOk; simp
theorem putL_yes {l : LfP} {k v : ByteArray} (h : putOk l k v = true) (hw : wgt (putPl l.pairs k v) ≤ 231) : putL l k v = ⟨putPl l.pairs k v, l.high, l.next⟩ ∧ putE l k v = 0 ∧ rightL (putL l k v) = true := by
  have e : putL l k v = ⟨putPl l.pairs k v, l.high, l.next⟩ := by unfold putL wholeL; rw [h, if_pos rfl, if_pos hw]
  obtain ⟨h1, h2, h3, h4⟩ := putOk_iff.1 h
  have hr := rightL_rise h1
  have hp := putPl_rise hr h2 h3
  have hi := rightL_iff.1 h1
  refine ⟨e, by unfold putE wholeE; rw [h, if_pos rfl, if_pos hw], ?_⟩
  rw [e]
  refine rightL_of hw hp ?_ hi.2.2.2.1 hi.2.2.2.2
  rcases rightL_highs h1 with e | ⟨e1, e2⟩
  · exact .inl e
  · rcases h4 with h4 | h4
    · exact .inl h4
    · exact .inr ⟨e1, lastB_put hr hp e2 h4⟩
theorem putL_full {l : LfP} {k v : ByteArray} (h : putOk l k v = true) (hw : ¬ wgt (putPl l.pairs k v) ≤ 231) : putL l k v = zeroL ∧ putE l k v = 6 := by
  unfold putL putE wholeL wholeE; rw [h, if_pos rfl, if_pos rfl, if_neg hw, if_neg hw]; exact ⟨rfl, rfl⟩
theorem putL_no {l : LfP} {k v : ByteArray} (h : putOk l k v = false) : putL l k v = zeroL ∧ putE l k v = 1 := by
  unfold putL putE; rw [h]; exact ⟨rfl, rfl⟩
theorem delL_yes {l : LfP} {k : ByteArray} (h : rightL l = true) (hh : hasN l.pairs k = true) : delL l k = ⟨butK l.pairs k, l.high, l.next⟩ ∧ delE l k = 0 ∧ rightL (delL l k) = true := by
  have hr := rightL_rise h
  have hd := delPl_is hr hh
  have e : delL l k = ⟨butK l.pairs k, l.high, l.next⟩ := by unfold delL; rw [h, hh, ← hd]; rfl
  have hi := rightL_iff.1 h
  have hw := wgt_del l.pairs k
  rw [hd] at hw
  have hrd := delPl_rise hr k
  rw [hd] at hrd
  refine ⟨e, by unfold delE; rw [h, hh]; rfl, ?_⟩
  rw [e]
  refine rightL_of (by have := hi.1; omega) hrd ?_ hi.2.2.2.1 hi.2.2.2.2
  rcases rightL_highs h with e | ⟨e1, e2⟩
  · exact .inl e
  · exact .inr ⟨e1, lastB_sub hr hrd (fun p hp => (List.mem_filter.1 hp).1) e2⟩
theorem delL_none {l : LfP} {k : ByteArray} (h : rightL l = true) (hh : hasN l.pairs k = false) : delL l k = zeroL ∧ delE l k = 7 := by
  unfold delL delE; rw [h, hh]; exact ⟨rfl, rfl⟩
/-! halves -/
theorem half_ge (l : Prs) : ∀ (k n : Nat), n ≤ halfFrom l n k
  | 0, n => Nat.le_refl _
  | k + 1, n => by
    unfold halfFrom
    split
    · exact Nat.le_trans (Nat.le_succ n) (half_ge l k (n + 1))
    · exact Nat.le_refl _
theorem half_ahead (l : Prs) : ∀ (k n : Nat), 1 ≤ n → (n = 1 ∨ 2 * wgt (l.take (n - 1)) < wgt l) → (halfFrom l n k = 1 ∨ 2 * wgt (l.take (halfFrom l n k - 1)) < wgt l)
  | 0, n, _, h => h
  | k + 1, n, hn, h => by
    unfold halfFrom
    split
    · rename_i hc
      exact half_ahead l k (n + 1) (by omega) (.inr (by simpa using hc.2))
    · exact h
theorem half_behind (l : Prs) : ∀ (k n : Nat), l.length ≤ n + k → n ≤ l.length - 1 → (l.length - 1 ≤ halfFrom l n k ∨ wgt l ≤ 2 * wgt (l.take (halfFrom l n k)))
  | 0, n, h, _ => .inl (by unfold halfFrom; omega)
  | k + 1, n, h, h2 => by
    unfold halfFrom
    split
    · rename_i hc
      exact half_behind l k (n + 1) (by omega) (by omega)
    · rename_i hc
      rcases Nat.lt_or_ge n (l.length - 1) with h3 | h3
      · exact .inr (by
          rcases Nat.lt_or_ge (2 * wgt (l.take n)) (wgt l) with h4 | h4
          · exact absurd ⟨h3, h4⟩ hc
          · exact h4)
      · exact .inl h3
theorem half_lt (l : Prs) (h : 2 ≤ l.length) : ∀ (k n : Nat), n ≤ l.length - 1 → halfFrom l n k ≤ l.length - 1
  | 0, n, h1 => h1
  | k + 1, n, h1 => by
    unfold halfFrom
    split
    · rename_i hc
      exact half_lt l h k (n + 1) (by omega)
    · exact h1
theorem wgt_halves (l : Prs) (n : Nat) : wgt (l.take n) + wgt (l.drop n) = wgt l := by rw [← wgt_app, List.take_append_drop]
theorem half_facts {l : Prs} (hr : Rise l) (h : 2 ≤ l.length) (hw : wgt l ≤ 231) : 1 ≤ halfN l ∧ halfN l < l.length ∧ wgt (l.take (halfN l)) ≤ 165 ∧ wgt (l.drop (halfN l)) ≤ 115 := by
  have a1 := half_ge l l.length 1
  have a2 := half_lt l h l.length 1 (by omega)
  have a3 := half_ahead l l.length 1 (by omega) (.inl rfl)
  have a4 := half_behind l l.length 1 (by omega) (by omega)
  have hone : ∀ p ∈ l, pairN p ≤ 50 := fun p hp => by
    have h1 := hr.ok p hp
    have h2 := (keyB_size h1.1).2
    have h3 : p.2.size ≤ 32 := valB_size h1.2
    unfold pairN; omega
  unfold halfN
  generalize halfFrom l 1 l.length = n at *
  refine ⟨a1, by omega, ?_, ?_⟩
  · obtain ⟨p, hp⟩ : ∃ p, l[n - 1]? = some p := ⟨_, List.getElem?_eq_getElem (by omega)⟩
    have e := wgt_step l (n - 1) p hp
    rw [show n - 1 + 1 = n by omega] at e
    have := hone p (List.mem_of_getElem? hp)
    rcases a3 with a3 | a3
    · subst a3
      rw [show (1 : Nat) - 1 = 0 from rfl] at e
      simp only [List.take_zero, wgt] at e
      omega
    · omega
  · have e := wgt_halves l n
    rcases a4 with a4 | a4
    · have hn : n = l.length - 1 := by omega
      have hd : l.drop n = [l[n]] := by
        rw [List.drop_eq_getElem_cons (by omega), List.drop_eq_nil_of_le (by omega)]
      have := hone l[n] (List.getElem_mem (by omega))
      rw [hd]; simp only [wgt]; omega
    · omega
end Go.Proofs.Ytajbnfobmnibjaa
