/-
  Locks, plain: if those that wait for nothing drop all, one by one, round by round, nobody is left that waits. No program in this text.
-/
import Derived.Test.YtainnhcmhgloaaaDoorK09j
namespace Go.Proofs.YtainnhcmhgloaaaDoor
open Go.RowKit
section
variable {H W H' W' W0 : Hs} {x y : Has9} {a b c o : Int} {n n' : ByteArray}
theorem woA_subl (W : Hs) (o : Int) : (woA W o).Sublist W := by unfold woA; exact List.filter_sublist
theorem comeP_subl (n : ByteArray) : ∀ (k : Nat) (H W : Hs), (comeP n k H W).2.1.Sublist W
  | 0, H, W => by unfold comeP; exact List.Sublist.refl _
  | k + 1, H, W => by
    cases hn : nameL W n with
    | nil => rw [comeP_nil hn]; exact List.Sublist.refl _
    | cons z l =>
      cases hc : canP H z with
      | false => rw [comeP_no hn hc]; exact List.Sublist.refl _
      | true => rw [comeP_yes hn hc]; exact (comeP_subl n k _ _).trans (woA_subl W _)
theorem dropP_subl (o : Int) : ∀ (K : List ByteArray) (H W : Hs), (dropP o K H W).2.1.Sublist W
  | [], _, _ => List.Sublist.refl _
  | n :: K, _, _ => (dropP_subl o K _ _).trans (comeP_subl n _ _ _)
theorem dropP_from (o : Int) : ∀ (K : List ByteArray) (H W : Hs), ∀ h ∈ (dropP o K H W).1, h ∈ H ∨ h ∈ W
  | [], _, _ => fun h hh => .inl hh
  | n :: K, H, W => fun h hh => by
    rcases dropP_from o K _ _ h hh with h1 | h1
    · rcases comeP_from n _ _ _ h h1 with h2 | h2
      · exact .inl (mem_woN.1 h2).1
      · exact .inr h2
    · exact .inr (comeP_sub n _ _ _ h h1)
theorem exists_top {α : Type} {R : α → α → Prop} (ht : ∀ a b c, R a b → R b c → R a c) (hi : ∀ a, ¬ R a a) : ∀ (l : List α), l ≠ [] → ∃ a ∈ l, ∀ b ∈ l, ¬ R a b
  | [], h => absurd rfl h
  | [x], _ => ⟨x, by simp, fun b hb => by obtain rfl := List.mem_singleton.1 hb; exact hi b⟩
  | x :: y :: l, _ => by
    obtain ⟨a, ha, h⟩ := exists_top ht hi (y :: l) (by simp)
    by_cases hr : R a x
    · refine ⟨x, by simp, fun b hb => ?_⟩
      rcases List.mem_cons.1 hb with rfl | hb
      · exact hi b
      · exact fun h2 => h b hb (ht _ _ _ hr h2)
    · refine ⟨a, List.mem_cons_of_mem _ ha, fun b hb => ?_⟩
      rcases List.mem_cons.1 hb with rfl | hb
      · exact hr
      · exact h b hb
/-- not all that hold something wait -/
theorem not_all_wait (I : Inv9 H W) (F : ∀ n, First9 H W n) (hne : W ≠ []) (hall : ∀ h ∈ H, ∃ y ∈ W, y.owner = h.owner) : False := by
  obtain ⟨y, hy, ht⟩ := exists_top (R := fun a b : Has9 => Bqs H W a.owner b.owner) (fun _ _ _ => Bqs.trans) (fun a => I.loop a.owner) W hne
  obtain ⟨b, hb⟩ := waits_behind I.ok F hy
  have hq := bh_bqs I.ok hb
  have : ∃ z ∈ W, z.owner = b := by
    cases hb with
    | holds x h hx ha hh hn hb hne hf => obtain ⟨z, hz, e⟩ := hall h hh; exact ⟨z, hz, e.trans hb⟩
    | ahead x y' L1 L2 L3 hW ha hb hn => exact ⟨y', by rw [hW]; simp, hb⟩
  obtain ⟨z, hz, rfl⟩ := this
  exact ht z hz hq
theorem len_below : ∀ (n : Nat) (l : List Int), l.Nodup → (∀ x ∈ l, 0 ≤ x ∧ x < (n : Int)) → l.length ≤ n
  | 0, l, _, h => by
    cases l with
    | nil => simp
    | cons a l => have := h a (by simp); omega
  | n + 1, l, hn, h => by
    by_cases hm : (n : Int) ∈ l
    · have h1 := len_below n (l.erase (n : Int)) (hn.sublist List.erase_sublist) (fun x hx => by
        have h2 := h x (List.mem_of_mem_erase hx)
        have h3 : x ≠ (n : Int) := fun e => by
          rw [hn.mem_erase_iff] at hx
          exact hx.1 e
        omega)
      rw [List.length_erase_of_mem hm] at h1
      omega
    · have := len_below n l hn (fun x hx => by
        have h2 := h x hx
        have h3 : x ≠ (n : Int) := fun e => hm (e ▸ hx)
        omega)
      omega
/-- all owners are some of eight -/
def Own8 (H W : Hs) : Prop := (∀ h ∈ H, 0 ≤ h.owner ∧ h.owner < 8) ∧ ∀ y ∈ W, 0 ≤ y.owner ∧ y.owner < 8
theorem own_ask {m : Int} {k : Nat} (O : Own8 H W) (ho : 0 ≤ o ∧ o < 8) (h : AskS H W o n m k H' W') : Own8 H' W' := by
  cases h with
  | arg _ => exact O
  | state _ _ _ _ => exact O
  | has _ _ _ => exact O
  | dead _ _ _ _ _ => exact O
  | got _ _ _ _ _ =>
    refine ⟨fun h hh => ?_, O.2⟩
    rcases mem_holdP.1 hh with h1 | rfl
    · exact O.1 h h1.1
    · exact ho
  | wait _ _ _ _ _ =>
    refine ⟨O.1, fun y hy => ?_⟩
    have := (stayAt_perm H (⟨o, jn (modeP H o n) m.toNat 7, n⟩ : Has9) (decide (modeP H o n ≠ 0)) W).mem_iff.1 hy
    rcases List.mem_append.1 this with h1 | h1
    · exact O.2 y h1
    · obtain rfl := List.mem_singleton.1 h1; exact ho
theorem own_free {k : Nat} {l : List Int} (O : Own8 H W) (h : FreeS H W o n k H' W' l) : Own8 H' W' := by
  cases h with
  | none _ => exact O
  | state _ _ _ _ _ => exact O
  | ok _ _ =>
    refine ⟨fun h hh => ?_, fun y hy => O.2 y (comeP_sub n _ _ _ y hy)⟩
    rcases comeP_from n _ _ _ h hh with h1 | h1
    · exact O.1 h (mem_woN.1 h1).1
    · exact O.2 h h1
theorem own_drop (O : Own8 H W) (o : Int) : Own8 (dropP o (namesP H W o) H (woA W o)).1 (dropP o (namesP H W o) H (woA W o)).2.1 := by
  refine ⟨fun h hh => ?_, fun y hy => O.2 y (mem_woA.1 (dropP_sub o _ _ _ y hy)).1⟩
  rcases dropP_from o _ _ _ h hh with h1 | h1
  · exact O.1 h h1
  · exact O.2 h (mem_woA.1 h1).1
/-- within a round: k of eight had their turn -/
structure Rnd (W0 : Hs) (k : Int) (H W : Hs) : Prop where
  I : Inv9 H W
  F : ∀ n, First9 H W n
  own : Own8 H W
  sub : W.Sublist W0
  less : W.length < W0.length ∨ (W = W0 ∧ ∀ h ∈ H, h.owner < k → ∃ y ∈ W, y.owner = h.owner)
theorem Rnd.start (I : Inv9 H W) (F : ∀ n, First9 H W n) (O : Own8 H W) : Rnd W 0 H W :=
  ⟨I, F, O, List.Sublist.refl _, .inr ⟨rfl, fun h hh e => by have := (O.1 h hh).1; omega⟩⟩
theorem Rnd.waits {k : Int} (R : Rnd W0 k H W) (hw : ∃ y ∈ W, y.owner = k) : Rnd W0 (k + 1) H W := by
  refine ⟨R.I, R.F, R.own, R.sub, ?_⟩
  rcases R.less with h | ⟨h1, h2⟩
  · exact .inl h
  · refine .inr ⟨h1, fun h hh e => ?_⟩
    by_cases e2 : h.owner = k
    · rw [e2]; exact hw
    · exact h2 h hh (by omega)
theorem Rnd.drop {k : Int} (R : Rnd W0 k H W) (_hw : ∀ y ∈ W, y.owner ≠ k) : Rnd W0 (k + 1) (dropP k (namesP H W k) H (woA W k)).1 (dropP k (namesP H W k) H (woA W k)).2.1 := by
  obtain ⟨i1, i2⟩ := R.I.drop R.F k
  have hs := (dropP_subl k (namesP H W k) H (woA W k)).trans (woA_subl W k)
  refine ⟨i1, i2, own_drop R.own k, hs.trans R.sub, ?_⟩
  rcases R.less with h | ⟨h1, h2⟩
  · exact .inl (Nat.lt_of_le_of_lt hs.length_le h)
  · by_cases hl : (dropP k (namesP H W k) H (woA W k)).2.1.length < W0.length
    · exact .inl hl
    · have he := hs.eq_of_length (by have h3 := hs.length_le; have h4 := congrArg List.length h1; omega)
      refine .inr ⟨he.trans h1, fun h hh e => ?_⟩
      rw [he]
      have hne := (drop_all R.I.ok k).1 h hh
      rcases dropP_from k _ _ _ h hh with h3 | h3
      · exact h2 h h3 (by omega)
      · exact ⟨h, (mem_woA.1 h3).1, rfl⟩
theorem Rnd.stop (R : Rnd W0 8 H W) (h : W0 ≠ []) : W.length < W0.length := by
  rcases R.less with h1 | ⟨h1, h2⟩
  · exact h1
  · exact (not_all_wait R.I R.F (by rw [h1]; exact h) (fun z hz => h2 z hz (R.own.1 z hz).2)).elim
theorem Rnd.none (R : Rnd [] 8 H W) : H = [] ∧ W = [] := by
  have hw : W = [] := List.eq_nil_of_sublist_nil R.sub
  rcases R.less with h1 | ⟨_, h2⟩
  · simp at h1
  · refine ⟨List.eq_nil_iff_forall_not_mem.2 (fun h hh => ?_), hw⟩
    obtain ⟨y, hy, _⟩ := h2 h hh (R.own.1 h hh).2
    rw [hw] at hy; cases hy
/-- behind n rounds -/
structure Lv (n : Nat) (H W : Hs) : Prop where
  I : Inv9 H W
  F : ∀ n, First9 H W n
  own : Own8 H W
  some : n ≤ 7 → W.length ≤ 7 - n
  none : n = 8 → H = [] ∧ W = []
theorem Lv.start (I : Inv9 H W) (F : ∀ n, First9 H W n) (O : Own8 H W) : Lv 0 H W := by
  refine ⟨I, F, O, fun _ => ?_, fun h => by omega⟩
  cases hW : W with
  | nil => simp
  | cons w l =>
    have hne : W ≠ [] := by rw [hW]; simp
    have : ∃ h ∈ H, ∀ y ∈ W, y.owner ≠ h.owner := Classical.byContradiction fun k => not_all_wait I F hne (fun h hh => Classical.byContradiction fun k2 => k ⟨h, hh, fun y hy e => k2 ⟨y, hy, e⟩⟩)
    obtain ⟨h, hh, hno⟩ := this
    have := len_below 8 (h.owner :: W.map (·.owner)) (List.nodup_cons.2 ⟨fun hm => by obtain ⟨y, hy, e⟩ := List.mem_map.1 hm; exact hno y hy e, I.ok.wn⟩) (fun x hx => by
      rcases List.mem_cons.1 hx with rfl | hx
      · exact O.1 h hh
      · obtain ⟨y, hy, rfl⟩ := List.mem_map.1 hx; exact O.2 y hy)
    simp only [List.length_cons, List.length_map] at this
    rw [hW] at this
    simp only [List.length_cons] at this ⊢
    omega
theorem Lv.next {n : Nat} {H0 : Hs} (L : Lv n H0 W0) (hn : n < 8) (R : Rnd W0 8 H W) : Lv (n + 1) H W := by
  have h7 := L.some (by omega)
  refine ⟨R.I, R.F, R.own, fun h => ?_, fun h => ?_⟩
  · by_cases h0 : W0 = []
    · have := R.sub.length_le
      rw [h0] at this
      simp at this
      rw [this]; simp
    · have := R.stop h0
      omega
  · have h0 : W0 = [] := List.eq_nil_of_length_eq_zero (by omega)
    rw [h0] at R
    exact R.none
end
end Go.Proofs.YtainnhcmhgloaaaDoor
