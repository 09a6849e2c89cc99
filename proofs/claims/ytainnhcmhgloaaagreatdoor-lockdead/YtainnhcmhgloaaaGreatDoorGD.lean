/-
  Locks, plain: if those that wait for nothing drop all, one by one, round by round, nobody is left that waits. No program in this text.
  Locks, plain: those that wait for one name come in the order in which they asked. No program in this text.
  Locks, plain: what Ask tells, as a function, where it is known whether a ring would come. No program in this text.
-/
import Derived.Test.YtainnhcmhgloaaaGreatDoorGB
namespace Go.Proofs.YtainnhcmhgloaaaGreatDoor
open Go.RowKit
section
variable {H W H' W' W0 : Hs} {x y : Has9} {a b c o : Int} {n n' : ByteArray}
theorem woA_subl (W : Hs) (o : Int) : (woA W o).Sublist W := by unfold woA; exact List.filter_sublist
theorem comeP_subl (n : ByteArray) : ∀ (k : Nat) (H W : Hs), (comeP n k H W).2.1.Sublist W
  | 0, H, W => by unfold comeP; exact List.Sublist.refl _
  | k + 1, H, W => by
    cases hn : nameL W n with
    | nil => rw [comeP_nil hn]; exact List.Sublist.refl _
    | cons z l =>
      cases hc : canP H z with
      | false => rw [comeP_no hn hc]; exact List.Sublist.refl _
      | true => rw [comeP_yes hn hc]; exact (comeP_subl n k _ _).trans (woA_subl W _)
theorem dropP_subl (o : Int) : ∀ (K : List ByteArray) (H W : Hs), (dropP o K H W).2.1.Sublist W
  | [], _, _ => List.Sublist.refl _
  | n :: K, _, _ => (dropP_subl o K _ _).trans (comeP_subl n _ _ _)
theorem dropP_from (o : Int) : ∀ (K : List ByteArray) (H W : Hs), ∀ h ∈ (dropP o K H W).1, h ∈ H ∨ h ∈ W
  | [], _, _ => fun h hh => .inl hh
  | n :: K, H, W => fun h hh => by
    rcases dropP_from o K _ _ h hh with h1 | h1
    · rcases comeP_from n _ _ _ h h1 with h2 | h2
      · exact .inl (mem_woN.1 h2).1
      · exact .inr h2
    · exact .inr (comeP_sub n _ _ _ h h1)
theorem exists_top {α : Type} {R : α → α → Prop} (ht : ∀ a b c, R a b → R b c → R a c) (hi : ∀ a, ¬ R a a) : ∀ (l : List α), l ≠ [] → ∃ a ∈ l, ∀ b ∈ l, ¬ R a b
  | [], h => absurd rfl h
  | [x], _ => ⟨x, by simp, fun b hb => by obtain rfl := List.mem_singleton.1 hb; exact hi b⟩
  | x :: y :: l, _ => by
    obtain ⟨a, ha, h⟩ := exists_top ht hi (y :: l) (by simp)
    by_cases hr : R a x
    · refine ⟨x, by simp, fun b hb => ?_⟩
      rcases List.mem_cons.1 hb with rfl | hb
      · exact hi b
      · exact fun h2 => h b hb (ht _ _ _ hr h2)
    · refine ⟨a, List.mem_cons_of_mem _ ha, fun b hb => ?_⟩
      rcases List.mem_cons.1 hb with rfl | hb
      · exact hr
      · exact h b hb
/-- not all that hold something wait -/
theorem not_all_wait (I : Inv9 H W) (F : ∀ n, First9 H W n) (hne : W ≠ []) (hall : ∀ h ∈ H, ∃ y ∈ W, y.owner = h.owner) : False := by
  obtain ⟨y, hy, ht⟩ := exists_top (R := fun a b : Has9 => Bqs H W a.owner b.owner) (fun _ _ _ => Bqs.trans) (fun a => I.loop a.owner) W hne
  obtain ⟨b, hb⟩ := waits_behind I.ok F hy
  have hq := bh_bqs I.ok hb
  have : ∃ z ∈ W, z.owner = b := by
    cases hb with
    | holds x h hx ha hh hn hb hne hf => obtain ⟨z, hz, e⟩ := hall h hh; exact ⟨z, hz, e.trans hb⟩
    | ahead x y' L1 L2 L3 hW ha hb hn => exact ⟨y', by rw [hW]; simp, hb⟩
  obtain ⟨z, hz, rfl⟩ := this
  exact ht z hz hq
theorem len_below : ∀ (n : Nat) (l : List Int), l.Nodup → (∀ x ∈ l, 0 ≤ x ∧ x < (n : Int)) → l.length ≤ n
  | 0, l, _, h => by
    cases l with
    | nil => simp
    | cons a l => have := h a (by simp); omega
  | n + 1, l, hn, h => by
    by_cases hm : (n : Int) ∈ l
    · have h1 := len_below n (l.erase (n : Int)) (hn.sublist List.erase_sublist) (fun x hx => by
        have h2 := h x (List.mem_of_mem_erase hx)
        have h3 : x ≠ (n : Int) := fun e => by
          rw [hn.mem_erase_iff] at hx
          exact hx.1 e
        omega)
      rw [List.length_erase_of_mem hm] at h1
      omega
    · have := len_below n l hn (fun x hx => by
        have h2 := h x hx
        have h3 : x ≠ (n : Int) := fun e => hm (e ▸ hx)
        omega)
      omega
/-- all owners are some of eight -/
def Own8 (H W : Hs) : Prop := (∀ h ∈ H, 0 ≤ h.owner ∧ h.owner < 8) ∧ ∀ y ∈ W, 0 ≤ y.owner ∧ y.owner < 8
theorem own_ask {m : Int} {k : Nat} (O : Own8 H W) (ho : 0 ≤ o ∧ o < 8) (h : AskS H W o n m k H' W') : Own8 H' W' := by
  cases h with
  | arg _ => exact O
  | state _ _ _ _ => exact O
  | has _ _ _ => exact O
  | dead _ _ _ _ _ => exact O
  | got _ _ _ _ _ =>
    refine ⟨fun h hh => ?_, O.2⟩
    rcases mem_holdP.1 hh with h1 | rfl
    · exact O.1 h h1.1
    · exact ho
  | wait _ _ _ _ _ =>
    refine ⟨O.1, fun y hy => ?_⟩
    have := (stayAt_perm H (⟨o, jn (modeP H o n) m.toNat 7, n⟩ : Has9) (decide (modeP H o n ≠ 0)) W).mem_iff.1 hy
    rcases List.mem_append.1 this with h1 | h1
    · exact O.2 y h1
    · obtain rfl := List.mem_singleton.1 h1; exact ho
theorem own_free {k : Nat} {l : List Int} (O : Own8 H W) (h : FreeS H W o n k H' W' l) : Own8 H' W' := by
  cases h with
  | none _ => exact O
  | state _ _ _ _ _ => exact O
  | ok _ _ =>
    refine ⟨fun h hh => ?_, fun y hy => O.2 y (comeP_sub n _ _ _ y hy)⟩
    rcases comeP_from n _ _ _ h hh with h1 | h1
    · exact O.1 h (mem_woN.1 h1).1
    · exact O.2 h h1
theorem own_drop (O : Own8 H W) (o : Int) : Own8 (dropP o (namesP H W o) H (woA W o)).1 (dropP o (namesP H W o) H (woA W o)).2.1 := by
  refine ⟨fun h hh => ?_, fun y hy => O.2 y (mem_woA.1 (dropP_sub o _ _ _ y hy)).1⟩
  rcases dropP_from o _ _ _ h hh with h1 | h1
  · exact O.1 h h1
  · exact O.2 h (mem_woA.1 h1).1
/-- within a round: k of eight had their turn -/
structure Rnd (W0 : Hs) (k : Int) (H W : Hs) : Prop where
  I : Inv9 H W
  F : ∀ n, First9 H W n
  own : Own8 H W
  sub : W.Sublist W0
  less : W.length < W0.length ∨ (W = W0 ∧ ∀ h ∈ H, h.owner < k → ∃ y ∈ W, y.owner = h.owner)
theorem Rnd.start (I : Inv9 H W) (F : ∀ n, First9 H W n) (O : Own8 H W) : Rnd W 0 H W :=
  ⟨I, F, O, List.Sublist.refl _, .inr ⟨rfl, fun h hh e => by have := (O.1 h hh).1; omega⟩⟩
theorem Rnd.waits {k : Int} (R : Rnd W0 k H W) (hw : ∃ y ∈ W, y.owner = k) : Rnd W0 (k + 1) H W := by
  refine ⟨R.I, R.F, R.own, R.sub, ?_⟩
  rcases R.less with h | ⟨h1, h2⟩
  · exact .inl h
  · refine .inr ⟨h1, fun h hh e => ?_⟩
    by_cases e2 : h.owner = k
    · rw [e2]; exact hw
    · exact h2 h hh (by omega)
theorem Rnd.drop {k : Int} (R : Rnd W0 k H W) (_hw : ∀ y ∈ W, y.owner ≠ k) : Rnd W0 (k + 1) (dropP k (namesP H W k) H (woA W k)).1 (dropP k (namesP H W k) H (woA W k)).2.1 := by
  obtain ⟨i1, i2⟩ := R.I.drop R.F k
  have hs := (dropP_subl k (namesP H W k) H (woA W k)).trans (woA_subl W k)
  refine ⟨i1, i2, own_drop R.own k, hs.trans R.sub, ?_⟩
  rcases R.less with h | ⟨h1, h2⟩
  · exact .inl (Nat.lt_of_le_of_lt hs.length_le h)
  · by_cases hl : (dropP k (namesP H W k) H (woA W k)).2.1.length < W0.length
    · exact .inl hl
    · have he := hs.eq_of_length (by have h3 := hs.length_le; have h4 := congrArg List.length h1; omega)
      refine .inr ⟨he.trans h1, fun h hh e => ?_⟩
      rw [he]
      have hne := (drop_all R.I.ok k).1 h hh
      rcases dropP_from k _ _ _ h hh with h3 | h3
      · exact h2 h h3 (by omega)
      · exact ⟨h, (mem_woA.1 h3).1, rfl⟩
theorem Rnd.stop (R : Rnd W0 8 H W) (h : W0 ≠ []) : W.length < W0.length := by
  rcases R.less with h1 | ⟨h1, h2⟩
  · exact h1
  · exact (not_all_wait R.I R.F (by rw [h1]; exact h) (fun z hz => h2 z hz (R.own.1 z hz).2)).elim
theorem Rnd.none (R : Rnd [] 8 H W) : H = [] ∧ W = [] := by
  have hw : W = [] := List.eq_nil_of_sublist_nil R.sub
  rcases R.less with h1 | ⟨_, h2⟩
  · simp at h1
  · refine ⟨List.eq_nil_iff_forall_not_mem.2 (fun h hh => ?_), hw⟩
    obtain ⟨y, hy, _⟩ := h2 h hh (R.own.1 h hh).2
    rw [hw] at hy; cases hy
/-- behind n rounds -/
structure Lv (n : Nat) (H W : Hs) : Prop where
  I : Inv9 H W
  F : ∀ n, First9 H W n
  own : Own8 H W
  some : n ≤ 7 → W.length ≤ 7 - n
  none : n = 8 → H = [] ∧ W = []
theorem Lv.start (I : Inv9 H W) (F : ∀ n, First9 H W n) (O : Own8 H W) : Lv 0 H W := by
  refine ⟨I, F, O, fun _ => ?_, fun h => by omega⟩
  cases hW : W with
  | nil => simp
  | cons w l =>
    have hne : W ≠ [] := by rw [hW]; simp
    have : ∃ h ∈ H, ∀ y ∈ W, y.owner ≠ h.owner := Classical.byContradiction fun k => not_all_wait I F hne (fun h hh => Classical.byContradiction fun k2 => k ⟨h, hh, fun y hy e => k2 ⟨y, hy, e⟩⟩)
    obtain ⟨h, hh, hno⟩ := this
    have := len_below 8 (h.owner :: W.map (·.owner)) (List.nodup_cons.2 ⟨fun hm => by obtain ⟨y, hy, e⟩ := List.mem_map.1 hm; exact hno y hy e, I.ok.wn⟩) (fun x hx => by
      rcases List.mem_cons.1 hx with rfl | hx
      · exact O.1 h hh
      · obtain ⟨y, hy, rfl⟩ := List.mem_map.1 hx; exact O.2 y hy)
    simp only [List.length_cons, List.length_map] at this
    rw [hW] at this
    simp only [List.length_cons] at this ⊢
    omega
theorem Lv.next {n : Nat} {H0 : Hs} (L : Lv n H0 W0) (hn : n < 8) (R : Rnd W0 8 H W) : Lv (n + 1) H W := by
  have h7 := L.some (by omega)
  refine ⟨R.I, R.F, R.own, fun h => ?_, fun h => ?_⟩
  · by_cases h0 : W0 = []
    · have := R.sub.length_le
      rw [h0] at this
      simp at this
      rw [this]; simp
    · have := R.stop h0
      omega
  · have h0 : W0 = [] := List.eq_nil_of_length_eq_zero (by omega)
    rw [h0] at R
    exact R.none
end
end Go.Proofs.YtainnhcmhgloaaaGreatDoor

namespace Go.Proofs.YtainnhcmhgloaaaGreatDoor
open Go.RowKit
section
variable {H W H' W' W0 H0 : Hs} {x y : Has9} {a b c o : Int} {n n' nm : ByteArray}
theorem comeP_order (n : ByteArray) : ∀ (k : Nat) (H W : Hs), (W.map (·.owner)).Nodup → (comeP n k H W).2.2 ++ (nameL (comeP n k H W).2.1 n).map (·.owner) = (nameL W n).map (·.owner)
  | 0, H, W, _ => by unfold comeP; simp
  | k + 1, H, W, hn => by
    cases hl : nameL W n with
    | nil => rw [comeP_nil hl]; simp [hl]
    | cons z l =>
      cases hc : canP H z with
      | false => rw [comeP_no hl hc]; simp [hl]
      | true =>
        rw [comeP_yes hl hc]
        have ih := comeP_order n k (holdP H z) (woA W z.owner) ((woA_subl W _).map _ |>.nodup hn)
        have e1 : nameL (woA W z.owner) n = l := by
          rw [nameL_woA, hl]
          have h2 := nameL_owners hn n
          rw [hl] at h2
          exact filter_owner (l1 := []) h2
        rw [e1] at ih
        simp only [List.cons_append, List.map_cons]
        rw [ih]
theorem nameL_all (h : ∀ y ∈ W, y.name = nm) : nameL W nm = W := by
  unfold nameL; rw [List.filter_eq_self]; intro y hy; simp [h y hy]
theorem nameL_other (h : ∀ y ∈ W, y.name = nm) (hne : n ≠ nm) : nameL W n = [] := by
  refine List.eq_nil_iff_forall_not_mem.2 (fun y hy => ?_)
  obtain ⟨h1, h2⟩ := mem_nameL.1 hy
  exact hne (h2.symm.trans (h y h1))
theorem dropP_cons (o : Int) (n : ByteArray) (K : List ByteArray) (H W : Hs) : dropP o (n :: K) H W = ((dropP o K (comeP n (nameL W n).length (woN H o n) W).1 (comeP n (nameL W n).length (woN H o n) W).2.1).1, (dropP o K (comeP n (nameL W n).length (woN H o n) W).1 (comeP n (nameL W n).length (woN H o n) W).2.1).2.1, (comeP n (nameL W n).length (woN H o n) W).2.2 ++ (dropP o K (comeP n (nameL W n).length (woN H o n) W).1 (comeP n (nameL W n).length (woN H o n) W).2.1).2.2) := rfl
theorem dropP_order (o : Int) (nm : ByteArray) : ∀ (K : List ByteArray) (H W : Hs), (W.map (·.owner)).Nodup → (∀ y ∈ W, y.name = nm) → (dropP o K H W).2.2 ++ (dropP o K H W).2.1.map (·.owner) = W.map (·.owner)
  | [], _, _, _, _ => by unfold dropP; simp
  | n :: K, H, W, hn, hW => by
    rw [dropP_cons]
    by_cases e : n = nm
    · subst e
      have h1 := comeP_order n (nameL W n).length (woN H o n) W hn
      have hs := comeP_subl n (nameL W n).length (woN H o n) W
      generalize comeP n (nameL W n).length (woN H o n) W = R at *
      have e1 : nameL R.2.1 n = R.2.1 := nameL_all (fun y hy => hW y (hs.subset hy))
      rw [e1, nameL_all hW] at h1
      have ih := dropP_order o n K R.1 R.2.1 ((hs.map _).nodup hn) (fun y hy => hW y (hs.subset hy))
      simp only
      rw [List.append_assoc, ih, h1]
    · have e1 := nameL_other hW e
      rw [comeP_nil (H := woN H o n) e1]
      exact dropP_order o nm K _ _ hn hW
theorem comeP_dis (n : ByteArray) : ∀ (k : Nat) (H W : Hs), (∀ h ∈ H, ∀ y ∈ W, h.owner ≠ y.owner) → ∀ h ∈ (comeP n k H W).1, ∀ y ∈ (comeP n k H W).2.1, h.owner ≠ y.owner
  | 0, _, _, h => by unfold comeP; exact h
  | k + 1, H, W, h => by
    cases hl : nameL W n with
    | nil => rw [comeP_nil hl]; exact h
    | cons z l =>
      cases hc : canP H z with
      | false => rw [comeP_no hl hc]; exact h
      | true =>
        rw [comeP_yes hl hc]
        refine comeP_dis n k _ _ (fun u hu v hv => ?_)
        obtain ⟨h1, h2⟩ := mem_woA.1 hv
        rcases mem_holdP.1 hu with h3 | rfl
        · exact h u h3.1 v h1
        · exact fun e => h2 e.symm
theorem dropP_dis (o : Int) : ∀ (K : List ByteArray) (H W : Hs), (∀ h ∈ H, ∀ y ∈ W, h.owner ≠ y.owner) → ∀ h ∈ (dropP o K H W).1, ∀ y ∈ (dropP o K H W).2.1, h.owner ≠ y.owner
  | [], _, _, h => h
  | n :: K, _H, _W, h => dropP_dis o K _ _ (comeP_dis n _ _ _ (fun u hu => h u (mem_woN.1 hu).1))
theorem comeP_stop (n : ByteArray) : ∀ (k : Nat) (H W : Hs), (comeP n k H W).2.2 = [] → (comeP n k H W).1 = H ∧ (comeP n k H W).2.1 = W
  | 0, _, _, _ => by unfold comeP; exact ⟨rfl, rfl⟩
  | k + 1, H, W, h => by
    cases hl : nameL W n with
    | nil => rw [comeP_nil hl]; exact ⟨rfl, rfl⟩
    | cons z l =>
      cases hc : canP H z with
      | false => rw [comeP_no hl hc]; exact ⟨rfl, rfl⟩
      | true => rw [comeP_yes hl hc] at h; cases h
theorem dropP_stop (o : Int) : ∀ (K : List ByteArray) (H W : Hs), (dropP o K H W).2.2 = [] → (∀ h ∈ (dropP o K H W).1, h ∈ H) ∧ (dropP o K H W).2.1 = W
  | [], _, _, _ => ⟨fun _ h => h, rfl⟩
  | n :: K, H, W, h => by
    obtain ⟨h1, h2⟩ := List.append_eq_nil_iff.1 h
    obtain ⟨e1, e2⟩ := comeP_stop n _ _ _ h1
    obtain ⟨i1, i2⟩ := dropP_stop o K _ _ h2
    refine ⟨fun z hz => ?_, i2.trans e2⟩
    have := i1 z hz
    rw [e1] at this
    exact (mem_woN.1 this).1
/-- one name is held, and waited for, by others -/
structure Tn (nm : ByteArray) (H W : Hs) : Prop where
  I : Inv9 H W
  F : ∀ n, First9 H W n
  hn : ∀ h ∈ H, h.name = nm
  wn : ∀ y ∈ W, y.name = nm
  dis : ∀ h ∈ H, ∀ y ∈ W, h.owner ≠ y.owner
theorem woA_same (h : ∀ y ∈ W, y.owner ≠ o) : woA W o = W := by
  unfold woA; rw [List.filter_eq_self]; intro y hy; simp [h y hy]
theorem Tn.drop (T : Tn nm H W) (hno : ∀ y ∈ W, y.owner ≠ o) : Tn nm (dropP o (namesP H W o) H (woA W o)).1 (dropP o (namesP H W o) H (woA W o)).2.1 ∧ (dropP o (namesP H W o) H (woA W o)).2.2 ++ (dropP o (namesP H W o) H (woA W o)).2.1.map (·.owner) = W.map (·.owner) ∧ ((dropP o (namesP H W o) H (woA W o)).2.2 = [] → ∀ h ∈ (dropP o (namesP H W o) H (woA W o)).1, h ∈ H ∧ h.owner ≠ o) := by
  obtain ⟨i1, i2⟩ := T.I.drop T.F o
  have hg := (drop_all T.I.ok o).1
  rw [woA_same hno] at i1 i2 hg ⊢
  refine ⟨⟨i1, i2, fun h hh => ?_, fun y hy => T.wn y (dropP_sub o _ _ _ y hy), dropP_dis o _ _ _ T.dis⟩, dropP_order o nm _ _ _ T.I.ok.wn T.wn, fun he h hh => ⟨(dropP_stop o _ _ _ he).1 h hh, hg h hh⟩⟩
  rcases dropP_from o _ _ _ h hh with h1 | h1
  · exact T.hn h h1
  · exact T.wn h h1
/-- those that held it drop all, one by one: k of them did; out came -/
structure Td (nm : ByteArray) (W0 : Hs) (hl : List Int) (k : Nat) (out : List Int) (H W : Hs) : Prop where
  T : Tn nm H W
  ord : out ++ W.map (·.owner) = W0.map (·.owner)
  sub : W.Sublist W0
  left : out = [] → ∀ h ∈ H, h.owner ∈ hl.drop k
theorem Td.start (T : Tn nm H W) {hl : List Int} (hh : ∀ h ∈ H, h.owner ∈ hl) : Td nm W hl 0 [] H W := ⟨T, rfl, List.Sublist.refl _, fun _ => by simpa using hh⟩
theorem Td.drop {hl out : List Int} {k : Nat} {x : Int} (D : Td nm W0 hl k out H W) (hx : hl[k]? = some x) (hno : ∀ y ∈ W0, y.owner ≠ x) :
    Td nm W0 hl (k + 1) (out ++ (dropP x (namesP H W x) H (woA W x)).2.2) (dropP x (namesP H W x) H (woA W x)).1 (dropP x (namesP H W x) H (woA W x)).2.1 := by
  obtain ⟨t1, t2, t3⟩ := D.T.drop (o := x) (fun y hy => hno y (D.sub.subset hy))
  refine ⟨t1, by rw [List.append_assoc, t2]; exact D.ord, ((dropP_subl x _ _ _).trans (woA_subl W x)).trans D.sub, fun he h hh => ?_⟩
  obtain ⟨h1, h2⟩ := List.append_eq_nil_iff.1 he
  obtain ⟨h3, h4⟩ := t3 h2 h hh
  have h5 := D.left h1 h h3
  obtain ⟨hlt, he2⟩ := List.getElem?_eq_some_iff.1 hx
  rw [List.drop_eq_getElem_cons hlt, he2] at h5
  rcases List.mem_cons.1 h5 with h6 | h6
  · exact absurd h6 h4
  · exact h6
/-- behind all of them: somebody came, if somebody waited -/
theorem Td.stop {hl out : List Int} (D : Td nm W0 hl hl.length out H W) (hne : W0 ≠ []) : out ≠ [] := by
  intro he
  have hH : H = [] := List.eq_nil_iff_forall_not_mem.2 (fun h hh => by
    have := D.left he h hh
    rw [List.drop_length] at this; cases this)
  have ho := D.ord
  rw [he] at ho
  cases hW : W with
  | nil => rw [hW] at ho; simp at ho; exact hne (by cases hW0 : W0 with | nil => rfl | cons a l => rw [hW0] at ho; simp at ho)
  | cons y l =>
    have h1 := D.T.F nm y l (by rw [nameL_all D.T.wn]; exact hW)
    rw [hH] at h1
    simp [canP] at h1
/-- a row of those that ask, one behind the other -/
structure Ta (nm : ByteArray) (i : Nat) (H W : Hs) : Prop where
  I : Inv9 H W
  F : ∀ n, First9 H W n
  hh : H = [⟨0, 6, nm⟩]
  wn : ∀ y ∈ W, y.name = nm
  ow : W.map (·.owner) = (List.range i).map (fun k => ((k + 1 : Nat) : Int))
theorem mid_last {α : Type} {l l1 l2 : List α} {x y : α} (hn : (l ++ [x]).Nodup) (h : l ++ [x] = l1 ++ y :: l2) (hl : l2 ≠ []) : y ≠ x := by
  intro e
  subst e
  have hx : (l ++ [y]).getLast? = some y := by simp
  rw [h] at hx
  obtain ⟨z, hz⟩ : ∃ z, l2.getLast? = some z := ⟨l2.getLast hl, List.getLast?_eq_some_getLast hl⟩
  have hy : y ∈ l2 := by
    have : (l1 ++ y :: l2).getLast? = l2.getLast? := by
      rw [List.getLast?_append, List.getLast?_cons, hz]; simp
    rw [this, hz] at hx
    rw [← Option.some.inj hx]
    exact List.mem_of_getLast? hz
  rw [h] at hn
  have := (List.nodup_append.1 hn).2.1
  exact (List.nodup_cons.1 this).1 hy
theorem stay_last (H : Hs) (x : Has9) : ∀ W : Hs, stayAt H x false W = W ++ [x]
  | [] => rfl
  | w :: l => by unfold stayAt; simp [stay_last H x l]
theorem Ta.ask {i k : Nat} {m : Int} (T : Ta nm i H W) (hnm : nm.size ≤ 300) (hi : i < 100) (hm : 0 < m ∧ m < 7) (h : AskS H W ((i + 1 : Nat) : Int) nm m k H' W') : k = 10 ∧ Ta nm (i + 1) H' W' := by
  have hI := T.I.ask T.F (by omega) hnm h
  have hw : ∀ y ∈ W, y.owner ≠ ((i + 1 : Nat) : Int) := fun y hy e => by
    have : y.owner ∈ W.map (·.owner) := List.mem_map.2 ⟨y, hy, rfl⟩
    rw [T.ow] at this
    obtain ⟨q, hq, e2⟩ := List.mem_map.1 this
    rw [List.mem_range] at hq
    omega
  have h0 : modeP H ((i + 1 : Nat) : Int) nm = 0 := modeP_none (fun z hz ⟨e, _⟩ => by
    rw [T.hh] at hz
    obtain rfl := List.mem_singleton.1 hz
    simp only at e; omega)
  have hm7 : m.toNat < 7 := by omega
  have hj := jn_pos 0 (by omega) _ hm7 (by omega)
  have hj7 : jn 0 m.toNat 7 < 7 := jn_lt _ _ _ (by omega)
  cases h with
  | arg h => exact absurd ⟨by omega, hm.1, hm.2⟩ h
  | state _ y hy e => exact absurd e (hw y hy)
  | has _ _ e => rw [h0] at e; omega
  | got _ _ _ _ hc =>
    have := canP_iff.1 hc ⟨0, 6, nm⟩ (by rw [T.hh]; simp) rfl (by simp only; omega)
    simp only [h0] at this
    rw [← fit_swap _ (by omega) _ (by omega), fit_rx _ hj7 (by omega)] at this
    cases this
  | dead _ _ _ _ hd =>
    exfalso
    rw [h0] at hd
    simp only [ne_eq, not_true_eq_false, decide_false] at hd
    rw [stay_last] at hd
    obtain ⟨b, y, hy, _, hb⟩ := hd.last
    rcases hb with ⟨h, hh, _, h2, _⟩ | ⟨l1, l2, z, hl, hz⟩
    · rw [T.hh] at hh
      obtain rfl := List.mem_singleton.1 hh
      simp only at h2; omega
    · have hall : ∀ u ∈ W ++ [(⟨((i + 1 : Nat) : Int), jn 0 m.toNat 7, nm⟩ : Has9)], u.name = nm := fun u hu => by
        rcases List.mem_append.1 hu with hu | hu
        · exact T.wn u hu
        · obtain rfl := List.mem_singleton.1 hu; rfl
      rw [hall y hy, nameL_all hall] at hl
      have h3 := congrArg (List.map (·.owner)) hl
      rw [List.map_append, List.map_append] at h3
      refine mid_last (l2 := (y :: l2).map (·.owner)) ?_ h3 (by simp) hz
      rw [List.nodup_append]
      refine ⟨T.I.ok.wn, by simp, fun u hu v hv e => ?_⟩
      obtain ⟨q, hq, rfl⟩ := List.mem_map.1 hu
      simp at hv
      exact hw q hq (e.trans (by rw [hv]; rfl))
  | wait _ _ _ _ hd =>
    have e : stayAt H ⟨((i + 1 : Nat) : Int), jn (modeP H ((i + 1 : Nat) : Int) nm) m.toNat 7, nm⟩ (decide (modeP H ((i + 1 : Nat) : Int) nm ≠ 0)) W = W ++ [⟨((i + 1 : Nat) : Int), jn (modeP H ((i + 1 : Nat) : Int) nm) m.toNat 7, nm⟩] := by
      rw [decide_eq_false (by rw [h0]; simp), stay_last]
    rw [e] at hI ⊢
    refine ⟨rfl, hI.1, hI.2, T.hh, fun u hu => ?_, ?_⟩
    · rcases List.mem_append.1 hu with hu | hu
      · exact T.wn u hu
      · obtain rfl := List.mem_singleton.1 hu; rfl
    · rw [List.map_append, T.ow, List.range_succ, List.map_append]; rfl
/-- the one that holds it lets go: all others come to be told in order -/
theorem Ta.tn {i : Nat} (T : Ta nm i H W) : Tn nm H W := by
  refine ⟨T.I, T.F, fun h hh => ?_, T.wn, fun h hh y hy e => ?_⟩
  · rw [T.hh] at hh; obtain rfl := List.mem_singleton.1 hh; rfl
  · rw [T.hh] at hh
    obtain rfl := List.mem_singleton.1 hh
    have : y.owner ∈ W.map (·.owner) := List.mem_map.2 ⟨y, hy, rfl⟩
    rw [T.ow] at this
    obtain ⟨q, hq, e2⟩ := List.mem_map.1 this
    simp only at e; omega
theorem Ta.start (hnm : nm.size ≤ 300) {k : Nat} (h : AskS [] [] 0 nm 6 k H' W') : k = 0 ∧ Ta nm 0 H' W' := by
  have hI := Inv9.start.ask (fun n y l hl => by cases hl) (by omega) hnm h
  have e : jn (modeP [] 0 nm) (6 : Int).toNat 7 = 6 := by
    have : modeP [] 0 nm = 0 := rfl
    rw [this]; decide
  cases h with
  | arg h => exact absurd ⟨by omega, by omega, by omega⟩ h
  | state _ y hy e => cases hy
  | has _ _ e2 => rw [e] at e2; cases e2
  | got _ _ _ _ hc =>
    refine ⟨rfl, hI.1, hI.2, ?_, fun y hy => (by cases hy), rfl⟩
    unfold holdP woN
    rw [e]; rfl
  | dead _ _ _ hn _ => exact absurd ⟨.inr rfl, rfl⟩ hn
  | wait _ _ _ hn _ => exact absurd ⟨.inr rfl, rfl⟩ hn
end
end Go.Proofs.YtainnhcmhgloaaaGreatDoor

namespace Go.Proofs.YtainnhcmhgloaaaGreatDoor
open Go.RowKit Go.Lib Go.Sort
section
variable {H W H' W' : Hs} {x : Int} {nm : ByteArray} {m : Int} {k : Nat}
def wantP (H : Hs) (x : Int) (nm : ByteArray) (m : Int) : Has9 := ⟨x, jn (modeP H x nm) m.toNat 7, nm⟩
def stayP (H W : Hs) (x : Int) (nm : ByteArray) (m : Int) : Hs := stayAt H (wantP H x nm m) (decide (modeP H x nm ≠ 0)) W
def gotB (H W : Hs) (x : Int) (nm : ByteArray) (m : Int) : Bool := (decide (modeP H x nm ≠ 0) || (nameL W nm).isEmpty) && canP H (wantP H x nm m)
def askF (dead : Bool) (H W : Hs) (x : Int) (nm : ByteArray) (m : Int) : Nat × Hs × Hs :=
  if decide (0 ≤ x ∧ 0 < m ∧ m < 7) = false then (1, H, W)
  else if W.any (fun y => decide (y.owner = x)) then (9, H, W)
  else if (wantP H x nm m).mode = modeP H x nm then (0, H, W)
  else if gotB H W x nm m then (0, holdP H (wantP H x nm m), W)
  else if dead then (11, H, W) else (10, H, stayP H W x nm m)
theorem gotB_iff : gotB H W x nm m = true ↔ (modeP H x nm ≠ 0 ∨ nameL W nm = []) ∧ canP H ⟨x, jn (modeP H x nm) m.toNat 7, nm⟩ = true := by
  unfold gotB wantP; simp
theorem ask_is (dead : Bool) (h : AskS H W x nm m k H' W') (hd : gotB H W x nm m = false → (dead = true ↔ Bqs H (stayP H W x nm m) x x)) : (k, H', W') = askF dead H W x nm m := by
  have nA : ∀ no : (∀ y ∈ W, y.owner ≠ x), W.any (fun y => decide (y.owner = x)) = false := fun no => by
    rw [List.any_eq_false]; intro y hy; simp [no y hy]
  cases h with
  | arg h => unfold askF; rw [if_pos (decide_eq_false h)]
  | state h y hy e =>
    unfold askF
    rw [if_neg (by simp [h]), if_pos (List.any_eq_true.2 ⟨y, hy, by simp [e]⟩)]
  | has h no e =>
    unfold askF
    rw [if_neg (by simp [h]), if_neg (by rw [nA no]; simp), if_pos (show (wantP H x nm m).mode = _ from e)]
  | got h no ne hn hc =>
    unfold askF
    rw [if_neg (by simp [h]), if_neg (by rw [nA no]; simp), if_neg (show ¬ (wantP H x nm m).mode = _ from ne), if_pos (gotB_iff.2 ⟨hn, hc⟩)]; rfl
  | dead h no ne hn hb =>
    have hg : gotB H W x nm m = false := Bool.eq_false_iff.2 (fun e => hn (gotB_iff.1 e))
    unfold askF
    rw [if_neg (by simp [h]), if_neg (by rw [nA no]; simp), if_neg (show ¬ (wantP H x nm m).mode = _ from ne), if_neg (by rw [hg]; simp), if_pos ((hd hg).2 hb)]
  | wait h no ne hn hb =>
    have hg : gotB H W x nm m = false := Bool.eq_false_iff.2 (fun e => hn (gotB_iff.1 e))
    unfold askF
    rw [if_neg (by simp [h]), if_neg (by rw [nA no]; simp), if_neg (show ¬ (wantP H x nm m).mode = _ from ne), if_neg (by rw [hg]; simp), if_neg (fun e => hb ((hd hg).1 e))]; rfl
/-- what Free tells, as a function -/
def freeF (H W : Hs) (x : Int) (nm : ByteArray) : Nat × Hs × Hs × List Int :=
  if modeP H x nm = 0 then (7, H, W, [])
  else if W.any (fun y => decide (y.owner = x) && decide (y.name = nm)) then (9, H, W, [])
  else (0, comeP nm (nameL W nm).length (woN H x nm) W)
theorem free_is {l : List Int} (h : FreeS H W x nm k H' W' l) : (k, H', W', l) = freeF H W x nm := by
  cases h with
  | none h => unfold freeF; rw [if_pos h]
  | state h y hy e hn => unfold freeF; rw [if_neg h, if_pos (List.any_eq_true.2 ⟨y, hy, by simp [e, hn]⟩)]
  | ok h no =>
    unfold freeF
    rw [if_neg h, if_neg (by
      rw [Bool.not_eq_true, List.any_eq_false]; intro y hy; simp only [Bool.and_eq_true, decide_eq_true_eq]; exact fun ⟨a, b⟩ => no y hy a b)]
/-! the calls whose answers the document fixes: a is 97, b is 98 -/
def nA : ByteArray := ⟨#[97]⟩
def nB : ByteArray := ⟨#[98]⟩
theorem okA (H W : Hs) (h1 : ∀ h ∈ H, 0 < h.mode ∧ h.mode < 7 ∧ 0 ≤ h.owner ∧ h.owner ≤ 9223372036854775807 ∧ h.name.size ≤ 300) (h2 : ∀ h ∈ W, 0 < h.mode ∧ h.mode < 7 ∧ 0 ≤ h.owner ∧ h.owner ≤ 9223372036854775807 ∧ h.name.size ≤ 300) (h3 : H.Pairwise (fun a b => ¬ (a.owner = b.owner ∧ a.name = b.name))) (h4 : (W.map (·.owner)).Nodup) : Ok9 H W := ⟨h1, h2, h3, h4⟩
def S1 : Hs := [⟨1, 4, nA⟩]
def S3 : Hs := [⟨1, 4, nA⟩, ⟨3, 4, nB⟩]
def V2 : Hs := [⟨2, 3, nA⟩]
def V1 : Hs := [⟨2, 3, nA⟩, ⟨1, 3, nB⟩]
theorem eq3 {a b : Nat × Hs × Hs} (h : a = b) : a.1 = b.1 ∧ a.2.1 = b.2.1 ∧ a.2.2 = b.2.2 := by subst h; exact ⟨rfl, rfl, rfl⟩
theorem fx1 (h : AskS [] [] 1 nA 4 k H' W') : k = 0 ∧ H' = S1 ∧ W' = [] :=
  eq3 ((ask_is false h (fun hg => absurd hg (by decide +kernel))).trans (show _ = (0, S1, []) by kernel_rfl))
theorem nr2 : ¬ Bqs S1 (stayP S1 [] 2 nA 3) 2 2 :=
  no_ring (okA _ _ (by decide +kernel) (by decide +kernel) (by decide +kernel) (by decide +kernel)) [1] (by decide +kernel) (by decide +kernel) (by decide +kernel)
theorem fx2 (h : AskS S1 [] 2 nA 3 k H' W') : k = 10 ∧ H' = S1 ∧ W' = V2 :=
  eq3 ((ask_is false h (fun _ => ⟨fun e => (by cases e), fun e => absurd e nr2⟩)).trans (show _ = (10, S1, V2) by kernel_rfl))
theorem fx3 (h : AskS S1 V2 2 nB 3 k H' W') : k = 9 ∧ H' = S1 ∧ W' = V2 :=
  eq3 ((ask_is false h (fun hg => absurd hg (by decide +kernel))).trans (show _ = (9, S1, V2) by kernel_rfl))
theorem fx4 (h : AskS S1 V2 3 nB 4 k H' W') : k = 0 ∧ H' = S3 ∧ W' = V2 :=
  eq3 ((ask_is false h (fun hg => absurd hg (by decide +kernel))).trans (show _ = (0, S3, V2) by kernel_rfl))
theorem nr5 : ¬ Bqs S3 (stayP S3 V2 1 nB 3) 1 1 :=
  no_ring (okA _ _ (by decide +kernel) (by decide +kernel) (by decide +kernel) (by decide +kernel)) [3] (by decide +kernel) (by decide +kernel) (by decide +kernel)
theorem fx5 (h : AskS S3 V2 1 nB 3 k H' W') : k = 10 ∧ H' = S3 ∧ W' = V1 :=
  eq3 ((ask_is false h (fun _ => ⟨fun e => (by cases e), fun e => absurd e nr5⟩)).trans (show _ = (10, S3, V1) by kernel_rfl))
theorem fxB : behI S3 V1 1 = [3] := by kernel_rfl
theorem rg6 : Bqs S3 (stayP S3 V1 3 nA 3) 3 3 := by
  have ok : Ok9 S3 (stayP S3 V1 3 nA 3) := okA _ _ (by decide +kernel) (by decide +kernel) (by decide +kernel) (by decide +kernel)
  exact (beh_bqs ok).1 (.more ((behL_bh ok).1 (show (1 : Int) ∈ behL S3 (stayP S3 V1 3 nA 3) 3 by decide +kernel)) (.one ((behL_bh ok).1 (by decide +kernel))))
theorem fx6 (h : AskS S3 V1 3 nA 3 k H' W') : k = 11 ∧ H' = S3 ∧ W' = V1 :=
  eq3 ((ask_is true h (fun _ => ⟨fun _ => rg6, fun _ => rfl⟩)).trans (show _ = (11, S3, V1) by kernel_rfl))
theorem eq4 {a b : Nat × Hs × Hs × List Int} (h : a = b) : a.1 = b.1 ∧ a.2.1 = b.2.1 ∧ a.2.2.1 = b.2.2.1 ∧ a.2.2.2 = b.2.2.2 := by subst h; exact ⟨rfl, rfl, rfl, rfl⟩
def S7 : Hs := [⟨1, 4, nA⟩, ⟨1, 3, nB⟩]
theorem fx7 {l : List Int} (h : FreeS S3 V1 3 nB k H' W' l) : k = 0 ∧ H' = S7 ∧ W' = V2 ∧ l = [1] := eq4 ((free_is h).trans (show _ = (0, S7, V2, [1]) by kernel_rfl))
theorem fx8 {l : List Int} (h : FreeS S7 V2 3 nB k H' W' l) : k = 7 ∧ H' = S7 ∧ W' = V2 ∧ l = [] := eq4 ((free_is h).trans (show _ = (7, S7, V2, []) by kernel_rfl))
def S9 : Hs := [⟨2, 3, nA⟩]
theorem names9 : namesP S7 V2 1 = [nA, nB] := by
  have e : (ownL S7 1).map (·.name) ++ (forP V2 1).toList.map (·.name) = [nA, nB] := by kernel_rfl
  unfold namesP namesU
  rw [e]
  have : ([nA, nB].map (fun n => n.data.toList)).mergeSort leB = [[97], [98]] := by
    refine (List.mergeSort_of_pairwise ?_).trans rfl
    show [[97], [98]].Pairwise (fun a b => leB a b = true)
    decide +kernel
  rw [this]
  first | rfl | decide
theorem fx9 : dropP 1 (namesP S7 V2 1) S7 (woA V2 1) = (S9, [], [2]) := by rw [names9]; kernel_rfl
def S10 : Hs := [⟨2, 4, nA⟩]
theorem fx10 (h : AskS S9 [] 2 nA 4 k H' W') : k = 0 ∧ H' = S10 ∧ W' = [] :=
  eq3 ((ask_is false h (fun hg => absurd hg (by decide +kernel))).trans (show _ = (0, S10, []) by kernel_rfl))
theorem fx11 (h : AskS S10 [] (-1) nA 3 k H' W') : k = 1 ∧ H' = S10 ∧ W' = [] := by
  cases h with
  | arg _ => exact ⟨rfl, rfl, rfl⟩
  | state h => omega
  | has h => omega
  | got h => omega
  | dead h => omega
  | wait h => omega
theorem fx12 (h : AskS S10 [] 4 nA 0 k H' W') : k = 1 ∧ H' = S10 ∧ W' = [] := by
  cases h with
  | arg _ => exact ⟨rfl, rfl, rfl⟩
  | state h => omega
  | has h => omega
  | got h => omega
  | dead h => omega
  | wait h => omega
theorem fxM : modeP S10 2 nA = 4 := by kernel_rfl
theorem fxH : ((nameL S10 nA).map (·.owner)).mergeSort leI = [2] := by
  have : (nameL S10 nA).map (·.owner) = [2] := by kernel_rfl
  rw [this, List.mergeSort_singleton]
theorem fxF1 : (ownL S10 1).length = 0 := by kernel_rfl
theorem fxF2 : (ownL S10 2).length = 1 := by kernel_rfl
theorem fxW : forP V2 2 = some ⟨2, 3, nA⟩ := by kernel_rfl
end
end Go.Proofs.YtainnhcmhgloaaaGreatDoor
