/-
  Locks, plain: those that wait for one name come in the order in which they asked. No program in this text.
-/
import Derived.Test.YtainnhcmhgloaaaDoorK09k
namespace Go.Proofs.YtainnhcmhgloaaaDoor
open Go.RowKit
section
variable {H W H' W' W0 H0 : Hs} {x y : Has9} {a b c o : Int} {n n' nm : ByteArray}
theorem comeP_order (n : ByteArray) : ∀ (k : Nat) (H W : Hs), (W.map (·.owner)).Nodup → (comeP n k H W).2.2 ++ (nameL (comeP n k H W).2.1 n).map (·.owner) = (nameL W n).map (·.owner)
  | 0, H, W, _ => by unfold comeP; simp
  | k + 1, H, W, hn => by
    cases hl : nameL W n with
    | nil => rw [comeP_nil hl]; simp [hl]
    | cons z l =>
      cases hc : canP H z with
      | false => rw [comeP_no hl hc]; simp [hl]
      | true =>
        rw [comeP_yes hl hc]
        have ih := comeP_order n k (holdP H z) (woA W z.owner) ((woA_subl W _).map _ |>.nodup hn)
        have e1 : nameL (woA W z.owner) n = l := by
          rw [nameL_woA, hl]
          have h2 := nameL_owners hn n
          rw [hl] at h2
          exact filter_owner (l1 := []) h2
        rw [e1] at ih
        simp only [List.cons_append, List.map_cons]
        rw [ih]
theorem nameL_all (h : ∀ y ∈ W, y.name = nm) : nameL W nm = W := by
  unfold nameL; rw [List.filter_eq_self]; intro y hy; simp [h y hy]
theorem nameL_other (h : ∀ y ∈ W, y.name = nm) (hne : n ≠ nm) : nameL W n = [] := by
  refine List.eq_nil_iff_forall_not_mem.2 (fun y hy => ?_)
  obtain ⟨h1, h2⟩ := mem_nameL.1 hy
  exact hne (h2.symm.trans (h y h1))
theorem dropP_cons (o : Int) (n : ByteArray) (K : List ByteArray) (H W : Hs) : dropP o (n :: K) H W = ((dropP o K (comeP n (nameL W n).length (woN H o n) W).1 (comeP n (nameL W n).length (woN H o n) W).2.1).1, (dropP o K (comeP n (nameL W n).length (woN H o n) W).1 (comeP n (nameL W n).length (woN H o n) W).2.1).2.1, (comeP n (nameL W n).length (woN H o n) W).2.2 ++ (dropP o K (comeP n (nameL W n).length (woN H o n) W).1 (comeP n (nameL W n).length (woN H o n) W).2.1).2.2) := rfl
theorem dropP_order (o : Int) (nm : ByteArray) : ∀ (K : List ByteArray) (H W : Hs), (W.map (·.owner)).Nodup → (∀ y ∈ W, y.name = nm) → (dropP o K H W).2.2 ++ (dropP o K H W).2.1.map (·.owner) = W.map (·.owner)
  | [], _, _, _, _ => by unfold dropP; simp
  | n :: K, H, W, hn, hW => by
    rw [dropP_cons]
    by_cases e : n = nm
    · subst e
      have h1 := comeP_order n (nameL W n).length (woN H o n) W hn
      have hs := comeP_subl n (nameL W n).length (woN H o n) W
      generalize comeP n (nameL W n).length (woN H o n) W = R at *
      have e1 : nameL R.2.1 n = R.2.1 := nameL_all (fun y hy => hW y (hs.subset hy))
      rw [e1, nameL_all hW] at h1
      have ih := dropP_order o n K R.1 R.2.1 ((hs.map _).nodup hn) (fun y hy => hW y (hs.subset hy))
      simp only
      rw [List.append_assoc, ih, h1]
    · have e1 := nameL_other hW e
      rw [comeP_nil (H := woN H o n) e1]
      exact dropP_order o nm K _ _ hn hW
theorem comeP_dis (n : ByteArray) : ∀ (k : Nat) (H W : Hs), (∀ h ∈ H, ∀ y ∈ W, h.owner ≠ y.owner) → ∀ h ∈ (comeP n k H W).1, ∀ y ∈ (comeP n k H W).2.1, h.owner ≠ y.owner
  | 0, _, _, h => by unfold comeP; exact h
  | k + 1, H, W, h => by
    cases hl : nameL W n with
    | nil => rw [comeP_nil hl]; exact h
    | cons z l =>
      cases hc : canP H z with
      | false => rw [comeP_no hl hc]; exact h
      | true =>
        rw [comeP_yes hl hc]
        refine comeP_dis n k _ _ (fun u hu v hv => ?_)
        obtain ⟨h1, h2⟩ := mem_woA.1 hv
        rcases mem_holdP.1 hu with h3 | rfl
        · exact h u h3.1 v h1
        · exact fun e => h2 e.symm
theorem dropP_dis (o : Int) : ∀ (K : List ByteArray) (H W : Hs), (∀ h ∈ H, ∀ y ∈ W, h.owner ≠ y.owner) → ∀ h ∈ (dropP o K H W).1, ∀ y ∈ (dropP o K H W).2.1, h.owner ≠ y.owner
  | [], _, _, h => h
  | n :: K, _H, _W, h => dropP_dis o K _ _ (comeP_dis n _ _ _ (fun u hu => h u (mem_woN.1 hu).1))
theorem comeP_stop (n : ByteArray) : ∀ (k : Nat) (H W : Hs), (comeP n k H W).2.2 = [] → (comeP n k H W).1 = H ∧ (comeP n k H W).2.1 = W
  | 0, _, _, _ => by unfold comeP; exact ⟨rfl, rfl⟩
  | k + 1, H, W, h => by
    cases hl : nameL W n with
    | nil => rw [comeP_nil hl]; exact ⟨rfl, rfl⟩
    | cons z l =>
      cases hc : canP H z with
      | false => rw [comeP_no hl hc]; exact ⟨rfl, rfl⟩
      | true => rw [comeP_yes hl hc] at h; cases h
theorem dropP_stop (o : Int) : ∀ (K : List ByteArray) (H W : Hs), (dropP o K H W).2.2 = [] → (∀ h ∈ (dropP o K H W).1, h ∈ H) ∧ (dropP o K H W).2.1 = W
  | [], _, _, _ => ⟨fun _ h => h, rfl⟩
  | n :: K, H, W, h => by
    obtain ⟨h1, h2⟩ := List.append_eq_nil_iff.1 h
    obtain ⟨e1, e2⟩ := comeP_stop n _ _ _ h1
    obtain ⟨i1, i2⟩ := dropP_stop o K _ _ h2
    refine ⟨fun z hz => ?_, i2.trans e2⟩
    have := i1 z hz
    rw [e1] at this
    exact (mem_woN.1 this).1
/-- one name is held, and waited for, by others -/
structure Tn (nm : ByteArray) (H W : Hs) : Prop where
  I : Inv9 H W
  F : ∀ n, First9 H W n
  hn : ∀ h ∈ H, h.name = nm
  wn : ∀ y ∈ W, y.name = nm
  dis : ∀ h ∈ H, ∀ y ∈ W, h.owner ≠ y.owner
theorem woA_same (h : ∀ y ∈ W, y.owner ≠ o) : woA W o = W := by
  unfold woA; rw [List.filter_eq_self]; intro y hy; simp [h y hy]
theorem Tn.drop (T : Tn nm H W) (hno : ∀ y ∈ W, y.owner ≠ o) : Tn nm (dropP o (namesP H W o) H (woA W o)).1 (dropP o (namesP H W o) H (woA W o)).2.1 ∧ (dropP o (namesP H W o) H (woA W o)).2.2 ++ (dropP o (namesP H W o) H (woA W o)).2.1.map (·.owner) = W.map (·.owner) ∧ ((dropP o (namesP H W o) H (woA W o)).2.2 = [] → ∀ h ∈ (dropP o (namesP H W o) H (woA W o)).1, h ∈ H ∧ h.owner ≠ o) := by
  obtain ⟨i1, i2⟩ := T.I.drop T.F o
  have hg := (drop_all T.I.ok o).1
  rw [woA_same hno] at i1 i2 hg ⊢
  refine ⟨⟨i1, i2, fun h hh => ?_, fun y hy => T.wn y (dropP_sub o _ _ _ y hy), dropP_dis o _ _ _ T.dis⟩, dropP_order o nm _ _ _ T.I.ok.wn T.wn, fun he h hh => ⟨(dropP_stop o _ _ _ he).1 h hh, hg h hh⟩⟩
  rcases dropP_from o _ _ _ h hh with h1 | h1
  · exact T.hn h h1
  · exact T.wn h h1
/-- those that held it drop all, one by one: k of them did; out came -/
structure Td (nm : ByteArray) (W0 : Hs) (hl : List Int) (k : Nat) (out : List Int) (H W : Hs) : Prop where
  T : Tn nm H W
  ord : out ++ W.map (·.owner) = W0.map (·.owner)
  sub : W.Sublist W0
  left : out = [] → ∀ h ∈ H, h.owner ∈ hl.drop k
theorem Td.start (T : Tn nm H W) {hl : List Int} (hh : ∀ h ∈ H, h.owner ∈ hl) : Td nm W hl 0 [] H W := ⟨T, rfl, List.Sublist.refl _, fun _ => by simpa using hh⟩
theorem Td.drop {hl out : List Int} {k : Nat} {x : Int} (D : Td nm W0 hl k out H W) (hx : hl[k]? = some x) (hno : ∀ y ∈ W0, y.owner ≠ x) :
    Td nm W0 hl (k + 1) (out ++ (dropP x (namesP H W x) H (woA W x)).2.2) (dropP x (namesP H W x) H (woA W x)).1 (dropP x (namesP H W x) H (woA W x)).2.1 := by
  obtain ⟨t1, t2, t3⟩ := D.T.drop (o := x) (fun y hy => hno y (D.sub.subset hy))
  refine ⟨t1, by rw [List.append_assoc, t2]; exact D.ord, ((dropP_subl x _ _ _).trans (woA_subl W x)).trans D.sub, fun he h hh => ?_⟩
  obtain ⟨h1, h2⟩ := List.append_eq_nil_iff.1 he
  obtain ⟨h3, h4⟩ := t3 h2 h hh
  have h5 := D.left h1 h h3
  obtain ⟨hlt, he2⟩ := List.getElem?_eq_some_iff.1 hx
  rw [List.drop_eq_getElem_cons hlt, he2] at h5
  rcases List.mem_cons.1 h5 with h6 | h6
  · exact absurd h6 h4
  · exact h6
/-- behind all of them: somebody came, if somebody waited -/
theorem Td.stop {hl out : List Int} (D : Td nm W0 hl hl.length out H W) (hne : W0 ≠ []) : out ≠ [] := by
  intro he
  have hH : H = [] := List.eq_nil_iff_forall_not_mem.2 (fun h hh => by
    have := D.left he h hh
    rw [List.drop_length] at this; cases this)
  have ho := D.ord
  rw [he] at ho
  cases hW : W with
  | nil => rw [hW] at ho; simp at ho; exact hne (by cases hW0 : W0 with | nil => rfl | cons a l => rw [hW0] at ho; simp at ho)
  | cons y l =>
    have h1 := D.T.F nm y l (by rw [nameL_all D.T.wn]; exact hW)
    rw [hH] at h1
    simp [canP] at h1
/-- a row of those that ask, one behind the other -/
structure Ta (nm : ByteArray) (i : Nat) (H W : Hs) : Prop where
  I : Inv9 H W
  F : ∀ n, First9 H W n
  hh : H = [⟨0, 6, nm⟩]
  wn : ∀ y ∈ W, y.name = nm
  ow : W.map (·.owner) = (List.range i).map (fun k => ((k + 1 : Nat) : Int))
theorem mid_last {α : Type} {l l1 l2 : List α} {x y : α} (hn : (l ++ [x]).Nodup) (h : l ++ [x] = l1 ++ y :: l2) (hl : l2 ≠ []) : y ≠ x := by
  intro e
  subst e
  have hx : (l ++ [y]).getLast? = some y := by simp
  rw [h] at hx
  obtain ⟨z, hz⟩ : ∃ z, l2.getLast? = some z := ⟨l2.getLast hl, List.getLast?_eq_some_getLast hl⟩
  have hy : y ∈ l2 := by
    have : (l1 ++ y :: l2).getLast? = l2.getLast? := by
      rw [List.getLast?_append, List.getLast?_cons, hz]; simp
    rw [this, hz] at hx
    rw [← Option.some.inj hx]
    exact List.mem_of_getLast? hz
  rw [h] at hn
  have := (List.nodup_append.1 hn).2.1
  exact (List.nodup_cons.1 this).1 hy
theorem stay_last (H : Hs) (x : Has9) : ∀ W : Hs, stayAt H x false W = W ++ [x]
  | [] => rfl
  | w :: l => by unfold stayAt; simp [stay_last H x l]
theorem Ta.ask {i k : Nat} {m : Int} (T : Ta nm i H W) (hnm : nm.size ≤ 300) (hi : i < 100) (hm : 0 < m ∧ m < 7) (h : AskS H W ((i + 1 : Nat) : Int) nm m k H' W') : k = 10 ∧ Ta nm (i + 1) H' W' := by
  have hI := T.I.ask T.F (by omega) hnm h
  have hw : ∀ y ∈ W, y.owner ≠ ((i + 1 : Nat) : Int) := fun y hy e => by
    have : y.owner ∈ W.map (·.owner) := List.mem_map.2 ⟨y, hy, rfl⟩
    rw [T.ow] at this
    obtain ⟨q, hq, e2⟩ := List.mem_map.1 this
    rw [List.mem_range] at hq
    omega
  have h0 : modeP H ((i + 1 : Nat) : Int) nm = 0 := modeP_none (fun z hz ⟨e, _⟩ => by
    rw [T.hh] at hz
    obtain rfl := List.mem_singleton.1 hz
    simp only at e; omega)
  have hm7 : m.toNat < 7 := by omega
  have hj := jn_pos 0 (by omega) _ hm7 (by omega)
  have hj7 : jn 0 m.toNat 7 < 7 := jn_lt _ _ _ (by omega)
  cases h with
  | arg h => exact absurd ⟨by omega, hm.1, hm.2⟩ h
  | state _ y hy e => exact absurd e (hw y hy)
  | has _ _ e => rw [h0] at e; omega
  | got _ _ _ _ hc =>
    have := canP_iff.1 hc ⟨0, 6, nm⟩ (by rw [T.hh]; simp) rfl (by simp only; omega)
    simp only [h0] at this
    rw [← fit_swap _ (by omega) _ (by omega), fit_rx _ hj7 (by omega)] at this
    cases this
  | dead _ _ _ _ hd =>
    exfalso
    rw [h0] at hd
    simp only [ne_eq, not_true_eq_false, decide_false] at hd
    rw [stay_last] at hd
    obtain ⟨b, y, hy, _, hb⟩ := hd.last
    rcases hb with ⟨h, hh, _, h2, _⟩ | ⟨l1, l2, z, hl, hz⟩
    · rw [T.hh] at hh
      obtain rfl := List.mem_singleton.1 hh
      simp only at h2; omega
    · have hall : ∀ u ∈ W ++ [(⟨((i + 1 : Nat) : Int), jn 0 m.toNat 7, nm⟩ : Has9)], u.name = nm := fun u hu => by
        rcases List.mem_append.1 hu with hu | hu
        · exact T.wn u hu
        · obtain rfl := List.mem_singleton.1 hu; rfl
      rw [hall y hy, nameL_all hall] at hl
      have h3 := congrArg (List.map (·.owner)) hl
      rw [List.map_append, List.map_append] at h3
      refine mid_last (l2 := (y :: l2).map (·.owner)) ?_ h3 (by simp) hz
      rw [List.nodup_append]
      refine ⟨T.I.ok.wn, by simp, fun u hu v hv e => ?_⟩
      obtain ⟨q, hq, rfl⟩ := List.mem_map.1 hu
      simp at hv
      exact hw q hq (e.trans (by rw [hv]; rfl))
  | wait _ _ _ _ hd =>
    have e : stayAt H ⟨((i + 1 : Nat) : Int), jn (modeP H ((i + 1 : Nat) : Int) nm) m.toNat 7, nm⟩ (decide (modeP H ((i + 1 : Nat) : Int) nm ≠ 0)) W = W ++ [⟨((i + 1 : Nat) : Int), jn (modeP H ((i + 1 : Nat) : Int) nm) m.toNat 7, nm⟩] := by
      rw [decide_eq_false (by rw [h0]; simp), stay_last]
    rw [e] at hI ⊢
    refine ⟨rfl, hI.1, hI.2, T.hh, fun u hu => ?_, ?_⟩
    · rcases List.mem_append.1 hu with hu | hu
      · exact T.wn u hu
      · obtain rfl := List.mem_singleton.1 hu; rfl
    · rw [List.map_append, T.ow, List.range_succ, List.map_append]; rfl
/-- the one that holds it lets go: all others come to be told in order -/
theorem Ta.tn {i : Nat} (T : Ta nm i H W) : Tn nm H W := by
  refine ⟨T.I, T.F, fun h hh => ?_, T.wn, fun h hh y hy e => ?_⟩
  · rw [T.hh] at hh; obtain rfl := List.mem_singleton.1 hh; rfl
  · rw [T.hh] at hh
    obtain rfl := List.mem_singleton.1 hh
    have : y.owner ∈ W.map (·.owner) := List.mem_map.2 ⟨y, hy, rfl⟩
    rw [T.ow] at this
    obtain ⟨q, hq, e2⟩ := List.mem_map.1 this
    simp only at e; omega
theorem Ta.start (hnm : nm.size ≤ 300) {k : Nat} (h : AskS [] [] 0 nm 6 k H' W') : k = 0 ∧ Ta nm 0 H' W' := by
  have hI := Inv9.start.ask (fun n y l hl => by cases hl) (by omega) hnm h
  have e : jn (modeP [] 0 nm) (6 : Int).toNat 7 = 6 := by
    have : modeP [] 0 nm = 0 := rfl
    rw [this]; decide
  cases h with
  | arg h => exact absurd ⟨by omega, by omega, by omega⟩ h
  | state _ y hy e => cases hy
  | has _ _ e2 => rw [e] at e2; cases e2
  | got _ _ _ _ hc =>
    refine ⟨rfl, hI.1, hI.2, ?_, fun y hy => (by cases hy), rfl⟩
    unfold holdP woN
    rw [e]; rfl
  | dead _ _ _ hn _ => exact absurd ⟨.inr rfl, rfl⟩ hn
  | wait _ _ _ hn _ => exact absurd ⟨.inr rfl, rfl⟩ hn
end
end Go.Proofs.YtainnhcmhgloaaaDoor
