/-
  Who comes to stand where in a queue, and what keeps: plain.
-/
import Derived.Test.YtainnhcmhgloaaaGreatDoorW09l
namespace Go.Proofs.YtainnhcmhgloaaaGreatDoor
open Go.RowKit Go.Shelf

/-- those of a queue that hold the name stand ahead -/
def Ahead (H W : Hs) : Prop := ∀ (n : ByteArray) (l1 l2 : Hs) (x y : Has9), nameL W n = l1 ++ x :: l2 → y ∈ l2 → modeP H y.owner n ≠ 0 → modeP H x.owner n ≠ 0
section
variable {H W : Hs} {x : Has9} {b : Bool} {n : ByteArray}
theorem stayAt_perm (H : Hs) (x : Has9) (b : Bool) : ∀ W : Hs, (stayAt H x b W).Perm (W ++ [x])
  | [] => List.Perm.refl _
  | w :: l => by
    unfold stayAt
    split
    · exact (List.perm_append_comm (l₁ := [x]) (l₂ := w :: l))
    · exact (stayAt_perm H x b l).cons w
theorem stayAt_ne (H : Hs) (x : Has9) (b : Bool) (h : n ≠ x.name) : ∀ W : Hs, nameL (stayAt H x b W) n = nameL W n
  | [] => by unfold stayAt nameL; simp [Ne.symm h]
  | w :: l => by
    unfold stayAt
    split
    · unfold nameL; rw [List.filter_cons_of_neg (by simp [Ne.symm h])]
    · have := stayAt_ne H x b h l
      unfold nameL at *
      rw [List.filter_cons, List.filter_cons, this]
theorem stayAt_name (H : Hs) (x : Has9) (b : Bool) : ∀ W : Hs, ∃ l1 l2, nameL W x.name = l1 ++ l2 ∧ nameL (stayAt H x b W) x.name = l1 ++ x :: l2 ∧ (b = false → l2 = []) ∧ (b = true → (∀ y ∈ l1, modeP H y.owner x.name ≠ 0) ∧ (∀ y l, l2 = y :: l → modeP H y.owner x.name = 0))
  | [] => ⟨[], [], rfl, by unfold stayAt nameL; simp, fun _ => rfl, fun _ => ⟨fun _ h => (by cases h), fun _ _ h => (by cases h)⟩⟩
  | w :: l => by
    unfold stayAt
    by_cases hn : w.name = x.name
    · by_cases hc : b = true ∧ modeP H w.owner w.name = 0
      · rw [if_pos (by simp [hc.1, hn]; rw [← hn]; exact hc.2)]
        refine ⟨[], w :: nameL l x.name, ?_, ?_, fun h => ?_, fun _ => ⟨fun _ h => (by cases h), fun y l' h => ?_⟩⟩
        · unfold nameL; rw [List.filter_cons_of_pos (by simp [hn])]; rfl
        · unfold nameL; rw [List.filter_cons_of_pos (by simp), List.filter_cons_of_pos (by simp [hn])]; rfl
        · rw [hc.1] at h; cases h
        · cases h; rw [← hn]; exact hc.2
      · rw [if_neg (by
          intro h
          simp only [Bool.and_eq_true, decide_eq_true_eq] at h
          exact hc ⟨h.1, h.2.2⟩)]
        obtain ⟨l1, l2, h1, h2, h3, h4⟩ := stayAt_name H x b l
        refine ⟨w :: l1, l2, ?_, ?_, h3, fun hb => ⟨fun y hy => ?_, (h4 hb).2⟩⟩
        · unfold nameL at *; rw [List.filter_cons_of_pos (by simp [hn]), h1]; rfl
        · unfold nameL at *; rw [List.filter_cons_of_pos (by simp [hn]), h2]; rfl
        · rcases List.mem_cons.1 hy with rfl | hy
          · intro h0; exact hc ⟨hb, by rw [hn]; exact h0⟩
          · exact (h4 hb).1 y hy
    · rw [if_neg (by
        intro h
        simp only [Bool.and_eq_true, decide_eq_true_eq] at h
        exact hn h.2.1)]
      obtain ⟨l1, l2, h1, h2, h3, h4⟩ := stayAt_name H x b l
      refine ⟨l1, l2, ?_, ?_, h3, h4⟩
      · unfold nameL at *; rw [List.filter_cons_of_neg (by simp [hn]), h1]
      · unfold nameL at *; rw [List.filter_cons_of_neg (by simp [hn]), h2]
theorem ahead_tail (hA : Ahead H W) {l1 l2 : Hs} (h : nameL W n = l1 ++ l2) (hz : ∀ y l, l2 = y :: l → modeP H y.owner n = 0) : ∀ y ∈ l2, modeP H y.owner n = 0 := by
  intro y hy
  cases l2 with
  | nil => cases hy
  | cons z l =>
    have h0 := hz z l rfl
    rcases List.mem_cons.1 hy with rfl | hy
    · exact h0
    · exact Classical.byContradiction fun hne => (hA n l1 l z y h hy hne) h0
theorem woA_stay {W : Hs} {x : Has9} (b : Bool) (hno : ∀ y ∈ W, y.owner ≠ x.owner) : ∀ H : Hs, woA (stayAt H x b W) x.owner = W := by
  intro H
  induction W with
  | nil => unfold stayAt woA; simp
  | cons w l ih =>
    have h1 : w.owner ≠ x.owner := hno w (by simp)
    have h2 := ih (fun y hy => hno y (by simp [hy]))
    unfold stayAt
    split
    · unfold woA
      rw [List.filter_cons_of_neg (by simp)]
      exact List.filter_eq_self.2 (fun y hy => by have := hno y hy; simp [this])
    · unfold woA at *
      rw [List.filter_cons_of_pos (by simp [h1]), h2]
theorem Ok9.stay (h : Ok9 H W) (hx : 0 < x.mode ∧ x.mode < 7 ∧ 0 ≤ x.owner ∧ x.owner ≤ 9223372036854775807 ∧ x.name.size ≤ 300) (hno : ∀ y ∈ W, y.owner ≠ x.owner) : Ok9 H (stayAt H x b W) := by
  have hp := stayAt_perm H x b W
  refine ⟨h.hm, fun y hy => ?_, h.hn, ?_⟩
  · rcases List.mem_append.1 (hp.mem_iff.1 hy) with hy | hy
    · exact h.wm y hy
    · obtain rfl := List.mem_singleton.1 hy; exact hx
  · refine (hp.map (·.owner)).nodup_iff.2 ?_
    rw [List.map_append]
    refine List.nodup_append.2 ⟨h.wn, by simp, fun a ha b hb => ?_⟩
    obtain ⟨y, hy, rfl⟩ := List.mem_map.1 ha
    simp at hb; subst hb; exact hno y hy
end
section
variable {N1 N2 : List En} {HL : List Ho} {WL H W : Hs} {n0 : ByteArray} {e : En} {x : Has9}
/-- who comes to stand where the program puts them, stands where the document does -/
theorem Abs.stay (A : Abs (N1 ++ e :: N2) HL WL H W n0 []) (nd : ((N1 ++ e :: N2).map (·.name)).Nodup) (hn : (e.hs.map (·.1)).Nodup) (hA : Ahead H W) (hx : x.name = e.name) (hok : 0 < x.mode ∧ x.mode < 7 ∧ 0 ≤ x.owner ∧ x.owner ≤ 9223372036854775807 ∧ x.name.size ≤ 300) (hno : ∀ y ∈ W, y.owner ≠ x.owner) {p : Nat} (hst : StandAt e.hs x.owner e.q p) (qv : Value) :
    Abs (N1 ++ { e with qv := qv, q := e.q.take p ++ x.owner :: e.q.drop p } :: N2) HL (WL ++ [x]) H (stayAt H x (decide (modeP H x.owner x.name ≠ 0)) W) n0 [] ∧ Front H (stayAt H x (decide (modeP H x.owner x.name ≠ 0)) W) x.owner := by
  have he : e ∈ N1 ++ e :: N2 := by simp
  obtain ⟨l1, l2, h1, h2, h3, h4⟩ := stayAt_name H x (decide (modeP H x.owner x.name ≠ 0)) W
  have hq : e.q = l1.map (·.owner) ++ l2.map (·.owner) := by rw [A.q_len he, ← hx, h1]; simp
  have hmode : ∀ o, hsM e.hs o = modeP H o x.name := fun o => by rw [hx]; exact A.mode he hn o
  have hp : p = l1.length := by
    by_cases hz : modeP H x.owner x.name = 0
    · rw [hst.no (by rw [hmode]; exact hz), hq, h3 (by simp [hz])]; simp
    · have hb : decide (modeP H x.owner x.name ≠ 0) = true := decide_eq_true hz
      have h5 := h4 hb
      have h6 := ahead_tail hA h1 h5.2
      have hz' : hsM e.hs x.owner ≠ 0 := by rw [hmode]; exact hz
      have e1 : (l1.map (·.owner)).length = l1.length := by simp
      rcases Nat.lt_trichotomy p l1.length with h | h | h
      · exfalso
        have : e.q[p]? = some (l1[p]).owner := by rw [hq, List.getElem?_append_left (by omega)]; simp [h]
        have := hst.behind hz' p _ (Nat.le_refl _) this
        rw [hmode] at this
        exact h5.1 _ (List.getElem_mem h) this
      · exact h
      · exfalso
        rcases hst.ahead hz' with h0 | ⟨y, hy, hy0⟩
        · omega
        · rw [hq, List.getElem?_append_right (by omega), e1] at hy
          obtain ⟨z, hz1, hz2⟩ := List.mem_map.1 (List.mem_of_getElem? hy)
          rw [hmode, ← hz2] at hy0
          exact hy0 (h6 z hz1)
  subst hp
  have htd : e.q.take l1.length ++ x.owner :: e.q.drop l1.length = (nameL (stayAt H x (decide (modeP H x.owner x.name ≠ 0)) W) x.name).map (·.owner) := by
    have e1 : (l1.map (·.owner)).length = l1.length := by simp
    rw [h2, hq, ← e1, List.take_left, List.drop_left]; simp
  refine ⟨A.queue nd (n1 := n0) (pre' := []) (fun y hy => ?_) ?_ ((A.wm.append_right [x]).trans (stayAt_perm H x _ W).symm) (A.ok.stay hok hno) (fun y hy => ?_), ?_⟩
  · rw [stayAt_ne H x _ (by rw [hx]; exact mid_ne nd hy)]
    exact A.qn y (mid_old hy)
  · rw [htd, hx]; simp
  · rcases List.mem_append.1 ((stayAt_perm H x _ W).mem_iff.1 hy) with hy | hy
    · exact A.qx y hy
    · obtain rfl := List.mem_singleton.1 hy; exact ⟨e, he, hx.symm⟩
  · intro n k1 k2 z y hk hz
    by_cases hnx : n = x.name
    · subst hnx
      have nd2 := nameL_owners (A.ok.stay (b := decide (modeP H x.owner x.name ≠ 0)) hok hno).wn x.name
      by_cases hz0 : modeP H x.owner x.name = 0
      · exfalso
        have hl2 := h3 (by simp [hz0])
        rw [hl2] at h2
        rw [hk] at nd2 h2
        have h5 : (k1 ++ z :: y :: k2).getLast? = (l1 ++ [x]).getLast? := by rw [h2]
        have h6 : (k1 ++ z :: y :: k2).getLast? = (y :: k2).getLast? := by
          rw [List.getLast?_append, List.getLast?_cons_cons]
          cases hgl : (y :: k2).getLast? with
          | none => simp at hgl
          | some v => rfl
        rw [List.getLast?_concat] at h5
        rw [h6] at h5
        have : x ∈ y :: k2 := List.mem_of_getLast? h5
        exact mid_ne (x := z) nd2 (.inr this) hz.symm
      · obtain ⟨h, hh, h5, h6, _⟩ := modeP_some hz0
        exact ⟨h, hh, h5, h6⟩
    · exfalso
      have : z ∈ nameL W n := by rw [← stayAt_ne H x (decide (modeP H x.owner x.name ≠ 0)) hnx W, hk]; simp
      exact hno z (mem_nameL.1 this).1 hz
end
end Go.Proofs.YtainnhcmhgloaaaGreatDoor
