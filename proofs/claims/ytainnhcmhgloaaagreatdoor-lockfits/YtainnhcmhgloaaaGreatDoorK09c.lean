/-
  Queues, and who is let come: plain.
-/
import Derived.Test.YtainnhcmhgloaaaGreatDoorW09c
namespace Go.Proofs.YtainnhcmhgloaaaGreatDoor
open Go.RowKit

section
variable {H W : Hs} {o : Int} {n nm : ByteArray} {x y : Has9}
theorem nameL_woA (W : Hs) (o : Int) (n : ByteArray) : nameL (woA W o) n = (nameL W n).filter (fun y => decide (y.owner ≠ o)) := by
  unfold nameL woA; rw [List.filter_filter, List.filter_filter]
  exact List.filter_congr (fun y _ => Bool.and_comm _ _)
theorem wone (hn : (W.map (·.owner)).Nodup) (hx : x ∈ W) (hy : y ∈ W) (e : x.owner = y.owner) : x = y := by
  induction W with
  | nil => cases hx
  | cons z l ih =>
    simp only [List.map_cons, List.nodup_cons] at hn
    rcases List.mem_cons.1 hx with e1 | e1 <;> rcases List.mem_cons.1 hy with e2 | e2
    · rw [e1, e2]
    · exact absurd (List.mem_map.2 ⟨y, e2, by rw [← e, e1]⟩) hn.1
    · exact absurd (List.mem_map.2 ⟨x, e1, by rw [e, e2]⟩) hn.1
    · exact ih hn.2 e1 e2
theorem nameL_woA_ne (hn : (W.map (·.owner)).Nodup) (hy : y ∈ W) (h : n ≠ y.name) : nameL (woA W y.owner) n = nameL W n := by
  rw [nameL_woA]
  refine List.filter_eq_self.2 (fun z hz => ?_)
  obtain ⟨h1, h2⟩ := mem_nameL.1 hz
  have : z.owner ≠ y.owner := fun e => h (by rw [← h2, wone hn h1 hy e])
  simp [this]
theorem nameL_owners (hn : (W.map (·.owner)).Nodup) (n : ByteArray) : ((nameL W n).map (·.owner)).Nodup := (List.filter_sublist.map _).nodup hn
theorem filter_owner {l1 l2 : Hs} (hn : ((l1 ++ y :: l2).map (·.owner)).Nodup) : (l1 ++ y :: l2).filter (fun z => decide (z.owner ≠ y.owner)) = l1 ++ l2 := by
  have ne : ∀ p, p ∈ l1 ∨ p ∈ l2 → p.owner ≠ y.owner := fun p hp => mid_ne (x := y) hn hp
  rw [List.filter_append, List.filter_cons_of_neg (by simp), List.filter_eq_self.2 (fun q hq => by have := ne q (.inl hq); simp [this]), List.filter_eq_self.2 (fun q hq => by have := ne q (.inr hq); simp [this])]
theorem woA_perm {L1 L2 : Hs} (hp : (L1 ++ y :: L2).Perm W) (hn : (W.map (·.owner)).Nodup) : (L1 ++ L2).Perm (woA W y.owner) := by
  have h1 := hp.filter (fun z => decide (z.owner ≠ y.owner))
  rw [filter_owner ((hp.map (·.owner)).nodup_iff.2 hn)] at h1
  exact h1
theorem comeP_nil (h : nameL W n = []) (k : Nat) : comeP n k H W = (H, W, []) := by
  cases k with
  | zero => rfl
  | succ k => unfold comeP; rw [h]
theorem comeP_no {l : Hs} (h : nameL W n = x :: l) (hc : canP H x = false) (k : Nat) : comeP n k H W = (H, W, []) := by
  cases k with
  | zero => rfl
  | succ k => unfold comeP; rw [h]; simp [hc]
theorem comeP_yes {l : Hs} (h : nameL W n = x :: l) (hc : canP H x = true) (k : Nat) : comeP n (k + 1) H W = ((comeP n k (holdP H x) (woA W x.owner)).1, (comeP n k (holdP H x) (woA W x.owner)).2.1, x.owner :: (comeP n k (holdP H x) (woA W x.owner)).2.2) := by
  conv => lhs; unfold comeP
  rw [h]; simp [hc]
end
section
variable {N N1 N2 : List En} {HL : List Ho} {WL H W : Hs} {n0 : ByteArray} {pre : List Int} {e : En}
theorem Abs.can (A : Abs N HL WL H W n0 pre) (he : e ∈ N) (hn : (e.hs.map (·.1)).Nodup) (x : Int) (m : Nat) (hm : m < 7) : canH e.hs x m = canP H ⟨x, m, e.name⟩ := by
  unfold canH
  have key : ((e.hs.map (·.1)).filter (badP e.hs x m)).length = 0 ↔ canP H ⟨x, m, e.name⟩ = true := by
    rw [canP_iff, List.length_eq_zero_iff, List.filter_eq_nil_iff]
    constructor
    · intro g h hh h1 h2
      have h3 : (h.owner, h.mode) ∈ e.hs := (A.mem he h.owner h.mode).2 (by have h1' : h.name = e.name := h1; rw [← h1']; exact hh)
      have := g h.owner (List.mem_map.2 ⟨_, h3, rfl⟩)
      unfold badP at this
      rw [hsM_mem hn h3] at this
      have h2' : h.owner ≠ x := h2
      simp [h2'] at this
      show fitN h.mode m = true
      rw [fit_swap m hm h.mode (A.ok.hm h hh).2.1]; exact this
    · intro g o ho
      obtain ⟨p, hp, rfl⟩ := List.mem_map.1 ho
      unfold badP
      rw [hsM_mem hn hp]
      have hh := (A.mem he p.1 p.2).1 hp
      by_cases e1 : p.1 = x
      · simp [e1]
      · have := g _ hh rfl e1
        have h3 : fitN p.2 m = true := this
        rw [fit_swap m hm p.2 (A.ok.hm _ hh).2.1] at h3
        simp [h3]
  cases h : canP H ⟨x, m, e.name⟩ with
  | true => exact decide_eq_true (key.2 h)
  | false => exact decide_eq_false (fun g => by rw [key.1 g] at h; cases h)
/-- the first one of the queue waits no more, and still stands in it -/
theorem Abs.come (A : Abs N HL WL H W e.name pre) (_nd : (N.map (·.name)).Nodup) (_he : e ∈ N) {y : Has9} {l L1 L2 : Hs} (hWL : WL = L1 ++ y :: L2) (hy : nameL W e.name = y :: l) : Abs N HL (L1 ++ L2) H (woA W y.owner) e.name (pre ++ [y.owner]) := by
  have hyW := mem_nameL.1 (show y ∈ nameL W e.name by rw [hy]; simp)
  refine ⟨A.hm, A.hx, fun e' he' => ?_, fun x hx => A.qx x (mem_woA.1 hx).1, woA_perm (by rw [← hWL]; exact A.wm) A.ok.wn, A.om, A.ox, A.ob, A.ok.woA _⟩
  have h1 := A.qn e' he'
  by_cases hne : e'.name = e.name
  · rw [if_pos hne] at h1 ⊢
    rw [h1, hne, nameL_woA, hy]
    have h2 := nameL_owners A.ok.wn e.name
    rw [hy] at h2
    have h3 := filter_owner (l1 := []) (y := y) (l2 := l) h2
    rw [List.nil_append, List.nil_append] at h3
    rw [h3]; simp
  · rw [if_neg hne] at h1 ⊢
    rw [nameL_woA_ne A.ok.wn hyW.1 (by rw [hyW.2]; exact hne)]; exact h1
/-- a queue lets go of those that have come -/
theorem Abs.shut (A : Abs (N1 ++ e :: N2) HL WL H W e.name pre) (nd : ((N1 ++ e :: N2).map (·.name)).Nodup) (qv : Value) (n1 : ByteArray) : Abs (N1 ++ { e with qv := qv, q := e.q.drop pre.length } :: N2) HL WL H W n1 [] := by
  refine A.queue nd (n1 := n1) (pre' := []) (fun y hy => ?_) ?_ A.wm A.ok A.qx
  · have := A.qn y (mid_old hy)
    rw [if_neg (mid_ne nd hy)] at this
    rw [this]; simp
  · have := A.qn e (by simp)
    rw [if_pos rfl] at this
    rw [this]; simp
/-- one of a queue goes -/
theorem Abs.quit (A : Abs (N1 ++ e :: N2) HL WL H W n0 []) (nd : ((N1 ++ e :: N2).map (·.name)).Nodup) (qv : Value) {y : Has9} {L1 L2 l1 l2 : Hs} (hWL : WL = L1 ++ y :: L2) (hy : nameL W e.name = l1 ++ y :: l2) : Abs (N1 ++ { e with qv := qv, q := (l1 ++ l2).map (·.owner) } :: N2) HL (L1 ++ L2) H (woA W y.owner) n0 [] := by
  have hyW := mem_nameL.1 (show y ∈ nameL W e.name by rw [hy]; simp)
  refine A.queue nd (n1 := n0) (pre' := []) (fun z hz => ?_) ?_ (woA_perm (by rw [← hWL]; exact A.wm) A.ok.wn) (A.ok.woA _) (fun x hx => A.qx x (mem_woA.1 hx).1)
  · rw [nameL_woA_ne A.ok.wn hyW.1 (by rw [hyW.2]; exact mid_ne nd hz)]
    exact A.qn z (mid_old hz)
  · have h2 := nameL_owners A.ok.wn e.name
    rw [hy] at h2
    rw [nameL_woA, hy, filter_owner h2]; simp
/-- a name that nobody holds, nor waits for, goes -/
theorem Abs.cut_name (A : Abs (N1 ++ e :: N2) HL WL H W n0 []) (nd : ((N1 ++ e :: N2).map (·.name)).Nodup) (h1 : e.hs = []) (h2 : nameL W e.name = []) : Abs (N1 ++ N2) HL WL H W n0 [] := by
  have hH : ∀ x ∈ H, x.name ≠ e.name := fun x hx e1 => by
    have := (A.hm e (by simp)).length_eq
    rw [h1] at this
    have h3 : nameL H e.name = [] := List.eq_nil_of_length_eq_zero this.symm
    have : x ∈ nameL H e.name := mem_nameL.2 ⟨hx, e1⟩
    rw [h3] at this; cases this
  have sub : ∀ y, y ∈ N1 ++ N2 → y ∈ N1 ++ e :: N2 := fun y hy => mid_old (List.mem_append.1 hy)
  have back : ∀ {n : ByteArray}, n ≠ e.name → (∃ e' ∈ N1 ++ e :: N2, e'.name = n) → ∃ e' ∈ N1 ++ N2, e'.name = n := fun hne ⟨e', a, b⟩ => by
    rcases mem_mid a with rfl | a
    · exact absurd b.symm hne
    · exact ⟨e', List.mem_append.2 a, b⟩
  refine ⟨fun y hy => A.hm y (sub y hy), fun x hx => back (hH x hx) (A.hx x hx), fun y hy => ?_, fun x hx => back (fun e1 => ?_) (A.qx x hx), A.wm, A.om, A.ox, fun h hh p hp => ?_, A.ok⟩
  · exact A.qn y (sub y hy)
  · have : x ∈ nameL W e.name := mem_nameL.2 ⟨hx, e1⟩
    rw [h2] at this; cases this
  · obtain ⟨e', a, b, c⟩ := A.ob h hh p hp
    rcases mem_mid a with rfl | a
    · have : p.1 ∈ (ownL H h.owner).map (·.name) := (A.om h hh).mem_iff.1 (List.mem_map.2 ⟨p, hp, rfl⟩)
      obtain ⟨x, hx, e1⟩ := List.mem_map.1 this
      exact absurd (e1.trans b.symm) (hH x (mem_ownL.1 hx).1)
    · exact ⟨e', List.mem_append.2 a, b, c⟩
theorem Abs.pre_any (A : Abs N HL WL H W n0 []) (n1 : ByteArray) : Abs N HL WL H W n1 [] :=
  ⟨A.hm, A.hx, fun e he => by have := A.qn e he; simpa using this, A.qx, A.wm, A.om, A.ox, A.ob, A.ok⟩
end
end Go.Proofs.YtainnhcmhgloaaaGreatDoor
