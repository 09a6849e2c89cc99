/-
  Locks, plain: behind whom somebody waits, as a list that rises; such a list is known by what is in it. No program in this text.
-/
import Derived.Test.YtainnhcmhgloaaaDoorK09j
namespace Go.Proofs.YtainnhcmhgloaaaDoor
open Go.RowKit
section
variable {H W H' W' W0 : Hs} {x y : Has9} {a b c o : Int} {n n' : ByteArray}
/-- a number more, in its place, once -/
def insI (a : Int) : List Int → List Int
  | [] => [a]
  | b :: l => if a < b then a :: b :: l else if a = b then b :: l else b :: insI a l
theorem mem_insI {l : List Int} : b ∈ insI a l ↔ b = a ∨ b ∈ l := by
  induction l with
  | nil => simp [insI]
  | cons c l ih =>
    unfold insI
    by_cases h1 : a < c
    · rw [if_pos h1]; simp
    · rw [if_neg h1]
      by_cases h2 : a = c
      · rw [if_pos h2]; simp [h2]
      · rw [if_neg h2]; simp only [List.mem_cons, ih]
        constructor
        · rintro (h | h | h)
          · exact .inr (.inl h)
          · exact .inl h
          · exact .inr (.inr h)
        · rintro (h | h | h)
          · exact .inr (.inl h)
          · exact .inl h
          · exact .inr (.inr h)
theorem insI_rise {l : List Int} (h : l.Pairwise (· < ·)) : (insI a l).Pairwise (· < ·) := by
  induction l with
  | nil => simp [insI]
  | cons c l ih =>
    rw [List.pairwise_cons] at h
    unfold insI
    by_cases h1 : a < c
    · rw [if_pos h1]
      refine List.pairwise_cons.2 ⟨fun z hz => ?_, List.pairwise_cons.2 h⟩
      rcases List.mem_cons.1 hz with rfl | hz
      · exact h1
      · exact Int.lt_trans h1 (h.1 z hz)
    · rw [if_neg h1]
      by_cases h2 : a = c
      · rw [if_pos h2]; exact List.pairwise_cons.2 h
      · rw [if_neg h2]
        refine List.pairwise_cons.2 ⟨fun z hz => ?_, ih h.2⟩
        rcases mem_insI.1 hz with rfl | hz
        · omega
        · exact h.1 z hz
theorem insI_len {l : List Int} : (insI a l).length ≤ l.length + 1 := by
  induction l with
  | nil => simp [insI]
  | cons c l ih =>
    unfold insI
    by_cases h1 : a < c
    · rw [if_pos h1]; simp
    · rw [if_neg h1]
      by_cases h2 : a = c
      · rw [if_pos h2]; simp
      · rw [if_neg h2]; simp; exact ih
/-- numbers, rising, each once -/
def riseI (l : List Int) : List Int := l.foldr insI []
theorem mem_riseI {l : List Int} : b ∈ riseI l ↔ b ∈ l := by
  induction l with
  | nil => simp [riseI]
  | cons c l ih => show b ∈ insI c (riseI l) ↔ _; rw [mem_insI, ih]; simp
theorem riseI_rise (l : List Int) : (riseI l).Pairwise (· < ·) := by
  induction l with
  | nil => simp [riseI]
  | cons c l ih => exact insI_rise ih
theorem riseI_len (l : List Int) : (riseI l).length ≤ l.length := by
  induction l with
  | nil => simp [riseI]
  | cons c l ih => show (insI c (riseI l)).length ≤ _; have := insI_len (a := c) (l := riseI l); simp; omega
theorem rise_unique : ∀ {l m : List Int}, l.Pairwise (· < ·) → m.Pairwise (· < ·) → (∀ z, z ∈ l ↔ z ∈ m) → l = m
  | [], [], _, _, _ => rfl
  | [], b :: m, _, _, h => by have := (h b).2 (by simp); cases this
  | a :: l, [], _, _, h => by have := (h a).1 (by simp); cases this
  | a :: l, b :: m, h1, h2, h => by
    rw [List.pairwise_cons] at h1 h2
    have e : a = b := by
      rcases List.mem_cons.1 ((h a).1 (by simp)) with e | e
      · exact e
      · rcases List.mem_cons.1 ((h b).2 (by simp)) with e2 | e2
        · exact e2.symm
        · have := h1.1 b e2; have := h2.1 a e; omega
    subst e
    rw [rise_unique h1.2 h2.2 (fun z => ?_)]
    constructor
    · intro hz
      rcases List.mem_cons.1 ((h z).1 (List.mem_cons_of_mem _ hz)) with e | e
      · have := h1.1 z hz; omega
      · exact e
    · intro hz
      rcases List.mem_cons.1 ((h z).2 (List.mem_cons_of_mem _ hz)) with e | e
      · have := h2.1 z hz; omega
      · exact e
/-- behind whom somebody waits: who holds against them, who stands ahead -/
def behL (H W : Hs) (x : Int) : List Int := match forP W x with
  | none => []
  | some y => ((nameL H y.name).filter (fun h => decide (h.owner ≠ x) && !fitN y.mode h.mode)).map (·.owner) ++ ((nameL W y.name).takeWhile (fun z => decide (z.owner ≠ x))).map (·.owner)
def behI (H W : Hs) (x : Int) : List Int := riseI (behL H W x)
theorem take_mid {l1 l2 : Hs} (h : ((l1 ++ y :: l2).map (·.owner)).Nodup) : (l1 ++ y :: l2).takeWhile (fun z => decide (z.owner ≠ y.owner)) = l1 := by
  have h1 : ∀ z ∈ l1, z.owner ≠ y.owner := fun z hz => mid_ne (f := fun z : Has9 => z.owner) h (.inl hz)
  induction l1 with
  | nil => simp
  | cons u l ih =>
    rw [List.cons_append, List.takeWhile_cons_of_pos (by simp [h1 u (by simp)])]
    rw [ih (by rw [List.cons_append, List.map_cons, List.nodup_cons] at h; exact h.2) (fun z hz => h1 z (by simp [hz]))]
theorem behL_none (h : ∀ y ∈ W, y.owner ≠ o) : behL H W o = [] := by unfold behL; rw [forP_none h]
theorem behL_some (ok : Ok9 H W) (hy : y ∈ W) {l1 l2 : Hs} (h : nameL W y.name = l1 ++ y :: l2) : behL H W y.owner = ((nameL H y.name).filter (fun h => decide (h.owner ≠ y.owner) && !fitN y.mode h.mode)).map (·.owner) ++ l1.map (·.owner) := by
  unfold behL
  rw [forP_mem ok hy]
  simp only
  have hn := nameL_owners ok.wn y.name
  rw [h] at hn ⊢
  rw [take_mid hn]
theorem behL_bh (ok : Ok9 H W) : b ∈ behL H W a ↔ Bh H W a b := by
  constructor
  · intro h
    rcases forP_cases W a with hno | ⟨y, hy, rfl⟩
    · rw [behL_none hno] at h; cases h
    · obtain ⟨l1, l2, hl⟩ := List.append_of_mem (mem_nameL.2 ⟨hy, rfl⟩)
      rw [behL_some ok hy hl] at h
      rcases List.mem_append.1 h with h | h
      · obtain ⟨z, hz, rfl⟩ := List.mem_map.1 h
        obtain ⟨h1, h2⟩ := List.mem_filter.1 hz
        obtain ⟨h3, h4⟩ := mem_nameL.1 h1
        simp only [Bool.and_eq_true, decide_eq_true_eq, Bool.not_eq_true'] at h2
        exact .holds y z hy rfl h3 h4 rfl h2.1 (by rw [fit_swap _ (ok.wm y hy).2.1 _ (ok.hm z h3).2.1]; exact h2.2)
      · obtain ⟨z, hz, rfl⟩ := List.mem_map.1 h
        have hzn := (mem_nameL.1 (show z ∈ nameL W y.name by rw [hl]; simp [hz])).2
        obtain ⟨k1, k2, rfl⟩ := List.append_of_mem hz
        unfold nameL at hl
        obtain ⟨j1, j2, hW, _, h2⟩ := List.filter_eq_append_iff.1 (by rw [List.append_assoc, List.cons_append] at hl; exact hl)
        obtain ⟨m1, m2, hj, _, _, h3⟩ := List.filter_eq_cons_iff.1 h2
        obtain ⟨q1, q2, hm, _, h4⟩ := List.filter_eq_append_iff.1 h3
        obtain ⟨r1, r2, hq, _, _, _⟩ := List.filter_eq_cons_iff.1 h4
        exact .ahead y z (j1 ++ m1) (q1 ++ r1) r2 (by rw [hW, hj, hm, hq]; simp) rfl rfl hzn
  · intro h
    cases h with
    | holds x h hx ha hh hn hb hne hf =>
      subst ha
      obtain ⟨l1, l2, hl⟩ := List.append_of_mem (mem_nameL.2 ⟨hx, rfl⟩)
      rw [behL_some ok hx hl]
      refine List.mem_append_left _ (List.mem_map.2 ⟨h, List.mem_filter.2 ⟨mem_nameL.2 ⟨hh, hn⟩, ?_⟩, hb⟩)
      rw [fit_swap _ (ok.hm h hh).2.1 _ (ok.wm x hx).2.1, hf]
      simp [hb, hne]
    | ahead x y L1 L2 L3 hW ha hb hn =>
      subst ha
      have hx : x ∈ W := by rw [hW]; simp
      have hl : nameL W x.name = (nameL L1 x.name ++ y :: nameL L2 x.name) ++ x :: nameL L3 x.name := by
        rw [hW, nameL_app, nameL_app]
        have e1 : nameL (y :: L2) x.name = y :: nameL L2 x.name := by unfold nameL; rw [List.filter_cons_of_pos (by simp [hn])]
        have e2 : nameL (x :: L3) x.name = x :: nameL L3 x.name := by unfold nameL; rw [List.filter_cons_of_pos (by simp)]
        rw [e1, e2]
      rw [behL_some ok hx hl]
      exact List.mem_append_right _ (List.mem_map.2 ⟨y, by simp, hb⟩)
theorem behI_bh (ok : Ok9 H W) : b ∈ behI H W a ↔ Bh H W a b := by unfold behI; rw [mem_riseI, behL_bh ok]
theorem behL_len (H W : Hs) (a : Int) : (behL H W a).length ≤ H.length + W.length := by
  unfold behL
  cases forP W a with
  | none => simp
  | some y =>
    simp only [List.length_append, List.length_map]
    have h1 : ((nameL H y.name).filter (fun h => decide (h.owner ≠ a) && !fitN y.mode h.mode)).length ≤ H.length := Nat.le_trans (List.length_filter_le _ _) (List.length_filter_le _ _)
    have h2 : ((nameL W y.name).takeWhile (fun z => decide (z.owner ≠ a))).length ≤ W.length := Nat.le_trans (List.takeWhile_prefix _).length_le (List.length_filter_le _ _)
    omega
theorem behI_len (H W : Hs) (a : Int) : (behI H W a).length ≤ H.length + W.length := Nat.le_trans (riseI_len _) (behL_len H W a)
/-- a set that leads nowhere else: no ring of one outside of it -/
theorem no_ring (ok : Ok9 H W) (S : List Int) (h0 : ∀ b ∈ behL H W a, b ∈ S) (hc : ∀ z ∈ S, ∀ b ∈ behL H W z, b ∈ S) (ha : a ∉ S) : ¬ Bqs H W a a := by
  intro h
  have key : ∀ {u v : Int}, Beh H W u v → (u = a ∨ u ∈ S) → v ∈ S := by
    intro u v hb
    induction hb with
    | one h1 =>
      intro hu
      rcases hu with hu | hu
      · exact h0 _ (by rw [← hu]; exact (behL_bh ok).2 h1)
      · exact hc _ hu _ ((behL_bh ok).2 h1)
    | more h1 _ ih =>
      intro hu
      rcases hu with hu | hu
      · exact ih (.inr (h0 _ (by rw [← hu]; exact (behL_bh ok).2 h1)))
      · exact ih (.inr (hc _ hu _ ((behL_bh ok).2 h1)))
  exact ha (key ((beh_bqs ok).2 h) (.inl rfl))
end
end Go.Proofs.YtainnhcmhgloaaaDoor
