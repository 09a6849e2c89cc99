/-
  How letting go keeps what holds of who holds what and who waits for what: plain.
-/
import Derived.Test.YtainnhcmhgloaaaDoorK09f
import Derived.Test.YtainnhcmhgloaaaDoorW09n
namespace Go.Proofs.YtainnhcmhgloaaaDoor
open Go.RowKit
section
variable {H W H' W' : Hs} {x y : Has9} {a b c o : Int} {n n' : ByteArray}
theorem filter_next {α : Type} {p : α → Bool} {L k1 k2 : List α} {z y : α} (h : L.filter p = k1 ++ z :: y :: k2) : ∃ j1 m j2, L = j1 ++ z :: (m ++ y :: j2) := by
  obtain ⟨l1, l2, rfl, _, h2⟩ := List.filter_eq_append_iff.1 h
  obtain ⟨m1, m2, rfl, _, _, h3⟩ := List.filter_eq_cons_iff.1 h2
  obtain ⟨m3, m4, rfl, _, _, _⟩ := List.filter_eq_cons_iff.1 h3
  exact ⟨l1 ++ m1, m3, m4, by simp⟩
theorem chain_bqs (y : Has9) (n : ByteArray) (j2 : Hs) : ∀ (m j1 : Hs) (z : Has9), nameL W n = j1 ++ z :: (m ++ y :: j2) → Bqs H W y.owner z.owner
  | [], j1, z, h => by
    have hy := mem_nameL.1 (show y ∈ nameL W n by rw [h]; simp)
    exact .one ⟨y, hy.1, rfl, .inr ⟨j1, j2, z, by rw [hy.2, h]; rfl, rfl⟩⟩
  | v :: m, j1, z, h => by
    have hv := mem_nameL.1 (show v ∈ nameL W n by rw [h]; simp)
    have h1 := chain_bqs y n j2 m (j1 ++ [z]) v (by rw [h]; simp)
    exact h1.trans (.one ⟨v, hv.1, rfl, .inr ⟨j1, m ++ y :: j2, z, by rw [hv.2, h]; rfl, rfl⟩⟩)
theorem nameL_woA_filter (W : Hs) (o : Int) (n : ByteArray) : nameL (woA W o) n = (nameL W n).filter (fun y => decide (y.owner ≠ o)) := by
  unfold nameL woA
  rw [List.filter_filter, List.filter_filter]
  exact List.filter_congr (fun y _ => Bool.and_comm ..)
theorem Inv9.cutA (I : Inv9 H W) (o : Int) : Inv9 H (woA W o) := by
  refine ⟨I.ok.woA o, I.fits, ?_, fun y hy => I.more y (mem_woA.1 hy).1, loop_less (H := H) (W := W) (fun a b ⟨y, hy, e, h⟩ => ?_) I.loop⟩
  · intro n k1 k2 u y e hy h0
    have hp : (nameL W n).Pairwise (fun u y => modeP H y.owner n ≠ 0 → modeP H u.owner n ≠ 0) := splits_pairwise.2 (fun k1 k2 u y e hy => I.ahead n k1 k2 u y e hy)
    rw [nameL_woA_filter] at e
    exact splits_pairwise.1 (hp.filter (fun y : Has9 => decide (y.owner ≠ o))) k1 k2 u y e hy h0
  · subst e
    have hyW := (mem_woA.1 hy).1
    rcases h with h | ⟨k1, k2, z, hk, rfl⟩
    · exact .one ⟨y, hyW, rfl, .inl h⟩
    · rw [nameL_woA_filter] at hk
      obtain ⟨j1, m, j2, hL⟩ := filter_next hk
      exact chain_bqs y y.name j2 m j1 z hL
theorem Inv9.cutN (I : Inv9 H W) (hw : ∀ y ∈ W, y.owner = o → y.name ≠ n) : Inv9 (woN H o n) W := by
  have hm : ∀ y ∈ W, modeP (woN H o n) y.owner y.name = modeP H y.owner y.name := fun y hy => modeP_woN_ne I.ok (fun e => hw y hy e.1 e.2)
  refine ⟨I.ok.woN o n, fun a ha b hb => I.fits a (mem_woN.1 ha).1 b (mem_woN.1 hb).1, ?_, fun y hy => by rw [hm y hy]; exact I.more y hy, loop_less (H := H) (W := W) (fun a b ⟨y, hy, e, h⟩ => .one ⟨y, hy, e, ?_⟩) I.loop⟩
  · intro n' l1 l2 u y hl hy h0
    have hu := mem_nameL.1 (show u ∈ nameL W n' by rw [hl]; simp)
    have hyW := mem_nameL.1 (show y ∈ nameL W n' by rw [hl]; simp [hy])
    have e1 := hm u hu.1; have e2 := hm y hyW.1
    rw [hu.2] at e1; rw [hyW.2] at e2
    rw [e1]; rw [e2] at h0
    exact I.ahead n' l1 l2 u y hl hy h0
  · rcases h with ⟨h, hh, h1⟩ | h
    · exact .inl ⟨h, (mem_woN.1 hh).1, h1⟩
    · exact .inr h
theorem first_woN (h : First9 H W n') (hne : n' ≠ n) : First9 (woN H o n) W n' := by
  intro y l hl
  have hy := mem_nameL.1 (show y ∈ nameL W n' by rw [hl]; simp)
  obtain ⟨k, hk, h1, h2⟩ := canP_not.1 (h y l hl)
  exact canP_not.2 ⟨k, mem_woN.2 ⟨hk, fun e => hne (hy.2.symm.trans (h1.symm.trans e.2))⟩, h1, h2⟩
theorem first_hold_ne (h : First9 H W n') (hne : n' ≠ x.name) : First9 (holdP H x) W n' := by
  intro y l hl
  have hy := mem_nameL.1 (show y ∈ nameL W n' by rw [hl]; simp)
  obtain ⟨k, hk, h1, h2⟩ := canP_not.1 (h y l hl)
  exact canP_not.2 ⟨k, mem_holdP.2 (.inl ⟨hk, fun e => hne (hy.2.symm.trans (h1.symm.trans e.2))⟩), h1, h2⟩
theorem first_woA (ok : Ok9 H W) (hx : x ∈ W) (h : First9 H W n') (hne : n' ≠ x.name) : First9 H (woA W x.owner) n' := by
  intro y l hl
  rw [nameL_woA_ne ok.wn hx hne] at hl
  exact h y l hl
theorem comeP_sub (n : ByteArray) : ∀ (k : Nat) (H W : Hs), ∀ y ∈ (comeP n k H W).2.1, y ∈ W
  | 0, H, W => by unfold comeP; exact fun y hy => hy
  | k + 1, H, W => by
    unfold comeP
    cases hn : nameL W n with
    | nil => exact fun y hy => hy
    | cons z l =>
      by_cases hc : canP H z = true
      · simp only [hc, if_true]
        exact fun y hy => (mem_woA.1 (comeP_sub n k _ _ y hy)).1
      · simp only [hc]; exact fun y hy => hy
theorem comeP_keeps (n : ByteArray) : ∀ (k : Nat) (H W : Hs), (nameL W n).length ≤ k → Inv9 H W → Inv9 (comeP n k H W).1 (comeP n k H W).2.1 ∧ First9 (comeP n k H W).1 (comeP n k H W).2.1 n ∧ ∀ n', n' ≠ n → First9 H W n' → First9 (comeP n k H W).1 (comeP n k H W).2.1 n'
  | 0, H, W, hk, I => by
    unfold comeP
    refine ⟨I, fun y l hl => ?_, fun _ _ h => h⟩
    rw [hl] at hk; simp at hk
  | k + 1, H, W, hk, I => by
    cases hn : nameL W n with
    | nil =>
      rw [show comeP n (k + 1) H W = (H, W, []) by unfold comeP; rw [hn]]
      exact ⟨I, (show First9 H W n from fun y l hl => by rw [hn] at hl; cases hl), fun _ _ h => h⟩
    | cons z l =>
      have hz := mem_nameL.1 (show z ∈ nameL W n by rw [hn]; simp)
      cases hc : canP H z with
      | false =>
        rw [comeP_no hn hc (k + 1)]
        exact ⟨I, (show First9 H W n from fun y l' hl => by rw [hn] at hl; cases hl; exact hc), fun _ _ h => h⟩
      | true =>
        rw [comeP_yes hn hc]
        have I2 := (I.cutA z.owner).hold (x := z) (I.ok.wm z hz.1) (fun y hy => (mem_woA.1 hy).2) hc
        have hl : (nameL (woA W z.owner) n).length ≤ k := by
          rw [nameL_woA_filter, hn, List.filter_cons_of_neg (by simp)]
          rw [hn, List.length_cons] at hk
          have := List.length_filter_le (fun y : Has9 => decide (y.owner ≠ z.owner)) l
          omega
        obtain ⟨J1, J2, J3⟩ := comeP_keeps n k _ _ hl I2
        exact ⟨J1, J2, fun n' hne h => J3 n' hne (first_hold_ne (first_woA I.ok hz.1 h (by rw [hz.2]; exact hne)) (by rw [hz.2]; exact hne))⟩
/-- letting one name go keeps it -/
theorem Inv9.free {k : Nat} {l : List Int} (I : Inv9 H W) (F : ∀ n, First9 H W n) (h : FreeS H W o n k H' W' l) : Inv9 H' W' ∧ ∀ n, First9 H' W' n := by
  cases h with
  | none _ => exact ⟨I, F⟩
  | state _ _ _ _ _ => exact ⟨I, F⟩
  | ok h0 no =>
    obtain ⟨J1, J2, J3⟩ := comeP_keeps n (nameL W n).length _ _ (Nat.le_refl _) (I.cutN no)
    refine ⟨J1, fun n' => ?_⟩
    by_cases hne : n' = n
    · rw [hne]; exact J2
    · exact J3 n' hne (first_woN (F n') hne)
theorem dropP_keeps (o : Int) : ∀ (K : List ByteArray) (H W : Hs), Inv9 H W → (∀ y ∈ W, y.owner ≠ o) → (∀ n, n ∉ K → First9 H W n) → Inv9 (dropP o K H W).1 (dropP o K H W).2.1 ∧ (∀ n, First9 (dropP o K H W).1 (dropP o K H W).2.1 n) ∧ ∀ y ∈ (dropP o K H W).2.1, y ∈ W
  | [], H, W, I, hw, F => ⟨I, fun n => F n (by simp), fun y hy => hy⟩
  | n :: K, H, W, I, hw, F => by
    obtain ⟨J1, J2, J3⟩ := comeP_keeps n (nameL W n).length _ _ (Nat.le_refl _) (I.cutN (o := o) (n := n) (fun y hy e => absurd e (hw y hy)))
    have hsub := comeP_sub n (nameL W n).length (woN H o n) W
    obtain ⟨L1, L2, L3⟩ := dropP_keeps o K _ _ J1 (fun y hy => hw y (hsub y hy)) (fun n' hn' => by
      by_cases hne : n' = n
      · rw [hne]; exact J2
      · exact J3 n' hne (first_woN (F n' (by simp [hne, hn'])) hne))
    exact ⟨L1, L2, fun y hy => hsub y (L3 y hy)⟩
/-- dropping all keeps it -/
theorem Inv9.drop (I : Inv9 H W) (F : ∀ n, First9 H W n) (o : Int) : Inv9 (dropP o (namesP H W o) H (woA W o)).1 (dropP o (namesP H W o) H (woA W o)).2.1 ∧ ∀ n, First9 (dropP o (namesP H W o) H (woA W o)).1 (dropP o (namesP H W o) H (woA W o)).2.1 n := by
  have := dropP_keeps o (namesP H W o) H _ (I.cutA o) (fun y hy => (mem_woA.1 hy).2) (fun n hn => by
    rcases forP_cases W o with hno | ⟨y, hy, rfl⟩
    · have : woA W o = W := List.filter_eq_self.2 (fun y hy => by simp [hno y hy])
      rw [this]; exact F n
    · refine first_woA I.ok hy (F n) (fun e => hn ?_)
      unfold namesP
      rw [mem_namesU, forP_mem I.ok hy, e]
      simp)
  exact ⟨this.1, this.2.1⟩
end
end Go.Proofs.YtainnhcmhgloaaaDoor
