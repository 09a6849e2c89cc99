/-
  Who waits behind whom, as the document says it and as the program follows it; how many hold and wait: plain.
-/
import Derived.Test.YtainnhcmhgloaaaDoorK09g
namespace Go.Proofs.YtainnhcmhgloaaaDoor
open Go.RowKit
section
variable {H W H' W' : Hs} {x y : Has9} {a b c o : Int} {n n' : ByteArray}
theorem bq_bh (ok : Ok9 H W) (h : Bq H W a b) : Bh H W a b := by
  obtain ⟨y, hy, rfl, h⟩ := h
  rcases h with ⟨h, hh, h1, h2, h3, h4⟩ | ⟨l1, l2, z, hl, rfl⟩
  · refine .holds y h hy rfl hh h1 h2 h3 ?_
    rw [fit_swap _ (ok.wm y hy).2.1 _ (ok.hm h hh).2.1]; exact h4
  · have hz := mem_nameL.1 (show z ∈ nameL W y.name by rw [hl]; simp)
    unfold nameL at hl
    obtain ⟨j1, m, j2, hW⟩ := filter_next hl
    exact .ahead y z j1 m j2 (by rw [hW]; simp) rfl rfl hz.2
theorem bh_bqs (ok : Ok9 H W) (h : Bh H W a b) : Bqs H W a b := by
  cases h with
  | holds x h hx ha hh hn hb hne hf =>
    refine .one ⟨x, hx, ha, .inl ⟨h, hh, hn, hb, hne, ?_⟩⟩
    rw [fit_swap _ (ok.hm h hh).2.1 _ (ok.wm x hx).2.1]; exact hf
  | ahead x y L1 L2 L3 hW ha hb hn =>
    have := chain_bqs (H := H) (W := W) x x.name (nameL L3 x.name) (nameL L2 x.name) (nameL L1 x.name) y (by
      rw [hW, nameL_app, nameL_app]
      have e1 : nameL (y :: L2) x.name = y :: nameL L2 x.name := by unfold nameL; rw [List.filter_cons_of_pos (by simp [hn])]
      have e2 : nameL (x :: L3) x.name = x :: nameL L3 x.name := by unfold nameL; rw [List.filter_cons_of_pos (by simp)]
      rw [e1, e2]; simp)
    rw [ha, hb] at this
    exact this
/-- who waits behind whom, over however many: the document's way and the program's tell the same -/
theorem beh_bqs (ok : Ok9 H W) : Beh H W a b ↔ Bqs H W a b := by
  constructor
  · intro h
    induction h with
    | one h => exact bh_bqs ok h
    | more h _ ih => exact (bh_bqs ok h).trans ih
  · intro h
    induction h with
    | one h => exact .one (bq_bh ok h)
    | more h _ ih => exact .more (bq_bh ok h) ih
theorem ask_len {m : Int} {k : Nat} (h : AskS H W o n m k H' W') : H'.length + W'.length ≤ H.length + W.length + 1 := by
  cases h with
  | arg _ => omega
  | state _ _ _ _ => omega
  | has _ _ _ => omega
  | dead _ _ _ _ _ => omega
  | got _ _ _ _ _ => have := holdP_len H (⟨o, jn (modeP H o n) m.toNat 7, n⟩ : Has9); omega
  | wait _ _ _ _ _ =>
    have := (stayAt_perm H (⟨o, jn (modeP H o n) m.toNat 7, n⟩ : Has9) (decide (modeP H o n ≠ 0)) W).length_eq
    rw [List.length_append, List.length_singleton] at this
    omega
theorem free_len {k : Nat} {l : List Int} (h : FreeS H W o n k H' W' l) : H'.length + W'.length ≤ H.length + W.length := by
  cases h with
  | none _ => omega
  | state _ _ _ _ _ => omega
  | ok _ _ =>
    have h1 := (comeP_len n (nameL W n).length (woN H o n) W).1
    have h2 : (woN H o n).length ≤ H.length := List.length_filter_le _ _
    omega
theorem dropP_len (o : Int) : ∀ (K : List ByteArray) (H W : Hs), (dropP o K H W).1.length + (dropP o K H W).2.1.length ≤ H.length + W.length
  | [], H, W => Nat.le_refl _
  | n :: K, H, W => by
    have h1 := (comeP_len n (nameL W n).length (woN H o n) W).1
    have h2 : (woN H o n).length ≤ H.length := List.length_filter_le _ _
    have h3 := dropP_len o K (comeP n (nameL W n).length (woN H o n) W).1 (comeP n (nameL W n).length (woN H o n) W).2.1
    show (dropP o K (comeP n (nameL W n).length (woN H o n) W).1 (comeP n (nameL W n).length (woN H o n) W).2.1).1.length + (dropP o K (comeP n (nameL W n).length (woN H o n) W).1 (comeP n (nameL W n).length (woN H o n) W).2.1).2.1.length ≤ _
    omega
theorem Inv9.start : Inv9 [] [] :=
  ⟨⟨fun _ h => (by cases h), fun _ h => (by cases h), List.Pairwise.nil, List.nodup_nil⟩, fun _ h => (by cases h), fun n l1 l2 u y h => by simp [nameL] at h, fun _ h => (by cases h), fun x h => by
    obtain ⟨b, y, hy, _⟩ := h.first
    cases hy⟩
end
end Go.Proofs.YtainnhcmhgloaaaDoor
