/-
  What the statements ask of asking again, and of dropping all: plain.
-/
import Derived.Test.YtainnhcmhgloaaaDoorK09h
namespace Go.Proofs.YtainnhcmhgloaaaDoor
open Go.RowKit
theorem jn_cov : ∀ a, a < 7 → ∀ b, b < 7 → covN a b = true → jn a b 7 = a := by decide +kernel
section
variable {H W H' W' : Hs} {x y : Has9} {a b c o : Int} {n n' : ByteArray}
theorem ask_again {m : Int} {k : Nat} (ok : Ok9 H W) (hb : 0 ≤ o ∧ 0 < m ∧ m < 7) (no : ∀ y ∈ W, y.owner ≠ o) (cov : covN (modeP H o n) m.toNat = true) (h : AskS H W o n m k H' W') : k = 0 ∧ H' = H ∧ W' = W := by
  have e := jn_cov _ (modeP_lt ok o n) _ (show m.toNat < 7 by omega) cov
  cases h with
  | arg h => exact absurd hb h
  | state _ y hy hyo => exact absurd hyo (no y hy)
  | has _ _ _ => exact ⟨rfl, rfl, rfl⟩
  | got _ _ ne _ _ => exact absurd e ne
  | dead _ _ ne _ _ => exact absurd e ne
  | wait _ _ ne _ _ => exact absurd e ne
theorem comeP_from (n : ByteArray) : ∀ (k : Nat) (H W : Hs), ∀ h ∈ (comeP n k H W).1, h ∈ H ∨ h ∈ W
  | 0, H, W => by unfold comeP; exact fun h hh => .inl hh
  | k + 1, H, W => by
    cases hn : nameL W n with
    | nil => rw [comeP_nil hn]; exact fun h hh => .inl hh
    | cons z l =>
      have hz := mem_nameL.1 (show z ∈ nameL W n by rw [hn]; simp)
      cases hc : canP H z with
      | false => rw [comeP_no hn hc]; exact fun h hh => .inl hh
      | true =>
        rw [comeP_yes hn hc]
        intro h hh
        rcases comeP_from n k _ _ h hh with h1 | h1
        · rcases mem_holdP.1 h1 with h2 | rfl
          · exact .inl h2.1
          · exact .inr hz.1
        · exact .inr (mem_woA.1 h1).1
/-- who holds something still does when others have come -/
theorem comeP_still (n : ByteArray) : ∀ (k : Nat) (H W : Hs) (b : Int), (∃ h ∈ H, h.owner = b) → ∃ h ∈ (comeP n k H W).1, h.owner = b
  | 0, H, W, b, h => by unfold comeP; exact h
  | k + 1, H, W, b, h => by
    cases hn : nameL W n with
    | nil => rw [comeP_nil hn]; exact h
    | cons z l =>
      cases hc : canP H z with
      | false => rw [comeP_no hn hc]; exact h
      | true =>
        rw [comeP_yes hn hc]
        refine comeP_still n k _ _ b ?_
        obtain ⟨h, hh, rfl⟩ := h
        by_cases e : h.owner = z.owner ∧ h.name = z.name
        · exact ⟨z, mem_holdP.2 (.inr rfl), e.1.symm⟩
        · exact ⟨h, mem_holdP.2 (.inl ⟨hh, e⟩), rfl⟩
/-- who has come waited, waits no more, and holds something -/
theorem comeP_came (n : ByteArray) : ∀ (k : Nat) (H W : Hs), ∀ b ∈ (comeP n k H W).2.2, (∃ y ∈ W, y.owner = b) ∧ (∃ h ∈ (comeP n k H W).1, h.owner = b) ∧ ∀ y ∈ (comeP n k H W).2.1, y.owner ≠ b
  | 0, H, W => by unfold comeP; exact fun b hb => by cases hb
  | k + 1, H, W => by
    cases hn : nameL W n with
    | nil => rw [comeP_nil hn]; exact fun b hb => by cases hb
    | cons z l =>
      have hz := mem_nameL.1 (show z ∈ nameL W n by rw [hn]; simp)
      cases hc : canP H z with
      | false => rw [comeP_no hn hc]; exact fun b hb => by cases hb
      | true =>
        rw [comeP_yes hn hc]
        intro b hb
        rcases List.mem_cons.1 hb with rfl | hb
        · exact ⟨⟨z, hz.1, rfl⟩, comeP_still n k _ _ _ ⟨z, mem_holdP.2 (.inr rfl), rfl⟩, fun y hy => (mem_woA.1 (comeP_sub n k _ _ y hy)).2⟩
        · obtain ⟨⟨y, hy, e⟩, h2, h3⟩ := comeP_came n k _ _ b hb
          exact ⟨⟨y, (mem_woA.1 hy).1, e⟩, h2, h3⟩
theorem dropP_gone (o : Int) : ∀ (K : List ByteArray) (H W : Hs), (∀ y ∈ W, y.owner ≠ o) → (∀ h ∈ H, h.owner = o → h.name ∈ K) → ∀ h ∈ (dropP o K H W).1, h.owner ≠ o
  | [], H, W, _, hH => fun h hh e => by have := hH h hh e; cases this
  | n :: K, H, W, hw, hH => by
    refine dropP_gone o K _ _ (fun y hy => hw y (comeP_sub n _ _ _ y hy)) (fun h hh e => ?_)
    rcases comeP_from n _ _ _ h hh with h1 | h1
    · obtain ⟨h2, h3⟩ := mem_woN.1 h1
      rcases List.mem_cons.1 (hH h h2 e) with h4 | h4
      · exact absurd ⟨e, h4⟩ h3
      · exact h4
    · exact absurd e (hw h h1)
theorem dropP_still (o : Int) : ∀ (K : List ByteArray) (H W : Hs) (b : Int), b ≠ o → (∃ h ∈ H, h.owner = b) → ∃ h ∈ (dropP o K H W).1, h.owner = b
  | [], H, W, b, _, h => h
  | n :: K, H, W, b, hb, h => by
    refine dropP_still o K _ _ b hb (comeP_still n _ _ _ b ?_)
    obtain ⟨h, hh, e⟩ := h
    exact ⟨h, mem_woN.2 ⟨hh, fun e2 => hb (e.symm.trans e2.1)⟩, e⟩
theorem dropP_sub (o : Int) : ∀ (K : List ByteArray) (H W : Hs), ∀ y ∈ (dropP o K H W).2.1, y ∈ W
  | [], _H, _W => fun _y hy => hy
  | n :: K, _H, _W => fun y hy => comeP_sub n _ _ _ y (dropP_sub o K _ _ y hy)
theorem dropP_came (o : Int) : ∀ (K : List ByteArray) (H W : Hs), (∀ y ∈ W, y.owner ≠ o) → ∀ b ∈ (dropP o K H W).2.2, b ≠ o ∧ (∃ h ∈ (dropP o K H W).1, h.owner = b) ∧ ∀ y ∈ (dropP o K H W).2.1, y.owner ≠ b
  | [], H, W, _ => fun b hb => by cases hb
  | n :: K, H, W, hw => by
    intro b hb
    rcases List.mem_append.1 hb with hb | hb
    · obtain ⟨⟨y, hy, e⟩, h2, h3⟩ := comeP_came n _ _ _ b hb
      have hbo : b ≠ o := fun e2 => hw y hy (e.trans e2)
      exact ⟨hbo, dropP_still o K _ _ b hbo h2, fun z hz => h3 z (dropP_sub o K _ _ z hz)⟩
    · exact dropP_came o K _ _ (fun y hy => hw y (comeP_sub n _ _ _ y hy)) b hb
/-- who drops all holds nothing and waits for nothing; who comes by that waits no more, and holds something -/
theorem drop_all (_ok : Ok9 H W) (o : Int) : (∀ h ∈ (dropP o (namesP H W o) H (woA W o)).1, h.owner ≠ o) ∧ (∀ y ∈ (dropP o (namesP H W o) H (woA W o)).2.1, y.owner ≠ o) ∧
    ∀ b ∈ (dropP o (namesP H W o) H (woA W o)).2.2, b ≠ o ∧ (∃ h ∈ (dropP o (namesP H W o) H (woA W o)).1, h.owner = b) ∧ ∀ y ∈ (dropP o (namesP H W o) H (woA W o)).2.1, y.owner ≠ b := by
  have hw : ∀ y ∈ woA W o, y.owner ≠ o := fun y hy => (mem_woA.1 hy).2
  refine ⟨dropP_gone o _ _ _ hw (fun h hh e => ?_), fun y hy => hw y (dropP_sub o _ _ _ y hy), dropP_came o _ _ _ hw⟩
  unfold namesP
  rw [mem_namesU, List.mem_append]
  exact .inl (List.mem_map.2 ⟨h, mem_ownL.2 ⟨hh, e⟩, rfl⟩)
end
end Go.Proofs.YtainnhcmhgloaaaDoor
