/-
  What the statements ask of each answer of Ask, and of who waits: plain.
-/
import Derived.Test.YtainnhcmhgloaaaDoorK09i
namespace Go.Proofs.YtainnhcmhgloaaaDoor
open Go.RowKit
section
variable {H W H' W' : Hs} {x y : Has9} {a b c o : Int} {n n' : ByteArray} {m : Int} {k : Nat}
/-- who waits does so behind somebody -/
theorem waits_behind (ok : Ok9 H W) (F : ∀ n, First9 H W n) (hy : y ∈ W) : ∃ b, Bh H W y.owner b := by
  obtain ⟨l1, l2, hsp⟩ := List.append_of_mem (mem_nameL.2 ⟨hy, rfl⟩)
  cases hl : l1 with
  | nil =>
    rw [hl] at hsp
    obtain ⟨h, hh, h1, h2, h3⟩ := canP_not.1 (F y.name y l2 hsp)
    exact ⟨h.owner, .holds y h hy rfl hh h1 rfl h2 h3⟩
  | cons z r =>
    have hr : l1 ≠ [] := by rw [hl]; simp
    obtain ⟨u, v, hv⟩ : ∃ u v, l1 = u ++ [v] := ⟨l1.dropLast, l1.getLast hr, (List.dropLast_concat_getLast hr).symm⟩
    exact ⟨v.owner, bq_bh ok ⟨y, hy, rfl, .inr ⟨u, l2, v, by rw [hsp, hv]; simp, rfl⟩⟩⟩
theorem modeP_hold_self (ok : Ok9 H W) (hx : 0 < x.mode ∧ x.mode < 7 ∧ 0 ≤ x.owner ∧ x.owner ≤ 9223372036854775807 ∧ x.name.size ≤ 300) : modeP (holdP H x) x.owner x.name = x.mode :=
  modeP_mem (ok.hold hx).hn (mem_holdP.2 (.inr rfl))
theorem ask_ok (ok : Ok9 H W) (ho : o ≤ 9223372036854775807) (hs : n.size ≤ 300) (h : AskS H W o n m 0 H' W') : W' = W ∧ (∀ y ∈ W', y.owner ≠ o) ∧ 0 < m ∧ m < 7 ∧ covN (modeP H' o n) m.toNat = true ∧ covN (modeP H' o n) (modeP H o n) = true := by
  have h7 := modeP_lt ok o n
  cases h with
  | has hb no e =>
    have hm7 : m.toNat < 7 := by omega
    have h1 := jn_right _ h7 _ hm7
    have h2 := jn_left _ h7 _ hm7
    rw [e] at h1 h2
    exact ⟨rfl, no, hb.2.1, hb.2.2, h1, h2⟩
  | got hb no ne hn hc =>
    have hm7 : m.toNat < 7 := by omega
    have e : modeP (holdP H ⟨o, jn (modeP H o n) m.toNat 7, n⟩) o n = jn (modeP H o n) m.toNat 7 := modeP_hold_self (x := ⟨o, jn (modeP H o n) m.toNat 7, n⟩) ok ⟨jn_pos _ h7 _ hm7 (by omega), jn_lt _ _ _ (by omega), hb.1, ho, hs⟩
    rw [e]
    exact ⟨rfl, no, hb.2.1, hb.2.2, jn_right _ h7 _ hm7, jn_left _ h7 _ hm7⟩
theorem ask_wait (ok : Ok9 H W) (h : AskS H W o n m 10 H' W') : H' = H ∧ (∀ y ∈ W, y.owner ≠ o) ∧ (nameL W' n).length = (nameL W n).length + 1 ∧ 0 < m ∧ m < 7 ∧ ∃ y ∈ W', y.owner = o ∧ y.name = n ∧ y.mode < 7 ∧ covN y.mode m.toNat = true := by
  have h7 := modeP_lt ok o n
  cases h with
  | wait hb no ne hn hd =>
    have hm7 : m.toNat < 7 := by omega
    refine ⟨rfl, no, ?_, hb.2.1, hb.2.2, ⟨o, jn (modeP H o n) m.toNat 7, n⟩, (stayAt_perm H _ _ W).mem_iff.2 (by simp), rfl, rfl, jn_lt _ _ _ (by omega), jn_right _ h7 _ hm7⟩
    obtain ⟨l1, l2, h1, h2, _⟩ := stayAt_name H (⟨o, jn (modeP H o n) m.toNat 7, n⟩ : Has9) (decide (modeP H o n ≠ 0)) W
    have h1' : nameL W n = l1 ++ l2 := h1
    have h2' : nameL (stayAt H (⟨o, jn (modeP H o n) m.toNat 7, n⟩ : Has9) (decide (modeP H o n ≠ 0)) W) n = l1 ++ ⟨o, jn (modeP H o n) m.toNat 7, n⟩ :: l2 := h2
    rw [h1', h2']; simp; omega
theorem ask_else (h : AskS H W o n m k H' W') (h0 : k ≠ 0) (h10 : k ≠ 10) : H' = H ∧ W' = W := by
  cases h with
  | arg _ => exact ⟨rfl, rfl⟩
  | state _ _ _ _ => exact ⟨rfl, rfl⟩
  | has _ _ _ => exact absurd rfl h0
  | got _ _ _ _ _ => exact absurd rfl h0
  | dead _ _ _ _ _ => exact ⟨rfl, rfl⟩
  | wait _ _ _ _ _ => exact absurd rfl h10
theorem ask_state (h : AskS H W o n m k H' W') : k = 9 ↔ (0 ≤ o ∧ 0 < m ∧ m < 7) ∧ ∃ y ∈ W, y.owner = o := by
  cases h with
  | arg hb => exact ⟨fun e => by omega, fun e => absurd e.1 hb⟩
  | state hb y hy e => exact ⟨fun _ => ⟨hb, y, hy, e⟩, fun _ => rfl⟩
  | has _ no _ => exact ⟨fun e => by omega, fun ⟨_, y, hy, e⟩ => absurd e (no y hy)⟩
  | got _ no _ _ _ => exact ⟨fun e => by omega, fun ⟨_, y, hy, e⟩ => absurd e (no y hy)⟩
  | dead _ no _ _ _ => exact ⟨fun e => by omega, fun ⟨_, y, hy, e⟩ => absurd e (no y hy)⟩
  | wait _ no _ _ _ => exact ⟨fun e => by omega, fun ⟨_, y, hy, e⟩ => absurd e (no y hy)⟩
end
end Go.Proofs.YtainnhcmhgloaaaDoor
