/-
  WalParts, walked.
-/
import Derived.Test.YtncpldmnnipljaaW06t
namespace Go.Proofs.Ytncpldmnnipljaa
open Go.RowKit
/-- what a walk is told of a []uint8 that came in -/
def ArgU8s (w : World) (a : Option Addr) (len : Nat) (zs : List Int) : Prop :=
  zs.length = len ∧ ∀ i x, zs[i]? = some x → ∃ b off, a = some ⟨b, off, none⟩ ∧ w.cell? ⟨b, off + i, none⟩ = some (.int .u8 x) ∧ 0 ≤ x ∧ x < 256
/-- a log that is written in parts: its bytes have room -/
def PartY (L : LogP) (b : Nat) : Prop := L.tu = none ∧ L.wr ≤ L.R.length ∧ L.n * 234 + waitL L ≤ b ∧ (recsB (L.R.take L.wr)).length ≤ 234 * L.n
theorem PartY.append {L : LogP} {b : Nat} (h : PartY L b) (s : ByteArray) (hs : s.size ≤ 300) : PartY { L with R := L.R ++ [s] } (b + 303) := by
  obtain ⟨h1, h2, h3, h4⟩ := h
  refine ⟨h1, ?_, ?_, ?_⟩
  · show L.wr ≤ (L.R ++ [s]).length; rw [List.length_append]; omega
  · rw [waitL_app L s h2]; show L.n * 234 + (waitL L + 3 + s.size) ≤ _; omega
  · show (recsB ((L.R ++ [s]).take L.wr)).length ≤ 234 * L.n
    rw [List.take_append_of_le_length h2]; exact h4
theorem PartY.write {L : LogP} {b : Nat} (h : PartY L b) : PartY (wroteL L) (b + 233) := by
  obtain ⟨h1, h2, h3, h4⟩ := h
  refine ⟨h1, Nat.le_refl _, ?_, ?_⟩
  · rw [wroteL_wait]
    show (L.n + needOf (waitL L)) * 234 + 0 ≤ b + 233
    unfold needOf; omega
  · show (recsB (L.R.take L.R.length)).length ≤ 234 * (L.n + needOf (waitL L))
    have e : recsB (L.R.take L.R.length) = recsB (L.R.take L.wr) ++ recsB (L.R.drop L.wr) := by rw [← recsB_append, List.take_append_drop, List.take_length]
    rw [e, List.length_append]
    have : (recsB (L.R.drop L.wr)).length = waitL L := rfl
    rw [this]
    unfold needOf; omega
theorem PartY.sync {L : LogP} {b : Nat} (h : PartY L b) : PartY (syncL L) b := by rw [syncL_none h.1]; exact h
theorem PartY.mono {L : LogP} {b c : Nat} (h : PartY L b) (hc : b ≤ c) : PartY L c := ⟨h.1, h.2.1, by have := h.2.2.1; omega, h.2.2.2⟩
theorem PartY.app {L : LogP} {b : Nat} (h : PartY L b) (s : ByteArray) (hb : b ≤ 40000) (hs : s.size ≤ 300) (h1 : 1 ≤ s.size) : appE 200 L s = 0 ∧ appK 200 L s = ((L.R.length + 1 : Nat) : Int) ∧ appL 200 L s = { L with R := L.R ++ [s] } := by
  have e : appE 200 L s = 0 := by
    unfold appE
    have := h.2.2.1
    rw [if_neg (by omega), if_neg (by rw [h.1]; simp), if_pos (by omega)]
  exact ⟨e, by unfold appK; rw [e, if_pos rfl], by unfold appL; rw [e, if_pos rfl]⟩
theorem app_none (L : LogP) (s : ByteArray) (h1 : s.size = 0) : appE 200 L s = 1 ∧ appK 200 L s = 0 ∧ appL 200 L s = L := by
  have e : appE 200 L s = 1 := by unfold appE; rw [if_pos (.inl (by omega))]
  exact ⟨e, by unfold appK; rw [e, if_neg (by decide)], by unfold appL; rw [e, if_neg (by decide)]⟩
/-- behind a Sync, what a disk tells -/
theorem told_f {m : Nat} {S : List ByteArray} {L : LogP} (I : LInv m S [] L) (h4 : 4 ≤ S.length) : CrashF m S L := crash_f I h4 []
theorem read_all {L L' : LogP} (F : ReadF L L') (ht : L.tu = none) (h1 : L.su = L.wr) (h2 : L.wr = L.R.length) : L'.R = L.R := by
  rcases F.told with ⟨u, u1, u2, u3, _⟩ | ⟨s, hs, _⟩
  · rw [u3, List.take_of_length_le (by omega)]
  · rw [ht] at hs; cases hs
end Go.Proofs.Ytncpldmnnipljaa
