/-
  What WalDoes' walk wants beside the calls: a crash and an opening on both sides, with the pages named.
-/
import Derived.Test.YthjlbfijfpfohaaV06l
namespace Go.Proofs.Ythjlbfijfpfohaa
open Go.RowKit Go.ChangeMaps
section
variable {w w' w1 : World} {o o' o1 : Nat → Nat} {q pd j g m q1 pd1 j1 g1 : Nat} {S : List ByteArray} {Ws : Wrs} {L : LogP} {c : Nat}
theorem ld_crash2 (H : LD w o q pd j g m S Ws L c) (hc : c ≤ 100) (h4 : 4 ≤ S.length) (fa : Option Addr) (fl fc : Nat) (fs : List Int) (HF : FInts w o q fa fl fs) (hfl : fl ≤ 1000000) :
    Calls Try.prog 18 #[.pointer (some ⟨pd, 0, none⟩), .slice fa fl fc] w fun e w' => e = .returned (.tuple #[]) ∧ IsD w' o q pd (crashOf S Ws fs) [] ∧ CrashF m (crashOf S Ws fs) L ∧ Stp o q w o w' := by
  refine (d_crash H.D (by have := H.cW; omega) fa fl fc fs HF hfl).mono ?_
  rintro e w' ⟨rfl, d, s'⟩
  exact ⟨rfl, d, crash_f H.I h4 fs, s'⟩
theorem vd_crash (V : VD w o q pd j g S Ws L) (P : LD w1 o1 q1 pd1 j1 g1 m S Ws L c) (hc : c ≤ 100) (fa : Option Addr) (fl fc : Nat) (fs : List Int) (HF : FInts w o q fa fl fs) (hfl : fl ≤ 1000000) :
    Calls Try.prog 19 #[.pointer (some ⟨pd, 0, none⟩), .slice fa fl fc] w fun e w' => e = .returned (.tuple #[]) ∧ IsR w' o q pd (crashOf S Ws fs) [] ∧ Stp o q w o w' :=
  rcrash_any V.D (by have := P.cW; omega) fa fl fc fs HF hfl
theorem vd_open {S' : List ByteArray} (D : IsR w o q pd S' []) (h4 : 4 ≤ S'.length) (ht : maxTag S' ≤ 1000) (j : Nat) (hj : q ≠ j) :
    Calls Try.prog 9 #[.pointer (some ⟨pd, 0, none⟩)] w fun e w' => ∃ g, e = .returned (.tuple #[.pointer (some ⟨g, 0, none⟩), .int .i64 0]) ∧ VD w' (gives o w.heap.size j) q pd j g S' [] (openedL S') ∧ Stp o j w (gives o w.heap.size j) w' ∧ Below w.heap.size w w' := by
  have h := vopen_ok D h4 (by rw [rawsOf_nil]; omega) (by simp) j
  rw [rawsOf_nil] at h
  refine h.mono ?_
  rintro e w' ⟨g, rfl, hG, b⟩
  have s' := (Stp.ofBelow b o j).gives w.heap.size (Nat.le_refl _)
  exact ⟨g, rfl, ⟨D.other s' hj, hG, hj, fun s hs => by cases hs⟩, s', b⟩
/-- what the document's log leaves alone, as the program's -/
theorem VD.step {i : Nat} (h : VD w o q pd j g S Ws L) (s : Stp o i w o' w') (h1 : q ≠ i) (h2 : j ≠ i) : VD w' o' q pd j g S Ws L := ⟨h.D.other s h1, h.G.other s h2, h.ne, h.tz⟩
/-- what lies in a page, on both sides -/
theorem both_raw (P : IsD w o q1 pd1 S Ws) (V : IsR w o q pd S Ws) (k : Nat) (hk : k < S.length) (hW : Ws.length ≤ 1000000) : ∃ r, (∀ W, Below w.heap.size w W → Calls Try.prog 21 #[.pointer (some ⟨pd1, 0, none⟩), .int .i64 (k : Int)] W fun e w' => e = .returned (.string r) ∧ Below W.heap.size W w') ∧ (∀ W, Below w.heap.size w W → Calls Try.prog 22 #[.pointer (some ⟨pd, 0, none⟩), .int .i64 (k : Int)] W fun e w' => e = .returned (.string r) ∧ W = w') := by
  obtain ⟨s, hs⟩ : ∃ s, S[k]? = some s := ⟨_, List.getElem?_eq_getElem hk⟩
  refine ⟨rawAt Ws k s, fun W b => ?_, fun W b => ?_⟩
  · exact (d_raw (P.reads b) k s hs)
  · exact (rraw_in (V.reads b) k s hs hW)
end
end Go.Proofs.Ythjlbfijfpfohaa
