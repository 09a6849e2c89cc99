/-
  Arguments: a record (eight parts, the last a slice of pairs), as a walk is told of it.
-/
import Derived.Test.YthnpkhejfcclcaaDoorC05l
import Derived.Test.YthnpkhejfcclcaaDoorA1
import Derived.ChangeSlices
import Derived.Deep.SlicePairs
import Derived.Lib.SmallJoins
import Derived.ProofKit
import Derived.OpenShut
namespace Go.Proofs.YthnpkhejfcclcaaDoor
open Go.ChangeShapes Go.WideShapes Go.ChangeAt Go.RowKit

theorem add_spot5 {w : World} {x : Addr} {v : Value} (h : w.cell? (x.add 0) = some v) : x.spot = none := by simpa [Addr.add] using World.cell?_spot h
theorem add_none5 {x : Addr} (hs : x.spot = none) (i : Nat) : x.add i = ⟨x.block, x.off + i, none⟩ := by
  obtain ⟨b, o, s⟩ := x
  simp at hs
  subst hs
  unfold Addr.add
  by_cases hz : i = 0
  · subst hz; rfl
  · simp [hz]
/-- the cells of a slice of pairs, wherever it lies -/
theorem open_cellPairs {H : Type} {enc : TypeId × Value → H} {P : Program} {w : World} {base : Nat} {spare : Nat → Bool} {held : Bool} {t e : TypeId} {f0 f1 : Field} {fuel : Nat} {v : Value} {x : DataW H × List MemPlace}
    (ht : P.underlying t = some (.slice e)) (he : P.underlying e = some (.struct #[f0, f1])) (ce : P.cellsOf e = 2) (o0 : f0.offset = 0) (o1 : f1.offset = 1) (c0 : P.cellsOf f0.type = 1) (c1 : P.cellsOf f1.type = 1)
    (t0 : P.underlying f0.type = some .string) (t1 : P.underlying f1.type = some .string) (hsp : ∀ b, spare b = true)
    (hf : DataW.trod enc P w base spare held fuel t [v] = some x) : ∃ a cap, ∃ l : Prs, v = .slice a l.length cap ∧ PairsAt w a l ∧ l.length ≤ maxLen ∧ ∀ p ∈ l, p.1.size ≤ maxLen ∧ p.2.size ≤ maxLen := by
  rcases Go.Deep.open_slice_pairs ht he ce o0 o1 c0 c1 hf with ⟨hcs, _⟩ | ⟨x, len, cap, m, n, V0, V1, D0, D1, P0, P1, hcs, _, hl, hm, hmm, _, hx⟩
  · simp at hcs
    subst hcs
    exact ⟨none, 0, [], rfl, pairsAt_nil _ _, Nat.zero_le _, fun p hp => by simp at hp⟩
  · simp at hcs
    subst hcs
    rw [hsp, if_pos rfl] at hmm
    have each : ∀ i, i < len → ∃ y : ByteArray × ByteArray, y.1.size ≤ maxLen ∧ y.2.size ≤ maxLen ∧ w.cell? (x.add (i * 2)) = some (.string y.1) ∧ w.cell? (x.add (i * 2 + 1)) = some (.string y.2) := by
      intro i hi
      obtain ⟨k0, k1, g0, g1⟩ := hx i (by omega)
      obtain ⟨s0, e0, _, w0⟩ := DataW.trod_string t0 g0
      obtain ⟨s1, e1, _, w1⟩ := DataW.trod_string t1 g1
      simp at e0 e1
      rw [e0] at k0
      rw [e1] at k1
      exact ⟨(s0, s1), w0, w1, k0, k1⟩
    let g : Nat → ByteArray × ByteArray := fun i => if hi : i < len then (each i hi).choose else (⟨#[]⟩, ⟨#[]⟩)
    have hg : ∀ i (hi : i < len), g i = (each i hi).choose := fun i hi => by simp [g, hi]
    refine ⟨some x, cap, (List.range len).map g, by simp, ?_, by simp; omega, ?_⟩
    · intro i y hy
      have hi : i < len := by
        have := (List.getElem?_eq_some_iff.1 hy).1
        simpa using this
      rw [List.getElem?_map, List.getElem?_range hi] at hy
      simp at hy
      rw [hg i hi] at hy
      have hs := (each i hi).choose_spec
      rw [hy] at hs
      obtain ⟨s1, s2, k0, k1⟩ := hs
      have h1 : x.spot = none := by
        obtain ⟨y0, _, _, q0, _⟩ := each 0 (by omega)
        rw [Nat.zero_mul] at q0
        exact add_spot5 q0
      rw [add_none5 h1] at k0 k1
      obtain ⟨b, o, s⟩ := x
      simp at h1
      subst h1
      exact ⟨b, o, rfl, k0, by rw [← Nat.add_assoc] at k1; exact k1⟩
    · intro p hp
      obtain ⟨i, hi, rfl⟩ := List.mem_map.1 hp
      have hi' := List.mem_range.1 hi
      rw [hg i hi']
      have hs := (each i hi').choose_spec
      exact ⟨hs.1, hs.2.1⟩
theorem array8 {α : Type} {xs : Array α} (h : xs.size = 8) : ∃ a b c d e f g i, xs = #[a, b, c, d, e, f, g, i] := by
  obtain ⟨l⟩ := xs
  match l, h with
  | [a, b, c, d, e, f, g, i], _ => exact ⟨a, b, c, d, e, f, g, i, rfl⟩
/-- what a walk is told of a record that came in -/
structure ArgRec (w : World) (a : Option Addr) (r : RecP) : Prop where
  prs : PairsAt w a r.pairs
  len : r.pairs.length ≤ maxLen
  key : r.key.size ≤ maxLen
  val : r.value.size ≤ maxLen
  each : ∀ p ∈ r.pairs, p.1.size ≤ maxLen ∧ p.2.size ≤ maxLen
theorem open_argRec {H : Type} {enc : TypeId × Value → H} {w : World} {r : Reach} {b0 base : Nat} {spare : Nat → Bool} {held : Bool} {v : Value} {d : DataW H} {p : List MemPlace} (hsp : ∀ b, spare b = true)
    (hv : Value.okWide Tryd.prog w r b0 24 v) (h : DataW.Trod enc Tryd.prog w base spare held 24 v d p) : ∃ q a C, v = recV q a C ∧ ArgRec w a q := by
  have cz : Tryd.prog.cellsOf 24 = 8 := by kernel_rfl
  have ci : Tryd.prog.cellsOf 3 = 1 := by kernel_rfl
  have cs' : Tryd.prog.cellsOf 9 = 1 := by kernel_rfl
  have cl : Tryd.prog.cellsOf 22 = 1 := by kernel_rfl
  obtain ⟨cs, rfl, hsz⟩ := okWide_struct Tryd.underlying24 hv
  obtain ⟨v0, v1, v2, v3, v4, v5, v6, v7, rfl⟩ := array8 (hsz.trans cz)
  obtain ⟨fuel, hf⟩ := h
  obtain ⟨xs, n, _, _, _, hl, hall⟩ := DataW.trod_struct Tryd.underlying24 hf
  have g0 := hall 0 _ rfl
  have g1 := hall 1 _ rfl
  have g2 := hall 2 _ rfl
  have g3 := hall 3 _ rfl
  have g4 := hall 4 _ rfl
  have g5 := hall 5 _ rfl
  have g6 := hall 6 _ rfl
  have g7 := hall 7 _ rfl
  have hl' : xs.length = 8 := hl
  rw [List.getElem?_eq_getElem (by omega)] at g0 g1 g2 g3 g4 g5 g6 g7
  simp [Value.cells, ci, cs', cl] at g0 g1 g2 g3 g4 g5 g6 g7
  obtain ⟨x0, e0, _, _⟩ := DataW.trod_int Tryd.underlying3 g0
  obtain ⟨x1, e1, _, _⟩ := DataW.trod_int Tryd.underlying3 g1
  obtain ⟨x2, e2, _, w2⟩ := DataW.trod_string Tryd.underlying9 g2
  obtain ⟨x3, e3, _, w3⟩ := DataW.trod_string Tryd.underlying9 g3
  obtain ⟨x4, e4, _, _⟩ := DataW.trod_int Tryd.underlying3 g4
  obtain ⟨x5, e5, _, _⟩ := DataW.trod_int Tryd.underlying3 g5
  obtain ⟨x6, e6, _, _⟩ := DataW.trod_int Tryd.underlying3 g6
  obtain ⟨a, cap, l, e7, h7, h8, h9⟩ := open_cellPairs Tryd.underlying22 Tryd.underlying47 (by kernel_rfl) rfl rfl (by kernel_rfl) (by kernel_rfl) Tryd.underlying9 Tryd.underlying9 hsp g7
  simp at e0 e1 e2 e3 e4 e5 e6
  subst e0 e1 e2 e3 e4 e5 e6 e7
  exact ⟨⟨x0, x1, x2, x3, x4, x5, x6, l⟩, a, cap, rfl, ⟨h7, h8, w2, w3, h9⟩⟩
end Go.Proofs.YthnpkhejfcclcaaDoor
