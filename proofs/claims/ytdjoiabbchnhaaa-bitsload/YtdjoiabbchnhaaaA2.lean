/-
  Arguments: a []int, and a slice of structs of two ints, as a walk is told of them.
-/
import Derived.Test.YtdjoiabbchnhaaaA1
import Derived.ChangeSlices
import Derived.Deep.SlicePairs
import Derived.ProofKit
import Derived.OpenShut
namespace Go.Proofs.Ytdjoiabbchnhaaa
open Go.ChangeShapes Go.WideShapes Go.ChangeAt Go.RowKit
/-- what a walk is told of a []int that came in -/
def ArgInts (w : World) (a : Option Addr) (len : Nat) (zs : List Int) : Prop :=
  zs.length = len ∧ ∀ i x, zs[i]? = some x → ∃ b off, a = some ⟨b, off, none⟩ ∧ w.cell? ⟨b, off + i, none⟩ = some (.int .i64 x)
/-- .. of a slice of structs of two ints -/
def ArgPairs (w : World) (a : Option Addr) (len : Nat) (zs : List (Int × Int)) : Prop :=
  zs.length = len ∧ ∀ i x, zs[i]? = some x → (Lit.int .i64 x.1).wf = true ∧ (Lit.int .i64 x.2).wf = true ∧ ∃ b off, a = some ⟨b, off, none⟩ ∧ w.cell? ⟨b, off + i * 2, none⟩ = some (.int .i64 x.1) ∧ w.cell? ⟨b, off + i * 2 + 1, none⟩ = some (.int .i64 x.2)
theorem add_spot {w : World} {x : Addr} {v : Value} (h : w.cell? (x.add 0) = some v) : x.spot = none := by simpa [Addr.add] using World.cell?_spot h
theorem add_none {x : Addr} (hs : x.spot = none) (i : Nat) : x.add i = ⟨x.block, x.off + i, none⟩ := by
  obtain ⟨b, o, s⟩ := x
  simp at hs
  subst hs
  unfold Addr.add
  by_cases hz : i = 0
  · subst hz; rfl
  · simp [hz]
theorem open_argInts {H : Type} {enc : TypeId × Value → H} {P : Program} {w : World} {base : Nat} {spare : Nat → Bool} {held : Bool} {t e : TypeId} {a : Option Addr} {len cap : Nat} {d : DataW H} {p : List MemPlace}
    (ht : P.underlying t = some (.slice e)) (he : P.underlying e = some (.int .i64)) (hc : P.cellsOf e = 1) (hsp : ∀ b, spare b = true)
    (h : DataW.Trod enc P w base spare held t (.slice a len cap) d p) : ∃ zs, ArgInts w a len zs ∧ len ≤ maxLen := by
  obtain ⟨fuel, hf⟩ := h
  rcases open_ints ht he hc hf with ⟨hcs, _⟩ | ⟨x, l, c, zs, hcs, _, hl, hm, hz, _, hcell, hwz⟩
  · simp [Value.cells] at hcs
    obtain ⟨rfl, rfl, rfl⟩ := hcs
    exact ⟨[], ⟨rfl, fun i x hx => by simp at hx⟩, Nat.zero_le _⟩
  · simp [Value.cells] at hcs
    obtain ⟨rfl, rfl, rfl⟩ := hcs
    rw [hsp, if_pos rfl] at hz
    refine ⟨zs.take len, ⟨by rw [List.length_take]; omega, ?_⟩, by omega⟩
    intro i y hy
    have hi : i < len := by
      have := (List.getElem?_eq_some_iff.1 hy).1
      rw [List.length_take] at this; omega
    rw [List.getElem?_take_of_lt hi] at hy
    have hc := hcell i (by omega)
    have h1 := add_spot (hcell 0 (by omega))
    rw [add_none h1, List.getD_eq_getElem?_getD, hy] at hc
    obtain ⟨b, o, s⟩ := x
    simp at h1
    subst h1
    exact ⟨b, o, rfl, hc⟩
theorem open_argPairs {H : Type} {enc : TypeId × Value → H} {P : Program} {w : World} {base : Nat} {spare : Nat → Bool} {held : Bool} {t e : TypeId} {f0 f1 : Field} {a : Option Addr} {len cap : Nat} {d : DataW H} {p : List MemPlace}
    (ht : P.underlying t = some (.slice e)) (he : P.underlying e = some (.struct #[f0, f1])) (ce : P.cellsOf e = 2) (o0 : f0.offset = 0) (o1 : f1.offset = 1) (c0 : P.cellsOf f0.type = 1) (c1 : P.cellsOf f1.type = 1)
    (t0 : P.underlying f0.type = some (.int .i64)) (t1 : P.underlying f1.type = some (.int .i64)) (hsp : ∀ b, spare b = true)
    (h : DataW.Trod enc P w base spare held t (.slice a len cap) d p) : ∃ zs, ArgPairs w a len zs ∧ len ≤ maxLen := by
  obtain ⟨fuel, hf⟩ := h
  rcases Go.Deep.open_slice_pairs ht he ce o0 o1 c0 c1 hf with ⟨hcs, _⟩ | ⟨x, l, c, m, n, V0, V1, D0, D1, P0, P1, hcs, _, hl, hm, hmm, _, hx⟩
  · simp [Value.cells] at hcs
    obtain ⟨rfl, rfl, rfl⟩ := hcs
    exact ⟨[], ⟨rfl, fun i x hx => by simp at hx⟩, Nat.zero_le _⟩
  · simp [Value.cells] at hcs
    obtain ⟨rfl, rfl, rfl⟩ := hcs
    rw [hsp, if_pos rfl] at hmm
    let num : Value → Int := fun | .int _ q => q | _ => 0
    refine ⟨(List.range len).map (fun i => (num (V0 i), num (V1 i))), ⟨by simp, ?_⟩, by omega⟩
    intro i y hy
    have hi : i < len := by
      have := (List.getElem?_eq_some_iff.1 hy).1
      simpa using this
    rw [List.getElem?_map, List.getElem?_range hi] at hy
    simp at hy
    subst hy
    obtain ⟨k0, k1, r0, r1⟩ := hx i (by omega)
    obtain ⟨x0, e0, _, w0⟩ := DataW.trod_int t0 r0
    obtain ⟨x1, e1, _, w1⟩ := DataW.trod_int t1 r1
    simp at e0 e1
    rw [e0] at k0 ⊢
    rw [e1] at k1 ⊢
    have h1 := add_spot (hx 0 (by omega)).1
    rw [add_none h1] at k0 k1
    obtain ⟨b, o, s⟩ := x
    simp at h1
    subst h1
    exact ⟨w0, w1, b, o, rfl, k0, k1⟩
end Go.Proofs.Ytdjoiabbchnhaaa
