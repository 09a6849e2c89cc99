/-
  Arguments: a []int, and a slice of calls (two numbers, a text, numbers), as a walk is told of them.
-/
import Derived.Test.YtainnhcmhgloaaaGreatDoorA1
import Derived.ChangeSlices
import Derived.Deep.SlicePairs
import Derived.Lib.SmallJoins
import Derived.ProofKit
import Derived.OpenShut
namespace Go.Proofs.YtainnhcmhgloaaaGreatDoor
open Go.ChangeShapes Go.WideShapes Go.ChangeAt Go.RowKit
/-- what a walk is told of a []int that came in -/
def ArgInts (w : World) (a : Option Addr) (len : Nat) (zs : List Int) : Prop :=
  zs.length = len ∧ ∀ i x, zs[i]? = some x → ∃ b off, a = some ⟨b, off, none⟩ ∧ w.cell? ⟨b, off + i, none⟩ = some (.int .i64 x)
/-- a call: which, a page, bytes, what becomes of writes -/
structure OpA where
  k : Int
  p : Int
  s : ByteArray
  fa : Option Addr
  fl : Nat
  fc : Nat
  fs : List Int
/-- .. of a slice of calls -/
def ArgOps (w : World) (a : Option Addr) (len : Nat) (zs : List OpA) : Prop :=
  zs.length = len ∧ ∀ i x, zs[i]? = some x → (Lit.int .i64 x.k).wf = true ∧ (Lit.int .i64 x.p).wf = true ∧ x.s.size ≤ maxLen ∧ x.fl ≤ x.fc ∧ x.fc ≤ maxLen ∧ ArgInts w x.fa x.fl x.fs ∧
    ∃ b off, a = some ⟨b, off, none⟩ ∧ w.cell? ⟨b, off + i * 4, none⟩ = some (.int .i64 x.k) ∧ w.cell? ⟨b, off + i * 4 + 1, none⟩ = some (.int .i64 x.p) ∧ w.cell? ⟨b, off + i * 4 + 2, none⟩ = some (.string x.s) ∧ w.cell? ⟨b, off + i * 4 + 3, none⟩ = some (.slice x.fa x.fl x.fc)
theorem add_spot {w : World} {x : Addr} {v : Value} (h : w.cell? (x.add 0) = some v) : x.spot = none := by simpa [Addr.add] using World.cell?_spot h
theorem add_none {x : Addr} (hs : x.spot = none) (i : Nat) : x.add i = ⟨x.block, x.off + i, none⟩ := by
  obtain ⟨b, o, s⟩ := x
  simp at hs
  subst hs
  unfold Addr.add
  by_cases hz : i = 0
  · subst hz; rfl
  · simp [hz]
/-- the cells of a []int, wherever it lies -/
theorem open_cellInts {H : Type} {enc : TypeId × Value → H} {P : Program} {w : World} {base : Nat} {spare : Nat → Bool} {held : Bool} {t e : TypeId} {fuel : Nat} {v : Value} {x : DataW H × List MemPlace}
    (ht : P.underlying t = some (.slice e)) (he : P.underlying e = some (.int .i64)) (hc : P.cellsOf e = 1) (hsp : ∀ b, spare b = true)
    (hf : DataW.trod enc P w base spare held fuel t [v] = some x) : ∃ a len cap zs, v = .slice a len cap ∧ ArgInts w a len zs ∧ len ≤ cap ∧ cap ≤ maxLen := by
  rcases open_ints ht he hc hf with ⟨hcs, _⟩ | ⟨x, l, c, zs, hcs, _, hl, hm, hz, _, hcell, hwz⟩
  · simp at hcs
    subst hcs
    exact ⟨none, 0, 0, [], rfl, ⟨rfl, fun i x hx => by simp at hx⟩, Nat.le_refl _, Nat.zero_le _⟩
  · simp at hcs
    subst hcs
    rw [hsp, if_pos rfl] at hz
    refine ⟨some x, l, c, zs.take l, rfl, ⟨by rw [List.length_take]; omega, ?_⟩, hl, hm⟩
    intro i y hy
    have hi : i < l := by
      have := (List.getElem?_eq_some_iff.1 hy).1
      rw [List.length_take] at this; omega
    rw [List.getElem?_take_of_lt hi] at hy
    have hc := hcell i (by omega)
    have h1 := add_spot (hcell 0 (by omega))
    rw [add_none h1, List.getD_eq_getElem?_getD, hy] at hc
    obtain ⟨b, o, s⟩ := x
    simp at h1
    subst h1
    exact ⟨b, o, rfl, hc⟩
theorem open_argInts {H : Type} {enc : TypeId × Value → H} {P : Program} {w : World} {base : Nat} {spare : Nat → Bool} {held : Bool} {t e : TypeId} {a : Option Addr} {len cap : Nat} {d : DataW H} {p : List MemPlace}
    (ht : P.underlying t = some (.slice e)) (he : P.underlying e = some (.int .i64)) (hc : P.cellsOf e = 1) (hsp : ∀ b, spare b = true)
    (h : DataW.Trod enc P w base spare held t (.slice a len cap) d p) : ∃ zs, ArgInts w a len zs ∧ len ≤ cap ∧ cap ≤ maxLen := by
  obtain ⟨fuel, hf⟩ := h
  obtain ⟨a', l', c', zs, e1, h1, h2⟩ := open_cellInts ht he hc hsp (v := .slice a len cap) (by simpa [Value.cells] using hf)
  cases e1
  exact ⟨zs, h1, h2⟩
theorem open_argOps {H : Type} {enc : TypeId × Value → H} {P : Program} {w : World} {base : Nat} {spare : Nat → Bool} {held : Bool} {t e e2 : TypeId} {f0 f1 f2 f3 : Field} {a : Option Addr} {len cap : Nat} {d : DataW H} {p : List MemPlace}
    (ht : P.underlying t = some (.slice e)) (he : P.underlying e = some (.struct #[f0, f1, f2, f3])) (ce : P.cellsOf e = 4) (o0 : f0.offset = 0) (o1 : f1.offset = 1) (o2 : f2.offset = 2) (o3 : f3.offset = 3)
    (c0 : P.cellsOf f0.type = 1) (c1 : P.cellsOf f1.type = 1) (c2 : P.cellsOf f2.type = 1) (c3 : P.cellsOf f3.type = 1)
    (t0 : P.underlying f0.type = some (.int .i64)) (t1 : P.underlying f1.type = some (.int .i64)) (t2 : P.underlying f2.type = some .string) (t3 : P.underlying f3.type = some (.slice e2)) (t4 : P.underlying e2 = some (.int .i64)) (c4 : P.cellsOf e2 = 1) (hsp : ∀ b, spare b = true)
    (h : DataW.Trod enc P w base spare held t (.slice a len cap) d p) : ∃ zs, ArgOps w a len zs ∧ len ≤ maxLen := by
  obtain ⟨fuel, hf⟩ := h
  rcases Go.Deep.open_slice ht hf with ⟨hcs, _⟩ | ⟨x, l, c, m, n, D, Pl, hcs, _, hl, hm, hmm, _, hx⟩
  · simp [Value.cells] at hcs
    obtain ⟨rfl, rfl, rfl⟩ := hcs
    exact ⟨[], ⟨rfl, fun i x hx => by simp at hx⟩, Nat.zero_le _⟩
  · simp [Value.cells] at hcs
    obtain ⟨rfl, rfl, rfl⟩ := hcs
    rw [hsp, if_pos rfl] at hmm
    have each : ∀ i, i < len → ∃ y : OpA, (Lit.int .i64 y.k).wf = true ∧ (Lit.int .i64 y.p).wf = true ∧ y.s.size ≤ maxLen ∧ y.fl ≤ y.fc ∧ y.fc ≤ maxLen ∧ ArgInts w y.fa y.fl y.fs ∧
        w.cell? (x.add (i * 4)) = some (.int .i64 y.k) ∧ w.cell? (x.add (i * 4 + 1)) = some (.int .i64 y.p) ∧ w.cell? (x.add (i * 4 + 2)) = some (.string y.s) ∧ w.cell? (x.add (i * 4 + 3)) = some (.slice y.fa y.fl y.fc) := by
      intro i hi
      obtain ⟨cs', h1, h2⟩ := hx i (by omega)
      rw [ce] at h1
      obtain ⟨_, hlen, hcell⟩ := World.cells?_some h1
      obtain ⟨y0, y1, y2, y3, n', _, _, g0, g1, g2, g3⟩ := Go.Joins.trod_struct4 he h2
      match cs', hlen with
      | [v0, v1, v2, v3], _ =>
        simp [o0, o1, o2, o3, c0, c1, c2, c3] at g0 g1 g2 g3
        obtain ⟨x0, e0, _, w0⟩ := DataW.trod_int t0 g0
        obtain ⟨x1, e1, _, w1⟩ := DataW.trod_int t1 g1
        obtain ⟨x2, e2, _, w2⟩ := DataW.trod_string t2 g2
        obtain ⟨a3, l3, c3', zs, e3, h3, h4, h5⟩ := open_cellInts t3 t4 c4 hsp g3
        simp at e0 e1 e2
        subst e0 e1 e2 e3
        have k0 := hcell 0 (by omega)
        have k1 := hcell 1 (by omega)
        have k2 := hcell 2 (by omega)
        have k3 := hcell 3 (by omega)
        rw [Go.Deep.add_add] at k0 k1 k2 k3
        exact ⟨⟨x0, x1, x2, a3, l3, c3', zs⟩, w0, w1, w2, h4, h5, h3, by simpa using k0, by simpa using k1, by simpa using k2, by simpa using k3⟩
    let d0 : OpA := ⟨0, 0, ⟨#[]⟩, none, 0, 0, []⟩
    let g : Nat → OpA := fun i => if hi : i < len then (each i hi).choose else d0
    refine ⟨(List.range len).map g, ⟨by simp, ?_⟩, by omega⟩
    intro i y hy
    have hi : i < len := by
      have := (List.getElem?_eq_some_iff.1 hy).1
      simpa using this
    rw [List.getElem?_map, List.getElem?_range hi] at hy
    simp at hy
    have hg : g i = (each i hi).choose := by simp [g, hi]
    rw [hg] at hy
    have hs := (each i hi).choose_spec
    rw [hy] at hs
    obtain ⟨s1, s2, s3, s4, s5, s6, k0, k1, k2, k3⟩ := hs
    have h1 : x.spot = none := by
      obtain ⟨y0, _, _, _, _, _, _, q0, _⟩ := each 0 (by omega)
      rw [Nat.zero_mul] at q0
      exact add_spot q0
    rw [add_none h1] at k0 k1 k2 k3
    obtain ⟨b, o, s⟩ := x
    simp at h1
    subst h1
    exact ⟨s1, s2, s3, s4, s5, s6, b, o, rfl, k0, k1, k2, k3⟩
end Go.Proofs.YtainnhcmhgloaaaGreatDoor
