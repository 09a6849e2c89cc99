/-
  Arguments of the statements: a script of calls (which, a record, what becomes of writes).
-/
import Derived.Test.YthjlbfijfpfohaaGG
import Derived.Test.YthjlbfijfpfohaaGB
import Derived.Deep.Strs
namespace Go.Proofs.Ythjlbfijfpfohaa
open Go.ChangeShapes Go.WideShapes Go.ChangeAt Go.RowKit
structure OpC where
  k : Int
  s : ByteArray
  fa : Option Addr
  fl : Nat
  fc : Nat
  fs : List Int
def ArgOps6 (w : World) (a : Option Addr) (len : Nat) (zs : List OpC) : Prop :=
  zs.length = len ∧ ∀ i x, zs[i]? = some x → (Lit.int .i64 x.k).wf = true ∧ x.s.size ≤ maxLen ∧ x.fl ≤ x.fc ∧ x.fc ≤ maxLen ∧ ArgInts w x.fa x.fl x.fs ∧
    ∃ b off, a = some ⟨b, off, none⟩ ∧ w.cell? ⟨b, off + i * 3, none⟩ = some (.int .i64 x.k) ∧ w.cell? ⟨b, off + i * 3 + 1, none⟩ = some (.string x.s) ∧ w.cell? ⟨b, off + i * 3 + 2, none⟩ = some (.slice x.fa x.fl x.fc)
theorem open_argOps6 {H : Type} {enc : TypeId × Value → H} {P : Program} {w : World} {base : Nat} {spare : Nat → Bool} {held : Bool} {t e e2 : TypeId} {f0 f2 f3 : Field} {a : Option Addr} {len cap : Nat} {d : DataW H} {p : List MemPlace}
    (ht : P.underlying t = some (.slice e)) (he : P.underlying e = some (.struct #[f0, f2, f3])) (ce : P.cellsOf e = 3) (o0 : f0.offset = 0) (o2 : f2.offset = 1) (o3 : f3.offset = 2)
    (c0 : P.cellsOf f0.type = 1) (c2 : P.cellsOf f2.type = 1) (c3 : P.cellsOf f3.type = 1)
    (t0 : P.underlying f0.type = some (.int .i64)) (t2 : P.underlying f2.type = some .string) (t3 : P.underlying f3.type = some (.slice e2)) (t4 : P.underlying e2 = some (.int .i64)) (c4 : P.cellsOf e2 = 1) (hsp : ∀ b, spare b = true)
    (h : DataW.Trod enc P w base spare held t (.slice a len cap) d p) : ∃ zs, ArgOps6 w a len zs ∧ len ≤ maxLen := by
  obtain ⟨fuel, hf⟩ := h
  rcases Go.Deep.open_slice ht hf with ⟨hcs, _⟩ | ⟨x, l, c, m, n, D, Pl, hcs, _, hl, hm, hmm, _, hx⟩
  · simp [Value.cells] at hcs
    obtain ⟨rfl, rfl, rfl⟩ := hcs
    exact ⟨[], ⟨rfl, fun i x hx => by simp at hx⟩, Nat.zero_le _⟩
  · simp [Value.cells] at hcs
    obtain ⟨rfl, rfl, rfl⟩ := hcs
    rw [hsp, if_pos rfl] at hmm
    have each : ∀ i, i < len → ∃ y : OpC, (Lit.int .i64 y.k).wf = true ∧ y.s.size ≤ maxLen ∧ y.fl ≤ y.fc ∧ y.fc ≤ maxLen ∧ ArgInts w y.fa y.fl y.fs ∧
        w.cell? (x.add (i * 3)) = some (.int .i64 y.k) ∧ w.cell? (x.add (i * 3 + 1)) = some (.string y.s) ∧ w.cell? (x.add (i * 3 + 2)) = some (.slice y.fa y.fl y.fc) := by
      intro i hi
      obtain ⟨cs', h1, h2⟩ := hx i (by omega)
      rw [ce] at h1
      obtain ⟨_, hlen, hcell⟩ := World.cells?_some h1
      obtain ⟨y0, y2, y3, n', _, _, g0, g2, g3⟩ := Go.Deep.trod_struct3 he h2
      match cs', hlen with
      | [v0, v2, v3], _ =>
        simp [o0, o2, o3, c0, c2, c3] at g0 g2 g3
        obtain ⟨x0, e0, _, w0⟩ := DataW.trod_int t0 g0
        obtain ⟨x2, e2, _, w2⟩ := DataW.trod_string t2 g2
        obtain ⟨a3, l3, c3', zs, e3, h3, h4, h5⟩ := open_cellInts t3 t4 c4 hsp g3
        simp at e0 e2
        subst e0 e2 e3
        have k0 := hcell 0 (by omega)
        have k1 := hcell 1 (by omega)
        have k2 := hcell 2 (by omega)
        rw [Go.Deep.add_add] at k0 k1 k2
        exact ⟨⟨x0, x2, a3, l3, c3', zs⟩, w0, w2, h4, h5, h3, by simpa using k0, by simpa using k1, by simpa using k2⟩
    let d0 : OpC := ⟨0, ⟨#[]⟩, none, 0, 0, []⟩
    let g : Nat → OpC := fun i => if hi : i < len then (each i hi).choose else d0
    refine ⟨(List.range len).map g, ⟨by simp, ?_⟩, by omega⟩
    intro i y hy
    have hi : i < len := by
      have := (List.getElem?_eq_some_iff.1 hy).1
      simpa using this
    rw [List.getElem?_map, List.getElem?_range hi] at hy
    simp at hy
    have hg : g i = (each i hi).choose := by simp [g, hi]
    rw [hg] at hy
    have hs := (each i hi).choose_spec
    rw [hy] at hs
    obtain ⟨s1, s3, s4, s5, s6, k0, k1, k2⟩ := hs
    have h1 : x.spot = none := by
      obtain ⟨y0, _, _, _, _, _, q0, _⟩ := each 0 (by omega)
      rw [Nat.zero_mul] at q0
      exact add_spot q0
    rw [add_none h1] at k0 k1 k2
    obtain ⟨b, o, s⟩ := x
    simp at h1
    subst h1
    exact ⟨s1, s3, s4, s5, s6, b, o, rfl, k0, k1, k2⟩
end Go.Proofs.Ythjlbfijfpfohaa
