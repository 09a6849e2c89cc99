/-
  Arguments of the statements: a script of calls (which, who, a name, a mode); a number of eight.
-/
import Derived.Test.YtainnhcmhgloaaaGreatDoorGC
import Derived.Test.YtainnhcmhgloaaaGreatDoorA3
import Derived.Deep.Strs
namespace Go.Proofs.YtainnhcmhgloaaaGreatDoor
open Go.ChangeShapes Go.WideShapes Go.ChangeAt Go.RowKit
theorem i64_and_low9 (n : Int) (m : Nat) (hm : m < 60) (c : Int) (hc : c = 2 ^ m - 1) : bits .and .i64 n c = n % 2 ^ m := by
  subst hc
  have hp : (2 : Nat) ^ m < 2 ^ 60 := Nat.pow_lt_pow_right (by omega) hm
  have hp0 : 0 < (2 : Nat) ^ m := Nat.pow_pos (by omega)
  have hcast : ((2 : Int) ^ m - 1) = ((2 ^ m - 1 : Nat) : Int) := by
    rw [Int.natCast_sub hp0]; simp
  have h7 : (BitVec.ofInt 64 (2 ^ m - 1)).toNat = 2 ^ m - 1 := by
    rw [hcast, BitVec.ofInt_natCast, BitVec.toNat_ofNat]; exact Nat.mod_eq_of_lt (by omega)
  have key : (BitVec.ofInt 64 n &&& BitVec.ofInt 64 (2 ^ m - 1)).toNat = (n % ((2 ^ 64 : Nat) : Int)).toNat % 2 ^ m := by
    rw [BitVec.toNat_and, BitVec.toNat_ofInt, h7, Nat.and_two_pow_sub_one_eq_mod]
  show IntKind.i64.wrap ((BitVec.ofInt 64 n &&& BitVec.ofInt 64 (2 ^ m - 1)).toNat : Nat) = n % 2 ^ m
  rw [key]
  have e1 : (n % ((2 ^ 64 : Nat) : Int)).toNat % 2 ^ m < 2 ^ m := Nat.mod_lt _ hp0
  rw [IntWalk.i64_in _ (by omega), Int.natCast_emod, Int.toNat_of_nonneg (Int.emod_nonneg _ (by decide))]
  rw [show ((2 ^ m : Nat) : Int) = (2 : Int) ^ m by simp]
  apply Int.emod_emod_of_dvd
  exact ⟨2 ^ (64 - m), by rw [← Int.pow_add, show m + (64 - m) = 64 by omega]; rfl⟩
/-- the page that a number names, of eight -/
def lo8 (x : Int) : Nat := (x % 8).toNat
theorem lo8_lt (x : Int) : lo8 x < 8 := by unfold lo8; omega
theorem and79 (x : Int) : bits .and .i64 x 7 = (lo8 x : Int) := by rw [i64_and_low9 x 3 (by omega) 7 rfl]; unfold lo8; omega
structure OpK9 where
  k : Int
  pg : Int
  s : ByteArray
  n : Int
def ArgOps9 (w : World) (a : Option Addr) (len : Nat) (zs : List OpK9) : Prop :=
  zs.length = len ∧ ∀ i x, zs[i]? = some x → (Lit.int .i64 x.k).wf = true ∧ (Lit.int .i64 x.pg).wf = true ∧ x.s.size ≤ maxLen ∧ (Lit.int .i64 x.n).wf = true ∧
    ∃ b off, a = some ⟨b, off, none⟩ ∧ w.cell? ⟨b, off + i * 4, none⟩ = some (.int .i64 x.k) ∧ w.cell? ⟨b, off + i * 4 + 1, none⟩ = some (.int .i64 x.pg) ∧ w.cell? ⟨b, off + i * 4 + 2, none⟩ = some (.string x.s) ∧ w.cell? ⟨b, off + i * 4 + 3, none⟩ = some (.int .i64 x.n)
theorem open_argOps9 {H : Type} {enc : TypeId × Value → H} {P : Program} {w : World} {base : Nat} {spare : Nat → Bool} {held : Bool} {t e : TypeId} {f0 f1 f2 f3 : Field} {a : Option Addr} {len cap : Nat} {d : DataW H} {p : List MemPlace}
    (ht : P.underlying t = some (.slice e)) (he : P.underlying e = some (.struct #[f0, f1, f2, f3])) (ce : P.cellsOf e = 4) (o0 : f0.offset = 0) (o1 : f1.offset = 1) (o2 : f2.offset = 2) (o3 : f3.offset = 3)
    (c0 : P.cellsOf f0.type = 1) (c1 : P.cellsOf f1.type = 1) (c2 : P.cellsOf f2.type = 1) (c3 : P.cellsOf f3.type = 1)
    (t0 : P.underlying f0.type = some (.int .i64)) (t1 : P.underlying f1.type = some (.int .i64)) (t2 : P.underlying f2.type = some .string) (t3 : P.underlying f3.type = some (.int .i64)) (hsp : ∀ b, spare b = true)
    (h : DataW.Trod enc P w base spare held t (.slice a len cap) d p) : ∃ zs, ArgOps9 w a len zs ∧ len ≤ maxLen := by
  obtain ⟨fuel, hf⟩ := h
  rcases Go.Deep.open_slice ht hf with ⟨hcs, _⟩ | ⟨x, l, c, m, n, D, Pl, hcs, _, hl, hm, hmm, _, hx⟩
  · simp [Value.cells] at hcs
    obtain ⟨rfl, rfl, rfl⟩ := hcs
    exact ⟨[], ⟨rfl, fun i x hx => by simp at hx⟩, Nat.zero_le _⟩
  · simp [Value.cells] at hcs
    obtain ⟨rfl, rfl, rfl⟩ := hcs
    rw [hsp, if_pos rfl] at hmm
    have each : ∀ i, i < len → ∃ y : OpK9, (Lit.int .i64 y.k).wf = true ∧ (Lit.int .i64 y.pg).wf = true ∧ y.s.size ≤ maxLen ∧ (Lit.int .i64 y.n).wf = true ∧
        w.cell? (x.add (i * 4)) = some (.int .i64 y.k) ∧ w.cell? (x.add (i * 4 + 1)) = some (.int .i64 y.pg) ∧ w.cell? (x.add (i * 4 + 2)) = some (.string y.s) ∧ w.cell? (x.add (i * 4 + 3)) = some (.int .i64 y.n) := by
      intro i hi
      obtain ⟨cs', h1, h2⟩ := hx i (by omega)
      rw [ce] at h1
      obtain ⟨_, hlen, hcell⟩ := World.cells?_some h1
      obtain ⟨y0, y1, y2, y3, n', _, _, g0, g1, g2, g3⟩ := Go.Joins.trod_struct4 he h2
      match cs', hlen with
      | [v0, v1, v2, v3], _ =>
        simp [o0, o1, o2, o3, c0, c1, c2, c3] at g0 g1 g2 g3
        obtain ⟨x0, e0, _, w0⟩ := DataW.trod_int t0 g0
        obtain ⟨x1, e1, _, w1⟩ := DataW.trod_int t1 g1
        obtain ⟨x2, e2, _, w2⟩ := DataW.trod_string t2 g2
        obtain ⟨x3, e3, _, w3⟩ := DataW.trod_int t3 g3
        simp at e0 e1 e2 e3
        subst e0 e1 e2 e3
        have k0 := hcell 0 (by omega)
        have k1 := hcell 1 (by omega)
        have k2 := hcell 2 (by omega)
        have k3 := hcell 3 (by omega)
        rw [Go.Deep.add_add] at k0 k1 k2 k3
        exact ⟨⟨x0, x1, x2, x3⟩, w0, w1, w2, w3, by simpa using k0, by simpa using k1, by simpa using k2, by simpa using k3⟩
    let d0 : OpK9 := ⟨0, 0, ⟨#[]⟩, 0⟩
    let g : Nat → OpK9 := fun i => if hi : i < len then (each i hi).choose else d0
    refine ⟨(List.range len).map g, ⟨by simp, ?_⟩, by omega⟩
    intro i y hy
    have hi : i < len := by
      have := (List.getElem?_eq_some_iff.1 hy).1
      simpa using this
    rw [List.getElem?_map, List.getElem?_range hi] at hy
    simp at hy
    have hg : g i = (each i hi).choose := by simp [g, hi]
    rw [hg] at hy
    have hs := (each i hi).choose_spec
    rw [hy] at hs
    obtain ⟨s1, s2, s3, s4, k0, k1, k2, k3⟩ := hs
    have h1 : x.spot = none := by
      obtain ⟨y0, _, _, _, _, q0, _⟩ := each 0 (by omega)
      rw [Nat.zero_mul] at q0
      exact add_spot q0
    rw [add_none h1] at k0 k1 k2 k3
    obtain ⟨b, o, s⟩ := x
    simp at h1
    subst h1
    exact ⟨s1, s2, s3, s4, b, o, rfl, k0, k1, k2, k3⟩
end Go.Proofs.YtainnhcmhgloaaaGreatDoor
