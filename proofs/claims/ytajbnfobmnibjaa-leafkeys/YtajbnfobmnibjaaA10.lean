/-
  Arguments: a leaf, a pair, a slice of pairs, as a walk is told of them; the law package's Cut.
-/
import Derived.Test.YtajbnfobmnibjaaF10b
import Derived.Test.YtajbnfobmnibjaaA1
import Derived.ChangeSlices
import Derived.Deep.SlicePairs
import Derived.Lib.SmallJoins
import Derived.ProofKit
import Derived.OpenShut
import Derived.StillTailTactics
namespace Go.Proofs.Ytajbnfobmnibjaa
open Go.ChangeShapes Go.WideShapes Go.ChangeAt Go.RowKit

theorem add_spot10 {w : World} {x : Addr} {v : Value} (h : w.cell? (x.add 0) = some v) : x.spot = none := by simpa [Addr.add] using World.cell?_spot h
theorem add_none10 {x : Addr} (hs : x.spot = none) (i : Nat) : x.add i = ⟨x.block, x.off + i, none⟩ := by
  obtain ⟨b, o, s⟩ := x
  simp at hs
  subst hs
  unfold Addr.add
  by_cases hz : i = 0
  · subst hz; rfl
  · simp [hz]
/-- what a walk is told of pairs that came in -/
structure ArgPrs (w : World) (a : Option Addr) (l : Prs) : Prop where
  prs : PairsAt w a l
  len : l.length ≤ maxLen
  each : ∀ p ∈ l, p.1.size ≤ maxLen ∧ p.2.size ≤ maxLen
theorem open_cellPairs10 {H : Type} {enc : TypeId × Value → H} {P : Program} {w : World} {base : Nat} {spare : Nat → Bool} {held : Bool} {t e : TypeId} {f0 f1 : Field} {fuel : Nat} {v : Value} {x : DataW H × List MemPlace}
    (ht : P.underlying t = some (.slice e)) (he : P.underlying e = some (.struct #[f0, f1])) (ce : P.cellsOf e = 2) (o0 : f0.offset = 0) (o1 : f1.offset = 1) (c0 : P.cellsOf f0.type = 1) (c1 : P.cellsOf f1.type = 1)
    (t0 : P.underlying f0.type = some .string) (t1 : P.underlying f1.type = some .string) (hsp : ∀ b, spare b = true)
    (hf : DataW.trod enc P w base spare held fuel t [v] = some x) : ∃ a cap, ∃ l : Prs, v = .slice a l.length cap ∧ ArgPrs w a l := by
  rcases Go.Deep.open_slice_pairs ht he ce o0 o1 c0 c1 hf with ⟨hcs, _⟩ | ⟨x, len, cap, m, n, V0, V1, D0, D1, P0, P1, hcs, _, hl, hm, hmm, _, hx⟩
  · simp at hcs
    subst hcs
    exact ⟨none, 0, [], rfl, pairsAt_nil _ _, Nat.zero_le _, fun p hp => by simp at hp⟩
  · simp at hcs
    subst hcs
    rw [hsp, if_pos rfl] at hmm
    have each : ∀ i, i < len → ∃ y : ByteArray × ByteArray, y.1.size ≤ maxLen ∧ y.2.size ≤ maxLen ∧ w.cell? (x.add (i * 2)) = some (.string y.1) ∧ w.cell? (x.add (i * 2 + 1)) = some (.string y.2) := by
      intro i hi
      obtain ⟨k0, k1, g0, g1⟩ := hx i (by omega)
      obtain ⟨s0, e0, _, w0⟩ := DataW.trod_string t0 g0
      obtain ⟨s1, e1, _, w1⟩ := DataW.trod_string t1 g1
      simp at e0 e1
      rw [e0] at k0
      rw [e1] at k1
      exact ⟨(s0, s1), w0, w1, k0, k1⟩
    let g : Nat → ByteArray × ByteArray := fun i => if hi : i < len then (each i hi).choose else (⟨#[]⟩, ⟨#[]⟩)
    have hg : ∀ i (hi : i < len), g i = (each i hi).choose := fun i hi => by simp [g, hi]
    refine ⟨some x, cap, (List.range len).map g, by simp, ?_, by simp; omega, ?_⟩
    · intro i y hy
      have hi : i < len := by
        have := (List.getElem?_eq_some_iff.1 hy).1
        simpa using this
      rw [List.getElem?_map, List.getElem?_range hi] at hy
      simp at hy
      rw [hg i hi] at hy
      have hs := (each i hi).choose_spec
      rw [hy] at hs
      obtain ⟨s1, s2, k0, k1⟩ := hs
      have h1 : x.spot = none := by
        obtain ⟨y0, _, _, q0, _⟩ := each 0 (by omega)
        rw [Nat.zero_mul] at q0
        exact add_spot10 q0
      rw [add_none10 h1] at k0 k1
      obtain ⟨b, o, s⟩ := x
      simp at h1
      subst h1
      exact ⟨b, o, rfl, k0, by rw [← Nat.add_assoc] at k1; exact k1⟩
    · intro p hp
      obtain ⟨i, hi, rfl⟩ := List.mem_map.1 hp
      have hi' := List.mem_range.1 hi
      rw [hg i hi']
      have hs := (each i hi').choose_spec
      exact ⟨hs.1, hs.2.1⟩
theorem array3 {α : Type} {xs : Array α} (h : xs.size = 3) : ∃ a b c, xs = #[a, b, c] := by
  obtain ⟨l⟩ := xs
  match l, h with
  | [a, b, c], _ => exact ⟨a, b, c, rfl⟩
theorem array2 {α : Type} {xs : Array α} (h : xs.size = 2) : ∃ a b, xs = #[a, b] := by
  obtain ⟨l⟩ := xs
  match l, h with
  | [a, b], _ => exact ⟨a, b, rfl⟩
/-- what a walk is told of a leaf that came in -/
structure ArgLeaf (w : World) (a : Option Addr) (l : LfP) : Prop where
  prs : ArgPrs w a l.pairs
  high : l.high.size ≤ maxLen
section
variable {H : Type} {enc : TypeId × Value → H} {w : World} {r : Reach} {b0 base : Nat} {spare : Nat → Bool} {held : Bool} {v : Value} {d : DataW H} {p : List MemPlace}
theorem open_argLeaf (hsp : ∀ b, spare b = true) (hv : Value.okWide Try.prog w r b0 24 v) (h : DataW.Trod enc Try.prog w base spare held 24 v d p) : ∃ q a C, v = lfV a C q ∧ ArgLeaf w a q := by
  have cz : Try.prog.cellsOf 24 = 3 := by kernel_rfl
  have ci : Try.prog.cellsOf 3 = 1 := by kernel_rfl
  have cs' : Try.prog.cellsOf 9 = 1 := by kernel_rfl
  have cl : Try.prog.cellsOf 22 = 1 := by kernel_rfl
  obtain ⟨cs, rfl, hsz⟩ := okWide_struct Try.underlying24 hv
  obtain ⟨v0, v1, v2, rfl⟩ := array3 (hsz.trans cz)
  obtain ⟨fuel, hf⟩ := h
  obtain ⟨xs, n, _, _, _, hl, hall⟩ := DataW.trod_struct Try.underlying24 hf
  have g0 := hall 0 _ rfl
  have g1 := hall 1 _ rfl
  have g2 := hall 2 _ rfl
  have hl' : xs.length = 3 := hl
  rw [List.getElem?_eq_getElem (by omega)] at g0 g1 g2
  simp [Value.cells, ci, cs', cl] at g0 g1 g2
  obtain ⟨a, cap, l, e0, h0⟩ := open_cellPairs10 Try.underlying22 Try.underlying44 (by kernel_rfl) rfl rfl (by kernel_rfl) (by kernel_rfl) Try.underlying9 Try.underlying9 hsp g0
  obtain ⟨x1, e1, _, w1⟩ := DataW.trod_string Try.underlying9 g1
  obtain ⟨x2, e2, _, _⟩ := DataW.trod_int Try.underlying3 g2
  simp at e1 e2
  subst e0 e1 e2
  exact ⟨⟨l, x1, x2⟩, a, cap, rfl, ⟨h0, w1⟩⟩
theorem open_argPair (hv : Value.okWide Try.prog w r b0 44 v) (h : DataW.Trod enc Try.prog w base spare held 44 v d p) : ∃ k u, v = .agg #[.string k, .string u] ∧ k.size ≤ maxLen ∧ u.size ≤ maxLen := by
  have cz : Try.prog.cellsOf 44 = 2 := by kernel_rfl
  have cs' : Try.prog.cellsOf 9 = 1 := by kernel_rfl
  obtain ⟨cs, rfl, hsz⟩ := okWide_struct Try.underlying44 hv
  obtain ⟨v0, v1, rfl⟩ := array2 (hsz.trans cz)
  obtain ⟨fuel, hf⟩ := h
  obtain ⟨xs, n, _, _, _, hl, hall⟩ := DataW.trod_struct Try.underlying44 hf
  have g0 := hall 0 _ rfl
  have g1 := hall 1 _ rfl
  have hl' : xs.length = 2 := hl
  rw [List.getElem?_eq_getElem (by omega)] at g0 g1
  simp [Value.cells, cs'] at g0 g1
  obtain ⟨x0, e0, _, w0⟩ := DataW.trod_string Try.underlying9 g0
  obtain ⟨x1, e1, _, w1⟩ := DataW.trod_string Try.underlying9 g1
  simp at e0 e1
  subst e0 e1
  exact ⟨x0, x1, rfl, w0, w1⟩
theorem open_argPrs (hsp : ∀ b, spare b = true) (hv : Value.okWide Try.prog w r b0 22 v) (h : DataW.Trod enc Try.prog w base spare held 22 v d p) : ∃ l a C, v = .slice a l.length C ∧ ArgPrs w a l := by
  obtain ⟨a0, len, cap0, rfl⟩ := okWide_slice Try.underlying22 hv
  obtain ⟨fuel, hf⟩ := h
  have hf' : DataW.trod enc Try.prog w base spare held fuel 22 [.slice a0 len cap0] = some (d, p) := hf
  obtain ⟨a, cap, l, e0, h0⟩ := open_cellPairs10 Try.underlying22 Try.underlying44 (by kernel_rfl) rfl rfl (by kernel_rfl) (by kernel_rfl) Try.underlying9 Try.underlying9 hsp hf'
  exact ⟨l, a, cap, e0, h0⟩
end
/-! short texts -/
def cutT (m : Nat) (s : ByteArray) : ByteArray := s.extract 0 (min s.size m)
theorem cutT_size (m : Nat) (s : ByteArray) : (cutT m s).size ≤ m := by unfold cutT; rw [ByteArray.size_extract]; omega
theorem cutT_at (s : ByteArray) (m : Nat) (M : Int) (hM : (m : Int) = M) : ∃ n : Nat, min (s.size : Int) M = (n : Int) ∧ (0 : Int) ≤ (n : Int) ∧ (n : Int) ≤ (s.size : Int) ∧ s.extract 0 n = cutT m s :=
  ⟨min s.size m, by omega, by omega, by omega, rfl⟩
def cutPr10 (p : ByteArray × ByteArray) : ByteArray × ByteArray := (cutT 40 p.1, cutT 60 p.2)
def cutLf (l : LfP) : LfP := ⟨(l.pairs.take 60).map cutPr10, cutT 40 l.high, l.next⟩
theorem cutLf_small (l : LfP) : SmallP (cutLf l).pairs := fun p hp => by
  obtain ⟨q, _, rfl⟩ := List.mem_map.1 hp
  have h1 := cutT_size 40 q.1; have h2 := cutT_size 60 q.2
  exact ⟨by show (cutT 40 q.1).size ≤ _; omega, by show (cutT 60 q.2).size ≤ _; omega⟩
theorem cutLf_len (l : LfP) : (cutLf l).pairs.length ≤ 60 := by unfold cutLf; simp only [List.length_map, List.length_take]; omega
theorem wgt_map_cut : ∀ l : Prs, wgt (l.map cutPr10) ≤ l.length * 102
  | [] => Nat.le_refl _
  | p :: l => by
    have h := wgt_map_cut l
    have h1 := cutT_size 40 p.1; have h2 := cutT_size 60 p.2
    simp only [List.map_cons, wgt, List.length_cons, pairN, cutPr10]; omega
theorem cutLf_wgt (l : LfP) : wgt (cutLf l).pairs ≤ 6120 := by
  have h := wgt_map_cut (l.pairs.take 60)
  rw [List.length_take] at h
  unfold cutLf; simp only; omega
theorem cutLf_high (l : LfP) : (cutLf l).high.size ≤ 40 := cutT_size 40 l.high
end Go.Proofs.Ytajbnfobmnibjaa
