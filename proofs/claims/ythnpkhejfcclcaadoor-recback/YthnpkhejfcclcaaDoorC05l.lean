/-
  The law package's Ref and Cut.
-/
import Derived.Test.YthnpkhejfcclcaaDoorC05k
namespace Go.Proofs.YthnpkhejfcclcaaDoor
open Go.RowKit

abbrev QT : TypeId := 24
def cut60 (s : ByteArray) : ByteArray := s.extract 0 60
def cutPr (p : ByteArray × ByteArray) : ByteArray × ByteArray := (cut60 p.1, cut60 p.2)
def cutP (r : RecP) : RecP := ⟨r.kind, r.txn, cut60 r.key, cut60 r.value, r.pass, r.unit, r.num, (r.pairs.take 40).map cutPr⟩
theorem cut60_size (s : ByteArray) : (cut60 s).size ≤ 60 := by unfold cut60; rw [ByteArray.size_extract]; omega
/-- min(len(s), 60) in a walk, under one letter -/
theorem cut60_at (s : ByteArray) : ∃ n : Nat, (if (60 : Int) < (s.size : Int) then (60 : Int) else (s.size : Int)) = (n : Int) ∧ (0 : Int) ≤ (n : Int) ∧ (n : Int) ≤ (s.size : Int) ∧ s.extract 0 n = cut60 s := by
  refine ⟨min s.size 60, by split <;> omega, by omega, by omega, ?_⟩
  unfold cut60
  apply ba_ext
  rw [Lib.extract_data, Lib.extract_data]
  simp only [List.drop_zero, Nat.sub_zero]
  by_cases h : s.size ≤ 60
  · rw [Nat.min_eq_left h, List.take_of_length_le (by rw [← Lib.size_eq]; omega), List.take_of_length_le (by rw [← Lib.size_eq]; exact h)]
  · rw [Nat.min_eq_right (by omega)]
set_option maxRecDepth 100000 in
set_option maxHeartbeats 1000000 in
theorem ref_any (r : RecP) (a : Option Addr) (C : Nat) (w : World) : Calls Tryd.prog 13 #[recV r a C] w fun e w' => e = .returned (recV r a C) ∧ Below w.heap.size w w' := by
  obtain ⟨k, t, ke, va, pa, un, nu, pr⟩ := r
  dsimp only [recV]
  go_enter Tryd.func13, Tryd.ntmps13
  go_wp2
  refine bodyPost_ret (v := recV ⟨k, t, ke, va, pa, un, nu, pr⟩ a C) (by simp [results, Tryd.results13, go_sem, recV]) rfl ?_
  exact ⟨rfl, by (repeat (first | exact Below.refl _ _ | (refine Below.alloc ?_ (by simp) _) | (refine Below.setCell ?_ (by simp) _)))⟩
theorem box_row_ne' {w : World} {B0 B : Nat} {pr : Prs} {v : Value} {a b : Int} {c d : ByteArray} {e f g : Int} {u : Value} (x : Box8 QT w B a b c d e f g u) (h : w.ownsRow B0 47 2 v pr.length (pcells pr)) : v.ownBlock ≠ some B := fun e => by
  have hx : w.heap[B]? = _ := x
  rcases h.2 with ⟨rfl, _⟩ | ⟨g, C, cur, rfl, _, hg, _⟩
  · cases e
  · cases e; rw [hx] at hg; cases hg
/-- Cut, in its loop: the record (B0), the result (B1), the pairs so far -/
structure InC (w0 w : World) (B0 B1 : Nat) (k t : Int) (ke va : ByteArray) (pa un nu : Int) (s v : Value) (pr : Prs) : Prop where
  x0 : Box8 QT w B0 k t ke va pa un nu s
  x1 : Box8 QT w B1 0 0 ⟨#[]⟩ ⟨#[]⟩ 0 0 0 (.slice none 0 0)
  row : w.ownsRow B0 47 2 v pr.length (pcells pr)
  bel : Below B0 w0 w
  lt : B0 < B1
section
variable {w0 w w' : World} {B0 B1 : Nat} {k t : Int} {ke va : ByteArray} {pa un nu : Int} {s v : Value} {pr : Prs}
theorem InC.below (h : InC w0 w B0 B1 k t ke va pa un nu s v pr) (b : Below w.heap.size w w') : InC w0 w' B0 B1 k t ke va pa un nu s v pr :=
  ⟨h.x0.below b h.x0.lt, h.x1.below b h.x1.lt, ownsRow_same h.row (fun g hg => b.block g (h.row.lt g hg).2), h.bel.trans (b.mono (Nat.le_of_lt h.x0.lt)), h.lt⟩
theorem InC.append (h : InC w0 w B0 B1 k t ke va pa un nu s v pr) (p q : ByteArray) (hl : pr.length ≤ 100000) :
    ∃ g C w', (Builtin.append_ #[22, 22] 22 #[v, .slice (some ⟨w.heap.size, 0, none⟩) 1 1]).run Tryd.prog (w.alloc (.cells #[.string p, .string q] 47)) = .ok (.slice (some ⟨g, 0, none⟩) (pr.length + 1) C) w' ∧
      InC w0 w' B0 B1 k t ke va pa un nu s (.slice (some ⟨g, 0, none⟩) (pr.length + 1) C) (pr ++ [(p, q)]) ∧ (w.alloc (.cells #[.string p, .string q] 47)).grownBy w' v.ownBlock := by
  obtain ⟨i0, hi, hz0, hz1, hz2⟩ := info_parts info_pair
  have ba := (Below.refl w.heap.size w).alloc (Nat.le_refl _) (.cells #[.string p, .string q] 47)
  have h1 := h.below ba
  have n0 := box_row_ne' h1.x0 h1.row
  have n1 := box_row_ne' h1.x1 h1.row
  obtain ⟨v', w', hr, h2, h3, _, h5⟩ := run_append_own_at (P := Tryd.prog) (w.alloc (.cells #[.string p, .string q] 47)) B0 22 22 47 i0 _ 2 32 Tryd.underlying22 hi hz0 hz1 hz2 rfl (by decide) v pr.length (pcells pr) h1.row ⟨w.heap.size, 0, none⟩ 1 1 [.string p, .string q] rfl (cell_two5 w _ _ _) (by intro u hu; simp at hu; rcases hu with rfl | rfl <;> rfl) (by simp [maxLen]; omega) (by omega) (Nat.le_of_lt h1.x0.lt)
  obtain ⟨g, C, rfl⟩ : ∃ g C, v' = .slice (some ⟨g, 0, none⟩) (pr.length + 1) C := by
    rcases h2.2 with ⟨_, h⟩ | ⟨g, C, cur, h, _⟩
    · omega
    · exact ⟨g, C, h⟩
  have e1 : pcells pr ++ [.string p, .string q] = pcells (pr ++ [(p, q)]) := by rw [pcells_append]; rfl
  rw [e1] at h2
  refine ⟨g, C, w', hr, ⟨(h3.block B0 h1.x0.lt (fun e => n0 e.symm)).trans h1.x0, (h3.block B1 h1.x1.lt (fun e => n1 e.symm)).trans h1.x1, ?_, ?_, h.lt⟩, h3⟩
  · have : (pr ++ [(p, q)]).length = pr.length + 1 := by simp
    rw [this]; exact h2
  · exact h1.bel.grown h3 (Nat.le_of_lt h1.x0.lt) (fun b hb => by
      rcases h1.row.2 with ⟨rfl, _⟩ | ⟨g', C', cur, rfl, hb', _⟩
      · cases hb
      · cases hb; exact hb')
end
end Go.Proofs.YthnpkhejfcclcaaDoor
