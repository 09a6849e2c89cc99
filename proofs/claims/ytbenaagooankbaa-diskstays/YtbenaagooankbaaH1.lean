/-
  Rows of numbers, of texts; an argument's calls, at a later world.
-/
import Derived.Test.YtbenaagooankbaaG1
import Derived.Deep.RegionHeld3
import Derived.Deep.DeepCutAuto
import Derived.Deep.CutBlock
namespace Go.Proofs.Ytbenaagooankbaa
open Go.RowKit Go.ChangeMaps

section
variable {w0 w w' : World} {o o' : Nat → Nat} {i g : Nat}
theorem ArgOps.at {w0 w : World} {o : Nat → Nat} {a : Option Addr} {len : Nat} {zs : List OpA} (h : ArgOps w0 a len zs) (Z : Since w0 o w) (t : Nat) (ht : t < len) :
    ∃ (x : OpA) (b off : Nat), zs[t]? = some x ∧ a = some ⟨b, off, none⟩ ∧ w.cell? ⟨b, off + t * 4, none⟩ = some (.int .i64 x.k) ∧ w.cell? ⟨b, off + t * 4 + 1, none⟩ = some (.int .i64 x.p) ∧ w.cell? ⟨b, off + t * 4 + 2, none⟩ = some (.string x.s) ∧ w.cell? ⟨b, off + t * 4 + 3, none⟩ = some (.slice x.fa x.fl x.fc) ∧
      x.s.size ≤ maxLen ∧ x.fl ≤ x.fc ∧ x.fc ≤ maxLen ∧ ∀ i, i ≠ 0 → FInts w o i x.fa x.fl x.fs := by
  obtain ⟨hl, hz⟩ := h
  have hx : zs[t]? = some zs[t] := List.getElem?_eq_getElem (by omega)
  obtain ⟨_, _, s3, s4, s5, s6, b, off, e, c0, c1, c2, c3⟩ := hz t _ hx
  exact ⟨_, b, off, hx, e, Z.cell c0, Z.cell c1, Z.cell c2, Z.cell c3, s3, s4, s5, fun i hi => fints_of_arg s6 Z hi⟩
/-- the state behind the first t calls -/
theorem row_at {e : TypeId} {n C : Nat} {xs : List Value} {i : Nat} (h : Row w o i e 1 (.slice (some ⟨g, 0, none⟩) n C) n xs) (k : Nat) (u : Value) (hk : xs[k]? = some u) : w.cell? ⟨g, k, none⟩ = some u ∧ w.frozen? ⟨g, k, none⟩ = false := by
  rcases h.val with ⟨h, _⟩ | ⟨g', C', hv, _, _, hc, hf⟩
  · cases h
  · cases hv; exact ⟨hc k u hk, hf k⟩
end
theorem info_str : (Try.prog.info? 9).map (fun i => (i.zero, i.size, i.bytes)) = some (some (.string ⟨#[]⟩), 1, 16) := by kernel_rfl
theorem madeCells_strs (n : Nat) : madeCells (Value.string ⟨#[]⟩).cells n = ((List.replicate n (⟨#[]⟩ : ByteArray)).map Value.string).toArray := by
  apply Array.ext
  · rw [size_madeCells]; simp
  · intro i h1 h2
    simp [madeCells, Value.cells, Nat.mod_one]

section
variable {w0 w w' : World} {o o' : Nat → Nat} {i g : Nat}
theorem OInts.fints {u : Value} {l : List Int} {j : Nat} (h : OInts w o j u l) (hne : j ≠ i) : ∃ a C, u = .slice a l.length C ∧ FInts w o i a l.length l := by
  rcases Row.val h with ⟨rfl, h0, h1⟩ | ⟨g, C, rfl, hg, _, hc, _⟩
  · have : l = [] := List.eq_nil_of_length_eq_zero h0
    subst this
    exact ⟨none, 0, rfl, rfl, fun t x hx => by simp at hx⟩
  · refine ⟨_, _, rfl, rfl, fun t x hx => ⟨g, 0, rfl, ?_, by rw [hg]; exact hne⟩⟩
    rw [Nat.zero_add]
    exact hc t _ (by rw [List.getElem?_map, hx]; rfl)
theorem ints_one (k : Int) : ∀ u ∈ [Value.int .i64 k], u.oneCell' = true := by intro u hu; simp at hu; subst hu; rfl
theorem cell_new_one (w : World) (v : Value) (t : TypeId) : ∀ (j : Nat) (u : Value), [v][j]? = some u → (w.alloc (.cells #[v] t)).cell? (Addr.add ⟨w.heap.size, 0, none⟩ j) = some u := by
  intro j u h
  rw [add_zero', World.cell?_alloc_at _ _ _ _ rfl]
  match j with
  | 0 => simpa using h
  | j + 1 => simp at h
/-- u = append(u, k), of the owner j -/
theorem OInts.append {u : Value} {l : List Int} {j : Nat} (h : OInts w o j u l) (k : Int) (hl : l.length ≤ 100000) :
    ∃ v' w' o', (Builtin.append_ #[30, 30] 30 #[u, .slice (some ⟨w.heap.size, 0, none⟩) 1 1]).run Try.prog (w.alloc (.cells #[.int .i64 k] 3)) = .ok v' w' ∧ OInts w' o' j v' (l ++ [k]) ∧ Stp o j w o' w' := by
  obtain ⟨i0, hi, hz0, hz1, hz2⟩ := info_parts info_int
  have hal := Row.reads h ((Below.refl _ w).alloc (Nat.le_refl _) (.cells #[.int .i64 k] 3))
  obtain ⟨v', w', hap, hR, hS, _, _⟩ := Row.append (ty := 30) hal Try.underlying30 hi hz0 hz1 hz2 rfl (by decide) ⟨w.heap.size, 0, none⟩ 1 1 [.int .i64 k] rfl (cell_new_one w _ _) (ints_one k) (by simp [maxLen]; omega) (by omega)
  refine ⟨v', w', _, hap, ?_, (Stp.alloc o j w _).trans hS⟩
  show Row w' _ j 3 1 v' (l ++ [k]).length ((l ++ [k]).map (Value.int .i64))
  rw [List.length_append, List.map_append]; exact hR
theorem strs_append {u : Value} {l : List ByteArray} {j : Nat} (h : Row w o j 9 1 u l.length (l.map Value.string)) (s : ByteArray) (hl : l.length ≤ 100000) :
    ∃ g' C' w' o', (Builtin.append_ #[47, 47] 47 #[u, .slice (some ⟨w.heap.size, 0, none⟩) 1 1]).run Try.prog (w.alloc (.cells #[.string s] 9)) = .ok (.slice (some ⟨g', 0, none⟩) (l.length + 1) C') w' ∧ Row w' o' j 9 1 (.slice (some ⟨g', 0, none⟩) (l.length + 1) C') (l ++ [s]).length ((l ++ [s]).map Value.string) ∧ Stp o j w o' w' := by
  obtain ⟨i0, hi, hz0, hz1, hz2⟩ := info_parts info_str
  have hal := Row.reads h ((Below.refl _ w).alloc (Nat.le_refl _) (.cells #[.string s] 9))
  obtain ⟨v', w', hap, hR, hS, _, _⟩ := Row.append (ty := 47) hal Try.underlying47 hi hz0 hz1 hz2 rfl (by decide) ⟨w.heap.size, 0, none⟩ 1 1 [.string s] rfl (cell_new_one w _ _) (by intro u hu; simp at hu; subst hu; rfl) (by simp [maxLen]; omega) (by omega)
  rcases hR.val with ⟨_, h, _⟩ | ⟨g', C', rfl, _⟩
  · omega
  · refine ⟨g', C', w', _, hap, ?_, (Stp.alloc o j w _).trans hS⟩
    rw [List.length_append, List.map_append]; exact hR
end
theorem info_strs : (Try.prog.info? 47).map (fun i => (i.zero, i.size, i.bytes)) = some (some (.slice none 0 0), 1, 24) := by kernel_rfl
theorem madeCells_nils (n : Nat) : madeCells (Value.slice none 0 0).cells n = (List.replicate n (Value.slice none 0 0)).toArray := by
  apply Array.ext
  · rw [size_madeCells]; simp
  · intro i h1 h2
    simp [madeCells, Value.cells, Nat.mod_one]
end Go.Proofs.Ytbenaagooankbaa
