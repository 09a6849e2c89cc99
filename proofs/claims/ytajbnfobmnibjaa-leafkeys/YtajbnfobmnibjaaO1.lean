/-
  Whose block is whose: an owner a block; what a step of one owner leaves of all others. No program in this text.
-/
import Derived.WalkKit
import Derived.Below
import Derived.Maps.AppendAt
import Derived.MapKept
import Derived.Maps.Own
import Derived.Lib.Hide
namespace Go.Proofs.Ytajbnfobmnibjaa
open Go.RowKit

/-- w' is w but for blocks of the owner i, and new ones; whose an old block is stays -/
structure Stp (o : Nat → Nat) (i : Nat) (w : World) (o' : Nat → Nat) (w' : World) : Prop where
  os : w'.os = w.os
  tape : w'.tape = w.tape
  output : w'.output = w.output
  size : w.heap.size ≤ w'.heap.size
  blk : ∀ k, k < w.heap.size → o k ≠ i → w'.heap[k]? = w.heap[k]?
  own : ∀ k, k < w.heap.size → o' k = o k
theorem Stp.refl (o : Nat → Nat) (i : Nat) (w : World) : Stp o i w o w := ⟨rfl, rfl, rfl, Nat.le_refl _, fun _ _ _ => rfl, fun _ _ => rfl⟩
theorem Stp.trans {o o1 o2 : Nat → Nat} {i : Nat} {w w1 w2 : World} (a : Stp o i w o1 w1) (b : Stp o1 i w1 o2 w2) : Stp o i w o2 w2 :=
  ⟨b.os.trans a.os, b.tape.trans a.tape, b.output.trans a.output, Nat.le_trans a.size b.size,
   fun k hk hne => (b.blk k (Nat.lt_of_lt_of_le hk a.size) (by rw [a.own k hk]; exact hne)).trans (a.blk k hk hne),
   fun k hk => (b.own k (Nat.lt_of_lt_of_le hk a.size)).trans (a.own k hk)⟩
theorem Stp.ofBelow {w w' : World} (h : Below w.heap.size w w') (o : Nat → Nat) (i : Nat) : Stp o i w o w' :=
  ⟨h.os, h.tape, h.output, h.size, fun k hk _ => h.block k hk, fun _ _ => rfl⟩
theorem Stp.ofGrown {w w' : World} {r : Option Nat} (h : w.grownBy w' r) (o : Nat → Nat) (i : Nat) (hr : ∀ k, r = some k → o k = i) : Stp o i w o w' :=
  ⟨h.os, h.tape, h.output, h.size, fun k hk hne => h.block k hk (fun e => hne (hr k e.symm)), fun _ _ => rfl⟩
theorem Stp.alloc (o : Nat → Nat) (i : Nat) (w : World) (x : Obj) : Stp o i w o (w.alloc x) := Stp.ofBelow ((Below.refl _ w).alloc (Nat.le_refl _) x) o i
theorem Stp.drew (o : Nat → Nat) (i : Nat) (w : World) : Stp o i w o w.drew := ⟨rfl, rfl, rfl, Nat.le_refl _, fun _ _ _ => rfl, fun _ _ => rfl⟩
/-- all blocks from n on are i's -/
def gives (o : Nat → Nat) (n i : Nat) : Nat → Nat := fun k => if k < n then o k else i
theorem gives_old {o : Nat → Nat} {n i k : Nat} (h : k < n) : gives o n i k = o k := by simp [gives, h]
theorem gives_new {o : Nat → Nat} {n i k : Nat} (h : n ≤ k) : gives o n i k = i := by simp [gives]; omega
theorem gives_mine {o : Nat → Nat} {n i k : Nat} (h : o k = i) : gives o n i k = i := by
  by_cases hk : k < n
  · rw [gives_old hk, h]
  · exact gives_new (by omega)
theorem Stp.gives {o o1 : Nat → Nat} {i : Nat} {w w1 : World} (a : Stp o i w o1 w1) (n : Nat) (hn : w.heap.size ≤ n) : Stp o i w (gives o1 n i) w1 :=
  ⟨a.os, a.tape, a.output, a.size, a.blk, fun k hk => (gives_old (by omega)).trans (a.own k hk)⟩

/-- since w0 nothing of w0 has changed, and its blocks are nobody's (0) -/
structure Since (w0 : World) (o : Nat → Nat) (w : World) : Prop where
  bel : Below w0.heap.size w0 w
  own : ∀ k, k < w0.heap.size → o k = 0
theorem Since.start (w : World) : Since w (fun _ => 0) w := ⟨Below.refl _ _, fun _ _ => rfl⟩
theorem Since.step {w0 w w' : World} {o o' : Nat → Nat} {i : Nat} (h : Since w0 o w) (s : Stp o i w o' w') (hi : i ≠ 0) : Since w0 o' w' :=
  ⟨h.bel.trans ⟨s.os, s.tape, s.output, s.size, fun k hk => s.blk k (Nat.lt_of_lt_of_le hk h.bel.size) (by rw [h.own k hk]; exact fun e => hi e.symm)⟩,
   fun k hk => (s.own k (Nat.lt_of_lt_of_le hk h.bel.size)).trans (h.own k hk)⟩
theorem Since.reads {w0 w w' : World} {o : Nat → Nat} (h : Since w0 o w) (b : Below w.heap.size w w') : Since w0 o w' := h.step (Stp.ofBelow b o 1) (by decide)
theorem Since.cell {w0 w : World} {o : Nat → Nat} (h : Since w0 o w) {p : Addr} {v : Value} (hc : w0.cell? p = some v) : w.cell? p = some v :=
  (h.bel.cell (World.block_lt_of_cell? w0 p hc)).trans hc

/-- a slice that is i's: its row is i's -/
structure Row (w : World) (o : Nat → Nat) (i : Nat) (e : TypeId) (sz : Nat) (v : Value) (n : Nat) (xs : List Value) : Prop where
  row : w.ownsRow 0 e sz v n xs
  own : ∀ g, v.ownBlock = some g → o g = i
section
variable {w w' : World} {o o' : Nat → Nat} {i j : Nat} {e : TypeId} {sz : Nat} {v : Value} {n : Nat} {xs : List Value}
theorem ownsRow_same {b : Nat} (h : w.ownsRow b e sz v n xs) (hs : ∀ g, v.ownBlock = some g → w'.heap[g]? = w.heap[g]?) : w'.ownsRow b e sz v n xs := by
  refine ⟨h.1, ?_⟩
  rcases h.2 with h | ⟨g, cap, cur, rfl, hb, hg, r⟩
  · exact .inl h
  · exact .inr ⟨g, cap, cur, rfl, hb, (hs g rfl).trans hg, r⟩
theorem Row.lt (h : Row w o i e sz v n xs) {g : Nat} (hg : v.ownBlock = some g) : g < w.heap.size := (h.row.lt g hg).2
theorem Row.other (h : Row w o j e sz v n xs) (s : Stp o i w o' w') (hne : j ≠ i) : Row w' o' j e sz v n xs :=
  ⟨ownsRow_same h.row (fun g hg => s.blk g (h.lt hg) (by rw [h.own g hg]; exact hne)), fun g hg => (s.own g (h.lt hg)).trans (h.own g hg)⟩
theorem Row.reads (h : Row w o i e sz v n xs) (b : Below w.heap.size w w') : Row w' o i e sz v n xs :=
  ⟨ownsRow_same h.row (fun g hg => b.block g (h.lt hg)), h.own⟩
theorem Row.nil (w : World) (o : Nat → Nat) (i : Nat) (e : TypeId) (sz : Nat) : Row w o i e sz (.slice none 0 0) 0 [] :=
  ⟨World.ownsRow_nil _ _ _ _, fun g hg => by simp [Value.ownBlock] at hg⟩
theorem add_zero' (g j : Nat) : Addr.add ⟨g, 0, none⟩ j = ⟨g, j, none⟩ := by unfold Addr.add; split <;> simp_all
theorem Row.len (h : Row w o i e sz v n xs) : xs.length = n * sz := h.row.1
/-- what the value is -/
theorem Row.val (h : Row w o i e sz v n xs) : (v = .slice none 0 0 ∧ n = 0 ∧ xs = []) ∨ ∃ g C, v = .slice (some ⟨g, 0, none⟩) n C ∧ o g = i ∧ g < w.heap.size ∧ (∀ k u, xs[k]? = some u → w.cell? ⟨g, k, none⟩ = some u) ∧ ∀ k, w.frozen? ⟨g, k, none⟩ = false := by
  have hl := h.row.1
  rcases h.row.2 with ⟨rfl, rfl⟩ | ⟨g, cap, cur, rfl, hb, hg, r⟩
  · exact .inl ⟨rfl, rfl, List.eq_nil_of_length_eq_zero (by simpa using hl)⟩
  · refine .inr ⟨g, cap, rfl, h.own g rfl, h.lt rfl, fun k u hu => ?_, fun k => by simp [World.frozen?, hg]⟩
    have := h.row.cells (g := g) rfl k u hu
    rwa [add_zero'] at this
/-- append(v, x...), whatever x is -/
theorem Row.append {P : Program} {t ty : TypeId} {ti : TypeInfo} {z : Value} {bytes : Nat} (h : Row w o i e sz v n xs) (ht : P.underlying t = some (.slice e)) (hi : P.info? e = some ti) (hz : ti.zero = some z) (hsize : ti.size = sz) (hby : ti.bytes = bytes)
    (hzs : z.cells.size = sz) (hsz : 0 < sz) (a : Addr) (m c : Nat) (news : List Value) (hl : news.length = m * sz) (hnews : ∀ j u, news[j]? = some u → w.cell? (a.add j) = some u) (h1 : ∀ u ∈ news, u.oneCell' = true)
    (h63 : n + m ≤ maxLen) (hbytes : (n + m) * bytes ≤ 140737488355328) :
    ∃ v' w', (Builtin.append_ #[t, t] ty #[v, .slice (some a) m c]).run P w = .ok v' w' ∧ Row w' (gives o w.heap.size i) i e sz v' (n + m) (xs ++ news) ∧ Stp o i w (gives o w.heap.size i) w' ∧ w.grownBy w' v.ownBlock ∧ (v'.ownBlock = v.ownBlock ∨ v'.ownBlock = some w.heap.size) := by
  obtain ⟨v', w', hr, h2, h3, _, h5⟩ := run_append_own_at (P := P) w 0 t ty e ti z sz bytes ht hi hz hsize hby hzs hsz v n xs h.row a m c news hl hnews h1 h63 hbytes (Nat.zero_le _)
  refine ⟨v', w', hr, ⟨h2, fun g hg => ?_⟩, (Stp.ofGrown h3 o i h.own).gives _ (Nat.le_refl _), h3, h5⟩
  rcases h5 with h5 | h5
  · exact gives_mine (h.own g (by rw [← h5]; exact hg))
  · rw [h5] at hg; cases hg; exact gives_new (Nat.le_refl _)
/-- v[k] = x, of a row of one cell each -/
theorem Row.set {g C : Nat} (h : Row w o i e 1 (.slice (some ⟨g, 0, none⟩) n C) n xs) (k : Nat) (u : Value) (_hk : k < n) : Row (w.setCell ⟨g, k, none⟩ u) o i e 1 (.slice (some ⟨g, 0, none⟩) n C) n (xs.set k u) := by
  obtain ⟨⟨hl, hr⟩, ho⟩ := h
  refine ⟨⟨by rw [List.length_set]; exact hl, ?_⟩, ho⟩
  rcases hr with ⟨hr, _⟩ | ⟨g', cap, cur, hv, hb, hg, h1, h2, h3, h4⟩
  · cases hr
  · cases hv
    refine .inr ⟨g, C, cur.setIfInBounds k u, rfl, hb, ?_, h1, h2, by simpa using h3, ?_⟩
    · obtain ⟨hlt, hk⟩ := Array.getElem?_eq_some_iff.1 hg
      show (w.heap.modify g _)[g]? = _
      rw [Array.getElem?_eq_getElem (by rw [Array.size_modify]; exact hlt), Array.getElem_modify_self, hk]
      rfl
    · rw [← h4, Array.toList_setIfInBounds, List.take_set]
theorem Stp.setCell (o : Nat → Nat) (i : Nat) (w : World) (g k : Nat) (u : Value) (h : o g = i) : Stp o i w o (w.setCell ⟨g, k, none⟩ u) :=
  ⟨rfl, rfl, rfl, by simp [World.setCell], fun b _ hne => Below.heap_setCell _ _ _ _ (fun e => hne (by rw [e]; exact h)), fun _ _ => rfl⟩
end
end Go.Proofs.Ytajbnfobmnibjaa
