/-
  Whose block is whose: an owner a block; what a step of one owner leaves of all others. No program in this text.
  A map whose keys are 0, 1, 2 and so on, in this order: looked up, changed, added to, counted. Over any program whose types are as named.
  Package disk: where a disk lies in memory; the contracts of left, settle, Read, Raw, Len.
  Plain facts on disks: pages, writes, what a crash leaves. No program in this text.
  Package disk: the contracts of New, Write, Sync, Crash, Dirty, Copy.
  Package disk: the contracts of Write, Sync, Crash, Dirty.
  Package disk: the contracts of Dirty, Copy.
  Package disk: one contract a call, over pages as they stay, and writes.
  The law package's fixed(): it answers true; the document's Ints.
  The law package's fixed() answers true.
  Arguments: a []int, and a slice of calls (two numbers, a text, numbers), as a walk is told of them.
  The law package's act(): one call of a disk.
  Rows of numbers, of texts; an argument's calls, at a later world.
  The document's disk (budwoodref04): where it lies in memory; the contracts of Raw, Read, Write.
  The document's disk (budwoodref04): the contracts of New, Sync, Crash, Dirty, Copy.
  The document's disk (budwoodref04): the contracts of New, Dirty, Copy.
  Plain facts: halves of pages behind a crash; the document of halves(): no program but the law's halves().
-/
import Derived.WalkKit
import Derived.Below
import Derived.Maps.AppendAt
import Derived.MapKept
import Derived.Maps.Own
import Derived.Lib.Hide
import Derived.Test.YthjlbfijfpfohaaRows
import Derived.Test.YthjlbfijfpfohaaGA
import Derived.WalkSpells
import Derived.WalkLawsBesides
import Derived.Lib.Strings
import Derived.IntWalk
import Derived.Deep.Light
import Derived.BigQuiet
import Derived.Deep.QuietTactic
import Derived.StillTailTactics
import Derived.Outline
import Derived.Maps.OwnOps
import Derived.Laws.AppendOwn
import Derived.OwnWalk
import Derived.Lib.LazyBuf
import Derived.Deep.RegionHeld3
import Derived.Deep.DeepCutAuto
import Derived.Laws.Externs
import Derived.Shelf.SlMaps.Clone
import Derived.ChangeSlices
import Derived.Deep.SlicePairs
import Derived.Lib.SmallJoins
import Derived.ProofKit
import Derived.OpenShut
import Derived.Deep.CutBlock
import Derived.Deep.AppendLies
import Derived.Laws.OwnMore
namespace Go.Proofs.Ythjlbfijfpfohaa
open Go.RowKit

/-- w' is w but for blocks of the owner i, and new ones; whose an old block is stays -/
structure Stp (o : Nat → Nat) (i : Nat) (w : World) (o' : Nat → Nat) (w' : World) : Prop where
  os : w'.os = w.os
  tape : w'.tape = w.tape
  output : w'.output = w.output
  size : w.heap.size ≤ w'.heap.size
  blk : ∀ k, k < w.heap.size → o k ≠ i → w'.heap[k]? = w.heap[k]?
  own : ∀ k, k < w.heap.size → o' k = o k
theorem Stp.refl (o : Nat → Nat) (i : Nat) (w : World) : Stp o i w o w := ⟨rfl, rfl, rfl, Nat.le_refl _, fun _ _ _ => rfl, fun _ _ => rfl⟩
theorem Stp.trans {o o1 o2 : Nat → Nat} {i : Nat} {w w1 w2 : World} (a : Stp o i w o1 w1) (b : Stp o1 i w1 o2 w2) : Stp o i w o2 w2 :=
  ⟨b.os.trans a.os, b.tape.trans a.tape, b.output.trans a.output, Nat.le_trans a.size b.size,
   fun k hk hne => (b.blk k (Nat.lt_of_lt_of_le hk a.size) (by rw [a.own k hk]; exact hne)).trans (a.blk k hk hne),
   fun k hk => (b.own k (Nat.lt_of_lt_of_le hk a.size)).trans (a.own k hk)⟩
theorem Stp.ofBelow {w w' : World} (h : Below w.heap.size w w') (o : Nat → Nat) (i : Nat) : Stp o i w o w' :=
  ⟨h.os, h.tape, h.output, h.size, fun k hk _ => h.block k hk, fun _ _ => rfl⟩
theorem Stp.ofGrown {w w' : World} {r : Option Nat} (h : w.grownBy w' r) (o : Nat → Nat) (i : Nat) (hr : ∀ k, r = some k → o k = i) : Stp o i w o w' :=
  ⟨h.os, h.tape, h.output, h.size, fun k hk hne => h.block k hk (fun e => hne (hr k e.symm)), fun _ _ => rfl⟩
theorem Stp.alloc (o : Nat → Nat) (i : Nat) (w : World) (x : Obj) : Stp o i w o (w.alloc x) := Stp.ofBelow ((Below.refl _ w).alloc (Nat.le_refl _) x) o i
theorem Stp.drew (o : Nat → Nat) (i : Nat) (w : World) : Stp o i w o w.drew := ⟨rfl, rfl, rfl, Nat.le_refl _, fun _ _ _ => rfl, fun _ _ => rfl⟩
/-- all blocks from n on are i's -/
def gives (o : Nat → Nat) (n i : Nat) : Nat → Nat := fun k => if k < n then o k else i
theorem gives_old {o : Nat → Nat} {n i k : Nat} (h : k < n) : gives o n i k = o k := by simp [gives, h]
theorem gives_new {o : Nat → Nat} {n i k : Nat} (h : n ≤ k) : gives o n i k = i := by simp [gives]; omega
theorem gives_mine {o : Nat → Nat} {n i k : Nat} (h : o k = i) : gives o n i k = i := by
  by_cases hk : k < n
  · rw [gives_old hk, h]
  · exact gives_new (by omega)
theorem Stp.gives {o o1 : Nat → Nat} {i : Nat} {w w1 : World} (a : Stp o i w o1 w1) (n : Nat) (hn : w.heap.size ≤ n) : Stp o i w (gives o1 n i) w1 :=
  ⟨a.os, a.tape, a.output, a.size, a.blk, fun k hk => (gives_old (by omega)).trans (a.own k hk)⟩

/-- since w0 nothing of w0 has changed, and its blocks are nobody's (0) -/
structure Since (w0 : World) (o : Nat → Nat) (w : World) : Prop where
  bel : Below w0.heap.size w0 w
  own : ∀ k, k < w0.heap.size → o k = 0
theorem Since.start (w : World) : Since w (fun _ => 0) w := ⟨Below.refl _ _, fun _ _ => rfl⟩
theorem Since.step {w0 w w' : World} {o o' : Nat → Nat} {i : Nat} (h : Since w0 o w) (s : Stp o i w o' w') (hi : i ≠ 0) : Since w0 o' w' :=
  ⟨h.bel.trans ⟨s.os, s.tape, s.output, s.size, fun k hk => s.blk k (Nat.lt_of_lt_of_le hk h.bel.size) (by rw [h.own k hk]; exact fun e => hi e.symm)⟩,
   fun k hk => (s.own k (Nat.lt_of_lt_of_le hk h.bel.size)).trans (h.own k hk)⟩
theorem Since.reads {w0 w w' : World} {o : Nat → Nat} (h : Since w0 o w) (b : Below w.heap.size w w') : Since w0 o w' := h.step (Stp.ofBelow b o 1) (by decide)
theorem Since.cell {w0 w : World} {o : Nat → Nat} (h : Since w0 o w) {p : Addr} {v : Value} (hc : w0.cell? p = some v) : w.cell? p = some v :=
  (h.bel.cell (World.block_lt_of_cell? w0 p hc)).trans hc

/-- a slice that is i's: its row is i's -/
structure Row (w : World) (o : Nat → Nat) (i : Nat) (e : TypeId) (sz : Nat) (v : Value) (n : Nat) (xs : List Value) : Prop where
  row : w.ownsRow 0 e sz v n xs
  own : ∀ g, v.ownBlock = some g → o g = i
section
variable {w w' : World} {o o' : Nat → Nat} {i j : Nat} {e : TypeId} {sz : Nat} {v : Value} {n : Nat} {xs : List Value}
theorem ownsRow_same {b : Nat} (h : w.ownsRow b e sz v n xs) (hs : ∀ g, v.ownBlock = some g → w'.heap[g]? = w.heap[g]?) : w'.ownsRow b e sz v n xs := by
  refine ⟨h.1, ?_⟩
  rcases h.2 with h | ⟨g, cap, cur, rfl, hb, hg, r⟩
  · exact .inl h
  · exact .inr ⟨g, cap, cur, rfl, hb, (hs g rfl).trans hg, r⟩
theorem Row.lt (h : Row w o i e sz v n xs) {g : Nat} (hg : v.ownBlock = some g) : g < w.heap.size := (h.row.lt g hg).2
theorem Row.other (h : Row w o j e sz v n xs) (s : Stp o i w o' w') (hne : j ≠ i) : Row w' o' j e sz v n xs :=
  ⟨ownsRow_same h.row (fun g hg => s.blk g (h.lt hg) (by rw [h.own g hg]; exact hne)), fun g hg => (s.own g (h.lt hg)).trans (h.own g hg)⟩
theorem Row.reads (h : Row w o i e sz v n xs) (b : Below w.heap.size w w') : Row w' o i e sz v n xs :=
  ⟨ownsRow_same h.row (fun g hg => b.block g (h.lt hg)), h.own⟩
theorem Row.nil (w : World) (o : Nat → Nat) (i : Nat) (e : TypeId) (sz : Nat) : Row w o i e sz (.slice none 0 0) 0 [] :=
  ⟨World.ownsRow_nil _ _ _ _, fun g hg => by simp [Value.ownBlock] at hg⟩
theorem add_zero' (g j : Nat) : Addr.add ⟨g, 0, none⟩ j = ⟨g, j, none⟩ := by unfold Addr.add; split <;> simp_all
theorem Row.len (h : Row w o i e sz v n xs) : xs.length = n * sz := h.row.1
/-- what the value is -/
theorem Row.val (h : Row w o i e sz v n xs) : (v = .slice none 0 0 ∧ n = 0 ∧ xs = []) ∨ ∃ g C, v = .slice (some ⟨g, 0, none⟩) n C ∧ o g = i ∧ g < w.heap.size ∧ (∀ k u, xs[k]? = some u → w.cell? ⟨g, k, none⟩ = some u) ∧ ∀ k, w.frozen? ⟨g, k, none⟩ = false := by
  have hl := h.row.1
  rcases h.row.2 with ⟨rfl, rfl⟩ | ⟨g, cap, cur, rfl, hb, hg, r⟩
  · exact .inl ⟨rfl, rfl, List.eq_nil_of_length_eq_zero (by simpa using hl)⟩
  · refine .inr ⟨g, cap, rfl, h.own g rfl, h.lt rfl, fun k u hu => ?_, fun k => by simp [World.frozen?, hg]⟩
    have := h.row.cells (g := g) rfl k u hu
    rwa [add_zero'] at this
/-- append(v, x...), whatever x is -/
theorem Row.append {P : Program} {t ty : TypeId} {ti : TypeInfo} {z : Value} {bytes : Nat} (h : Row w o i e sz v n xs) (ht : P.underlying t = some (.slice e)) (hi : P.info? e = some ti) (hz : ti.zero = some z) (hsize : ti.size = sz) (hby : ti.bytes = bytes)
    (hzs : z.cells.size = sz) (hsz : 0 < sz) (a : Addr) (m c : Nat) (news : List Value) (hl : news.length = m * sz) (hnews : ∀ j u, news[j]? = some u → w.cell? (a.add j) = some u) (h1 : ∀ u ∈ news, u.oneCell' = true)
    (h63 : n + m ≤ maxLen) (hbytes : (n + m) * bytes ≤ 140737488355328) :
    ∃ v' w', (Builtin.append_ #[t, t] ty #[v, .slice (some a) m c]).run P w = .ok v' w' ∧ Row w' (gives o w.heap.size i) i e sz v' (n + m) (xs ++ news) ∧ Stp o i w (gives o w.heap.size i) w' ∧ w.grownBy w' v.ownBlock ∧ (v'.ownBlock = v.ownBlock ∨ v'.ownBlock = some w.heap.size) := by
  obtain ⟨v', w', hr, h2, h3, _, h5⟩ := run_append_own_at (P := P) w 0 t ty e ti z sz bytes ht hi hz hsize hby hzs hsz v n xs h.row a m c news hl hnews h1 h63 hbytes (Nat.zero_le _)
  refine ⟨v', w', hr, ⟨h2, fun g hg => ?_⟩, (Stp.ofGrown h3 o i h.own).gives _ (Nat.le_refl _), h3, h5⟩
  rcases h5 with h5 | h5
  · exact gives_mine (h.own g (by rw [← h5]; exact hg))
  · rw [h5] at hg; cases hg; exact gives_new (Nat.le_refl _)
/-- v[k] = x, of a row of one cell each -/
theorem Row.set {g C : Nat} (h : Row w o i e 1 (.slice (some ⟨g, 0, none⟩) n C) n xs) (k : Nat) (u : Value) (_hk : k < n) : Row (w.setCell ⟨g, k, none⟩ u) o i e 1 (.slice (some ⟨g, 0, none⟩) n C) n (xs.set k u) := by
  obtain ⟨⟨hl, hr⟩, ho⟩ := h
  refine ⟨⟨by rw [List.length_set]; exact hl, ?_⟩, ho⟩
  rcases hr with ⟨hr, _⟩ | ⟨g', cap, cur, hv, hb, hg, h1, h2, h3, h4⟩
  · cases hr
  · cases hv
    refine .inr ⟨g, C, cur.setIfInBounds k u, rfl, hb, ?_, h1, h2, by simpa using h3, ?_⟩
    · obtain ⟨hlt, hk⟩ := Array.getElem?_eq_some_iff.1 hg
      show (w.heap.modify g _)[g]? = _
      rw [Array.getElem?_eq_getElem (by rw [Array.size_modify]; exact hlt), Array.getElem_modify_self, hk]
      rfl
    · rw [← h4, Array.toList_setIfInBounds, List.take_set]
theorem Stp.setCell (o : Nat → Nat) (i : Nat) (w : World) (g k : Nat) (u : Value) (h : o g = i) : Stp o i w o (w.setCell ⟨g, k, none⟩ u) :=
  ⟨rfl, rfl, rfl, by simp [World.setCell], fun b _ hne => Below.heap_setCell _ _ _ _ (fun e => hne (by rw [e]; exact h)), fun _ _ => rfl⟩
end
end Go.Proofs.Ythjlbfijfpfohaa

namespace Go.Proofs.Ythjlbfijfpfohaa
open Go.RowKit Go.ChangeMaps Go.MapKept

/-- a page as it stays, and as it stands -/
abbrev Pgs := List (ByteArray × ByteArray)
def stv (q : ByteArray × ByteArray) : Value := .agg #[.string q.1, .string q.2]
def ent (k : Nat) (q : ByteArray × ByteArray) : MapEntry := ⟨.int .i64 (k : Int), stv q, k⟩
def ents : Nat → Pgs → List MapEntry
  | _, [] => []
  | k, q :: l => ent k q :: ents (k + 1) l
theorem ents_length : ∀ (k : Nat) (L : Pgs), (ents k L).length = L.length
  | _, [] => rfl
  | k, _ :: l => by simp [ents, ents_length (k + 1) l]
theorem ents_get : ∀ (k : Nat) (L : Pgs) (j : Nat), (ents k L)[j]? = L[j]?.map (ent (k + j))
  | _, [], _ => by simp [ents]
  | k, q :: l, 0 => by simp [ents]
  | k, q :: l, j + 1 => by
    simp only [ents, List.getElem?_cons_succ]
    rw [ents_get (k + 1) l j, show k + 1 + j = k + (j + 1) by omega]
theorem ents_set : ∀ (k : Nat) (L : Pgs) (j : Nat) (q : ByteArray × ByteArray), j < L.length → ents k (L.set j q) = (ents k L).set j (ent (k + j) q)
  | _, [], _, _, h => by simp at h
  | k, x :: l, 0, q, _ => by simp [ents]
  | k, x :: l, j + 1, q, h => by
    simp only [List.set_cons_succ, ents]
    rw [ents_set (k + 1) l j q (by simpa using h), show k + 1 + j = k + (j + 1) by omega]
theorem ents_snoc : ∀ (k : Nat) (L : Pgs) (q : ByteArray × ByteArray), ents k (L ++ [q]) = ents k L ++ [ent (k + L.length) q]
  | _, [], _ => by simp [ents]
  | k, x :: l, q => by
    simp only [List.cons_append, ents, List.length_cons]
    rw [ents_snoc (k + 1) l q, show k + 1 + l.length = k + (l.length + 1) by omega]
theorem find_hit : ∀ (b k : Nat) (L : Pgs) (j : Nat) (q : ByteArray × ByteArray), L[j]? = some q → Instr.findNow (.int .i64) (.int .i64 ((k + j : Nat) : Int)) (ents k L) b = some (some (b + j, stv q))
  | _, _, [], _, _, h => by simp at h
  | b, k, x :: l, 0, q, h => by
    simp at h; subst h
    simp [ents, Instr.findNow, Instr.sameNow, ent]
  | b, k, x :: l, j + 1, q, h => by
    have := find_hit (b + 1) (k + 1) l j q (by simpa using h)
    have e1 : (((k + (j + 1) : Nat) : Int) == (k : Int)) = false := by rw [beq_eq_false_iff_ne]; omega
    simp only [ents, Instr.findNow, Instr.sameNow, ent, if_true, e1]
    rw [show k + (j + 1) = k + 1 + j by omega, this]
    simp; omega
theorem find_miss : ∀ (b k : Nat) (L : Pgs) (x : Int), x < (k : Int) ∨ ((k + L.length : Nat) : Int) ≤ x → Instr.findNow (.int .i64) (.int .i64 x) (ents k L) b = some none
  | _, _, [], _, _ => rfl
  | b, k, q :: l, x, h => by
    have := find_miss (b + 1) (k + 1) l x (by simp at h ⊢; omega)
    have e1 : (x == (k : Int)) = false := by rw [beq_eq_false_iff_ne]; simp at h; omega
    simp only [ents, Instr.findNow, Instr.sameNow, ent, if_true, e1, this]

section
variable {P : Program} {w : World} {m : Nat} {L : Pgs} {t kt et : TypeId}
/-- block m is such a map -/
def IsMap (w : World) (m : Nat) (L : Pgs) : Prop := w.heap[m]? = some (.map (ents 0 L).toArray L.length)
theorem look_hit (c : Bool) (h : IsMap w m L) (ht : P.underlying t = some (.map kt et)) (hk : P.underlying kt = some (.int .i64)) (j : Nat) (q : ByteArray × ByteArray) (hj : L[j]? = some q) :
    (Instr.lookup t (.map (some m)) (.int .i64 (j : Int)) c).run P w = .ok (if c then .tuple #[stv q, .bool true] else stv q) w := by
  have f := find_hit 0 0 L j q hj
  rw [Nat.zero_add] at f
  simp [Instr.lookup, run_underlying ht, MapKept.run_getObj_map h, run_checkKey hk (show IsKey (.int .i64) (.int .i64 (j : Int)) from rfl), run_findKey hk f, Result.andThen]
theorem look_miss (c : Bool) (h : IsMap w m L) (ht : P.underlying t = some (.map kt et)) (hk : P.underlying kt = some (.int .i64)) {z : Value} (hz : (zeroValue et).run P w = .ok z w) (x : Int) (hx : x < 0 ∨ (L.length : Int) ≤ x) :
    (Instr.lookup t (.map (some m)) (.int .i64 x) c).run P w = .ok (if c then .tuple #[z, .bool false] else z) w := by
  have f := find_miss 0 0 L x (by simpa using hx)
  simp [Instr.lookup, run_underlying ht, MapKept.run_getObj_map h, run_checkKey hk (show IsKey (.int .i64) (.int .i64 x) from rfl), run_findKey hk f, hz, Result.andThen]
theorem toArray_modify_set (l : List MapEntry) (j : Nat) (f : MapEntry → MapEntry) (y : MapEntry) (h : l[j]? = some y) : l.toArray.modify j f = (l.set j (f y)).toArray := by
  apply Array.ext_getElem?
  intro k
  rw [Array.getElem?_modify]
  simp only [List.getElem?_toArray, List.getElem?_set]
  by_cases hk : j = k
  · subst hk; simp [h]; exact (List.getElem?_eq_some_iff.1 h).1
  · simp [hk]
/-- m[j] = q, where j is there -/
theorem put_hit (h : IsMap w m L) (ht : P.underlying t = some (.map kt et)) (hk : P.underlying kt = some (.int .i64)) (j : Nat) (q : ByteArray × ByteArray) (hj : j < L.length) :
    (Instr.mapUpdate t (.map (some m)) (.int .i64 (j : Int)) (stv q)).run P w = .ok () (setBlock w m (.map (ents 0 (L.set j q)).toArray L.length)) := by
  have f := find_hit 0 0 L j L[j] (List.getElem?_eq_getElem hj)
  rw [Nat.zero_add] at f
  have g : (ents 0 L).toArray[j]?.map (·.key) = some (.int .i64 (j : Int)) := by
    simp [ents_get, List.getElem?_eq_getElem hj, ent]
  have e2 := toArray_modify_set (ents 0 L) j (fun e => { e with key := .int .i64 (j : Int), val := stv q }) (ent j L[j]) (by rw [ents_get, List.getElem?_eq_getElem hj]; simp)
  have e3 : (ents 0 L).set j { ent j L[j] with key := .int .i64 (j : Int), val := stv q } = ents 0 (L.set j q) := by rw [ents_set 0 L j q hj, Nat.zero_add]; rfl
  simp only [e3, List.modify_toArray] at e2
  simp [Instr.mapUpdate, run_underlying ht, MapKept.run_getObj_map h, run_checkKey hk (show IsKey (.int .i64) (.int .i64 (j : Int)) from rfl), run_findKey hk f, Result.andThen]
  have e4 : ((Option.map (fun x => x.key) (ents 0 L)[j]?).getD (.int .i64 (j : Int))) = .int .i64 (j : Int) := by rw [ents_get, List.getElem?_eq_getElem hj]; simp [ent]
  rw [e4, run_keyThatStays (show IsKey (.int .i64) (.int .i64 (j : Int)) from rfl)]
  simp only
  rw [MapKept.run_setObj_map _ h, e2]
  rfl
/-- m[n] = q, where n is the next one -/
theorem put_new (h : IsMap w m L) (ht : P.underlying t = some (.map kt et)) (hk : P.underlying kt = some (.int .i64)) (q : ByteArray × ByteArray) :
    (Instr.mapUpdate t (.map (some m)) (.int .i64 (L.length : Int)) (stv q)).run P w = .ok () (setBlock w m (.map (ents 0 (L ++ [q])).toArray (L ++ [q]).length)) := by
  have f := find_miss 0 0 L (L.length : Int) (by simp)
  simp [Instr.mapUpdate, run_underlying ht, MapKept.run_getObj_map h, run_checkKey hk (show IsKey (.int .i64) (.int .i64 (L.length : Int)) from rfl), run_findKey hk f, Result.andThen]
  rw [MapKept.run_setObj_map _ h, ents_snoc]
  simp [setBlock, ent]
theorem len_map (h : IsMap w m L) (ht : P.underlying t = some (.map kt et)) (ty : TypeId) : (Builtin.len_ #[t] ty #[.map (some m)]).run P w = .ok (.int .i64 (L.length : Int)) w := by
  simp [Builtin.len_, run_underlying ht, MapKept.run_getObj_map h, goInt, Result.andThen, ents_length]
theorem isMap_set (h : IsMap w m L) (L' : Pgs) : IsMap (setBlock w m (.map (ents 0 L').toArray L'.length)) m L' := heap_setBlock_same h _
theorem isMap_put (h : IsMap w m L) (j : Nat) (q : ByteArray × ByteArray) : IsMap (setBlock w m (.map (ents 0 (L.set j q)).toArray L.length)) m (L.set j q) := by
  have := isMap_set h (L.set j q); rwa [List.length_set] at this
theorem stp_setBlock (h : IsMap w m L) (x : Obj) (o : Nat → Nat) (i : Nat) (ho : o m = i) : Stp o i w o (setBlock w m x) :=
  ⟨rfl, rfl, rfl, by simp [setBlock], fun k _ hne => heap_setBlock_other h _ (fun e => hne (by rw [e]; exact ho)), fun _ _ => rfl⟩
end
end Go.Proofs.Ythjlbfijfpfohaa

namespace Go.Proofs.Ythjlbfijfpfohaa
open Go.RowKit Go.ChangeMaps

abbrev Wrs := List (Nat × ByteArray)
def wcells : Wrs → List Value
  | [] => []
  | x :: l => .int .i64 (x.1 : Int) :: .string x.2 :: wcells l
theorem wcells_length : ∀ Ws : Wrs, (wcells Ws).length = Ws.length * 2
  | [] => rfl
  | x :: l => by simp [wcells, wcells_length l]; omega
theorem wcells_append : ∀ A B : Wrs, wcells (A ++ B) = wcells A ++ wcells B
  | [], _ => rfl
  | x :: l, B => by simp [wcells, wcells_append l B]
theorem wcells_get : ∀ (Ws : Wrs) (j : Nat) (x : Nat × ByteArray), Ws[j]? = some x → (wcells Ws)[j * 2]? = some (.int .i64 (x.1 : Int)) ∧ (wcells Ws)[j * 2 + 1]? = some (.string x.2)
  | [], _, _, h => by simp at h
  | y :: l, 0, x, h => by simp at h; subst h; simp [wcells]
  | y :: l, j + 1, x, h => by
    have := wcells_get l j x (by simpa using h)
    rw [show (j + 1) * 2 = j * 2 + 1 + 1 by omega]
    simpa [wcells] using this
theorem wcells_one (Ws : Wrs) : ∀ u ∈ wcells Ws, u.oneCell' = true := by
  intro u hu
  induction Ws with
  | nil => simp [wcells] at hu
  | cons x l ih =>
    simp [wcells] at hu
    rcases hu with rfl | rfl | h
    · rfl
    · rfl
    · exact ih h

/-- a disk of the owner i: block p has where its pages are (a map, m) and its writes (v) -/
structure IsM (w : World) (o : Nat → Nat) (i p m : Nat) (v : Value) (L : Pgs) (Ws : Wrs) : Prop where
  hp : w.heap[p]? = some (.cells #[.map (some m), v] 57 (0, 0))
  hm : IsMap w m L
  hv : Row w o i 86 2 v Ws.length (wcells Ws)
  op : o p = i
  om : o m = i
  n1 : 1 ≤ L.length
  n2 : L.length ≤ 1024
  sz : ∀ q ∈ L, q.1.size = 256 ∧ q.2.size = 256
  ws : ∀ x ∈ Ws, x.1 < L.length ∧ x.2.size = 256
section
variable {w w' : World} {o o' : Nat → Nat} {i j p m : Nat} {v : Value} {L : Pgs} {Ws : Wrs}
theorem IsM.c0 (h : IsM w o i p m v L Ws) : w.cell? ⟨p, 0, none⟩ = some (.map (some m)) := by simp [World.cell?, h.hp]
theorem IsM.c1 (h : IsM w o i p m v L Ws) : w.cell? ⟨p, 1, none⟩ = some v := by simp [World.cell?, h.hp]
theorem IsM.fz (h : IsM w o i p m v L Ws) (k : Nat) : w.frozen? ⟨p, k, none⟩ = false := by simp [World.frozen?, h.hp]
theorem IsM.ltp (h : IsM w o i p m v L Ws) : p < w.heap.size := (Array.getElem?_eq_some_iff.1 h.hp).1
theorem IsM.ltm (h : IsM w o i p m v L Ws) : m < w.heap.size := (Array.getElem?_eq_some_iff.1 h.hm).1
theorem IsM.npm (h : IsM w o i p m v L Ws) : p ≠ m := by
  intro e; have a := h.hp; have b : w.heap[m]? = _ := h.hm; rw [← e, a] at b; cases b
theorem IsM.npv (h : IsM w o i p m v L Ws) : v.ownBlock ≠ some p := fun e => by
  rcases h.hv.row.2 with ⟨rfl, _⟩ | ⟨g, C, cur, rfl, _, hg, _⟩
  · cases e
  · cases e; rw [h.hp] at hg; cases hg
theorem IsM.nmv (h : IsM w o i p m v L Ws) : v.ownBlock ≠ some m := fun e => by
  have b : w.heap[m]? = some (.map (ents 0 L).toArray L.length) := h.hm
  rcases h.hv.row.2 with ⟨rfl, _⟩ | ⟨g, C, cur, rfl, _, hg, _⟩
  · cases e
  · cases e; rw [b] at hg; cases hg
theorem IsM.other (h : IsM w o j p m v L Ws) (s : Stp o i w o' w') (hne : j ≠ i) : IsM w' o' j p m v L Ws :=
  ⟨(s.blk p h.ltp (by rw [h.op]; exact hne)).trans h.hp, (s.blk m h.ltm (by rw [h.om]; exact hne)).trans h.hm, h.hv.other s hne, (s.own p h.ltp).trans h.op, (s.own m h.ltm).trans h.om, h.n1, h.n2, h.sz, h.ws⟩
theorem IsM.reads (h : IsM w o i p m v L Ws) (b : Below w.heap.size w w') : IsM w' o i p m v L Ws :=
  ⟨(b.block p h.ltp).trans h.hp, (b.block m h.ltm).trans h.hm, h.hv.reads b, h.op, h.om, h.n1, h.n2, h.sz, h.ws⟩
theorem IsM.alloc (h : IsM w o i p m v L Ws) (x : Obj) : IsM (w.alloc x) o i p m v L Ws := h.reads ((Below.refl _ w).alloc (Nat.le_refl _) x)
theorem IsM.drew (h : IsM w o i p m v L Ws) : IsM w.drew o i p m v L Ws := ⟨h.hp, h.hm, ⟨ownsRow_same h.hv.row (fun _ _ => rfl), h.hv.own⟩, h.op, h.om, h.n1, h.n2, h.sz, h.ws⟩
/-- the map has changed -/
theorem IsM.put (h : IsM w o i p m v L Ws) (k : Nat) (q : ByteArray × ByteArray) (hq : q.1.size = 256 ∧ q.2.size = 256) :
    IsM (setBlock w m (.map (ents 0 (L.set k q)).toArray L.length)) o i p m v (L.set k q) Ws := by
  refine ⟨(heap_setBlock_other h.hm _ h.npm).trans h.hp, isMap_put h.hm k q, ⟨ownsRow_same h.hv.row (fun g hg => heap_setBlock_other h.hm _ (fun e => h.nmv (by rw [← e]; exact hg))), h.hv.own⟩, h.op, h.om, by simpa using h.n1, by simpa using h.n2, ?_, fun x hx => by rw [List.length_set]; exact h.ws x hx⟩
  intro y hy
  rcases List.mem_or_eq_of_mem_set hy with hy | rfl
  · exact h.sz y hy
  · exact hq
end

/-- what a write leaves of a page, by its fate -/
def leftOf (f : Int) (s t : ByteArray) : ByteArray := if f = 2 then tornOf s t else if f = 1 then s else t
theorem leftOf_size (f : Int) (s t : ByteArray) (hs : s.size = 256) (ht : t.size = 256) : (leftOf f s t).size = 256 := by
  unfold leftOf; split
  · exact tornOf_size s t hs ht
  · split <;> assumption

theorem field_sure (a b : ByteArray) (w : World) : (Instr.field 59 (.agg #[.string a, .string b]) 0).run Try.prog w = .ok (.string a) w := by kernel_rfl
theorem field_now (a b : ByteArray) (w : World) : (Instr.field 59 (.agg #[.string a, .string b]) 1).run Try.prog w = .ok (.string b) w := by kernel_rfl
set_option maxRecDepth 100000 in
set_option maxHeartbeats 400000 in
theorem left_any (f : Int) (s t : ByteArray) (w : World) (hs : s.size ≤ 1000000) (ht : t.size ≤ 1000000) :
    Calls Try.prog 72 #[.int .i64 f, .string s, .string t] w fun e w' => e = .returned (.string (leftOf f s t)) ∧ Below w.heap.size w w' := by
  have C := Lib.hid fun w => torn_any s t w hs ht
  by_cases h2 : f = 2
  · subst h2
    have e1 : leftOf 2 s t = tornOf s t := rfl
    rw [e1]
    clear e1
    generalize tornOf s t = Q at *
    go_enter Try.func72, Try.ntmps72
    go_wp2_with fail
    refine (C.out _).mono ?_; rintro e w1 ⟨rfl, b1⟩
    go_wp2
    go_ret
    exact ⟨rfl, b1⟩
  · by_cases h1 : f = 1
    · subst h1
      go_enter Try.func72, Try.ntmps72
      go_wp2
      go_ret
      exact ⟨rfl, Below.refl _ _⟩
    · have e1 : leftOf f s t = t := by simp [leftOf, h1, h2]
      rw [e1]
      go_enter Try.func72, Try.ntmps72
      go_wp2
      go_ret
      exact ⟨rfl, Below.refl _ _⟩

set_option maxHeartbeats 1000000 in
set_option maxRecDepth 100000 in
theorem settle_any {w : World} {o : Nat → Nat} {i p m : Nat} {v : Value} {L : Pgs} {Ws : Wrs} (H : IsM w o i p m v L Ws) (k : Nat) (q : ByteArray × ByteArray) (hq : L[k]? = some q) (s : ByteArray) (hs : s.size = 256) (f : Int) :
    Calls Try.prog 47 #[.pointer (some ⟨p, 0, none⟩), .agg #[.int .i64 (k : Int), .string s], .int .i64 f] w fun e w' =>
      e = .returned (.tuple #[]) ∧ IsM w' o i p m v (L.set k (leftOf f s q.1, leftOf f s q.1)) Ws ∧ Stp o i w o w' := by
  have hq1 := H.sz q (List.mem_of_getElem? hq)
  have C := Lib.hid fun w => left_any f s q.1 w (by omega) (by omega)
  have hsz := leftOf_size f s q.1 hs hq1.1
  have hkl : k < L.length := (List.getElem?_eq_some_iff.1 hq).1
  generalize leftOf f s q.1 = Q at *
  have HH := Lib.hid H; clear H
  obtain ⟨qa, qb⟩ := q
  go_enter Try.func47, Try.ntmps47
  go_wp2_with fail
  have HA := HH.out.alloc (.cells #[.int .i64 (k : Int), .string s] 86)
  have c0 : (w.alloc (.cells #[.int .i64 (k : Int), .string s] 86)).cell? ⟨w.heap.size, 0, none⟩ = some (.int .i64 (k : Int)) := by rw [World.cell?_alloc_at _ _ _ _ rfl]; rfl
  have c1 : (w.alloc (.cells #[.int .i64 (k : Int), .string s] 86)).cell? ⟨w.heap.size, 1, none⟩ = some (.string s) := by rw [World.cell?_alloc_at _ _ _ _ rfl]; rfl
  have st0 := Lib.hid (Stp.alloc o i w (.cells #[.int .i64 (k : Int), .string s] 86))
  have hB : w.heap.size < (w.alloc (.cells #[.int .i64 (k : Int), .string s] 86)).heap.size := by simp
  generalize w.alloc (.cells #[.int .i64 (k : Int), .string s] 86) = W0 at *
  generalize w.heap.size = B at *
  have cp := HA.c0
  have hlk := look_hit (P := Try.prog) false HA.drew.hm Try.underlying54 Try.underlying3 k (qa, qb) hq
  simp only [stv, Bool.false_eq_true, if_false] at hlk
  clear HH
  have HB := Lib.hid HA; clear HA
  have hfs := field_sure qa qb W0.drew
  go_still_tail 11, (by kernel_rfl)
  change wpList _ _ _ _ _ W0.drew
  go_wp2_with fail
  refine (C.out _).mono ?_; rintro e w1 ⟨rfl, b1⟩
  have H1 := HB.out.drew.reads b1
  have st1 := Lib.hid ((st0.out.trans (Stp.drew o i W0)).trans (Stp.ofBelow b1 o i))
  have d0 := (b1.cell (p := ⟨B, 0, none⟩) hB).trans c0
  have dp := H1.c0
  clear cp c0 c1 hlk st0 b1 HB
  go_wp2_with fail
  have hpt := put_hit (P := Try.prog) H1.drew.hm Try.underlying54 Try.underlying3 k (Q, Q) hkl
  simp only [stv] at hpt
  have st2 := Lib.hid ((st1.out.trans (Stp.drew o i w1)).trans (stp_setBlock H1.drew.hm (.map (ents 0 (L.set k (Q, Q))).toArray L.length) o i H1.om))
  have H2 := Lib.hid (H1.drew.put k (Q, Q) ⟨hsz, hsz⟩)
  clear H1 st1
  go_still_tail 9, (by kernel_rfl)
  change wpList _ _ _ _ _ w1.drew
  go_wp2
  go_end0
  exact ⟨rfl, H2.out, st2.out⟩

theorem zero_state (w : World) : (zeroValue 59).run Try.prog w = .ok (stv (⟨#[]⟩, ⟨#[]⟩)) w := by kernel_rfl

section
variable {w : World} {o : Nat → Nat} {i p m : Nat} {v : Value} {L : Pgs} {Ws : Wrs}
set_option maxRecDepth 100000 in
set_option maxHeartbeats 400000 in
theorem dlen_any (H : IsM w o i p m v L Ws) :
    Calls Try.prog 29 #[.pointer (some ⟨p, 0, none⟩)] w fun e w' => e = .returned (.int .i64 (L.length : Int)) ∧ w = w' := by
  have cp := H.c0
  have hl := fun ty => len_map (P := Try.prog) H.hm Try.underlying54 ty
  clear H
  go_enter Try.func29, Try.ntmps29
  go_wp2
  go_ret
  exact ⟨rfl, rfl⟩
set_option maxRecDepth 100000 in
set_option maxHeartbeats 400000 in
theorem raw_in (H : IsM w o i p m v L Ws) (k : Nat) (q : ByteArray × ByteArray) (hq : L[k]? = some q) :
    Calls Try.prog 21 #[.pointer (some ⟨p, 0, none⟩), .int .i64 (k : Int)] w fun e w' => e = .returned (.string q.2) ∧ Below w.heap.size w w' := by
  have cp := H.c0
  have hlk := look_hit (P := Try.prog) false H.hm Try.underlying54 Try.underlying3 k q hq
  have hq1 := H.sz q (List.mem_of_getElem? hq)
  obtain ⟨qa, qb⟩ := q
  simp only [stv, Bool.false_eq_true, if_false] at hlk
  have C := Lib.hid fun w => clone_any qb w (by simp at hq1; omega)
  have hfs := field_now qa qb w
  clear H hq hq1
  go_enter Try.func21, Try.ntmps21
  go_wp2_with fail
  refine (C.out _).mono ?_; rintro e w1 ⟨rfl, b1⟩
  go_wp2
  go_ret
  exact ⟨rfl, b1⟩
set_option maxRecDepth 100000 in
set_option maxHeartbeats 400000 in
theorem raw_out (H : IsM w o i p m v L Ws) (x : Int) (hx : x < 0 ∨ (L.length : Int) ≤ x) :
    Calls Try.prog 21 #[.pointer (some ⟨p, 0, none⟩), .int .i64 x] w fun e w' => e = .returned (.string ⟨#[]⟩) ∧ Below w.heap.size w w' := by
  have cp := H.c0
  have hlk := look_miss (P := Try.prog) false H.hm Try.underlying54 Try.underlying3 (zero_state w) x hx
  simp only [stv, Bool.false_eq_true, if_false] at hlk
  have C := Lib.hid fun w => clone_any ⟨#[]⟩ w (by decide)
  have hfs := field_now ⟨#[]⟩ ⟨#[]⟩ w
  clear H hx
  go_enter Try.func21, Try.ntmps21
  go_wp2_with fail
  refine (C.out _).mono ?_; rintro e w1 ⟨rfl, b1⟩
  go_wp2
  go_ret
  exact ⟨rfl, b1⟩
set_option maxRecDepth 100000 in
set_option maxHeartbeats 400000 in
theorem read_out (H : IsM w o i p m v L Ws) (x : Int) (hx : x < 0 ∨ (L.length : Int) ≤ x) :
    Calls Try.prog 78 #[.pointer (some ⟨p, 0, none⟩), .int .i64 x] w fun e w' => e = .returned (.tuple #[.string ⟨#[]⟩, .int .i64 1]) ∧ Below w.heap.size w w' := by
  have cp := H.c0
  have hlk := look_miss (P := Try.prog) true H.hm Try.underlying54 Try.underlying3 (zero_state w) x hx
  simp only [stv, if_true] at hlk
  clear H hx
  go_enter Try.func78, Try.ntmps78
  go_wp2
  go_ret2
  exact ⟨rfl, by first | exact (Below.refl _ _).alloc (Nat.le_refl _) _ | exact ((Below.refl _ _).alloc (Nat.le_refl _) _).setCell (Nat.le_refl _) _⟩
/-- what a page as it stands is read as -/
def readOf (s : ByteArray) : ByteArray := if okPage s then s.extract 0 252 else ⟨#[]⟩
def errOf (s : ByteArray) : Int := if okPage s then 0 else 5
theorem open_both (p : ByteArray) (w : World) (h : p.size = 256) :
    Calls Try.prog 86 #[.string p] w fun e w' => e = .returned (.tuple #[.string (readOf p), .int .i64 (errOf p)]) ∧ Below w.heap.size w w' := by
  unfold readOf errOf
  cases ho : okPage p
  · simpa using open_sum p w h ho
  · simpa using open_ok p w h ho
set_option maxRecDepth 100000 in
set_option maxHeartbeats 400000 in
theorem read_in (H : IsM w o i p m v L Ws) (k : Nat) (q : ByteArray × ByteArray) (hq : L[k]? = some q) :
    Calls Try.prog 78 #[.pointer (some ⟨p, 0, none⟩), .int .i64 (k : Int)] w fun e w' => e = .returned (.tuple #[.string (readOf q.2), .int .i64 (errOf q.2)]) ∧ Below w.heap.size w w' := by
  have cp := H.c0
  have hlk := look_hit (P := Try.prog) true H.hm Try.underlying54 Try.underlying3 k q hq
  have hq1 := H.sz q (List.mem_of_getElem? hq)
  obtain ⟨qa, qb⟩ := q
  simp only [stv, if_true] at hlk
  have C := Lib.hid fun w => open_both qb w hq1.2
  clear H hq hq1
  dsimp only at C ⊢
  generalize readOf qb = R at *
  generalize errOf qb = E at *
  go_enter Try.func78, Try.ntmps78
  go_wp2_with fail
  refine (C.out _).mono ?_; rintro e w1 ⟨rfl, b1⟩
  go_wp2
  go_ret2
  exact ⟨rfl, by first | exact ((Below.refl _ w).alloc (Nat.le_refl _) _).trans (b1.mono (by simp)) | exact (((Below.refl _ w).alloc (Nat.le_refl _) _).setCell (Nat.le_refl _) _).trans (b1.mono (by simp))⟩
end
end Go.Proofs.Ythjlbfijfpfohaa

namespace Go.Proofs.Ythjlbfijfpfohaa

/-- a page as it stands behind writes -/
def rawAt : Wrs → Nat → ByteArray → ByteArray
  | [], _, s => s
  | x :: l, k, s => rawAt l k (if x.1 = k then x.2 else s)
theorem rawAt_append : ∀ (A B : Wrs) (k : Nat) (s : ByteArray), rawAt (A ++ B) k s = rawAt B k (rawAt A k s)
  | [], _, _, _ => rfl
  | x :: l, B, k, s => by simp [rawAt, rawAt_append l B]
theorem rawAt_snoc (A : Wrs) (x : Nat × ByteArray) (k : Nat) (s : ByteArray) : rawAt (A ++ [x]) k s = if x.1 = k then x.2 else rawAt A k s := by
  rw [rawAt_append]; rfl
theorem rawAt_none : ∀ (A : Wrs) (k : Nat) (s : ByteArray), (∀ x ∈ A, x.1 ≠ k) → rawAt A k s = s
  | [], _, _, _ => rfl
  | x :: l, k, s, h => by
    simp only [rawAt]
    rw [if_neg (h x (by simp))]
    exact rawAt_none l k s (fun y hy => h y (by simp [hy]))
theorem rawAt_size : ∀ (A : Wrs) (k : Nat) (s : ByteArray), (∀ x ∈ A, x.2.size = 256) → s.size = 256 → (rawAt A k s).size = 256
  | [], _, _, _, hs => hs
  | x :: l, k, s, h, hs => by
    simp only [rawAt]
    refine rawAt_size l k _ (fun y hy => h y (by simp [hy])) ?_
    split
    · exact h x (by simp)
    · exact hs
/-- the pages with what they stand as -/
def lay (S : List ByteArray) (Ws : Wrs) : Pgs := S.mapIdx (fun k s => (s, rawAt Ws k s))
theorem lay_length (S : List ByteArray) (Ws : Wrs) : (lay S Ws).length = S.length := by simp [lay]
theorem lay_get (S : List ByteArray) (Ws : Wrs) (k : Nat) : (lay S Ws)[k]? = S[k]?.map (fun s => (s, rawAt Ws k s)) := by simp [lay]
theorem lay_write (S : List ByteArray) (Ws : Wrs) (k : Nat) (s t : ByteArray) (h : S[k]? = some s) : (lay S Ws).set k (s, t) = lay S (Ws ++ [(k, t)]) := by
  apply List.ext_getElem?
  intro j
  rw [List.getElem?_set, lay_get, lay_get, lay_length]
  have hk := (List.getElem?_eq_some_iff.1 h).1
  by_cases e : k = j
  · subst e
    rw [if_pos rfl, if_pos hk, h]
    simp [rawAt_snoc]
  · rw [if_neg e]
    congr 1
    funext s
    rw [rawAt_snoc, if_neg e]
theorem lay_none (S : List ByteArray) : lay S [] = S.map (fun s => (s, s)) := by
  apply List.ext_getElem?
  intro j
  rw [lay_get, List.getElem?_map]; rfl
/-- the pages behind the first j writes -/
def stl (L : Pgs) (x : Nat × ByteArray) (f : Int) : Pgs := L.set x.1 (leftOf f x.2 (L.getD x.1 (⟨#[]⟩, ⟨#[]⟩)).1, leftOf f x.2 (L.getD x.1 (⟨#[]⟩, ⟨#[]⟩)).1)
def stlN (L : Pgs) (Ws : Wrs) (fs : List Int) : Nat → Pgs
  | 0 => L
  | j + 1 => stl (stlN L Ws fs j) (Ws.getD j (0, ⟨#[]⟩)) (fs.getD j 0)
def crN (S : List ByteArray) (Ws : Wrs) (fs : List Int) : Nat → List ByteArray
  | 0 => S
  | j + 1 => (crN S Ws fs j).set (Ws.getD j (0, ⟨#[]⟩)).1 (leftOf (fs.getD j 0) (Ws.getD j (0, ⟨#[]⟩)).2 ((crN S Ws fs j).getD (Ws.getD j (0, ⟨#[]⟩)).1 ⟨#[]⟩))
/-- the pages behind a crash -/
def crashOf (S : List ByteArray) (Ws : Wrs) (fs : List Int) : List ByteArray := crN S Ws fs Ws.length
def syncOf (S : List ByteArray) (Ws : Wrs) : List ByteArray := crashOf S Ws (List.replicate Ws.length 1)
theorem stlN_length (L : Pgs) (Ws : Wrs) (fs : List Int) : ∀ j, (stlN L Ws fs j).length = L.length
  | 0 => rfl
  | j + 1 => by simp [stlN, stl, stlN_length L Ws fs j]
theorem crN_length (S : List ByteArray) (Ws : Wrs) (fs : List Int) : ∀ j, (crN S Ws fs j).length = S.length
  | 0 => rfl
  | j + 1 => by simp [crN, crN_length S Ws fs j]
theorem crashOf_length (S : List ByteArray) (Ws : Wrs) (fs : List Int) : (crashOf S Ws fs).length = S.length := crN_length _ _ _ _
theorem getD_fst (L : Pgs) (k : Nat) : (L.getD k (⟨#[]⟩, ⟨#[]⟩)).1 = (L.map (·.1)).getD k ⟨#[]⟩ := by
  simp only [List.getD_eq_getElem?_getD, List.getElem?_map]
  cases L[k]? <;> rfl
theorem stlN_fst (S : List ByteArray) (Ws : Wrs) (fs : List Int) : ∀ j, (stlN (lay S Ws) Ws fs j).map (·.1) = crN S Ws fs j
  | 0 => by
    apply List.ext_getElem?; intro k
    simp only [stlN, crN]
    rw [List.getElem?_map, lay_get]; cases S[k]? <;> rfl
  | j + 1 => by
    simp only [stlN, stl, crN]
    rw [List.map_set, getD_fst, stlN_fst S Ws fs j]
/-- a page of which the last write is behind it stands as it stays -/
theorem stlN_snd (S : List ByteArray) (Ws : Wrs) (fs : List Int) : ∀ j k q, (stlN (lay S Ws) Ws fs j)[k]? = some q → q.2 = q.1 ∨ ∃ t x, j ≤ t ∧ Ws[t]? = some x ∧ x.1 = k
  | 0, k, q, h => by
    simp only [stlN] at h
    rw [lay_get] at h
    cases hs : S[k]? with
    | none => rw [hs] at h; cases h
    | some s =>
      rw [hs] at h
      cases h
      by_cases hx : ∀ x ∈ Ws, x.1 ≠ k
      · exact .inl (rawAt_none Ws k s hx)
      · refine .inr ?_
        simp only [Classical.not_forall] at hx
        obtain ⟨x, hm, he⟩ := hx
        obtain ⟨t, ht⟩ := List.mem_iff_getElem?.1 hm
        exact ⟨t, x, Nat.zero_le _, ht, by simpa using he⟩
  | j + 1, k, q, h => by
    simp only [stlN, stl] at h
    rw [List.getElem?_set] at h
    split at h
    · split at h
      · cases h; exact .inl rfl
      · cases h
    · rename_i hne
      rcases stlN_snd S Ws fs j k q h with h | ⟨t, x, ht, hx, he⟩
      · exact .inl h
      · refine .inr ⟨t, x, ?_, hx, he⟩
        rcases Nat.lt_or_eq_of_le ht with h | rfl
        · exact h
        · rw [List.getD_eq_getElem?_getD, hx] at hne
          exact absurd he hne
theorem stl_crash (S : List ByteArray) (Ws : Wrs) (fs : List Int) : stlN (lay S Ws) Ws fs Ws.length = lay (crashOf S Ws fs) [] := by
  rw [lay_none]
  unfold crashOf
  rw [← stlN_fst]
  apply List.ext_getElem?
  intro k
  rw [List.getElem?_map, List.getElem?_map]
  cases hq : (stlN (lay S Ws) Ws fs Ws.length)[k]? with
  | none => rfl
  | some q =>
    rcases stlN_snd S Ws fs _ k q hq with h | ⟨t, x, ht, hx, _⟩
    · obtain ⟨a, b⟩ := q; simp at h ⊢; exact h
    · have := (List.getElem?_eq_some_iff.1 hx).1; omega
theorem crN_size (S : List ByteArray) (Ws : Wrs) (fs : List Int) (hS : ∀ s ∈ S, s.size = 256) (hW : ∀ x ∈ Ws, x.1 < S.length ∧ x.2.size = 256) : ∀ j, j ≤ Ws.length → ∀ s ∈ crN S Ws fs j, s.size = 256
  | 0, _, s, hs => hS s hs
  | j + 1, hj, s, hs => by
    have ih := crN_size S Ws fs hS hW j (by omega)
    simp only [crN] at hs
    have hx : Ws[j]? = some Ws[j] := List.getElem?_eq_getElem (by omega)
    have hm := hW _ (List.mem_of_getElem? hx)
    rw [List.getD_eq_getElem?_getD, hx] at hs
    rcases List.mem_or_eq_of_mem_set hs with h | rfl
    · exact ih s h
    · refine leftOf_size _ _ _ hm.2 ?_
      have hl : Ws[j].1 < (crN S Ws fs j).length := by rw [crN_length]; exact hm.1
      apply ih
      simp only [Option.getD_some]
      rw [List.getD_eq_getElem?_getD, List.getElem?_eq_getElem hl]
      exact List.getElem_mem hl
theorem crashOf_size (S : List ByteArray) (Ws : Wrs) (fs : List Int) (hS : ∀ s ∈ S, s.size = 256) (hW : ∀ x ∈ Ws, x.1 < S.length ∧ x.2.size = 256) : ∀ s ∈ crashOf S Ws fs, s.size = 256 := crN_size S Ws fs hS hW _ (Nat.le_refl _)
/-- a fate that is none of Kept, Torn changes nothing -/
theorem leftOf_lost (f : Int) (s t : ByteArray) (h1 : f ≠ 1) (h2 : f ≠ 2) : leftOf f s t = t := by simp [leftOf, h1, h2]
theorem set_getD_same {α : Type} (l : List α) (k : Nat) (d : α) : l.set k (l.getD k d) = l := by
  apply List.ext_getElem?
  intro j
  rw [List.getElem?_set]
  split
  · rename_i e; subst e
    split
    · rename_i h; rw [List.getD_eq_getElem?_getD, List.getElem?_eq_getElem h]; rfl
    · rename_i h; rw [List.getElem?_eq_none (by omega)]
  · rfl
theorem crN_lost (S : List ByteArray) (Ws : Wrs) (fs : List Int) (j : Nat) (h1 : fs.getD j 0 ≠ 1) (h2 : fs.getD j 0 ≠ 2) : crN S Ws fs (j + 1) = crN S Ws fs j := by
  simp only [crN]
  rw [leftOf_lost _ _ _ h1 h2, set_getD_same]
theorem crN_past (S : List ByteArray) (Ws : Wrs) (fs : List Int) (n : Nat) : ∀ k, fs.length ≤ n → crN S Ws fs (n + k) = crN S Ws fs n
  | 0, _ => rfl
  | k + 1, h => by
    rw [← Nat.add_assoc, crN_lost S Ws fs (n + k) (by rw [List.getD_eq_getElem?_getD, List.getElem?_eq_none (by omega)]; decide) (by rw [List.getD_eq_getElem?_getD, List.getElem?_eq_none (by omega)]; decide)]
    exact crN_past S Ws fs n k h
theorem crN_all_lost (S : List ByteArray) (Ws : Wrs) (fs : List Int) (h : ∀ j, fs.getD j 0 ≠ 1 ∧ fs.getD j 0 ≠ 2) : ∀ j, crN S Ws fs j = S
  | 0 => rfl
  | j + 1 => by rw [crN_lost S Ws fs j (h j).1 (h j).2]; exact crN_all_lost S Ws fs h j
/-- with all kept each page stays as it stood -/
theorem crN_kept (S : List ByteArray) (Ws : Wrs) (fs : List Int) (k : Nat) (s : ByteArray) (hs : S[k]? = some s) : ∀ j, j ≤ Ws.length → (∀ t, t < j → fs.getD t 0 = 1) → (crN S Ws fs j)[k]? = some (rawAt (Ws.take j) k s)
  | 0, _, _ => by simpa [crN, rawAt] using hs
  | j + 1, hj, hf => by
    have ih := crN_kept S Ws fs k s hs j (by omega) (fun t ht => hf t (by omega))
    have hx : Ws[j]? = some Ws[j] := List.getElem?_eq_getElem (by omega)
    have hk := (List.getElem?_eq_some_iff.1 hs).1
    simp only [crN]
    rw [hf j (by omega), List.take_add_one, hx, List.getD_eq_getElem?_getD, hx, List.getElem?_set, ih]
    simp only [Option.getD_some, Option.toList_some]
    rw [rawAt_snoc, crN_length]
    by_cases e : Ws[j].1 = k
    · rw [if_pos e, if_pos (by omega), if_pos e]; rfl
    · rw [if_neg e, if_neg e]
theorem sync_raw (S : List ByteArray) (Ws : Wrs) (k : Nat) (s : ByteArray) (hs : S[k]? = some s) : (syncOf S Ws)[k]? = some (rawAt Ws k s) := by
  have := crN_kept S Ws (List.replicate Ws.length 1) k s hs Ws.length (Nat.le_refl _) (fun t ht => by rw [List.getD_eq_getElem?_getD, List.getElem?_replicate, if_pos ht]; rfl)
  rwa [List.take_length] at this
theorem syncOf_length (S : List ByteArray) (Ws : Wrs) : (syncOf S Ws).length = S.length := crashOf_length _ _ _
theorem syncOf_nil (S : List ByteArray) : syncOf S [] = S := rfl
end Go.Proofs.Ythjlbfijfpfohaa

namespace Go.Proofs.Ythjlbfijfpfohaa
open Go.RowKit Go.ChangeMaps

/-- a disk of the owner i: pages as they stay, and writes -/
def IsD (w : World) (o : Nat → Nat) (i p : Nat) (S : List ByteArray) (Ws : Wrs) : Prop := ∃ m v, IsM w o i p m v (lay S Ws) Ws
def blank : ByteArray := pageOf ⟨#[]⟩
theorem blank_size : blank.size = 256 := pageOf_size _ (by decide)
section
variable {w w' : World} {o o' : Nat → Nat} {i j p : Nat} {S : List ByteArray} {Ws : Wrs}
theorem IsD.other (h : IsD w o j p S Ws) (s : Stp o i w o' w') (hne : j ≠ i) : IsD w' o' j p S Ws := by obtain ⟨m, v, h⟩ := h; exact ⟨m, v, h.other s hne⟩
theorem IsD.reads (h : IsD w o i p S Ws) (b : Below w.heap.size w w') : IsD w' o i p S Ws := by obtain ⟨m, v, h⟩ := h; exact ⟨m, v, h.reads b⟩
theorem IsD.drew (h : IsD w o i p S Ws) : IsD w.drew o i p S Ws := by obtain ⟨m, v, h⟩ := h; exact ⟨m, v, h.drew⟩
theorem IsD.n1 (h : IsD w o i p S Ws) : 1 ≤ S.length := by obtain ⟨m, v, h⟩ := h; have := h.n1; rwa [lay_length] at this
theorem IsD.n2 (h : IsD w o i p S Ws) : S.length ≤ 1024 := by obtain ⟨m, v, h⟩ := h; have := h.n2; rwa [lay_length] at this
theorem IsD.ws (h : IsD w o i p S Ws) : ∀ x ∈ Ws, x.1 < S.length ∧ x.2.size = 256 := by obtain ⟨m, v, h⟩ := h; have := h.ws; rwa [lay_length] at this
theorem IsD.ltp (h : IsD w o i p S Ws) : p < w.heap.size := by obtain ⟨m, v, h⟩ := h; exact h.ltp
theorem IsD.sz (h : IsD w o i p S Ws) : ∀ s ∈ S, s.size = 256 := by
  obtain ⟨m, v, h⟩ := h
  intro s hs
  obtain ⟨k, hk⟩ := List.mem_iff_getElem?.1 hs
  exact (h.sz (s, rawAt Ws k s) (List.mem_of_getElem? (i := k) (by rw [lay_get, hk]; rfl))).1
end

theorem run_makeMap_some (t k e : TypeId) (w : World) (n : Int) (h : Try.prog.underlying t = some (.map k e)) : (Instr.makeMap t (some (.int .i64 n))).run Try.prog w = .ok (.map (some w.heap.size)) (w.alloc (.map #[] 0)) := by
  simp [Instr.makeMap, run_underlying h, asInt, Result.andThen, go_sem]

set_option maxRecDepth 100000 in
set_option maxHeartbeats 400000 in
theorem dnew_arg (w : World) (n : Int) (h : n < 1 ∨ 1024 < n) :
    Calls Try.prog 6 #[.int .i64 n] w fun e w' => e = .returned (.tuple #[.pointer none, .int .i64 1]) ∧ w = w' := by
  by_cases h0 : n < 1
  · clear h
    go_enter Try.func6, Try.ntmps6
    go_wp2
    go_ret2
    exact ⟨rfl, rfl⟩
  · have h1 := h.resolve_left h0
    clear h
    go_enter Try.func6, Try.ntmps6
    go_wp2
    go_ret2
    exact ⟨rfl, rfl⟩

theorem lay_new (n : Nat) (s : ByteArray) : lay (List.replicate n s) [] = List.replicate n (s, s) := by rw [lay_none, List.map_replicate]

set_option maxRecDepth 100000 in
set_option maxHeartbeats 1000000 in
theorem dnew_ok (w : World) (o : Nat → Nat) (i : Nat) (n : Nat) (h1 : 1 ≤ n) (h2 : n ≤ 1024) :
    Calls Try.prog 6 #[.int .i64 (n : Int)] w fun e w' => ∃ p o', e = .returned (.tuple #[.pointer (some ⟨p, 0, none⟩), .int .i64 0]) ∧ IsD w' o' i p (List.replicate n blank) [] ∧ Stp o i w o' w' := by
  have C := Lib.hid fun w => seal_ok ⟨#[]⟩ w (by decide)
  have hb := blank_size
  rw [show pageOf ⟨#[]⟩ = blank from rfl] at C
  generalize blank = Q at *
  have a1 : (1 : Int) ≤ (n : Int) := by omega
  have a2 : (n : Int) ≤ 1024 := by omega
  have hmm := fun w => run_makeMap_some 54 3 59 w (n : Int) Try.underlying54
  go_enter Try.func6, Try.ntmps6
  go_wp2_with fail
  refine (C.out _).mono ?_; rintro e w1 ⟨rfl, b1⟩
  go_wp2_with fail
  have hp0 : ((w1.alloc (.map #[] 0)).alloc (.cells #[.map (some w1.heap.size), .slice none 0 0] 57)).heap[w1.heap.size + 1]? = some (.cells #[.map (some w1.heap.size), .slice none 0 0] 57 (0, 0)) := by
    have := heap_alloc_new (w1.alloc (.map #[] 0)) (.cells #[.map (some w1.heap.size), .slice none 0 0] 57)
    rwa [World.size_alloc] at this
  have hm0 : IsMap ((w1.alloc (.map #[] 0)).alloc (.cells #[.map (some w1.heap.size), .slice none 0 0] 57)) w1.heap.size [] := by
    unfold IsMap
    rw [Below.heap_alloc _ _ _ (by simp)]
    exact heap_alloc_new w1 _
  have hB0 := Lib.hid (b1.trans (((Below.refl w.heap.size w1).alloc b1.size (.map #[] 0)).alloc (by have := b1.size; simp; omega) (.cells #[.map (some w1.heap.size), .slice none 0 0] 57)))
  have hms : w.heap.size ≤ w1.heap.size := b1.size
  clear b1 C
  generalize (w1.alloc (.map #[] 0)).alloc (.cells #[.map (some w1.heap.size), .slice none 0 0] 57) = W0 at *
  generalize w1.heap.size = m at *
  have HM := Lib.hid hm0; have HP := Lib.hid hp0; clear hm0 hp0
  go_loopw [26] (fun c wr => ∃ t : Nat, t ≤ n ∧ c = .int .i64 (t : Int) ∧ IsMap wr m (List.replicate t (Q, Q)) ∧ wr.heap[m + 1]? = some (.cells #[.map (some m), .slice none 0 0] 57 (0, 0)) ∧ Below w.heap.size w wr) (fun c _ => n - (intOf c).toNat)
  case atStart => exact ⟨0, by omega, rfl, HM.out, HP.out, hB0.out⟩
  case round =>
    obtain ⟨t, ht, rfl, hm, hp, hB⟩ := hrel
    clear HM HP hB0
    by_cases hlt : t < n
    · have h0 : (t : Int) < (n : Int) := by omega
      have cp : wr.cell? ⟨m + 1, 0, none⟩ = some (.map (some m)) := by simp [World.cell?, hp]
      have hpt := put_new (P := Try.prog) hm Try.underlying54 Try.underlying3 (Q, Q)
      have hm1 := Lib.hid (isMap_set hm (List.replicate t (Q, Q) ++ [(Q, Q)]))
      have hp1 := Lib.hid ((heap_setBlock_other hm (.map (ents 0 (List.replicate t (Q, Q) ++ [(Q, Q)])).toArray (List.replicate t (Q, Q) ++ [(Q, Q)]).length) (show m + 1 ≠ m by omega)).trans hp)
      have hB1 := Lib.hid (show Below w.heap.size w (setBlock wr m (.map (ents 0 (List.replicate t (Q, Q) ++ [(Q, Q)])).toArray (List.replicate t (Q, Q) ++ [(Q, Q)]).length)) from
        hB.trans ⟨rfl, rfl, rfl, by simp [setBlock], fun k hk => heap_setBlock_other hm _ (by omega)⟩)
      rw [List.length_replicate] at hpt
      have er : List.replicate t (Q, Q) ++ [(Q, Q)] = List.replicate (t + 1) (Q, Q) := by rw [List.replicate_succ']
      rw [er] at hm1 hp1 hB1 hpt
      simp only [stv] at hpt
      clear hp hm hB er
      generalize setBlock wr m (.map (ents 0 (List.replicate (t + 1) (Q, Q))).toArray (List.replicate (t + 1) (Q, Q)).length) = W1 at *
      go_wp2
      exact ⟨⟨t + 1, by omega, by go_num, hm1.out, hp1.out, hB1.out⟩, by simp [intOf]; omega⟩
    · obtain rfl : t = n := by omega
      go_wp2
      go_ret2
      refine ⟨m + 1, gives o w.heap.size i, rfl, ⟨m, _, ⟨hp, by rw [lay_new]; exact hm, Row.nil _ _ _ _ _, gives_new (by omega), gives_new hms, by rw [lay_length, List.length_replicate]; exact h1, by rw [lay_length, List.length_replicate]; exact h2, ?_, fun x hx => by simp at hx⟩⟩, (Stp.ofBelow hB o i).gives _ (Nat.le_refl _)⟩
      intro q hq
      rw [lay_new] at hq
      rw [(List.mem_replicate.1 hq).2]; exact ⟨hb, hb⟩
end Go.Proofs.Ythjlbfijfpfohaa

namespace Go.Proofs.Ythjlbfijfpfohaa
open Go.RowKit Go.ChangeMaps

theorem info_write : (Try.prog.info? 86).map (fun i => (i.zero, i.size, i.bytes)) = some (some (.agg #[.int .i64 0, .string ⟨#[]⟩]), 2, 24) := by kernel_rfl
theorem info_int : (Try.prog.info? 3).map (fun i => (i.zero, i.size, i.bytes)) = some (some (.int .i64 0), 1, 8) := by kernel_rfl
theorem cell_two_new (w : World) (a b : Value) (t : TypeId) : ∀ (j : Nat) (u : Value), [a, b][j]? = some u → (w.alloc (.cells #[a, b] t)).cell? (Addr.add ⟨w.heap.size, 0, none⟩ j) = some u := by
  intro j u h
  rw [add_zero', World.cell?_alloc_at _ _ _ _ rfl]
  match j with
  | 0 => simpa using h
  | 1 => simpa using h
  | j + 2 => simp at h
theorem heap_setCell_at (w : World) (b j : Nat) (c : Array Value) (t : TypeId) (v : Value) (h : w.heap[b]? = some (.cells c t (0, 0))) : (w.setCell ⟨b, j, none⟩ v).heap[b]? = some (.cells (c.setIfInBounds j v) t (0, 0)) := by
  obtain ⟨hlt, hk⟩ := Array.getElem?_eq_some_iff.1 h
  show (w.heap.modify b _)[b]? = _
  rw [Array.getElem?_eq_getElem (by rw [Array.size_modify]; exact hlt), Array.getElem_modify_self, hk]
  rfl
section
variable {w w' : World} {o o' : Nat → Nat} {i p m : Nat} {v v' : Value} {L : Pgs} {Ws Ws' : Wrs}
/-- other writes: x.f = v' -/
theorem IsM.wrote (h : IsM w o i p m v L Ws) (hg : w.grownBy w' v.ownBlock) (hr : Row w' o' i 86 2 v' Ws'.length (wcells Ws')) (hl : v'.ownBlock = v.ownBlock ∨ v'.ownBlock = some w.heap.size ∨ v'.ownBlock = none)
    (ho : ∀ k, k < w.heap.size → o' k = o k) (hw : ∀ x ∈ Ws', x.1 < L.length ∧ x.2.size = 256) : IsM (w'.setCell ⟨p, 1, none⟩ v') o' i p m v' L Ws' := by
  have hp := (hg.block p h.ltp (fun e => h.npv e.symm)).trans h.hp
  have hne : v'.ownBlock ≠ some p := by
    intro e
    rcases hl with h1 | h1 | h1
    · exact h.npv (h1.symm.trans e)
    · have := h1.symm.trans e; have hlt := h.ltp; cases this; omega
    · rw [h1] at e; cases e
  refine ⟨heap_setCell_at _ _ _ _ _ _ hp, ?_, ⟨ownsRow_same hr.row (fun g hg => Below.heap_setCell _ _ _ _ (fun e => hne (by rw [hg]; exact congrArg some e))), hr.own⟩, (ho p h.ltp).trans h.op, (ho m h.ltm).trans h.om, h.n1, h.n2, h.sz, hw⟩
  exact (Below.heap_setCell _ _ _ _ (fun e => h.npm e.symm)).trans ((hg.block m h.ltm (fun e => h.nmv e.symm)).trans h.hm)
theorem IsM.cleared (h : IsM w o i p m v L Ws) : IsM (w.setCell ⟨p, 1, none⟩ (.slice none 0 0)) o i p m (.slice none 0 0) L [] :=
  h.wrote ⟨rfl, rfl, rfl, Nat.le_refl _, fun _ _ _ => rfl⟩ (Row.nil _ _ _ _ _) (.inr (.inr rfl)) (fun _ _ => rfl) (fun x hx => by simp at hx)
end

section
variable {w : World} {o : Nat → Nat} {i p m : Nat} {v : Value} {L : Pgs} {Ws : Wrs} {S : List ByteArray}
set_option maxRecDepth 100000 in
set_option maxHeartbeats 400000 in
theorem write_arg' (H : IsM w o i p m v L Ws) (x : Int) (hx : x < 0 ∨ (L.length : Int) ≤ x) (s : ByteArray) :
    Calls Try.prog 68 #[.pointer (some ⟨p, 0, none⟩), .int .i64 x, .string s] w fun e w' => e = .returned (.int .i64 1) ∧ Below w.heap.size w w' := by
  have cp := H.c0
  have hlk := look_miss (P := Try.prog) true H.hm Try.underlying54 Try.underlying3 (zero_state w) x hx
  simp only [stv, if_true] at hlk
  clear H hx
  go_enter Try.func68, Try.ntmps68
  go_wp2
  go_ret
  exact ⟨rfl, by first | exact (Below.refl _ _).alloc (Nat.le_refl _) _ | exact ((Below.refl _ _).alloc (Nat.le_refl _) _).setCell (Nat.le_refl _) _⟩
set_option maxRecDepth 100000 in
set_option maxHeartbeats 400000 in
theorem write_big' (H : IsM w o i p m v L Ws) (k : Nat) (hk : k < L.length) (s : ByteArray) (hs : 252 < s.size) :
    Calls Try.prog 68 #[.pointer (some ⟨p, 0, none⟩), .int .i64 (k : Int), .string s] w fun e w' => e = .returned (.int .i64 2) ∧ Below w.heap.size w w' := by
  have cp := H.c0
  obtain ⟨⟨qa, qb⟩, hq⟩ : ∃ q, L[k]? = some q := ⟨_, List.getElem?_eq_getElem hk⟩
  have hlk := look_hit (P := Try.prog) true H.hm Try.underlying54 Try.underlying3 k _ hq
  have C := Lib.hid fun w => seal_big s w hs
  simp only [stv, if_true] at hlk
  clear H hk hs
  go_enter Try.func68, Try.ntmps68
  go_wp2_with fail
  refine (C.out _).mono ?_; rintro e w1 ⟨rfl, rfl⟩
  go_wp2
  go_ret
  exact ⟨rfl, by first | exact (Below.refl _ _).alloc (Nat.le_refl _) _ | exact ((Below.refl _ _).alloc (Nat.le_refl _) _).setCell (Nat.le_refl _) _⟩
set_option maxRecDepth 100000 in
set_option maxHeartbeats 1000000 in
theorem write_ok' (H : IsM w o i p m v L Ws) (k : Nat) (qa qb : ByteArray) (hk : L[k]? = some (qa, qb)) (s : ByteArray) (hs : s.size ≤ 252) (hW : Ws.length ≤ 100000) :
    Calls Try.prog 68 #[.pointer (some ⟨p, 0, none⟩), .int .i64 (k : Int), .string s] w fun e w' => ∃ o' v', e = .returned (.int .i64 0) ∧ IsM w' o' i p m v' (L.set k (qa, pageOf s)) (Ws ++ [(k, pageOf s)]) ∧ Stp o i w o' w' := by
  have cp := H.c0
  have hlk := look_hit (P := Try.prog) true H.hm Try.underlying54 Try.underlying3 k (qa, qb) hk
  simp only [stv, if_true] at hlk
  have C := Lib.hid fun w => seal_ok s w hs
  have hq := H.sz _ (List.mem_of_getElem? hk)
  have hkl : k < L.length := (List.getElem?_eq_some_iff.1 hk).1
  have hps := pageOf_size s hs
  generalize pageOf s = Q at *
  have HH := Lib.hid H; clear H
  go_enter Try.func68, Try.ntmps68
  go_wp2_with fail
  refine (C.out _).mono ?_; rintro e w1 ⟨rfl, b1⟩
  have hb1 : w1.heap[w.heap.size]? = some (.cells #[.string qa, .string qb] 59 (0, 0)) := (b1.block w.heap.size (by simp)).trans (heap_alloc_new w _)
  have hB2 : Below w.heap.size w (w1.setCell ⟨w.heap.size, 1, none⟩ (.string Q)) := (((Below.refl _ w).alloc (Nat.le_refl _) _).trans (b1.mono (by simp))).setCell (Nat.le_refl _) _
  have hb2 := heap_setCell_at w1 w.heap.size 1 _ _ (.string Q) hb1
  have c1 : w1.cell? ⟨w.heap.size, 1, none⟩ = some (.string qb) := by simp [World.cell?, hb1]
  have f1 : w1.frozen? ⟨w.heap.size, 1, none⟩ = false := by simp [World.frozen?, hb1]
  have c20 : (w1.setCell ⟨w.heap.size, 1, none⟩ (.string Q)).cell? ⟨w.heap.size, 0, none⟩ = some (.string qa) := by simp [World.cell?, hb2]
  have c21 : (w1.setCell ⟨w.heap.size, 1, none⟩ (.string Q)).cell? ⟨w.heap.size, 1, none⟩ = some (.string Q) := by simp [World.cell?, hb2]
  have H2 := HH.out.reads hB2
  have st2 := Lib.hid (Stp.ofBelow hB2 o i)
  clear hlk cp b1 hb1 hb2 hB2 C HH
  generalize hw2 : w1.setCell ⟨w.heap.size, 1, none⟩ (.string Q) = w2 at *
  generalize w.heap.size = B at *
  go_wp2_with fail
  clear c1 f1 hw2
  have cp := H2.c0
  have hpt := put_hit (P := Try.prog) H2.drew.hm Try.underlying54 Try.underlying3 k (qa, Q) hkl
  simp only [stv] at hpt
  have H3 := H2.drew.put k (qa, Q) ⟨hq.1, hps⟩
  have st3 := (st2.out.trans (Stp.drew o i w2)).trans (stp_setBlock H2.drew.hm (.map (ents 0 (L.set k (qa, Q))).toArray L.length) o i H2.om)
  clear H2 st2
  generalize hW3 : setBlock w2.drew m (.map (ents 0 (L.set k (qa, Q))).toArray L.length) = W3 at *
  go_still_tail 6, (by kernel_rfl)
  change wpList _ _ _ _ _ w2.drew
  have cv := H3.c1
  have H4 := H3.alloc (.cells #[.int .i64 (k : Int), .string Q] 86)
  have st4 := st3.trans (Stp.alloc o i W3 (.cells #[.int .i64 (k : Int), .string Q] 86))
  obtain ⟨i0, hi, hz0, hz1, hz2⟩ := info_parts info_write
  obtain ⟨v', w5, hap, hR5, hS5, hG5, hL5⟩ := H4.hv.append (ty := 55) Try.underlying55 hi hz0 hz1 hz2 rfl (by decide) ⟨W3.heap.size, 0, none⟩ 1 1 [.int .i64 (k : Int), .string Q] rfl (cell_two_new W3 _ _ _) (by intro u hu; simp at hu; rcases hu with rfl | rfl <;> rfl) (by simp [maxLen]; omega) (by omega)
  obtain ⟨g5, C5, rfl⟩ : ∃ g C, v' = .slice (some ⟨g, 0, none⟩) (Ws.length + 1) C := by
    rcases hR5.val with ⟨_, h, _⟩ | ⟨g, C, h, _⟩
    · omega
    · exact ⟨g, C, h⟩
  have HAP := Lib.hid hap; clear hap
  have cp5 := (World.cell?_of_block (hG5.block p H4.ltp (fun e => H4.npv e.symm)) (a := ⟨p, 1, none⟩)).trans H4.c1
  have fp5 := (World.frozen?_of_block (hG5.block p H4.ltp (fun e => H4.npv e.symm)) (a := ⟨p, 1, none⟩)).trans (H4.fz 1)
  have e1 : wcells Ws ++ [.int .i64 (k : Int), .string Q] = wcells (Ws ++ [(k, Q)]) := by rw [wcells_append]; rfl
  have H5 := Lib.hid (H4.wrote (Ws' := Ws ++ [(k, Q)]) hG5 (by rw [e1] at hR5; simpa using hR5) (by rcases hL5 with h | h; exact .inl h; exact .inr (.inl h)) (fun k hk => gives_old hk) (by
    intro x hx
    rcases List.mem_append.1 hx with hx | hx
    · exact H4.ws x hx
    · simp at hx; subst hx; exact ⟨by simpa using hkl, hps⟩))
  have st5 := Lib.hid ((st4.trans hS5).trans (Stp.setCell _ i w5 p 1 (.slice (some ⟨g5, 0, none⟩) (Ws.length + 1) C5) ((hS5.own p H4.ltp).trans H4.op)))
  clear H3 H4 st3 st4 hR5 hS5 hG5 hL5 e1 hi hz0 hz1 hz2
  go_wp2_with (at_builtin; refine wpList_append_run rfl (.tmp 42) (.tmp 46) _ _ rfl _ _ rfl rfl _ _ HAP.out ?_)
  go_ret
  exact ⟨_, _, rfl, H5.out, st5.out⟩
end

/-- numbers in a row that i does not own -/
def FInts (w : World) (o : Nat → Nat) (i : Nat) (a : Option Addr) (len : Nat) (fs : List Int) : Prop :=
  fs.length = len ∧ ∀ t x, fs[t]? = some x → ∃ b off, a = some ⟨b, off, none⟩ ∧ w.cell? ⟨b, off + t, none⟩ = some (.int .i64 x) ∧ o b ≠ i
theorem FInts.stp {w w' : World} {o o' : Nat → Nat} {i : Nat} {a : Option Addr} {len : Nat} {fs : List Int} (h : FInts w o i a len fs) (s : Stp o i w o' w') : FInts w' o' i a len fs :=
  ⟨h.1, fun t x hx => by
    obtain ⟨b, off, e, hc, ho⟩ := h.2 t x hx
    have hlt := World.block_lt_of_cell? w _ hc
    exact ⟨b, off, e, (World.cell?_of_block (s.blk b hlt ho) (a := ⟨b, off + t, none⟩)).trans hc, by rw [s.own b hlt]; exact ho⟩⟩
section
variable {w : World} {o : Nat → Nat} {i p m : Nat} {v : Value} {L : Pgs} {Ws : Wrs} {S : List ByteArray}
theorem IsM.slot (H : IsM w o i p m v L Ws) : ∃ a C, v = .slice a Ws.length C := by
  rcases H.hv.val with ⟨rfl, h, _⟩ | ⟨g, C, rfl, _⟩
  · exact ⟨none, 0, by rw [h]⟩
  · exact ⟨_, _, rfl⟩
theorem IsM.wat {a : Option Addr} {C : Nat} (H : IsM w o i p m (.slice a Ws.length C) L Ws) (t : Nat) (x : Nat × ByteArray) (hx : Ws[t]? = some x) : ∃ g, a = some ⟨g, 0, none⟩ ∧ w.cell? ⟨g, t * 2, none⟩ = some (.int .i64 (x.1 : Int)) ∧ w.cell? ⟨g, t * 2 + 1, none⟩ = some (.string x.2) := by
  have hlt := (List.getElem?_eq_some_iff.1 hx).1
  obtain ⟨h1, h2⟩ := wcells_get Ws t x hx
  rcases H.hv.val with ⟨_, h, _⟩ | ⟨g, C', hv, _, _, hc, _⟩
  · omega
  · cases hv
    exact ⟨g, rfl, hc _ _ h1, hc _ _ h2⟩
theorem stl_eq (L : Pgs) (x : Nat × ByteArray) (f : Int) (q : ByteArray × ByteArray) (hq : L[x.1]? = some q) : stl L x f = L.set x.1 (leftOf f x.2 q.1, leftOf f x.2 q.1) := by
  unfold stl; rw [List.getD_eq_getElem?_getD, hq]; rfl
theorem stlN_step (L : Pgs) (Ws : Wrs) (fs : List Int) (t : Nat) (x : Nat × ByteArray) (f : Int) (q : ByteArray × ByteArray) (hx : Ws[t]? = some x) (hf : fs.getD t 0 = f) (hq : (stlN L Ws fs t)[x.1]? = some q) :
    stlN L Ws fs (t + 1) = (stlN L Ws fs t).set x.1 (leftOf f x.2 q.1, leftOf f x.2 q.1) := by
  simp only [stlN]
  rw [hf, List.getD_eq_getElem?_getD, hx]
  exact stl_eq _ x f q hq

set_option maxRecDepth 100000 in
set_option maxHeartbeats 1000000 in
theorem sync_any' (H : IsM w o i p m v L Ws) (hW : Ws.length ≤ 1000000) :
    Calls Try.prog 45 #[.pointer (some ⟨p, 0, none⟩)] w fun e w' =>
      e = .returned (.tuple #[]) ∧ IsM w' o i p m (.slice none 0 0) (stlN L Ws (List.replicate Ws.length 1) Ws.length) [] ∧ Stp o i w o w' := by
  obtain ⟨a, C, rfl⟩ := H.slot
  have cv := H.c1
  have HH := Lib.hid H; clear H
  go_enter Try.func45, Try.ntmps45
  go_wp2
  go_loopw [9] (fun c wr => ∃ t : Nat, t ≤ Ws.length ∧ c = .int .i64 (t : Int) ∧ IsM wr o i p m (.slice a Ws.length C) (stlN L Ws (List.replicate Ws.length 1) t) Ws ∧ Stp o i w o wr) (fun c _ => Ws.length - (intOf c).toNat)
  case atStart => exact ⟨0, by omega, rfl, HH.out, Stp.refl _ _ _⟩
  case round =>
    obtain ⟨t, ht, rfl, hM, hS⟩ := hrel
    clear HH cv
    by_cases hlt : t < Ws.length
    · have h0 : (t : Int) < (Ws.length : Int) := by omega
      have h00 : (0 : Int) ≤ (t : Int) := by omega
      obtain ⟨⟨k, s⟩, hx⟩ : ∃ x, Ws[t]? = some x := ⟨_, List.getElem?_eq_getElem hlt⟩
      have hxw := hM.ws _ (List.mem_of_getElem? hx)
      obtain ⟨g, rfl, c0, c1⟩ := hM.wat t _ hx
      obtain ⟨q, hq⟩ : ∃ q, (stlN L Ws (List.replicate Ws.length 1) t)[k]? = some q := ⟨_, List.getElem?_eq_getElem hxw.1⟩
      have HE := Lib.hid (stlN_step L Ws _ t (k, s) 1 q hx (by rw [List.getD_eq_getElem?_getD, List.getElem?_replicate, if_pos hlt]; rfl) hq)
      have CC := Lib.hid (settle_any (hM.alloc (.cells #[.int .i64 (k : Int), .string s] 86)) k q hq s hxw.2 1)
      have HS := Lib.hid (hS.trans (Stp.alloc o i wr (.cells #[.int .i64 (k : Int), .string s] 86)))
      clear hM hS hq hxw
      go_wp2_with fail
      refine CC.out.mono ?_; rintro e w2 ⟨rfl, hM2, hS2⟩
      have H2 := Lib.hid hM2
      have S2 := Lib.hid (HS.out.trans hS2)
      clear hM2 hS2
      go_wp2
      exact ⟨⟨t + 1, by omega, by go_num, by rw [HE.out]; exact H2.out, S2.out⟩, by simp [intOf]; omega⟩
    · obtain rfl : t = Ws.length := by omega
      have c1 := hM.c1
      have f1 := hM.fz 1
      have HC := Lib.hid hM.cleared
      have HS := Lib.hid (hS.trans (Stp.setCell o i wr p 1 (.slice none 0 0) hM.op))
      clear hM hS
      go_wp2
      go_end0
      exact ⟨rfl, HC.out, HS.out⟩

set_option maxRecDepth 100000 in
set_option maxHeartbeats 1000000 in
theorem crash_any' (H : IsM w o i p m v L Ws) (hW : Ws.length ≤ 1000000) (fa : Option Addr) (fl fc : Nat) (fs : List Int) (HF : FInts w o i fa fl fs) (_hfl : fl ≤ 1000000) :
    Calls Try.prog 18 #[.pointer (some ⟨p, 0, none⟩), .slice fa fl fc] w fun e w' =>
      e = .returned (.tuple #[]) ∧ IsM w' o i p m (.slice none 0 0) (stlN L Ws fs Ws.length) [] ∧ Stp o i w o w' := by
  obtain ⟨a, C, rfl⟩ := H.slot
  have cv := H.c1
  have HH := Lib.hid H; clear H
  have HF0 := Lib.hid HF; clear HF
  go_enter Try.func18, Try.ntmps18
  go_wp2
  go_loopw [12] (fun c wr => ∃ t : Nat, t ≤ Ws.length ∧ c = .int .i64 (t : Int) ∧ IsM wr o i p m (.slice a Ws.length C) (stlN L Ws fs t) Ws ∧ Stp o i w o wr) (fun c _ => Ws.length - (intOf c).toNat)
  case atStart => exact ⟨0, by omega, rfl, HH.out, Stp.refl _ _ _⟩
  case round =>
    obtain ⟨t, ht, rfl, hM, hS⟩ := hrel
    clear HH cv
    by_cases hlt : t < Ws.length
    · have h0 : (t : Int) < (Ws.length : Int) := by omega
      have h00 : (0 : Int) ≤ (t : Int) := by omega
      obtain ⟨⟨k, s⟩, hx⟩ : ∃ x, Ws[t]? = some x := ⟨_, List.getElem?_eq_getElem hlt⟩
      have hxw := hM.ws _ (List.mem_of_getElem? hx)
      obtain ⟨g, rfl, c0, c1⟩ := hM.wat t _ hx
      obtain ⟨q, hq⟩ : ∃ q, (stlN L Ws fs t)[k]? = some q := ⟨_, List.getElem?_eq_getElem hxw.1⟩
      have hFr := HF0.out.stp hS
      have HE := Lib.hid (fun f hf => stlN_step L Ws fs t (k, s) f q hx hf hq)
      have CC := Lib.hid (fun f => settle_any (hM.alloc (.cells #[.int .i64 (k : Int), .string s] 86)) k q hq s hxw.2 f)
      have HS := Lib.hid (hS.trans (Stp.alloc o i wr (.cells #[.int .i64 (k : Int), .string s] 86)))
      clear hM hS hq hxw
      by_cases hf : t < fl
      · have hf0 : (t : Int) < (fl : Int) := by omega
        obtain ⟨f, hfx⟩ : ∃ f, fs[t]? = some f := ⟨_, List.getElem?_eq_getElem (by rw [hFr.1]; exact hf)⟩
        obtain ⟨fb, fo, rfl, hfc, _⟩ := hFr.2 t f hfx
        have hfc2 := (Below.cell ((Below.refl _ wr).alloc (Nat.le_refl _) (.cells #[.int .i64 (k : Int), .string s] 86)) (p := ⟨fb, fo + t, none⟩) (World.block_lt_of_cell? wr _ hfc)).trans hfc
        have HE2 := Lib.hid (HE.out f (by rw [List.getD_eq_getElem?_getD, hfx]; rfl))
        have CC2 := Lib.hid (CC.out f)
        clear HE CC hFr hfc hfx
        go_wp2_with fail
        refine CC2.out.mono ?_; rintro e w2 ⟨rfl, hM2, hS2⟩
        have H2 := Lib.hid hM2
        have S2 := Lib.hid (HS.out.trans hS2)
        clear hM2 hS2
        go_wp2
        exact ⟨⟨t + 1, by omega, by go_num, by rw [HE2.out]; exact H2.out, S2.out⟩, by simp [intOf]; omega⟩
      · have hf0 : (fl : Int) ≤ (t : Int) := by omega
        have HE2 := Lib.hid (HE.out 0 (by rw [List.getD_eq_getElem?_getD, List.getElem?_eq_none (by rw [hFr.1]; omega)]; rfl))
        have CC2 := Lib.hid (CC.out 0)
        clear HE CC hFr
        go_wp2_with fail
        refine CC2.out.mono ?_; rintro e w2 ⟨rfl, hM2, hS2⟩
        have H2 := Lib.hid hM2
        have S2 := Lib.hid (HS.out.trans hS2)
        clear hM2 hS2
        go_wp2
        exact ⟨⟨t + 1, by omega, by go_num, by rw [HE2.out]; exact H2.out, S2.out⟩, by simp [intOf]; omega⟩
    · obtain rfl : t = Ws.length := by omega
      have c1 := hM.c1
      have f1 := hM.fz 1
      have HC := Lib.hid hM.cleared
      have HS := Lib.hid (hS.trans (Stp.setCell o i wr p 1 (.slice none 0 0) hM.op))
      clear hM hS
      go_wp2
      go_end0
      exact ⟨rfl, HC.out, HS.out⟩
end
end Go.Proofs.Ythjlbfijfpfohaa

namespace Go.Proofs.Ythjlbfijfpfohaa
open Go.RowKit Go.ChangeMaps

/-- a []int that reads as l -/
def IsInts (w : World) (v : Value) (l : List Int) : Prop :=
  (v = .slice none 0 0 ∧ l = []) ∨ ∃ g C, v = .slice (some ⟨g, 0, none⟩) l.length C ∧ ∀ j x, l[j]? = some x → w.cell? ⟨g, j, none⟩ = some (.int .i64 x)
theorem IsInts.below {w w' : World} {v : Value} {l : List Int} (h : IsInts w v l) (b : Below w.heap.size w w') : IsInts w' v l := by
  rcases h with h | ⟨g, C, h1, h2⟩
  · exact .inl h
  · refine .inr ⟨g, C, h1, fun j x hj => ?_⟩
    have := h2 j x hj
    exact (b.cell (p := ⟨g, j, none⟩) (World.block_lt_of_cell? w _ this)).trans this
theorem isInts_of_row {w : World} {base : Nat} {v : Value} {l : List Int} (h : w.ownsRow base 3 1 v l.length (l.map (Value.int .i64))) : IsInts w v l := by
  rcases h.2 with ⟨rfl, h0⟩ | ⟨g, cap, cur, rfl, _, hg, h1, _, h3, h4⟩
  · exact .inl ⟨rfl, List.eq_nil_of_length_eq_zero h0⟩
  · refine .inr ⟨g, cap, rfl, fun j x hj => ?_⟩
    have hlt : j < l.length := (List.getElem?_eq_some_iff.1 hj).1
    have e1 : (cur.toList.take (l.length * 1))[j]? = (l.map (Value.int .i64))[j]? := by rw [h4]
    rw [List.getElem?_take_of_lt (by omega), Array.getElem?_toList, List.getElem?_map, hj] at e1
    simp [World.cell?, hg, e1]
theorem IsInts.len {w : World} {v : Value} {l : List Int} (h : IsInts w v l) : ∃ a C, v = .slice a l.length C := by
  rcases h with ⟨rfl, rfl⟩ | ⟨g, C, rfl, _⟩
  · exact ⟨none, 0, rfl⟩
  · exact ⟨_, _, rfl⟩
/-- the pages of writes -/
def dirtyOf (Ws : Wrs) : List Int := Ws.map (fun x => (x.1 : Int))
theorem below_append {a W w1 : World} {n base : Nat} {e : TypeId} {size : Nat} {v : Value} {k : Nat} {xs : List Value} {tmp : Obj} (hB : Below n a W) (hrow : W.ownsRow base e size v k xs) (hgrow : (W.alloc tmp).grownBy w1 v.ownBlock) (hn : n ≤ base) (hs : n ≤ W.heap.size := by omega) : Below n a w1 := by
  refine (hB.alloc hs tmp).grown hgrow (by simp; omega) (fun j ej => ?_)
  rcases hrow.2 with ⟨rfl, _⟩ | ⟨g, cap, cur, rfl, hb, _⟩
  · simp [Value.ownBlock] at ej
  · obtain rfl : g = j := by simpa [Value.ownBlock] using ej
    omega
section
variable {w : World} {o : Nat → Nat} {i p m : Nat} {v : Value} {L : Pgs} {Ws : Wrs} {S : List ByteArray}
theorem Row.made (w : World) (o : Nat → Nat) (i : Nat) (e : TypeId) (sz : Nat) : Row (w.alloc (.cells #[] e)) (gives o w.heap.size i) i e sz (.slice (some ⟨w.heap.size, 0, none⟩) 0 0) 0 [] :=
  ⟨World.ownsRow_made w #[] 0 (Nat.zero_le _) (by decide) (by simp), fun g hg => by cases hg; exact gives_new (Nat.le_refl _)⟩

theorem below_undrew {w w' : World} (h : Below w.drew.heap.size w.drew w') : Below w.heap.size w w' := ⟨h.os, h.tape, h.output, h.size, h.block⟩
end
end Go.Proofs.Ythjlbfijfpfohaa

namespace Go.Proofs.Ythjlbfijfpfohaa
open Go.RowKit Go.ChangeMaps
section
variable {w : World} {o : Nat → Nat} {i p : Nat} {Ws : Wrs} {S : List ByteArray}
theorem d_len (H : IsD w o i p S Ws) :
    Calls Try.prog 29 #[.pointer (some ⟨p, 0, none⟩)] w fun e w' => e = .returned (.int .i64 (S.length : Int)) ∧ w = w' := by
  obtain ⟨m, v, H⟩ := H
  have := dlen_any H
  rwa [lay_length] at this
theorem d_raw (H : IsD w o i p S Ws) (k : Nat) (s : ByteArray) (hs : S[k]? = some s) :
    Calls Try.prog 21 #[.pointer (some ⟨p, 0, none⟩), .int .i64 (k : Int)] w fun e w' => e = .returned (.string (rawAt Ws k s)) ∧ Below w.heap.size w w' := by
  obtain ⟨m, v, H⟩ := H
  exact raw_in H k (s, rawAt Ws k s) (by rw [lay_get, hs]; rfl)
theorem d_raw_out (H : IsD w o i p S Ws) (x : Int) (hx : x < 0 ∨ (S.length : Int) ≤ x) :
    Calls Try.prog 21 #[.pointer (some ⟨p, 0, none⟩), .int .i64 x] w fun e w' => e = .returned (.string ⟨#[]⟩) ∧ Below w.heap.size w w' := by
  obtain ⟨m, v, H⟩ := H
  exact raw_out H x (by rw [lay_length]; exact hx)
theorem d_read (H : IsD w o i p S Ws) (k : Nat) (s : ByteArray) (hs : S[k]? = some s) :
    Calls Try.prog 78 #[.pointer (some ⟨p, 0, none⟩), .int .i64 (k : Int)] w fun e w' => e = .returned (.tuple #[.string (readOf (rawAt Ws k s)), .int .i64 (errOf (rawAt Ws k s))]) ∧ Below w.heap.size w w' := by
  obtain ⟨m, v, H⟩ := H
  exact read_in H k (s, rawAt Ws k s) (by rw [lay_get, hs]; rfl)
theorem d_read_out (H : IsD w o i p S Ws) (x : Int) (hx : x < 0 ∨ (S.length : Int) ≤ x) :
    Calls Try.prog 78 #[.pointer (some ⟨p, 0, none⟩), .int .i64 x] w fun e w' => e = .returned (.tuple #[.string ⟨#[]⟩, .int .i64 1]) ∧ Below w.heap.size w w' := by
  obtain ⟨m, v, H⟩ := H
  exact read_out H x (by rw [lay_length]; exact hx)
theorem d_write_arg (H : IsD w o i p S Ws) (x : Int) (hx : x < 0 ∨ (S.length : Int) ≤ x) (s : ByteArray) :
    Calls Try.prog 68 #[.pointer (some ⟨p, 0, none⟩), .int .i64 x, .string s] w fun e w' => e = .returned (.int .i64 1) ∧ Below w.heap.size w w' := by
  obtain ⟨m, v, H⟩ := H
  exact write_arg' H x (by rw [lay_length]; exact hx) s
theorem d_write_big (H : IsD w o i p S Ws) (k : Nat) (hk : k < S.length) (s : ByteArray) (hs : 252 < s.size) :
    Calls Try.prog 68 #[.pointer (some ⟨p, 0, none⟩), .int .i64 (k : Int), .string s] w fun e w' => e = .returned (.int .i64 2) ∧ Below w.heap.size w w' := by
  obtain ⟨m, v, H⟩ := H
  exact write_big' H k (by rw [lay_length]; exact hk) s hs
theorem d_write (H : IsD w o i p S Ws) (k : Nat) (hk : k < S.length) (s : ByteArray) (hs : s.size ≤ 252) (hW : Ws.length ≤ 100000) :
    Calls Try.prog 68 #[.pointer (some ⟨p, 0, none⟩), .int .i64 (k : Int), .string s] w fun e w' => ∃ o', e = .returned (.int .i64 0) ∧ IsD w' o' i p S (Ws ++ [(k, pageOf s)]) ∧ Stp o i w o' w' := by
  obtain ⟨m, v, H⟩ := H
  have hs' : S[k]? = some S[k] := List.getElem?_eq_getElem hk
  refine (write_ok' H k S[k] (rawAt Ws k S[k]) (by rw [lay_get, hs']; rfl) s hs hW).mono ?_
  rintro e w' ⟨o', v', rfl, H', S'⟩
  rw [lay_write S Ws k _ _ hs'] at H'
  exact ⟨o', rfl, ⟨m, v', H'⟩, S'⟩
theorem d_sync (H : IsD w o i p S Ws) (hW : Ws.length ≤ 1000000) :
    Calls Try.prog 45 #[.pointer (some ⟨p, 0, none⟩)] w fun e w' => e = .returned (.tuple #[]) ∧ IsD w' o i p (syncOf S Ws) [] ∧ Stp o i w o w' := by
  obtain ⟨m, v, H⟩ := H
  refine (sync_any' H hW).mono ?_
  rintro e w' ⟨rfl, H', S'⟩
  rw [stl_crash] at H'
  exact ⟨rfl, ⟨m, _, H'⟩, S'⟩
theorem d_crash (H : IsD w o i p S Ws) (hW : Ws.length ≤ 1000000) (fa : Option Addr) (fl fc : Nat) (fs : List Int) (HF : FInts w o i fa fl fs) (hfl : fl ≤ 1000000) :
    Calls Try.prog 18 #[.pointer (some ⟨p, 0, none⟩), .slice fa fl fc] w fun e w' => e = .returned (.tuple #[]) ∧ IsD w' o i p (crashOf S Ws fs) [] ∧ Stp o i w o w' := by
  obtain ⟨m, v, H⟩ := H
  refine (crash_any' H hW fa fl fc fs HF hfl).mono ?_
  rintro e w' ⟨rfl, H', S'⟩
  rw [stl_crash] at H'
  exact ⟨rfl, ⟨m, _, H'⟩, S'⟩
/-- a []int of the owner j -/
def OInts (w : World) (o : Nat → Nat) (j : Nat) (u : Value) (l : List Int) : Prop := Row w o j 3 1 u l.length (l.map (Value.int .i64))
theorem OInts.ints {w : World} {o : Nat → Nat} {j : Nat} {u : Value} {l : List Int} (h : OInts w o j u l) : IsInts w u l := isInts_of_row h.row
end
end Go.Proofs.Ythjlbfijfpfohaa

namespace Go.Proofs.Ythjlbfijfpfohaa
open Go.RowKit Go.ChangeMaps

theorem below_drew (w : World) (m : Nat) : Below w.heap.size w (w.drewN m) := ⟨rfl, rfl, rfl, Nat.le_refl _, fun _ _ => rfl⟩
theorem readOf_page (s : ByteArray) (h : s.size ≤ 252) : readOf (pageOf s) = padOf s 252 := by unfold readOf; rw [okPage_pageOf s h, if_pos rfl, pageOf_extract s h]
theorem errOf_page (s : ByteArray) (h : s.size ≤ 252) : errOf (pageOf s) = 0 := by unfold errOf; rw [okPage_pageOf s h]; rfl
theorem tornOf_list (a b : ByteArray) : (tornOf a b).data.toList = a.data.toList.take 128 ++ b.data.toList.drop 128 := by
  unfold tornOf
  have e : (b.data.toList.drop 128).take (b.size - 128) = b.data.toList.drop 128 := List.take_of_length_le (by rw [List.length_drop, ← Lib.size_eq]; omega)
  rw [ByteArray.data_append, Array.toList_append, extract_list, extract_list, List.drop_zero, e, Nat.sub_zero]
theorem page_one (x : UInt8) : (pageOf ⟨#[x]⟩).data.toList = (x :: List.replicate 127 0) ++ (List.replicate 124 0 ++ Lib.leBytes 4 (crcOf (padOf ⟨#[x]⟩ 252).data.toList)) := by
  rw [pageOf_list]
  have : (padOf ⟨#[x]⟩ 252).data.toList = (x :: List.replicate 127 0) ++ List.replicate 124 0 := by
    rw [padOf_list]
    show x :: List.replicate 251 0 = x :: (List.replicate 127 0 ++ List.replicate 124 0)
    rw [List.replicate_append_replicate]
  rw [this, List.append_assoc]
/-- of two pages of one byte each, torn, is none -/
theorem torn_bad : okPage (tornOf (pageOf ⟨#[98]⟩) (pageOf ⟨#[97]⟩)) = false := by
  refine okPage_set ⟨#[97]⟩ (by decide) _ 0 98 (by decide) ?_ ?_
  · rw [tornOf_list, page_one, page_one]
    rw [List.take_left' (by simp), List.drop_left' (by simp)]
    rfl
  · rw [page_one, List.cons_append, List.getElem?_cons_zero]; decide
theorem readOf_torn : readOf (tornOf (pageOf ⟨#[98]⟩) (pageOf ⟨#[97]⟩)) = ⟨#[]⟩ := by unfold readOf; rw [torn_bad]; rfl
theorem errOf_torn : errOf (tornOf (pageOf ⟨#[98]⟩) (pageOf ⟨#[97]⟩)) = 5 := by unfold errOf; rw [torn_bad]; rfl
def zeros (n : Nat) : ByteArray := ⟨(List.replicate n 0).toArray⟩
theorem zeros_size (n : Nat) : (zeros n).size = n := by rw [Lib.size_eq]; show (List.replicate n (0 : UInt8)).length = n; simp
section
variable (w : World)
theorem mk_zeros (n : Nat) (k : Int) (hk : k = n) (hn : n ≤ 1000000) : (Instr.makeSlice 91 (.int .i64 k) (.int .i64 k)).run Try.prog w = .ok (.slice (some ⟨w.heap.size, 0, none⟩) n n) (w.alloc (.cells (brow (List.replicate n 0)) 5)) := by
  subst hk
  obtain ⟨ib, hi, hz0, hz1, hz2⟩ := Try.info_byte
  exact run_make_bytes (P := Try.prog) w 91 5 ib Try.underlying91 hi hz0 hz1 hz2 n (by omega)
theorem st_zeros (n : Nat) : (convert 91 9 (.slice (some ⟨w.heap.size, 0, none⟩) n n)).run Try.prog (w.alloc (.cells (brow (List.replicate n 0)) 5)) = .ok (.string (zeros n)) (w.alloc (.cells (brow (List.replicate n 0)) 5)) :=
  run_string_bytes (P := Try.prog) w 91 9 5 n n (List.replicate n 0) (by simp) Try.underlying91 Try.underlying5 Try.underlying9
end
end Go.Proofs.Ythjlbfijfpfohaa

namespace Go.Proofs.Ythjlbfijfpfohaa
open Go.RowKit Go.ChangeMaps

theorem stp_new (o : Nat → Nat) (i : Nat) (w : World) (x : Obj) : Stp o i w (gives o w.heap.size i) (w.alloc x) := (Stp.alloc o i w x).gives _ (Nat.le_refl _)
theorem fints_new (w : World) (o : Nat → Nat) (i j : Nat) (h : j ≠ i) (a b : Int) (t : TypeId) : FInts (w.alloc (.cells #[.int .i64 a, .int .i64 b] t)) (gives o w.heap.size j) i (some ⟨w.heap.size, 0, none⟩) 2 [a, b] := by
  refine ⟨rfl, fun t x hx => ⟨w.heap.size, 0, rfl, ?_, by rw [gives_new (Nat.le_refl _)]; exact h⟩⟩
  rw [World.cell?_alloc_at _ _ _ _ rfl]
  match t with
  | 0 => simp at hx ⊢; exact hx
  | 1 => simp at hx ⊢; exact hx
  | t + 2 => simp at hx
theorem isInts_new (w : World) (a b : Int) (t : TypeId) : IsInts (w.alloc (.cells #[.int .i64 a, .int .i64 b] t)) (.slice (some ⟨w.heap.size, 0, none⟩) 2 2) [a, b] := by
  refine .inr ⟨w.heap.size, 2, rfl, fun j x hx => ?_⟩
  rw [World.cell?_alloc_at _ _ _ _ rfl]
  match j with
  | 0 => simp at hx ⊢; exact hx
  | 1 => simp at hx ⊢; exact hx
  | t + 2 => simp at hx
theorem fints_nil (w : World) (o : Nat → Nat) (i : Nat) : FInts w o i none 0 [] := ⟨rfl, fun t x hx => by simp at hx⟩

end Go.Proofs.Ythjlbfijfpfohaa

namespace Go.Proofs.Ythjlbfijfpfohaa
open Go.ChangeShapes Go.WideShapes Go.ChangeAt Go.RowKit
/-- what a walk is told of a []int that came in -/
def ArgInts (w : World) (a : Option Addr) (len : Nat) (zs : List Int) : Prop :=
  zs.length = len ∧ ∀ i x, zs[i]? = some x → ∃ b off, a = some ⟨b, off, none⟩ ∧ w.cell? ⟨b, off + i, none⟩ = some (.int .i64 x)
/-- a call: which, a page, bytes, what becomes of writes -/
structure OpA where
  k : Int
  p : Int
  s : ByteArray
  fa : Option Addr
  fl : Nat
  fc : Nat
  fs : List Int
/-- .. of a slice of calls -/
def ArgOps (w : World) (a : Option Addr) (len : Nat) (zs : List OpA) : Prop :=
  zs.length = len ∧ ∀ i x, zs[i]? = some x → (Lit.int .i64 x.k).wf = true ∧ (Lit.int .i64 x.p).wf = true ∧ x.s.size ≤ maxLen ∧ x.fl ≤ x.fc ∧ x.fc ≤ maxLen ∧ ArgInts w x.fa x.fl x.fs ∧
    ∃ b off, a = some ⟨b, off, none⟩ ∧ w.cell? ⟨b, off + i * 4, none⟩ = some (.int .i64 x.k) ∧ w.cell? ⟨b, off + i * 4 + 1, none⟩ = some (.int .i64 x.p) ∧ w.cell? ⟨b, off + i * 4 + 2, none⟩ = some (.string x.s) ∧ w.cell? ⟨b, off + i * 4 + 3, none⟩ = some (.slice x.fa x.fl x.fc)
theorem add_spot {w : World} {x : Addr} {v : Value} (h : w.cell? (x.add 0) = some v) : x.spot = none := by simpa [Addr.add] using World.cell?_spot h
theorem add_none {x : Addr} (hs : x.spot = none) (i : Nat) : x.add i = ⟨x.block, x.off + i, none⟩ := by
  obtain ⟨b, o, s⟩ := x
  simp at hs
  subst hs
  unfold Addr.add
  by_cases hz : i = 0
  · subst hz; rfl
  · simp [hz]
/-- the cells of a []int, wherever it lies -/
theorem open_cellInts {H : Type} {enc : TypeId × Value → H} {P : Program} {w : World} {base : Nat} {spare : Nat → Bool} {held : Bool} {t e : TypeId} {fuel : Nat} {v : Value} {x : DataW H × List MemPlace}
    (ht : P.underlying t = some (.slice e)) (he : P.underlying e = some (.int .i64)) (hc : P.cellsOf e = 1) (hsp : ∀ b, spare b = true)
    (hf : DataW.trod enc P w base spare held fuel t [v] = some x) : ∃ a len cap zs, v = .slice a len cap ∧ ArgInts w a len zs ∧ len ≤ cap ∧ cap ≤ maxLen := by
  rcases open_ints ht he hc hf with ⟨hcs, _⟩ | ⟨x, l, c, zs, hcs, _, hl, hm, hz, _, hcell, hwz⟩
  · simp at hcs
    subst hcs
    exact ⟨none, 0, 0, [], rfl, ⟨rfl, fun i x hx => by simp at hx⟩, Nat.le_refl _, Nat.zero_le _⟩
  · simp at hcs
    subst hcs
    rw [hsp, if_pos rfl] at hz
    refine ⟨some x, l, c, zs.take l, rfl, ⟨by rw [List.length_take]; omega, ?_⟩, hl, hm⟩
    intro i y hy
    have hi : i < l := by
      have := (List.getElem?_eq_some_iff.1 hy).1
      rw [List.length_take] at this; omega
    rw [List.getElem?_take_of_lt hi] at hy
    have hc := hcell i (by omega)
    have h1 := add_spot (hcell 0 (by omega))
    rw [add_none h1, List.getD_eq_getElem?_getD, hy] at hc
    obtain ⟨b, o, s⟩ := x
    simp at h1
    subst h1
    exact ⟨b, o, rfl, hc⟩
theorem open_argInts {H : Type} {enc : TypeId × Value → H} {P : Program} {w : World} {base : Nat} {spare : Nat → Bool} {held : Bool} {t e : TypeId} {a : Option Addr} {len cap : Nat} {d : DataW H} {p : List MemPlace}
    (ht : P.underlying t = some (.slice e)) (he : P.underlying e = some (.int .i64)) (hc : P.cellsOf e = 1) (hsp : ∀ b, spare b = true)
    (h : DataW.Trod enc P w base spare held t (.slice a len cap) d p) : ∃ zs, ArgInts w a len zs ∧ len ≤ cap ∧ cap ≤ maxLen := by
  obtain ⟨fuel, hf⟩ := h
  obtain ⟨a', l', c', zs, e1, h1, h2⟩ := open_cellInts ht he hc hsp (v := .slice a len cap) (by simpa [Value.cells] using hf)
  cases e1
  exact ⟨zs, h1, h2⟩
theorem open_argOps {H : Type} {enc : TypeId × Value → H} {P : Program} {w : World} {base : Nat} {spare : Nat → Bool} {held : Bool} {t e e2 : TypeId} {f0 f1 f2 f3 : Field} {a : Option Addr} {len cap : Nat} {d : DataW H} {p : List MemPlace}
    (ht : P.underlying t = some (.slice e)) (he : P.underlying e = some (.struct #[f0, f1, f2, f3])) (ce : P.cellsOf e = 4) (o0 : f0.offset = 0) (o1 : f1.offset = 1) (o2 : f2.offset = 2) (o3 : f3.offset = 3)
    (c0 : P.cellsOf f0.type = 1) (c1 : P.cellsOf f1.type = 1) (c2 : P.cellsOf f2.type = 1) (c3 : P.cellsOf f3.type = 1)
    (t0 : P.underlying f0.type = some (.int .i64)) (t1 : P.underlying f1.type = some (.int .i64)) (t2 : P.underlying f2.type = some .string) (t3 : P.underlying f3.type = some (.slice e2)) (t4 : P.underlying e2 = some (.int .i64)) (c4 : P.cellsOf e2 = 1) (hsp : ∀ b, spare b = true)
    (h : DataW.Trod enc P w base spare held t (.slice a len cap) d p) : ∃ zs, ArgOps w a len zs ∧ len ≤ maxLen := by
  obtain ⟨fuel, hf⟩ := h
  rcases Go.Deep.open_slice ht hf with ⟨hcs, _⟩ | ⟨x, l, c, m, n, D, Pl, hcs, _, hl, hm, hmm, _, hx⟩
  · simp [Value.cells] at hcs
    obtain ⟨rfl, rfl, rfl⟩ := hcs
    exact ⟨[], ⟨rfl, fun i x hx => by simp at hx⟩, Nat.zero_le _⟩
  · simp [Value.cells] at hcs
    obtain ⟨rfl, rfl, rfl⟩ := hcs
    rw [hsp, if_pos rfl] at hmm
    have each : ∀ i, i < len → ∃ y : OpA, (Lit.int .i64 y.k).wf = true ∧ (Lit.int .i64 y.p).wf = true ∧ y.s.size ≤ maxLen ∧ y.fl ≤ y.fc ∧ y.fc ≤ maxLen ∧ ArgInts w y.fa y.fl y.fs ∧
        w.cell? (x.add (i * 4)) = some (.int .i64 y.k) ∧ w.cell? (x.add (i * 4 + 1)) = some (.int .i64 y.p) ∧ w.cell? (x.add (i * 4 + 2)) = some (.string y.s) ∧ w.cell? (x.add (i * 4 + 3)) = some (.slice y.fa y.fl y.fc) := by
      intro i hi
      obtain ⟨cs', h1, h2⟩ := hx i (by omega)
      rw [ce] at h1
      obtain ⟨_, hlen, hcell⟩ := World.cells?_some h1
      obtain ⟨y0, y1, y2, y3, n', _, _, g0, g1, g2, g3⟩ := Go.Joins.trod_struct4 he h2
      match cs', hlen with
      | [v0, v1, v2, v3], _ =>
        simp [o0, o1, o2, o3, c0, c1, c2, c3] at g0 g1 g2 g3
        obtain ⟨x0, e0, _, w0⟩ := DataW.trod_int t0 g0
        obtain ⟨x1, e1, _, w1⟩ := DataW.trod_int t1 g1
        obtain ⟨x2, e2, _, w2⟩ := DataW.trod_string t2 g2
        obtain ⟨a3, l3, c3', zs, e3, h3, h4, h5⟩ := open_cellInts t3 t4 c4 hsp g3
        simp at e0 e1 e2
        subst e0 e1 e2 e3
        have k0 := hcell 0 (by omega)
        have k1 := hcell 1 (by omega)
        have k2 := hcell 2 (by omega)
        have k3 := hcell 3 (by omega)
        rw [Go.Deep.add_add] at k0 k1 k2 k3
        exact ⟨⟨x0, x1, x2, a3, l3, c3', zs⟩, w0, w1, w2, h4, h5, h3, by simpa using k0, by simpa using k1, by simpa using k2, by simpa using k3⟩
    let d0 : OpA := ⟨0, 0, ⟨#[]⟩, none, 0, 0, []⟩
    let g : Nat → OpA := fun i => if hi : i < len then (each i hi).choose else d0
    refine ⟨(List.range len).map g, ⟨by simp, ?_⟩, by omega⟩
    intro i y hy
    have hi : i < len := by
      have := (List.getElem?_eq_some_iff.1 hy).1
      simpa using this
    rw [List.getElem?_map, List.getElem?_range hi] at hy
    simp at hy
    have hg : g i = (each i hi).choose := by simp [g, hi]
    rw [hg] at hy
    have hs := (each i hi).choose_spec
    rw [hy] at hs
    obtain ⟨s1, s2, s3, s4, s5, s6, k0, k1, k2, k3⟩ := hs
    have h1 : x.spot = none := by
      obtain ⟨y0, _, _, _, _, _, _, q0, _⟩ := each 0 (by omega)
      rw [Nat.zero_mul] at q0
      exact add_spot q0
    rw [add_none h1] at k0 k1 k2 k3
    obtain ⟨b, o, s⟩ := x
    simp at h1
    subst h1
    exact ⟨s1, s2, s3, s4, s5, s6, b, o, rfl, k0, k1, k2, k3⟩
end Go.Proofs.Ythjlbfijfpfohaa

namespace Go.Proofs.Ythjlbfijfpfohaa
open Go.RowKit Go.ChangeMaps

theorem i64_and_low (n : Int) (m : Nat) (hm : m < 60) (c : Int) (hc : c = 2 ^ m - 1) : bits .and .i64 n c = n % 2 ^ m := by
  subst hc
  have hp : (2 : Nat) ^ m < 2 ^ 60 := Nat.pow_lt_pow_right (by omega) hm
  have hp0 : 0 < (2 : Nat) ^ m := Nat.pow_pos (by omega)
  have hcast : ((2 : Int) ^ m - 1) = ((2 ^ m - 1 : Nat) : Int) := by
    rw [Int.natCast_sub hp0]; simp
  have h7 : (BitVec.ofInt 64 (2 ^ m - 1)).toNat = 2 ^ m - 1 := by
    rw [hcast, BitVec.ofInt_natCast, BitVec.toNat_ofNat]; exact Nat.mod_eq_of_lt (by omega)
  have key : (BitVec.ofInt 64 n &&& BitVec.ofInt 64 (2 ^ m - 1)).toNat = (n % ((2 ^ 64 : Nat) : Int)).toNat % 2 ^ m := by
    rw [BitVec.toNat_and, BitVec.toNat_ofInt, h7, Nat.and_two_pow_sub_one_eq_mod]
  show IntKind.i64.wrap ((BitVec.ofInt 64 n &&& BitVec.ofInt 64 (2 ^ m - 1)).toNat : Nat) = n % 2 ^ m
  rw [key]
  have e1 : (n % ((2 ^ 64 : Nat) : Int)).toNat % 2 ^ m < 2 ^ m := Nat.mod_lt _ hp0
  rw [IntWalk.i64_in _ (by omega), Int.natCast_emod, Int.toNat_of_nonneg (Int.emod_nonneg _ (by decide))]
  rw [show ((2 ^ m : Nat) : Int) = (2 : Int) ^ m by simp]
  apply Int.emod_emod_of_dvd
  exact ⟨2 ^ (64 - m), by rw [← Int.pow_add, show m + (64 - m) = 64 by omega]; rfl⟩
theorem i64_and15 (n : Int) : bits .and .i64 n 15 = n % 16 := i64_and_low n 4 (by omega) 15 rfl

/-- the page that a number names, of eight -/
def pg8 (x : Int) : Nat := (x % 8).toNat
theorem pg8_lt (x : Int) : pg8 x < 8 := by unfold pg8; omega
theorem and7 (x : Int) : bits .and .i64 x 7 = (pg8 x : Int) := by rw [i64_and7]; unfold pg8; omega
/-- at most n bytes of a text -/
def cutOf (s : ByteArray) (n : Nat) : ByteArray := s.extract 0 n
theorem cutOf_size (s : ByteArray) (n : Nat) : (cutOf s n).size ≤ n := by unfold cutOf; rw [ByteArray.size_extract]; omega

/-- min(len(s), c) in a walk, under one letter -/
theorem cut_at (s : ByteArray) (c : Nat) : ∃ n : Nat, (if (c : Int) < (s.size : Int) then (c : Int) else (s.size : Int)) = (n : Int) ∧ (0 : Int) ≤ (n : Int) ∧ (n : Int) ≤ (s.size : Int) ∧ s.extract 0 n = cutOf s c := by
  refine ⟨min s.size c, by split <;> omega, by omega, by omega, ?_⟩
  unfold cutOf
  apply ba_ext
  rw [extract_list, extract_list]
  simp only [List.drop_zero, Nat.sub_zero]
  by_cases h : s.size ≤ c
  · rw [Nat.min_eq_left h, List.take_of_length_le (by rw [← Lib.size_eq]; omega), List.take_of_length_le (by rw [← Lib.size_eq]; exact h)]
  · rw [Nat.min_eq_right (by omega)]
theorem min_at (l c : Nat) : ∃ n : Nat, (if (c : Int) < (l : Int) then (c : Int) else (l : Int)) = (n : Int) ∧ (0 : Int) ≤ (n : Int) ∧ n = min l c := ⟨min l c, by split <;> omega, by omega, rfl⟩
theorem FInts.take {w : World} {o : Nat → Nat} {i : Nat} {a : Option Addr} {len : Nat} {fs : List Int} (h : FInts w o i a len fs) (n : Nat) : FInts w o i a (min len n) (fs.take n) := by
  refine ⟨by rw [List.length_take, h.1]; omega, fun t x hx => h.2 t x ?_⟩
  rw [List.getElem?_take] at hx
  split at hx
  · exact hx
  · cases hx
theorem fints_of_arg {w0 w : World} {o : Nat → Nat} {i : Nat} {a : Option Addr} {len : Nat} {fs : List Int} (h : ArgInts w0 a len fs) (Z : Since w0 o w) (hi : i ≠ 0) : FInts w o i a len fs :=
  ⟨h.1, fun t x hx => by
    obtain ⟨b, off, e, hc⟩ := h.2 t x hx
    exact ⟨b, off, e, Z.cell hc, by rw [Z.own b (World.block_lt_of_cell? w0 _ hc)]; exact fun h => hi h.symm⟩⟩

/-- what a call does to pages and writes -/
def actOf (x : OpA) (D : List ByteArray × Wrs) : List ByteArray × Wrs :=
  if x.k = 0 then (D.1, D.2 ++ [(pg8 x.p, pageOf (cutOf x.s 252))]) else if x.k = 1 then (syncOf D.1 D.2, []) else if x.k = 2 then (crashOf D.1 D.2 (x.fs.take 60), []) else D
theorem actOf_length (x : OpA) (D : List ByteArray × Wrs) : (actOf x D).1.length = D.1.length := by
  unfold actOf; split
  · rfl
  · split
    · exact syncOf_length _ _
    · split
      · exact crashOf_length _ _ _
      · rfl
theorem actOf_writes (x : OpA) (D : List ByteArray × Wrs) : (actOf x D).2.length ≤ D.2.length + 1 := by
  unfold actOf; split
  · simp
  · split
    · simp
    · split <;> simp

end Go.Proofs.Ythjlbfijfpfohaa

namespace Go.Proofs.Ythjlbfijfpfohaa
open Go.RowKit Go.ChangeMaps

section
variable {w0 w w' : World} {o o' : Nat → Nat} {i g : Nat}
theorem ArgOps.at {w0 w : World} {o : Nat → Nat} {a : Option Addr} {len : Nat} {zs : List OpA} (h : ArgOps w0 a len zs) (Z : Since w0 o w) (t : Nat) (ht : t < len) :
    ∃ (x : OpA) (b off : Nat), zs[t]? = some x ∧ a = some ⟨b, off, none⟩ ∧ w.cell? ⟨b, off + t * 4, none⟩ = some (.int .i64 x.k) ∧ w.cell? ⟨b, off + t * 4 + 1, none⟩ = some (.int .i64 x.p) ∧ w.cell? ⟨b, off + t * 4 + 2, none⟩ = some (.string x.s) ∧ w.cell? ⟨b, off + t * 4 + 3, none⟩ = some (.slice x.fa x.fl x.fc) ∧
      x.s.size ≤ maxLen ∧ x.fl ≤ x.fc ∧ x.fc ≤ maxLen ∧ ∀ i, i ≠ 0 → FInts w o i x.fa x.fl x.fs := by
  obtain ⟨hl, hz⟩ := h
  have hx : zs[t]? = some zs[t] := List.getElem?_eq_getElem (by omega)
  obtain ⟨_, _, s3, s4, s5, s6, b, off, e, c0, c1, c2, c3⟩ := hz t _ hx
  exact ⟨_, b, off, hx, e, Z.cell c0, Z.cell c1, Z.cell c2, Z.cell c3, s3, s4, s5, fun i hi => fints_of_arg s6 Z hi⟩
/-- the state behind the first t calls -/
theorem row_at {e : TypeId} {n C : Nat} {xs : List Value} {i : Nat} (h : Row w o i e 1 (.slice (some ⟨g, 0, none⟩) n C) n xs) (k : Nat) (u : Value) (hk : xs[k]? = some u) : w.cell? ⟨g, k, none⟩ = some u ∧ w.frozen? ⟨g, k, none⟩ = false := by
  rcases h.val with ⟨h, _⟩ | ⟨g', C', hv, _, _, hc, hf⟩
  · cases h
  · cases hv; exact ⟨hc k u hk, hf k⟩
end
theorem info_str : (Try.prog.info? 9).map (fun i => (i.zero, i.size, i.bytes)) = some (some (.string ⟨#[]⟩), 1, 16) := by kernel_rfl
theorem madeCells_strs (n : Nat) : madeCells (Value.string ⟨#[]⟩).cells n = ((List.replicate n (⟨#[]⟩ : ByteArray)).map Value.string).toArray := by
  apply Array.ext
  · rw [size_madeCells]; simp
  · intro i h1 h2
    simp [madeCells, Value.cells, Nat.mod_one]

section
variable {w0 w w' : World} {o o' : Nat → Nat} {i g : Nat}
theorem OInts.fints {u : Value} {l : List Int} {j : Nat} (h : OInts w o j u l) (hne : j ≠ i) : ∃ a C, u = .slice a l.length C ∧ FInts w o i a l.length l := by
  rcases Row.val h with ⟨rfl, h0, h1⟩ | ⟨g, C, rfl, hg, _, hc, _⟩
  · have : l = [] := List.eq_nil_of_length_eq_zero h0
    subst this
    exact ⟨none, 0, rfl, rfl, fun t x hx => by simp at hx⟩
  · refine ⟨_, _, rfl, rfl, fun t x hx => ⟨g, 0, rfl, ?_, by rw [hg]; exact hne⟩⟩
    rw [Nat.zero_add]
    exact hc t _ (by rw [List.getElem?_map, hx]; rfl)
theorem ints_one (k : Int) : ∀ u ∈ [Value.int .i64 k], u.oneCell' = true := by intro u hu; simp at hu; subst hu; rfl
theorem cell_new_one (w : World) (v : Value) (t : TypeId) : ∀ (j : Nat) (u : Value), [v][j]? = some u → (w.alloc (.cells #[v] t)).cell? (Addr.add ⟨w.heap.size, 0, none⟩ j) = some u := by
  intro j u h
  rw [add_zero', World.cell?_alloc_at _ _ _ _ rfl]
  match j with
  | 0 => simpa using h
  | j + 1 => simp at h
/-- u = append(u, k), of the owner j -/
theorem OInts.append {u : Value} {l : List Int} {j : Nat} (h : OInts w o j u l) (k : Int) (hl : l.length ≤ 100000) :
    ∃ v' w' o', (Builtin.append_ #[37, 37] 37 #[u, .slice (some ⟨w.heap.size, 0, none⟩) 1 1]).run Try.prog (w.alloc (.cells #[.int .i64 k] 3)) = .ok v' w' ∧ OInts w' o' j v' (l ++ [k]) ∧ Stp o j w o' w' := by
  obtain ⟨i0, hi, hz0, hz1, hz2⟩ := info_parts info_int
  have hal := Row.reads h ((Below.refl _ w).alloc (Nat.le_refl _) (.cells #[.int .i64 k] 3))
  obtain ⟨v', w', hap, hR, hS, _, _⟩ := Row.append (ty := 37) hal Try.underlying37 hi hz0 hz1 hz2 rfl (by decide) ⟨w.heap.size, 0, none⟩ 1 1 [.int .i64 k] rfl (cell_new_one w _ _) (ints_one k) (by simp [maxLen]; omega) (by omega)
  refine ⟨v', w', _, hap, ?_, (Stp.alloc o j w _).trans hS⟩
  show Row w' _ j 3 1 v' (l ++ [k]).length ((l ++ [k]).map (Value.int .i64))
  rw [List.length_append, List.map_append]; exact hR
theorem strs_append {u : Value} {l : List ByteArray} {j : Nat} (h : Row w o j 9 1 u l.length (l.map Value.string)) (s : ByteArray) (hl : l.length ≤ 100000) :
    ∃ g' C' w' o', (Builtin.append_ #[49, 49] 49 #[u, .slice (some ⟨w.heap.size, 0, none⟩) 1 1]).run Try.prog (w.alloc (.cells #[.string s] 9)) = .ok (.slice (some ⟨g', 0, none⟩) (l.length + 1) C') w' ∧ Row w' o' j 9 1 (.slice (some ⟨g', 0, none⟩) (l.length + 1) C') (l ++ [s]).length ((l ++ [s]).map Value.string) ∧ Stp o j w o' w' := by
  obtain ⟨i0, hi, hz0, hz1, hz2⟩ := info_parts info_str
  have hal := Row.reads h ((Below.refl _ w).alloc (Nat.le_refl _) (.cells #[.string s] 9))
  obtain ⟨v', w', hap, hR, hS, _, _⟩ := Row.append (ty := 49) hal Try.underlying49 hi hz0 hz1 hz2 rfl (by decide) ⟨w.heap.size, 0, none⟩ 1 1 [.string s] rfl (cell_new_one w _ _) (by intro u hu; simp at hu; subst hu; rfl) (by simp [maxLen]; omega) (by omega)
  rcases hR.val with ⟨_, h, _⟩ | ⟨g', C', rfl, _⟩
  · omega
  · refine ⟨g', C', w', _, hap, ?_, (Stp.alloc o j w _).trans hS⟩
    rw [List.length_append, List.map_append]; exact hR
end
theorem info_strs : (Try.prog.info? 49).map (fun i => (i.zero, i.size, i.bytes)) = some (some (.slice none 0 0), 1, 24) := by kernel_rfl
theorem madeCells_nils (n : Nat) : madeCells (Value.slice none 0 0).cells n = (List.replicate n (Value.slice none 0 0)).toArray := by
  apply Array.ext
  · rw [size_madeCells]; simp
  · intro i h1 h2
    simp [madeCells, Value.cells, Nat.mod_one]
end Go.Proofs.Ythjlbfijfpfohaa

namespace Go.Proofs.Ythjlbfijfpfohaa
open Go.RowKit Go.ChangeMaps

section
variable {P : Program}
/-- an append in a region that draws its order, by its run equation -/
theorem step_append_run {ops : Array Oper} {o : Oper} {a : Act} {K : Act → World → Prop} {Q : Exit → Act → World → Prop} {E : Prop} {w : World} (hgd : o.guard = none) (sl x : Operand) (t u : TypeId)
    (ho : o.op = .call { callee := .builtin .append, args := #[sl, x], argTypes := #[t, u] }) (v xv : Value) (hs : a.eval sl = v) (hx : a.eval x = xv) (v' : Value) (w' : World)
    (hr : (Builtin.append_ #[t, u] o.type #[v, xv]).run P w = .ok v' w') (h : K (a.put o.dst v') w') : if Region.wanted o (yielded ops a.tmps) = true then Oper.wp P o a w K Q else E := by
  have hw : Region.wanted o (yielded ops a.tmps) = true := by simp [Region.wanted, hgd]
  rw [if_pos hw]
  unfold Oper.wp execOp
  simp only [ho, resolve, invoke, builtin, Sem.run_bind, Sem.run_pure, Result.andThen_ok, List.map_toArray, List.map_cons, List.map_nil, hs, hx, hr]
  exact h
end

/-- the document's disk, of the owner i: block p has its pages (vl) and its writes (vw) -/
structure IsN (w : World) (o : Nat → Nat) (i p : Nat) (vl vw : Value) (S : List ByteArray) (Ws : Wrs) : Prop where
  hp : w.heap[p]? = some (.cells #[vl, vw] 62 (0, 0))
  hl : Row w o i 9 1 vl S.length (S.map Value.string)
  hv : Row w o i 89 2 vw Ws.length (wcells Ws)
  op : o p = i
  n2 : S.length ≤ 1024
  sz : ∀ s ∈ S, s.size = 256
  ws : ∀ x ∈ Ws, x.1 < S.length ∧ x.2.size = 256
section
variable {w w' : World} {o o' : Nat → Nat} {i j p : Nat} {vl vw : Value} {S : List ByteArray} {Ws : Wrs}
theorem IsN.c0 (h : IsN w o i p vl vw S Ws) : w.cell? ⟨p, 0, none⟩ = some vl := by simp [World.cell?, h.hp]
theorem IsN.c1 (h : IsN w o i p vl vw S Ws) : w.cell? ⟨p, 1, none⟩ = some vw := by simp [World.cell?, h.hp]
theorem IsN.fz (h : IsN w o i p vl vw S Ws) (k : Nat) : w.frozen? ⟨p, k, none⟩ = false := by simp [World.frozen?, h.hp]
theorem IsN.ltp (h : IsN w o i p vl vw S Ws) : p < w.heap.size := (Array.getElem?_eq_some_iff.1 h.hp).1
theorem IsN.npl (h : IsN w o i p vl vw S Ws) : vl.ownBlock ≠ some p := fun e => by
  rcases h.hl.row.2 with ⟨rfl, _⟩ | ⟨g, C, cur, rfl, _, hg, _⟩
  · cases e
  · cases e; rw [h.hp] at hg; cases hg
theorem IsN.npv (h : IsN w o i p vl vw S Ws) : vw.ownBlock ≠ some p := fun e => by
  rcases h.hv.row.2 with ⟨rfl, _⟩ | ⟨g, C, cur, rfl, _, hg, _⟩
  · cases e
  · cases e; rw [h.hp] at hg; cases hg
theorem IsN.nlv (h : IsN w o i p vl vw S Ws) {g : Nat} (h1 : vl.ownBlock = some g) : vw.ownBlock ≠ some g := fun e => by
  rcases h.hv.row.2 with ⟨rfl, _⟩ | ⟨g', C, cur, rfl, _, hg, _⟩
  · cases e
  · cases e
    rcases h.hl.row.2 with ⟨rfl, _⟩ | ⟨g', C, cur, rfl, _, hg', _⟩
    · cases h1
    · cases h1; rw [hg] at hg'; cases hg'
theorem IsN.other (h : IsN w o j p vl vw S Ws) (s : Stp o i w o' w') (hne : j ≠ i) : IsN w' o' j p vl vw S Ws :=
  ⟨(s.blk p h.ltp (by rw [h.op]; exact hne)).trans h.hp, h.hl.other s hne, h.hv.other s hne, (s.own p h.ltp).trans h.op, h.n2, h.sz, h.ws⟩
theorem IsN.reads (h : IsN w o i p vl vw S Ws) (b : Below w.heap.size w w') : IsN w' o i p vl vw S Ws :=
  ⟨(b.block p h.ltp).trans h.hp, h.hl.reads b, h.hv.reads b, h.op, h.n2, h.sz, h.ws⟩
theorem IsN.alloc (h : IsN w o i p vl vw S Ws) (x : Obj) : IsN (w.alloc x) o i p vl vw S Ws := h.reads ((Below.refl _ w).alloc (Nat.le_refl _) x)
theorem IsN.drew (h : IsN w o i p vl vw S Ws) : IsN w.drew o i p vl vw S Ws := ⟨h.hp, ⟨ownsRow_same h.hl.row (fun _ _ => rfl), h.hl.own⟩, ⟨ownsRow_same h.hv.row (fun _ _ => rfl), h.hv.own⟩, h.op, h.n2, h.sz, h.ws⟩
theorem IsN.slots (h : IsN w o i p vl vw S Ws) : ∃ a C b D, vl = .slice a S.length C ∧ vw = .slice b Ws.length D := by
  have h1 : ∃ a C, vl = .slice a S.length C := by
    rcases h.hl.val with ⟨rfl, h, _⟩ | ⟨g, C, rfl, _⟩
    · exact ⟨none, 0, by rw [h]⟩
    · exact ⟨_, _, rfl⟩
  have h2 : ∃ a C, vw = .slice a Ws.length C := by
    rcases h.hv.val with ⟨rfl, h, _⟩ | ⟨g, C, rfl, _⟩
    · exact ⟨none, 0, by rw [h]⟩
    · exact ⟨_, _, rfl⟩
  obtain ⟨a, C, rfl⟩ := h1
  obtain ⟨b, D, rfl⟩ := h2
  exact ⟨a, C, b, D, rfl, rfl⟩
/-- where page k is -/
theorem IsN.lat {a : Option Addr} {C : Nat} (h : IsN w o i p (.slice a S.length C) vw S Ws) (k : Nat) (s : ByteArray) (hs : S[k]? = some s) : ∃ g, a = some ⟨g, 0, none⟩ ∧ w.cell? ⟨g, k, none⟩ = some (.string s) ∧ w.frozen? ⟨g, k, none⟩ = false := by
  have hlt := (List.getElem?_eq_some_iff.1 hs).1
  rcases h.hl.val with ⟨_, h, _⟩ | ⟨g, C', hv, _, _, hc, hf⟩
  · omega
  · cases hv
    exact ⟨g, rfl, hc k _ (by rw [List.getElem?_map, hs]; rfl), hf k⟩
theorem IsN.wat {b : Option Addr} {D : Nat} (h : IsN w o i p vl (.slice b Ws.length D) S Ws) (t : Nat) (x : Nat × ByteArray) (hx : Ws[t]? = some x) : ∃ g, b = some ⟨g, 0, none⟩ ∧ w.cell? ⟨g, t * 2, none⟩ = some (.int .i64 (x.1 : Int)) ∧ w.cell? ⟨g, t * 2 + 1, none⟩ = some (.string x.2) := by
  have hlt := (List.getElem?_eq_some_iff.1 hx).1
  obtain ⟨h1, h2⟩ := wcells_get Ws t x hx
  rcases h.hv.val with ⟨_, h, _⟩ | ⟨g, C', hv, _, _, hc, _⟩
  · omega
  · cases hv
    exact ⟨g, rfl, hc _ _ h1, hc _ _ h2⟩
/-- L[k] = s -/
theorem IsN.setL {g C : Nat} (h : IsN w o i p (.slice (some ⟨g, 0, none⟩) S.length C) vw S Ws) (k : Nat) (s : ByteArray) (hk : k < S.length) (hs : s.size = 256) :
    IsN (w.setCell ⟨g, k, none⟩ (.string s)) o i p (.slice (some ⟨g, 0, none⟩) S.length C) vw (S.set k s) Ws ∧ Stp o i w o (w.setCell ⟨g, k, none⟩ (.string s)) := by
  have og : o g = i := h.hl.own g rfl
  have hng : ∀ b, b ≠ g → (w.setCell ⟨g, k, none⟩ (.string s)).heap[b]? = w.heap[b]? := fun b hb => Below.heap_setCell _ _ _ _ hb
  refine ⟨⟨(hng p (fun e => h.npl (by rw [e]; rfl))).trans h.hp, ?_, ⟨ownsRow_same h.hv.row (fun b hb => hng b (fun e => h.nlv rfl (by rw [hb, e]))), h.hv.own⟩, h.op, by simpa using h.n2, ?_, fun x hx => by rw [List.length_set]; exact h.ws x hx⟩, Stp.setCell o i w g k _ og⟩
  · have := h.hl.set k (.string s) hk
    rw [List.length_set, List.map_set]; exact this
  · intro y hy
    rcases List.mem_or_eq_of_mem_set hy with hy | rfl
    · exact h.sz y hy
    · exact hs
/-- other writes -/
theorem IsN.wrote {vw' : Value} {Ws' : Wrs} (h : IsN w o i p vl vw S Ws) (hg : w.grownBy w' vw.ownBlock) (hr : Row w' o' i 89 2 vw' Ws'.length (wcells Ws')) (hl : vw'.ownBlock = vw.ownBlock ∨ vw'.ownBlock = some w.heap.size ∨ vw'.ownBlock = none)
    (ho : ∀ k, k < w.heap.size → o' k = o k) (hw : ∀ x ∈ Ws', x.1 < S.length ∧ x.2.size = 256) : IsN (w'.setCell ⟨p, 1, none⟩ vw') o' i p vl vw' S Ws' := by
  have hp := (hg.block p h.ltp (fun e => h.npv e.symm)).trans h.hp
  have hne : vw'.ownBlock ≠ some p := by
    intro e
    rcases hl with h1 | h1 | h1
    · exact h.npv (h1.symm.trans e)
    · have := h1.symm.trans e; have hlt := h.ltp; cases this; omega
    · rw [h1] at e; cases e
  refine ⟨heap_setCell_at _ _ _ _ _ _ hp, ?_, ⟨ownsRow_same hr.row (fun g hg => Below.heap_setCell _ _ _ _ (fun e => hne (by rw [hg]; exact congrArg some e))), hr.own⟩, (ho p h.ltp).trans h.op, h.n2, h.sz, hw⟩
  refine ⟨ownsRow_same h.hl.row (fun g hg1 => ?_), fun g hg1 => (ho g (h.hl.lt hg1)).trans (h.hl.own g hg1)⟩
  exact (Below.heap_setCell _ _ _ _ (fun e => h.npl (by rw [hg1]; exact congrArg some e))).trans (hg.block g (h.hl.lt hg1) (fun e => h.nlv hg1 e.symm))
theorem IsN.cleared (h : IsN w o i p vl vw S Ws) : IsN (w.setCell ⟨p, 1, none⟩ (.slice none 0 0)) o i p vl (.slice none 0 0) S [] :=
  h.wrote ⟨rfl, rfl, rfl, Nat.le_refl _, fun _ _ _ => rfl⟩ (Row.nil _ _ _ _ _) (.inr (.inr rfl)) (fun _ _ => rfl) (fun x hx => by simp at hx)
end
/-- .. wherever its rows lie -/
def IsR (w : World) (o : Nat → Nat) (i p : Nat) (S : List ByteArray) (Ws : Wrs) : Prop := ∃ vl vw, IsN w o i p vl vw S Ws
section
variable {w w' : World} {o o' : Nat → Nat} {i j p : Nat} {S : List ByteArray} {Ws : Wrs}
theorem IsR.other (h : IsR w o j p S Ws) (s : Stp o i w o' w') (hne : j ≠ i) : IsR w' o' j p S Ws := by obtain ⟨m, v, h⟩ := h; exact ⟨m, v, h.other s hne⟩
theorem IsR.reads (h : IsR w o i p S Ws) (b : Below w.heap.size w w') : IsR w' o i p S Ws := by obtain ⟨m, v, h⟩ := h; exact ⟨m, v, h.reads b⟩
theorem IsR.drew (h : IsR w o i p S Ws) : IsR w.drew o i p S Ws := by obtain ⟨m, v, h⟩ := h; exact ⟨m, v, h.drew⟩

set_option maxRecDepth 100000 in
set_option maxHeartbeats 400000 in
theorem rraw_out (H : IsR w o i p S Ws) (x : Int) (hx : x < 0 ∨ (S.length : Int) ≤ x) :
    Calls Try.prog 22 #[.pointer (some ⟨p, 0, none⟩), .int .i64 x] w fun e w' => e = .returned (.string ⟨#[]⟩) ∧ w = w' := by
  obtain ⟨vl, vw, H⟩ := H
  obtain ⟨a, C, b, D, rfl, rfl⟩ := H.slots
  have c0 := H.c0
  have hm := H.n2
  clear H
  by_cases h0 : x < 0
  · clear hx
    go_enter Try.func22, Try.ntmps22
    go_wp2
    go_ret
    exact ⟨rfl, rfl⟩
  · have h1 := hx.resolve_left h0
    have h2 : (0 : Int) ≤ x := by omega
    clear hx h0
    go_enter Try.func22, Try.ntmps22
    go_wp2
    go_ret
    exact ⟨rfl, rfl⟩
set_option maxRecDepth 100000 in
set_option maxHeartbeats 400000 in
theorem rraw_in (H : IsR w o i p S Ws) (k : Nat) (s : ByteArray) (hs : S[k]? = some s) (hW : Ws.length ≤ 1000000) :
    Calls Try.prog 22 #[.pointer (some ⟨p, 0, none⟩), .int .i64 (k : Int)] w fun e w' => e = .returned (.string (rawAt Ws k s)) ∧ w = w' := by
  obtain ⟨vl, vw, H⟩ := H
  obtain ⟨a, C, b, D, rfl, rfl⟩ := H.slots
  have c0 := H.c0
  have c1 := H.c1
  have hm := H.n2
  have hk := (List.getElem?_eq_some_iff.1 hs).1
  obtain ⟨g, rfl, cg, _⟩ := H.lat k s hs
  have h1 : (0 : Int) ≤ (k : Int) := by omega
  have h2 : (k : Int) < (S.length : Int) := by omega
  have HH := Lib.hid H
  clear H hs
  go_enter Try.func22, Try.ntmps22
  go_wp2
  go_loop [5, 6] (fun u c => ∃ t : Nat, t ≤ Ws.length ∧ u = .string (rawAt (Ws.take t) k s) ∧ c = .int .i64 (t : Int)) (fun _ c => Ws.length - (intOf c).toNat)
  case atStart => exact ⟨0, by omega, rfl, rfl⟩
  case round =>
    obtain ⟨t, ht, rfl, rfl⟩ := hrel
    by_cases hlt : t < Ws.length
    · have h3 : (t : Int) < (Ws.length : Int) := by omega
      have h4 : (0 : Int) ≤ (t : Int) := by omega
      obtain ⟨⟨k', s'⟩, hx⟩ : ∃ x, Ws[t]? = some x := ⟨_, List.getElem?_eq_getElem hlt⟩
      obtain ⟨g', rfl, d0, d1⟩ := HH.out.wat t _ hx
      have HX := Lib.hid (show rawAt (Ws.take (t + 1)) k s = if k' = k then s' else rawAt (Ws.take t) k s by rw [List.take_add_one, hx]; exact rawAt_snoc _ _ _ _)
      clear HH hx
      generalize rawAt (Ws.take t) k s = R at *
      by_cases e : k' = k
      · subst e
        go_wp2
        exact ⟨⟨t + 1, by omega, by rw [HX.out, if_pos rfl], by go_num⟩, by simp [intOf]; omega⟩
      · have e' : ((k' : Int) == (k : Int)) = false := by rw [beq_eq_false_iff_ne]; omega
        go_wp2
        exact ⟨⟨t + 1, by omega, by rw [HX.out, if_neg e], by go_num⟩, by simp [intOf]; omega⟩
    · obtain rfl : t = Ws.length := by omega
      rw [List.take_length]
      go_wp2
      go_ret
      exact ⟨rfl, rfl⟩
set_option maxRecDepth 100000 in
set_option maxHeartbeats 400000 in
theorem rread_out (H : IsR w o i p S Ws) (x : Int) (hx : x < 0 ∨ (S.length : Int) ≤ x) :
    Calls Try.prog 79 #[.pointer (some ⟨p, 0, none⟩), .int .i64 x] w fun e w' => e = .returned (.tuple #[.string ⟨#[]⟩, .int .i64 1]) ∧ w = w' := by
  obtain ⟨vl, vw, H⟩ := H
  obtain ⟨a, C, b, D, rfl, rfl⟩ := H.slots
  have c0 := H.c0
  have hm := H.n2
  clear H
  by_cases h0 : x < 0
  · clear hx
    go_enter Try.func79, Try.ntmps79
    go_wp2
    go_ret2
    exact ⟨rfl, rfl⟩
  · have h1 := hx.resolve_left h0
    have h2 : (0 : Int) ≤ x := by omega
    clear hx h0
    go_enter Try.func79, Try.ntmps79
    go_wp2
    go_ret2
    exact ⟨rfl, rfl⟩
theorem ropen_both (p : ByteArray) (w : World) (h : p.size = 256) :
    Calls Try.prog 87 #[.string p] w fun e w' => e = .returned (.tuple #[.string (readOf p), .int .i64 (errOf p)]) ∧ Below w.heap.size w w' := by
  unfold readOf errOf
  cases ho : okPage p
  · simpa using ropen_sum p w h ho
  · simpa using ropen_ok p w h ho
set_option maxRecDepth 100000 in
set_option maxHeartbeats 400000 in
theorem rread_in (H : IsR w o i p S Ws) (k : Nat) (s : ByteArray) (hs : S[k]? = some s) (hW : Ws.length ≤ 1000000) :
    Calls Try.prog 79 #[.pointer (some ⟨p, 0, none⟩), .int .i64 (k : Int)] w fun e w' => e = .returned (.tuple #[.string (readOf (rawAt Ws k s)), .int .i64 (errOf (rawAt Ws k s))]) ∧ Below w.heap.size w w' := by
  have C1 := Lib.hid (rraw_in H k s hs hW)
  obtain ⟨vl, vw, H⟩ := H
  have C2 := Lib.hid (fun w => ropen_both (rawAt Ws k s) w (rawAt_size Ws k s (fun x hx => (H.ws x hx).2) (H.sz s (List.mem_of_getElem? hs))))
  obtain ⟨a, C, b, D, rfl, rfl⟩ := H.slots
  have c0 := H.c0
  have hm := H.n2
  have hk := (List.getElem?_eq_some_iff.1 hs).1
  have h1 : (0 : Int) ≤ (k : Int) := by omega
  have h2 : (k : Int) < (S.length : Int) := by omega
  clear H hs
  generalize rawAt Ws k s = R at *
  generalize readOf R = R2 at *
  generalize errOf R = E2 at *
  go_enter Try.func79, Try.ntmps79
  go_wp2_with fail
  refine C1.out.mono ?_; rintro e w1 ⟨rfl, rfl⟩
  go_wp2_with fail
  refine (C2.out _).mono ?_; rintro e w1 ⟨rfl, b1⟩
  go_wp2
  go_ret2
  exact ⟨rfl, b1⟩
set_option maxRecDepth 100000 in
set_option maxHeartbeats 400000 in
theorem rwrite_arg (H : IsR w o i p S Ws) (x : Int) (hx : x < 0 ∨ (S.length : Int) ≤ x) (s : ByteArray) :
    Calls Try.prog 70 #[.pointer (some ⟨p, 0, none⟩), .int .i64 x, .string s] w fun e w' => e = .returned (.int .i64 1) ∧ Below w.heap.size w w' := by
  obtain ⟨vl, vw, H⟩ := H
  obtain ⟨a, C, b, D, rfl, rfl⟩ := H.slots
  have c0 := H.c0
  have hm := H.n2
  clear H
  by_cases h0 : x < 0
  · clear hx
    go_enter Try.func70, Try.ntmps70
    go_wp2
    go_ret
    exact ⟨rfl, Below.refl _ _⟩
  · have h1 := hx.resolve_left h0
    have h2 : (0 : Int) ≤ x := by omega
    clear hx h0
    go_enter Try.func70, Try.ntmps70
    go_wp2
    go_ret
    exact ⟨rfl, Below.refl _ _⟩
set_option maxRecDepth 100000 in
set_option maxHeartbeats 400000 in
theorem rwrite_big (H : IsR w o i p S Ws) (k : Nat) (hk : k < S.length) (s : ByteArray) (hs : 252 < s.size) (hs2 : s.size ≤ 1000000) :
    Calls Try.prog 70 #[.pointer (some ⟨p, 0, none⟩), .int .i64 (k : Int), .string s] w fun e w' => e = .returned (.int .i64 2) ∧ Below w.heap.size w w' := by
  obtain ⟨vl, vw, H⟩ := H
  obtain ⟨a, C, b, D, rfl, rfl⟩ := H.slots
  have c0 := H.c0
  have hm := H.n2
  have C1 := Lib.hid (rseal_big s w hs hs2)
  have h1 : (0 : Int) ≤ (k : Int) := by omega
  have h2 : (k : Int) < (S.length : Int) := by omega
  clear H hs
  go_enter Try.func70, Try.ntmps70
  go_wp2_with fail
  refine C1.out.mono ?_; rintro e w1 ⟨rfl, rfl⟩
  go_wp2
  go_ret
  exact ⟨rfl, Below.refl _ _⟩
theorem info_rwrite : (Try.prog.info? 89).map (fun i => (i.zero, i.size, i.bytes)) = some (some (.agg #[.int .i64 0, .string ⟨#[]⟩]), 2, 24) := by kernel_rfl
set_option maxRecDepth 100000 in
set_option maxHeartbeats 1000000 in
theorem rwrite_ok (H : IsR w o i p S Ws) (k : Nat) (hk : k < S.length) (s : ByteArray) (hs : s.size ≤ 252) (hW : Ws.length ≤ 100000) :
    Calls Try.prog 70 #[.pointer (some ⟨p, 0, none⟩), .int .i64 (k : Int), .string s] w fun e w' => ∃ o', e = .returned (.int .i64 0) ∧ IsR w' o' i p S (Ws ++ [(k, pageOf s)]) ∧ Stp o i w o' w' := by
  obtain ⟨vl, vw, H⟩ := H
  obtain ⟨a, C, b, D, rfl, rfl⟩ := H.slots
  have c0 := H.c0
  have hm := H.n2
  have C1 := Lib.hid (rseal_ok s w hs)
  have h1 : (0 : Int) ≤ (k : Int) := by omega
  have h2 : (k : Int) < (S.length : Int) := by omega
  have hps := pageOf_size s hs
  generalize pageOf s = Q at *
  have HH := Lib.hid H
  clear H hs
  go_enter Try.func70, Try.ntmps70
  go_wp2_with fail
  refine C1.out.mono ?_; rintro e w1 ⟨rfl, b1⟩
  have H1 := HH.out.reads b1
  have c1 := H1.c1
  have H4 := H1.alloc (.cells #[.int .i64 (k : Int), .string Q] 89)
  have st4 := (Stp.ofBelow b1 o i).trans (Stp.alloc o i w1 (.cells #[.int .i64 (k : Int), .string Q] 89))
  obtain ⟨i0, hi, hz0, hz1, hz2⟩ := info_parts info_rwrite
  obtain ⟨v', w5, hap, hR5, hS5, hG5, hL5⟩ := H4.hv.append (ty := 60) Try.underlying60 hi hz0 hz1 hz2 rfl (by decide) ⟨w1.heap.size, 0, none⟩ 1 1 [.int .i64 (k : Int), .string Q] rfl (cell_two_new w1 _ _ _) (by intro u hu; simp at hu; rcases hu with rfl | rfl <;> rfl) (by simp [maxLen]; omega) (by omega)
  obtain ⟨g5, C5, rfl⟩ : ∃ g C, v' = .slice (some ⟨g, 0, none⟩) (Ws.length + 1) C := by
    rcases hR5.val with ⟨_, h, _⟩ | ⟨g, C, h, _⟩
    · omega
    · exact ⟨g, C, h⟩
  have HAP := Lib.hid hap; clear hap
  have cp5 := (World.cell?_of_block (hG5.block p H4.ltp (fun e => H4.npv e.symm)) (a := ⟨p, 1, none⟩)).trans H4.c1
  have fp5 := (World.frozen?_of_block (hG5.block p H4.ltp (fun e => H4.npv e.symm)) (a := ⟨p, 1, none⟩)).trans (H4.fz 1)
  have e1 : wcells Ws ++ [.int .i64 (k : Int), .string Q] = wcells (Ws ++ [(k, Q)]) := by rw [wcells_append]; rfl
  have H5 := Lib.hid (H4.wrote (Ws' := Ws ++ [(k, Q)]) hG5 (by rw [e1] at hR5; simpa using hR5) (by rcases hL5 with h | h; exact .inl h; exact .inr (.inl h)) (fun k hk => gives_old hk) (by
    intro x hx
    rcases List.mem_append.1 hx with hx | hx
    · exact H4.ws x hx
    · simp at hx; subst hx; exact ⟨hk, hps⟩))
  have st5 := Lib.hid ((st4.trans hS5).trans (Stp.setCell _ i w5 p 1 (.slice (some ⟨g5, 0, none⟩) (Ws.length + 1) C5) ((hS5.own p H4.ltp).trans H4.op)))
  clear H1 H4 st4 hR5 hS5 hG5 hL5 e1 hi hz0 hz1 hz2 HH c0
  go_wp2_with (at_builtin; refine wpList_append_run rfl (.tmp 32) (.tmp 36) _ _ rfl _ _ rfl rfl _ _ HAP.out ?_)
  go_ret
  exact ⟨_, rfl, ⟨_, _, H5.out⟩, st5.out⟩
end
end Go.Proofs.Ythjlbfijfpfohaa

namespace Go.Proofs.Ythjlbfijfpfohaa
open Go.RowKit Go.ChangeMaps

section
variable {w w' : World} {o o' : Nat → Nat} {i j p : Nat} {vl vw : Value} {S : List ByteArray} {Ws : Wrs}
theorem crN_step (S : List ByteArray) (Ws : Wrs) (fs : List Int) (t : Nat) (x : Nat × ByteArray) (f : Int) (q : ByteArray) (hx : Ws[t]? = some x) (hf : fs.getD t 0 = f) (hq : (crN S Ws fs t)[x.1]? = some q) :
    crN S Ws fs (t + 1) = (crN S Ws fs t).set x.1 (leftOf f x.2 q) := by
  simp only [crN]
  rw [hf, List.getD_eq_getElem?_getD, hx, List.getD_eq_getElem?_getD]
  simp only [Option.getD_some]
  rw [hq]; rfl
theorem leftOf_kept (s t : ByteArray) : leftOf 1 s t = s := rfl
theorem leftOf_torn (s t : ByteArray) : leftOf 2 s t = tornOf s t := rfl
set_option maxRecDepth 100000 in
set_option maxHeartbeats 1000000 in
theorem rsync_any (H : IsR w o i p S Ws) (hW : Ws.length ≤ 1000000) :
    Calls Try.prog 46 #[.pointer (some ⟨p, 0, none⟩)] w fun e w' => e = .returned (.tuple #[]) ∧ IsR w' o i p (syncOf S Ws) [] ∧ Stp o i w o w' := by
  obtain ⟨vl, vw, H⟩ := H
  obtain ⟨a, C, b, D, rfl, rfl⟩ := H.slots
  have HH := Lib.hid H; clear H
  go_enter Try.func46, Try.ntmps46
  go_wp2
  go_loopw [2] (fun c wr => ∃ t : Nat, t ≤ Ws.length ∧ c = .int .i64 (t : Int) ∧ IsN wr o i p (.slice a S.length C) (.slice b Ws.length D) (crN S Ws (List.replicate Ws.length 1) t) Ws ∧ Stp o i w o wr) (fun c _ => Ws.length - (intOf c).toNat)
  case atStart => exact ⟨0, by omega, rfl, HH.out, Stp.refl _ _ _⟩
  case round =>
    obtain ⟨t, ht, rfl, hN, hS⟩ := hrel
    clear HH
    have hcl := crN_length S Ws (List.replicate Ws.length 1) t
    have c1 := hN.c1
    by_cases hlt : t < Ws.length
    · have h0 : (t : Int) < (Ws.length : Int) := by omega
      have h00 : (0 : Int) ≤ (t : Int) := by omega
      obtain ⟨⟨k, s⟩, hx⟩ : ∃ x, Ws[t]? = some x := ⟨_, List.getElem?_eq_getElem hlt⟩
      have hxw := hN.ws _ (List.mem_of_getElem? hx)
      dsimp only at hxw
      obtain ⟨gw, rfl, d0, d1⟩ := hN.wat t _ hx
      obtain ⟨q, hq⟩ : ∃ q, (crN S Ws (List.replicate Ws.length 1) t)[k]? = some q := ⟨_, List.getElem?_eq_getElem hxw.1⟩
      have HE := Lib.hid (crN_step S Ws _ t (k, s) 1 q hx (by rw [List.getD_eq_getElem?_getD, List.getElem?_replicate, if_pos hlt]; rfl) hq)
      rw [leftOf_kept] at HE
      dsimp only at HE d0 d1
      rw [← hcl] at hN
      obtain ⟨g, rfl, cg, fg⟩ := hN.lat k q hq
      have c0 := hN.c0
      rw [hcl] at c0
      obtain ⟨hN2, s2⟩ := hN.drew.setL k s hxw.1 hxw.2
      have hkS : (k : Int) < (S.length : Int) := by omega
      have hk0 : (0 : Int) ≤ (k : Int) := by omega
      rw [hcl] at hN2
      have HN := Lib.hid hN2
      have HS := Lib.hid ((hS.trans (Stp.drew o i wr)).trans s2)
      clear hN hN2 s2 hS hq hxw hx hcl
      go_wp2_with fail
      go_still_tail 21, (by kernel_rfl)
      change wpList _ _ _ _ _ wr.drew
      go_wp2
      exact ⟨⟨t + 1, by omega, by go_num, by rw [HE.out]; exact HN.out, HS.out⟩, by simp [intOf]; omega⟩
    · obtain rfl : t = Ws.length := by omega
      have f1 := hN.fz 1
      have HC := Lib.hid hN.cleared
      have HS := Lib.hid (hS.trans (Stp.setCell o i wr p 1 (.slice none 0 0) hN.op))
      clear hN hS
      go_wp2
      go_end0
      exact ⟨rfl, ⟨_, _, HC.out⟩, HS.out⟩
set_option maxRecDepth 100000 in
set_option maxHeartbeats 2000000 in
theorem rcrash_any (H : IsR w o i p S Ws) (hW : Ws.length ≤ 1000000) (fa : Option Addr) (fl fc : Nat) (fs : List Int) (HF : FInts w o i fa fl fs) (hfl : fl ≤ 1000000) :
    Calls Try.prog 19 #[.pointer (some ⟨p, 0, none⟩), .slice fa fl fc] w fun e w' => e = .returned (.tuple #[]) ∧ IsR w' o i p (crashOf S Ws fs) [] ∧ Stp o i w o w' := by
  obtain ⟨vl, vw, H⟩ := H
  obtain ⟨a, C, b, D, rfl, rfl⟩ := H.slots
  have HH := Lib.hid H; have HF0 := Lib.hid HF; clear H HF
  go_enter Try.func19, Try.ntmps19
  go_wp2
  go_loopw [4] (fun c wr => ∃ t : Nat, t ≤ Ws.length ∧ t ≤ fl ∧ c = .int .i64 (t : Int) ∧ IsN wr o i p (.slice a S.length C) (.slice b Ws.length D) (crN S Ws fs t) Ws ∧ Stp o i w o wr) (fun c _ => Ws.length - (intOf c).toNat)
  case atStart => exact ⟨0, by omega, by omega, rfl, HH.out, Stp.refl _ _ _⟩
  case round =>
    obtain ⟨t, ht, htf, rfl, hN, hS⟩ := hrel
    clear HH
    have hcl := crN_length S Ws fs t
    have c1 := hN.c1
    have hFr := HF0.out.stp hS
    by_cases hc : t < Ws.length ∧ t < fl
    · obtain ⟨hlt, hf⟩ := hc
      have h0 : (t : Int) < (Ws.length : Int) := by omega
      have h01 : (t : Int) < (fl : Int) := by omega
      have h00 : (0 : Int) ≤ (t : Int) := by omega
      obtain ⟨⟨k, s⟩, hx⟩ : ∃ x, Ws[t]? = some x := ⟨_, List.getElem?_eq_getElem hlt⟩
      have hxw := hN.ws _ (List.mem_of_getElem? hx)
      dsimp only at hxw
      obtain ⟨gw, rfl, d0, d1⟩ := hN.wat t _ hx
      obtain ⟨q, hq⟩ : ∃ q, (crN S Ws fs t)[k]? = some q := ⟨_, List.getElem?_eq_getElem hxw.1⟩
      have hq256 := hN.sz q (List.mem_of_getElem? hq)
      have HQ := Lib.hid hq
      obtain ⟨f, hfx⟩ : ∃ f, fs[t]? = some f := ⟨_, List.getElem?_eq_getElem (by rw [hFr.1]; exact hf)⟩
      obtain ⟨fb, fo, rfl, hfc, hfo⟩ := hFr.2 t f hfx
      have HE := Lib.hid (crN_step S Ws fs t (k, s) f q hx (by rw [List.getD_eq_getElem?_getD, hfx]; rfl) hq)
      dsimp only at HE d0 d1
      rw [← hcl] at hN
      obtain ⟨g, rfl, cg, fg⟩ := hN.lat k q hq
      have hkS : (k : Int) < (S.length : Int) := by omega
      have hk0 : (0 : Int) ≤ (k : Int) := by omega
      have c0 := hN.c0
      rw [hcl] at c0
      -- the write is copied into a box of its own
      have hNa := hN.alloc (.cells #[.int .i64 (k : Int), .string s] 89)
      have hSa := hS.trans (Stp.alloc o i wr (.cells #[.int .i64 (k : Int), .string s] 89))
      have hBa := (Below.refl wr.heap.size wr).alloc (Nat.le_refl _) (.cells #[.int .i64 (k : Int), .string s] 89)
      have a0 : (wr.alloc (.cells #[.int .i64 (k : Int), .string s] 89)).cell? ⟨wr.heap.size, 0, none⟩ = some (.int .i64 (k : Int)) := by rw [World.cell?_alloc_at _ _ _ _ rfl]; rfl
      have a1 : (wr.alloc (.cells #[.int .i64 (k : Int), .string s] 89)).cell? ⟨wr.heap.size, 1, none⟩ = some (.string s) := by rw [World.cell?_alloc_at _ _ _ _ rfl]; rfl
      have a2 := (hBa.cell (p := ⟨p, 0, none⟩) hN.ltp).trans c0
      have a3 := (hBa.cell (p := ⟨g, k, none⟩) (World.block_lt_of_cell? wr _ cg)).trans cg
      have a4 := (hBa.frozen (p := ⟨g, k, none⟩) (World.block_lt_of_cell? wr _ cg)).trans fg
      have a5 := (hBa.cell (p := ⟨fb, fo + t, none⟩) (World.block_lt_of_cell? wr _ hfc)).trans hfc
      have og : o g = i := hN.hl.own g rfl
      have hfg : fb ≠ g := fun e => hfo (by rw [e]; exact og)
      have far : ∀ (W : World) (u : Value), (W.setCell ⟨g, k, none⟩ u).cell? ⟨fb, fo + t, none⟩ = W.cell? ⟨fb, fo + t, none⟩ := fun W u => World.cell?_of_block (Below.heap_setCell _ _ _ _ hfg)
      clear hBa c0 cg fg hfx hx hq hN hS hfo hFr og
      have HNa := Lib.hid hNa; have HSa := Lib.hid hSa; have FAR := Lib.hid far
      clear hNa hSa far
      generalize hW0 : wr.alloc (.cells #[.int .i64 (k : Int), .string s] 89) = W0 at *
      by_cases f1 : f = 1
      · subst f1
        rw [leftOf_kept] at HE
        obtain ⟨hN2, s2⟩ := HNa.out.drew.setL k s hxw.1 hxw.2
        rw [hcl] at hN2
        have HN := Lib.hid hN2
        have HS := Lib.hid ((HSa.out.trans (Stp.drew o i W0)).trans s2)
        have a6 := (FAR.out W0.drew (.string s)).trans (show W0.drew.cell? _ = _ from a5)
        clear hN2 s2 HNa HSa hcl hxw
        go_wp2_with fail
        try rw [hW0]
        clear hW0
        generalize wr.heap.size = B at *
        go_still_tail 9, (by kernel_rfl)
        change wpList _ _ _ _ _ W0.drew
        go_wp2
        exact ⟨⟨t + 1, by omega, by omega, by go_num, by rw [HE.out]; exact HN.out, HS.out⟩, by simp [intOf]; omega⟩
      · by_cases f2 : f = 2
        · subst f2
          rw [leftOf_torn] at HE
          have C3 := Lib.hid (fun W => rtorn_any s q W (by omega) (by omega))
          have hts := tornOf_size s q hxw.2 hq256
          generalize tornOf s q = T at *
          obtain ⟨hN2, s2⟩ := HNa.out.drew.setL k T hxw.1 hts
          rw [hcl] at hN2
          have HN := Lib.hid hN2
          have HS := Lib.hid ((HSa.out.trans (Stp.drew o i W0)).trans s2)
          clear hN2 s2 HNa HSa hcl hxw f1
          go_wp2_with fail
          try rw [hW0]
          clear hW0
          generalize wr.heap.size = B at *
          refine wp_region_still_tail 18 (by kernel_rfl) (by kernel_rfl) ?_
          simp only [List.take_succ_cons, List.take_zero, List.drop_succ_cons, List.drop_zero]
          change wpStill _ _ W0.drew _ _ _
          repeat (first | still_step | still_call ((C3.out _).mono (fun e w' h => ⟨h.1, h.2.symm⟩)))
          refine wpStill_nil ?_
          go_wp2
          exact ⟨⟨t + 1, by omega, by omega, by go_num, by rw [HE.out]; exact HN.out, HS.out⟩, by simp [intOf]; omega⟩
        · rw [leftOf_lost f s q f1 f2] at HE
          have hst : (crN S Ws fs t).set k q = crN S Ws fs t := by
            apply List.ext_getElem?
            intro j
            rw [List.getElem?_set]
            split
            · rename_i e; subst e; rw [if_pos hxw.1]; exact HQ.out.symm
            · rfl
          rw [hst] at HE
          have g1 : (f == 1) = false := by rw [beq_eq_false_iff_ne]; exact f1
          have g2 : (f == 2) = false := by rw [beq_eq_false_iff_ne]; exact f2
          have HN := Lib.hid (show IsN W0 o i p (.slice (some ⟨g, 0, none⟩) S.length C) (.slice (some ⟨gw, 0, none⟩) Ws.length D) (crN S Ws fs t) Ws by rw [← hcl]; exact HNa.out)
          clear hst hcl hxw f1 f2 HNa
          go_wp2_with fail
          try rw [hW0]
          exact ⟨⟨t + 1, by omega, by omega, by go_num, by rw [HE.out]; exact HN.out, HSa.out⟩, by simp [intOf]; omega⟩
    · have f1 := hN.fz 1
      have HC := Lib.hid hN.cleared
      have HS := Lib.hid (hS.trans (Stp.setCell o i wr p 1 (.slice none 0 0) hN.op))
      have HE := Lib.hid (show crN S Ws fs t = crashOf S Ws fs by
        unfold crashOf
        by_cases e : t < Ws.length
        · have hle : fs.length ≤ t := by rw [hFr.1]; omega
          obtain ⟨d, hd⟩ : ∃ d, Ws.length = t + d := ⟨Ws.length - t, by omega⟩
          rw [hd, crN_past S Ws fs t d hle]
        · rw [show t = Ws.length by omega])
      clear hN hS hFr HF0
      by_cases h1 : t < Ws.length
      · have c2 : (t : Int) < (Ws.length : Int) := by omega
        have c3 : (fl : Int) ≤ (t : Int) := by omega
        clear hc
        go_wp2
        go_end0
        exact ⟨rfl, ⟨_, _, by rw [← HE.out]; exact HC.out⟩, HS.out⟩
      · have c2 : (Ws.length : Int) ≤ (t : Int) := by omega
        clear hc
        go_wp2
        go_end0
        exact ⟨rfl, ⟨_, _, by rw [← HE.out]; exact HC.out⟩, HS.out⟩
end
end Go.Proofs.Ythjlbfijfpfohaa

namespace Go.Proofs.Ythjlbfijfpfohaa
open Go.RowKit Go.ChangeMaps

section
variable {w w' : World} {o o' : Nat → Nat} {i j p : Nat} {vl vw : Value} {S : List ByteArray} {Ws : Wrs}
/-- append(v, u...), u a row too, nil or not -/
theorem Row.appendRow {P : Program} {t ty : TypeId} {ti : TypeInfo} {z : Value} {bytes e sz n m : Nat} {v u : Value} {xs ys : List Value} {o2 : Nat → Nat} (h : Row w o i e sz v n xs) (hu : Row w o2 j e sz u m ys) (ht : P.underlying t = some (.slice e)) (hi : P.info? e = some ti) (hz : ti.zero = some z) (hsize : ti.size = sz) (hby : ti.bytes = bytes)
    (hzs : z.cells.size = sz) (hsz : 0 < sz) (h1 : ∀ u ∈ ys, u.oneCell' = true) (h63 : n + m ≤ maxLen) (hbytes : (n + m) * bytes ≤ 140737488355328) :
    ∃ v' w', (Builtin.append_ #[t, t] ty #[v, u]).run P w = .ok v' w' ∧ Row w' (gives o w.heap.size i) i e sz v' (n + m) (xs ++ ys) ∧ Stp o i w (gives o w.heap.size i) w' ∧ w.grownBy w' v.ownBlock ∧ (v'.ownBlock = v.ownBlock ∨ v'.ownBlock = some w.heap.size) := by
  rcases hu.val with ⟨rfl, rfl, rfl⟩ | ⟨g, C, rfl, _, hlt, hc, _⟩
  · have := run_append_owned_none (P := P) (w := w) 0 t ty e ti sz ht hi v n xs h.row
    refine ⟨v, w, this, ?_, (Stp.refl o i w).gives _ (Nat.le_refl _), ⟨rfl, rfl, rfl, Nat.le_refl _, fun _ _ _ => rfl⟩, .inl rfl⟩
    rw [Nat.add_zero, List.append_nil]
    exact ⟨h.row, fun g hg => gives_mine (h.own g hg)⟩
  · exact h.append ht hi hz hsize hby hzs hsz ⟨g, 0, none⟩ m C ys hu.len (fun t u ht => by rw [add_zero']; exact hc t u ht) h1 h63 hbytes
theorem strs_one (l : List ByteArray) : ∀ u ∈ l.map Value.string, u.oneCell' = true := by
  intro u hu
  obtain ⟨x, _, rfl⟩ := List.mem_map.1 hu
  rfl
/-- other pages -/
theorem IsN.wroteL {vl' : Value} {S' : List ByteArray} (h : IsN w o i p vl vw S Ws) (hg : w.grownBy w' vl.ownBlock) (hr : Row w' o' i 9 1 vl' S'.length (S'.map Value.string)) (hl : vl'.ownBlock = vl.ownBlock ∨ vl'.ownBlock = some w.heap.size)
    (ho : ∀ k, k < w.heap.size → o' k = o k) (hlen : S.length ≤ S'.length) (hn2 : S'.length ≤ 1024) (hsz : ∀ s ∈ S', s.size = 256) : IsN (w'.setCell ⟨p, 0, none⟩ vl') o' i p vl' vw S' Ws := by
  have hp := (hg.block p h.ltp (fun e => h.npl e.symm)).trans h.hp
  have hne : vl'.ownBlock ≠ some p := by
    intro e
    rcases hl with h1 | h1
    · exact h.npl (h1.symm.trans e)
    · have := h1.symm.trans e; have hlt := h.ltp; cases this; omega
  refine ⟨heap_setCell_at _ _ _ _ _ _ hp, ⟨ownsRow_same hr.row (fun g hg => Below.heap_setCell _ _ _ _ (fun e => hne (by rw [hg]; exact congrArg some e))), hr.own⟩, ?_, (ho p h.ltp).trans h.op, hn2, hsz, fun x hx => ⟨Nat.lt_of_lt_of_le (h.ws x hx).1 hlen, (h.ws x hx).2⟩⟩
  refine ⟨ownsRow_same h.hv.row (fun g hg1 => ?_), fun g hg1 => (ho g (h.hv.lt hg1)).trans (h.hv.own g hg1)⟩
  exact (Below.heap_setCell _ _ _ _ (fun e => h.npv (by rw [hg1]; exact congrArg some e))).trans (hg.block g (h.hv.lt hg1) (fun e => h.nlv e.symm hg1))
set_option maxRecDepth 100000 in
set_option maxHeartbeats 1000000 in
theorem rnew_ok (w : World) (o : Nat → Nat) (i : Nat) (n : Nat) (h1 : 1 ≤ n) (h2 : n ≤ 1024) :
    Calls Try.prog 7 #[.int .i64 (n : Int)] w fun e w' => ∃ p o', e = .returned (.tuple #[.pointer (some ⟨p, 0, none⟩), .int .i64 0]) ∧ IsR w' o' i p (List.replicate n blank) [] ∧ Stp o i w o' w' := by
  have C := Lib.hid fun w => rseal_ok ⟨#[]⟩ w (by decide)
  have hb := blank_size
  rw [show pageOf ⟨#[]⟩ = blank from rfl] at C
  generalize blank = Q at *
  have a1 : (1 : Int) ≤ (n : Int) := by omega
  have a2 : (n : Int) ≤ 1024 := by omega
  go_enter Try.func7, Try.ntmps7
  go_wp2_with fail
  refine (C.out _).mono ?_; rintro e w1 ⟨rfl, b1⟩
  have hN0 : IsN (w.alloc (.cells #[.slice none 0 0, .slice none 0 0] 62)) (gives o w.heap.size i) i w.heap.size (.slice none 0 0) (.slice none 0 0) [] [] :=
    ⟨heap_alloc_new w _, Row.nil _ _ _ _ _, Row.nil _ _ _ _ _, gives_new (Nat.le_refl _), by simp, fun s hs => by simp at hs, fun x hx => by simp at hx⟩
  have N1 := Lib.hid (hN0.reads b1)
  have S1 := Lib.hid ((stp_new o i w (.cells #[.slice none 0 0, .slice none 0 0] 62)).trans (Stp.ofBelow b1 _ i))
  clear hN0 b1 C
  generalize gives o w.heap.size i = o1 at *
  generalize w.heap.size = p at *
  go_wp2_with fail
  go_loopw [7] (fun c wr => ∃ (t : Nat) (o' : Nat → Nat) (vl : Value), t ≤ n ∧ c = .int .i64 (t : Int) ∧ IsN wr o' i p vl (.slice none 0 0) (List.replicate t Q) [] ∧ Stp o i w o' wr) (fun c _ => n - (intOf c).toNat)
  case atStart => exact ⟨0, o1, _, by omega, rfl, N1.out, S1.out⟩
  case round =>
    obtain ⟨t, o2, vl, ht, rfl, hN, hS⟩ := hrel
    clear N1 S1
    by_cases hlt : t < n
    · have h0 : (t : Int) < (n : Int) := by omega
      have hl0 : (List.replicate t Q).length = t := List.length_replicate
      obtain ⟨i0, hi, hz0, hz1, hz2⟩ := info_parts info_str
      have hNa := hN.alloc (.cells #[.string Q] 9)
      obtain ⟨v', w5, hap, hR5, hS5, hG5, hL5⟩ := hNa.hl.append (ty := 49) Try.underlying49 hi hz0 hz1 hz2 rfl (by decide) ⟨wr.heap.size, 0, none⟩ 1 1 [.string Q] rfl (cell_new_one wr _ _) (by intro u hu; simp at hu; subst hu; rfl) (by simp [maxLen]; omega) (by simp; omega)
      obtain ⟨g5, C5, rfl⟩ : ∃ g C, v' = .slice (some ⟨g, 0, none⟩) ((List.replicate t Q).length + 1) C := by
        rcases hR5.val with ⟨_, h, _⟩ | ⟨g, C, h, _⟩
        · omega
        · exact ⟨g, C, h⟩
      obtain ⟨a, C, _, _, rfl, _⟩ := hN.slots
      have er : List.replicate t Q ++ [Q] = List.replicate (t + 1) Q := by rw [List.replicate_succ']
      have hR6 : Row w5 (gives o2 (wr.alloc (.cells #[.string Q] 9)).heap.size i) i 9 1 (.slice (some ⟨g5, 0, none⟩) ((List.replicate t Q).length + 1) C5) (List.replicate (t + 1) Q).length ((List.replicate (t + 1) Q).map Value.string) := by
        rw [← er, List.map_append, List.length_append]; exact hR5
      have HN := Lib.hid (hNa.wroteL (S' := List.replicate (t + 1) Q) hG5 hR6 hL5 (fun k hk => gives_old hk) (by simp) (by simp; omega) (fun s hs => by rw [(List.mem_replicate.1 hs).2]; exact hb))
      have st5 := Lib.hid (((hS.trans (Stp.alloc o2 i wr _)).trans hS5).trans (Stp.setCell _ i w5 p 0 (.slice (some ⟨g5, 0, none⟩) ((List.replicate t Q).length + 1) C5) ((hS5.own p hNa.ltp).trans hNa.op)))
      have cp5 := (World.cell?_of_block (hG5.block p hNa.ltp (fun e => hNa.npl e.symm)) (a := ⟨p, 0, none⟩)).trans hNa.c0
      have fp5 := (World.frozen?_of_block (hG5.block p hNa.ltp (fun e => hNa.npl e.symm)) (a := ⟨p, 0, none⟩)).trans (hNa.fz 0)
      have c0 := hN.c0
      have HAP := Lib.hid hap
      rw [hl0] at c0 cp5 HAP HN st5
      clear hap hR5 hS5 hG5 hL5 hR6 er hi hz0 hz1 hz2 hNa hN hS hl0
      go_wp2_with (at_builtin; refine wpList_append_run rfl (.tmp 29) (.tmp 31) _ _ rfl _ _ rfl rfl _ _ HAP.out ?_)
      exact ⟨⟨t + 1, _, _, by omega, by go_num, HN.out, st5.out⟩, by simp [intOf]; omega⟩
    · obtain rfl : t = n := by omega
      have HN := Lib.hid hN; have HS := Lib.hid hS
      clear hN hS
      go_wp2
      go_ret2
      exact ⟨p, o2, rfl, ⟨_, _, HN.out⟩, HS.out⟩
end
section
variable {P : Program}
/-- append(T{}, u...) in a region that draws its order: u a row, nil or not -/
theorem step_copyRow {ops : Array Oper} {oo : Oper} {a : Act} {K : Act → World → Prop} {Q : Exit → Act → World → Prop} {E : Prop} {W : World} {o2 : Nat → Nat} {i e sz m c g bytes : Nat} {b : Option Addr} {ys : List Value} {ti : TypeInfo} {z : Value} (hgd : oo.guard = none) (sl x : Operand) (t : TypeId)
    (ho : oo.op = .call { callee := .builtin .append, args := #[sl, x], argTypes := #[t, t] }) (hs : a.eval sl = .slice (some ⟨g, 0, none⟩) 0 0) (hx : a.eval x = .slice b m c)
    (hg : W.heap[g]? = some (.cells #[] e (0, 0))) (hu : Row W o2 i e sz (.slice b m c) m ys)
    (ht : P.underlying t = some (.slice e)) (hi : P.info? e = some ti) (hz : ti.zero = some z) (hsize : ti.size = sz) (hby : ti.bytes = bytes) (hzs : z.cells.size = sz) (hsz : 0 < sz) (h1 : ∀ u ∈ ys, u.oneCell' = true) (h63 : m ≤ maxLen) (hbytes : m * bytes ≤ 140737488355328)
    (h : ∀ b' c' W', W'.ownsRow 0 e sz (.slice b' m c') m ys → W.grownBy W' (some g) → (∀ k, (Value.slice b' m c').ownBlock = some k → k = g ∨ k = W.heap.size) → K (a.put oo.dst (.slice b' m c')) W') :
    if Region.wanted oo (yielded ops a.tmps) = true then Oper.wp P oo a W K Q else E := by
  have hr : Row W (fun _ => 0) 0 e sz (.slice (some ⟨g, 0, none⟩) 0 0) 0 [] := ⟨⟨by simp, .inr ⟨g, 0, #[], rfl, Nat.zero_le _, hg, Nat.le_refl _, by decide, by simp, by simp⟩⟩, fun _ _ => rfl⟩
  obtain ⟨v', W', hap, hR, _, hG, hL⟩ := hr.appendRow (ty := oo.type) hu ht hi hz hsize hby hzs hsz h1 (by omega) (by rw [Nat.zero_add]; exact hbytes)
  rw [Nat.zero_add, List.nil_append] at hR
  obtain ⟨b', c', rfl⟩ : ∃ b' c', v' = .slice b' m c' := by
    rcases hR.val with ⟨rfl, h, _⟩ | ⟨g, C, rfl, _⟩
    · exact ⟨none, 0, by rw [h]⟩
    · exact ⟨_, _, rfl⟩
  refine step_append_run hgd sl x t t ho _ _ hs hx _ _ hap (h b' c' W' hR.row hG (fun k hk => ?_))
  rcases hL with h | h
  · rw [h] at hk; cases hk; exact .inl rfl
  · rw [h] at hk; cases hk; exact .inr rfl
end
theorem fresh_at (W : World) (x : Obj) (k : Nat) (h : k = W.heap.size) : (W.alloc x).heap[k]? = some x := by subst h; exact heap_alloc_new W x
theorem fresh_on (W : World) (x y : Obj) (k : Nat) (h : W.heap[k]? = some y) : (W.alloc x).heap[k]? = some y := (Below.heap_alloc W x k (Array.getElem?_eq_some_iff.1 h).1).trans h
theorem fresh_drew {W : World} {k : Nat} {y : Obj} (h : W.heap[k]? = some y) : W.drew.heap[k]? = some y := h
theorem fresh_grown {W W' : World} {g k : Nat} {y : Obj} (hg : W.grownBy W' (some g)) (h : W.heap[k]? = some y) (hne : k ≠ g) : W'.heap[k]? = some y := (hg.block k (Array.getElem?_eq_some_iff.1 h).1 (fun e => hne (by cases e; rfl))).trans h
theorem bel_alloc {w W : World} (h : Below w.heap.size w W) (x : Obj) : Below w.heap.size w (W.alloc x) := h.alloc h.size x
theorem bel_drew {w W : World} (h : Below w.heap.size w W) : Below w.heap.size w W.drew := h.drew
theorem bel_grown {w W W' : World} {g : Nat} (h : Below w.heap.size w W) (hg : W.grownBy W' (some g)) (hge : w.heap.size ≤ g) : Below w.heap.size w W' := h.grown hg h.size (fun k e => by cases e; exact hge)
section
variable {w w' : World} {o o' : Nat → Nat} {i j p : Nat} {vl vw : Value} {S : List ByteArray} {Ws : Wrs}
theorem row_grown {W W' : World} {e sz n g : Nat} {v : Value} {xs : List Value} (h : W.ownsRow 0 e sz v n xs) (hg : W.grownBy W' (some g)) (hne : ∀ k, v.ownBlock = some k → k ≠ g) : W'.ownsRow 0 e sz v n xs :=
  ownsRow_same h (fun k hk => hg.block k (h.lt k hk).2 (fun e => hne k hk (by cases e; rfl)))
theorem row_alloc {W : World} {e sz n : Nat} {v : Value} {xs : List Value} (h : W.ownsRow 0 e sz v n xs) (x : Obj) : (W.alloc x).ownsRow 0 e sz v n xs :=
  ownsRow_same h (fun k hk => Below.heap_alloc W x k (h.lt k hk).2)
theorem rcopy_end {W : World} {vA vB : Value} (H : IsN w o i p vl vw S Ws) (j : Nat) (hb : Below w.heap.size w W) (rA : W.ownsRow 0 9 1 vA S.length (S.map Value.string)) (rB : W.ownsRow 0 89 2 vB Ws.length (wcells Ws)) (hA : ∀ k, vA.ownBlock = some k → w.heap.size ≤ k) (hB : ∀ k, vB.ownBlock = some k → w.heap.size ≤ k) :
    IsR (W.alloc (.cells #[vA, vB] 62)) (gives o w.heap.size j) j W.heap.size S Ws ∧ Stp o j w (gives o w.heap.size j) (W.alloc (.cells #[vA, vB] 62)) :=
  ⟨⟨vA, vB, heap_alloc_new W _, ⟨row_alloc rA _, fun g hg => gives_new (hA g hg)⟩, ⟨row_alloc rB _, fun g hg => gives_new (hB g hg)⟩, gives_new hb.size, H.n2, H.sz, H.ws⟩, (Stp.ofBelow (bel_alloc hb _) o j).gives _ (Nat.le_refl _)⟩
end
end Go.Proofs.Ythjlbfijfpfohaa

namespace Go.Proofs.Ythjlbfijfpfohaa
open Go.RowKit Go.ChangeMaps

/-- both halves of r are halves of some of l -/
def Halved (r : ByteArray) (l : List ByteArray) : Prop := ∃ a ∈ l, ∃ b ∈ l, r.data.toList.take 128 = a.data.toList.take 128 ∧ r.data.toList.drop 128 = b.data.toList.drop 128
theorem halved_mem {r : ByteArray} {l : List ByteArray} (h : r ∈ l) : Halved r l := ⟨r, h, r, h, rfl, rfl⟩
theorem halved_left {s t : ByteArray} {l : List ByteArray} (f : Int) (h256 : s.size = 256) (hs : s ∈ l) (ht : Halved t l) : Halved (leftOf f s t) l := by
  unfold leftOf
  split
  · obtain ⟨_, _, b, hb, _, e2⟩ := ht
    have hl : (s.data.toList.take 128).length = 128 := by rw [List.length_take, ← Lib.size_eq, h256]; rfl
    refine ⟨s, hs, b, hb, ?_, ?_⟩
    · rw [tornOf_list, List.take_left' hl]
    · rw [tornOf_list, List.drop_left' hl, e2]
  · split
    · exact halved_mem hs
    · exact ht
/-- the texts of writes of a page -/
def texts (Wr : Wrs) (k : Nat) : List ByteArray := (Wr.filter (fun x => x.1 == k)).map (·.2)
theorem texts_snoc (Wr : Wrs) (k j : Nat) (s : ByteArray) : texts (Wr ++ [(k, s)]) j = if k = j then texts Wr j ++ [s] else texts Wr j := by
  unfold texts
  rw [List.filter_append, List.map_append]
  by_cases e : k = j
  · subst e; simp
  · simp [e]
theorem texts_length (Wr : Wrs) (k : Nat) : (texts Wr k).length ≤ Wr.length := by unfold texts; rw [List.length_map]; exact List.length_filter_le _ _
theorem texts_mem {Wr : Wrs} {k : Nat} {s : ByteArray} (h : s ∈ texts Wr k) : (k, s) ∈ Wr := by
  unfold texts at h
  obtain ⟨⟨a, b⟩, h1, h2⟩ := List.mem_map.1 h
  obtain ⟨h3, h4⟩ := List.mem_filter.1 h1
  simp at h2 h4
  subst h2 h4
  exact h3
theorem mem_texts {Wr : Wrs} {k : Nat} {s : ByteArray} (h : (k, s) ∈ Wr) : s ∈ texts Wr k := List.mem_map.2 ⟨(k, s), List.mem_filter.2 ⟨h, by simp⟩, rfl⟩
theorem crN_halved (S : List ByteArray) (Ws : Wrs) (fs : List Int) (k : Nat) (s : ByteArray) (hs : S[k]? = some s) (hW : ∀ x ∈ Ws, x.2.size = 256) : ∀ j, j ≤ Ws.length → ∃ r, (crN S Ws fs j)[k]? = some r ∧ Halved r (s :: texts Ws k)
  | 0, _ => ⟨s, hs, halved_mem (by simp)⟩
  | j + 1, hj => by
    obtain ⟨r, hr, hh⟩ := crN_halved S Ws fs k s hs hW j (by omega)
    have hx : Ws[j]? = some Ws[j] := List.getElem?_eq_getElem (by omega)
    have hm := List.mem_of_getElem? hx
    simp only [crN]
    rw [List.getD_eq_getElem?_getD (l := Ws), hx, List.getElem?_set]
    simp only [Option.getD_some]
    by_cases e : Ws[j].1 = k
    · rw [if_pos e, if_pos (by rw [e]; exact (List.getElem?_eq_some_iff.1 hr).1)]
      refine ⟨_, rfl, halved_left _ (hW _ hm) ?_ ?_⟩
      · refine List.mem_cons_of_mem _ (mem_texts ?_)
        rw [← e]; exact hm
      · rw [e, List.getD_eq_getElem?_getD, hr]; exact hh
    · rw [if_neg e]; exact ⟨r, hr, hh⟩
theorem crN_same (S : List ByteArray) (Ws : Wrs) (fs : List Int) (k : Nat) (h : texts Ws k = []) : ∀ j, j ≤ Ws.length → (crN S Ws fs j)[k]? = S[k]?
  | 0, _ => rfl
  | j + 1, hj => by
    have ih := crN_same S Ws fs k h j (by omega)
    have hx : Ws[j]? = some Ws[j] := List.getElem?_eq_getElem (by omega)
    have hm := List.mem_of_getElem? hx
    simp only [crN]
    rw [List.getD_eq_getElem?_getD (l := Ws), hx, List.getElem?_set]
    simp only [Option.getD_some]
    by_cases e : Ws[j].1 = k
    · have : Ws[j].2 ∈ texts Ws k := mem_texts (by rw [← e]; exact hm)
      rw [h] at this; simp at this
    · rw [if_neg e]; exact ih
/-- sealed writes -/
def seals (Wr : Wrs) : Wrs := Wr.map (fun x => (x.1, pageOf x.2))
theorem seals_snoc (Wr : Wrs) (k : Nat) (s : ByteArray) : seals (Wr ++ [(k, s)]) = seals Wr ++ [(k, pageOf s)] := by simp [seals]
theorem seals_length (Wr : Wrs) : (seals Wr).length = Wr.length := by simp [seals]
theorem texts_seals (Wr : Wrs) (k : Nat) : texts (seals Wr) k = (texts Wr k).map pageOf := by
  unfold texts seals
  rw [List.filter_map, List.map_map, List.map_map]
  rfl
/-- pages that are whole -/
def Good (S : List ByteArray) : Prop := ∀ s ∈ S, ∃ u, u.size ≤ 252 ∧ s = pageOf u
def GoodW (Ws : Wrs) : Prop := ∀ x ∈ Ws, ∃ u, u.size ≤ 252 ∧ x.2 = pageOf u
theorem rawAt_good : ∀ (Ws : Wrs) (k : Nat) (s : ByteArray), GoodW Ws → (∃ u, u.size ≤ 252 ∧ s = pageOf u) → ∃ u, u.size ≤ 252 ∧ rawAt Ws k s = pageOf u
  | [], _, _, _, h => h
  | x :: l, k, s, hW, h => by
    simp only [rawAt]
    refine rawAt_good l k _ (fun y hy => hW y (by simp [hy])) ?_
    split
    · exact hW x (by simp)
    · exact h
theorem good_sync (S : List ByteArray) (Ws : Wrs) (h : Good S) (hW : GoodW Ws) : Good (syncOf S Ws) := by
  intro r hr
  obtain ⟨k, hk⟩ := List.mem_iff_getElem?.1 hr
  have hlt : k < S.length := by rw [← syncOf_length S Ws]; exact (List.getElem?_eq_some_iff.1 hk).1
  have h1 := sync_raw S Ws k _ (List.getElem?_eq_getElem hlt)
  rw [hk] at h1
  cases h1
  exact rawAt_good Ws k _ hW (h _ (List.getElem_mem hlt))
theorem goodW_snoc {Ws : Wrs} (h : GoodW Ws) (k : Nat) (u : ByteArray) (hu : u.size ≤ 252) : GoodW (Ws ++ [(k, pageOf u)]) := by
  intro x hx
  rcases List.mem_append.1 hx with h1 | h1
  · exact h x h1
  · simp at h1; subst h1; exact ⟨u, hu, rfl⟩
def preB (s : ByteArray) (l : List ByteArray) : Bool := l.any (fun u => (s.extract 0 128).toList == (u.extract 0 128).toList)
def sufB (s : ByteArray) (l : List ByteArray) : Bool := l.any (fun u => (s.extract 128 252).toList == (u.extract 128 252).toList)
theorem preB_snoc (s : ByteArray) (l : List ByteArray) (u : ByteArray) : preB s (l ++ [u]) = (preB s l || ((s.extract 0 128).toList == (u.extract 0 128).toList)) := by simp [preB]
theorem sufB_snoc (s : ByteArray) (l : List ByteArray) (u : ByteArray) : sufB s (l ++ [u]) = (sufB s l || ((s.extract 128 252).toList == (u.extract 128 252).toList)) := by simp [sufB]
theorem page_take (u : ByteArray) (h : u.size = 252) : (pageOf u).data.toList.take 128 = u.data.toList.take 128 := by
  rw [pageOf_list, padOf_full u 252 h, List.take_append_of_le_length (by rw [← Lib.size_eq, h]; omega)]
theorem page_mid (u : ByteArray) (h : u.size = 252) : ((pageOf u).data.toList.drop 128).take 124 = u.data.toList.drop 128 := by
  have hl : u.data.toList.length = 252 := by rw [← Lib.size_eq, h]
  rw [pageOf_list, padOf_full u 252 h, List.drop_append_of_le_length (by omega), List.take_left' (by rw [List.length_drop, hl])]
/-- a whole page with halves of some: its bytes have halves of theirs -/
theorem page_halves (r old : ByteArray) (l : List ByteArray) (hr : r.size = 256) (ho : okPage r = true) (h1 : old.size = 252) (hl : ∀ u ∈ l, u.size = 252) (h : Halved r (pageOf old :: l.map pageOf)) :
    (readOf r).size = 252 ∧ preB (readOf r) (l ++ [old]) = true ∧ sufB (readOf r) (l ++ [old]) = true := by
  have e : readOf r = r.extract 0 252 := by unfold readOf; rw [ho]; rfl
  have hx : (r.extract 0 252).size = 252 := by rw [ByteArray.size_extract]; omega
  obtain ⟨a, ha, b, hb, e1, e2⟩ := h
  have key : ∀ a, a ∈ pageOf old :: l.map pageOf → ∃ u, u ∈ l ++ [old] ∧ u.size = 252 ∧ a = pageOf u := by
    intro a ha
    rcases List.mem_cons.1 ha with rfl | h
    · exact ⟨old, by simp, h1, rfl⟩
    · obtain ⟨u, hu, rfl⟩ := List.mem_map.1 h
      exact ⟨u, by simp [hu], hl u hu, rfl⟩
  obtain ⟨ua, ma, sa, rfl⟩ := key a ha
  obtain ⟨ub, mb, sb, rfl⟩ := key b hb
  rw [page_take ua sa] at e1
  have e3 := congrArg (List.take 124) e2
  rw [page_mid ub sb] at e3
  rw [e]
  refine ⟨hx, ?_, ?_⟩
  · unfold preB
    rw [List.any_eq_true]
    refine ⟨ua, ma, ?_⟩
    rw [toList_beq, decide_eq_true_iff]
    apply ba_ext
    rw [extract_list, extract_list, extract_list]
    simp only [List.drop_zero, Nat.sub_zero, List.take_take]
    rw [show min 128 252 = 128 from rfl, e1]
  · unfold sufB
    rw [List.any_eq_true]
    refine ⟨ub, mb, ?_⟩
    rw [toList_beq, decide_eq_true_iff]
    apply ba_ext
    rw [extract_list, extract_list, extract_list]
    simp only [List.drop_zero, Nat.sub_zero]
    rw [List.drop_take, List.take_take, show min (252 - 128) (252 - 128) = 124 from rfl, e3, List.take_of_length_le (by rw [List.length_drop, ← Lib.size_eq, sb]; omega)]
end Go.Proofs.Ythjlbfijfpfohaa
