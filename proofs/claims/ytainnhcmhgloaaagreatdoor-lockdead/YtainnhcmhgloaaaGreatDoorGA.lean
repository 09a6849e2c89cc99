/-
  Whose block is whose: an owner a block; what a step of one owner leaves of all others. No program in this text.
  A map at a block, as a list of keys and values in the order in which they came: looked up, changed, added to, cut, counted, read by the library. Over any program whose types are as named.
  A block and its cells. No program in this text.
-/
import Derived.WalkKit
import Derived.Below
import Derived.Maps.AppendAt
import Derived.MapKept
import Derived.Maps.Own
import Derived.Lib.Hide
import Derived.Maps.OwnSet
import Derived.Maps.RangeWalk
import Derived.Sort.KeysCollected
import Derived.Lib.Builder
import Derived.Deep.Draws
namespace Go.Proofs.YtainnhcmhgloaaaGreatDoor
open Go.RowKit

/-- w' is w but for blocks of the owner i, and new ones; whose an old block is stays -/
structure Stp (o : Nat → Nat) (i : Nat) (w : World) (o' : Nat → Nat) (w' : World) : Prop where
  os : w'.os = w.os
  tape : w'.tape = w.tape
  output : w'.output = w.output
  size : w.heap.size ≤ w'.heap.size
  blk : ∀ k, k < w.heap.size → o k ≠ i → w'.heap[k]? = w.heap[k]?
  own : ∀ k, k < w.heap.size → o' k = o k
theorem Stp.refl (o : Nat → Nat) (i : Nat) (w : World) : Stp o i w o w := ⟨rfl, rfl, rfl, Nat.le_refl _, fun _ _ _ => rfl, fun _ _ => rfl⟩
theorem Stp.trans {o o1 o2 : Nat → Nat} {i : Nat} {w w1 w2 : World} (a : Stp o i w o1 w1) (b : Stp o1 i w1 o2 w2) : Stp o i w o2 w2 :=
  ⟨b.os.trans a.os, b.tape.trans a.tape, b.output.trans a.output, Nat.le_trans a.size b.size,
   fun k hk hne => (b.blk k (Nat.lt_of_lt_of_le hk a.size) (by rw [a.own k hk]; exact hne)).trans (a.blk k hk hne),
   fun k hk => (b.own k (Nat.lt_of_lt_of_le hk a.size)).trans (a.own k hk)⟩
theorem Stp.ofBelow {w w' : World} (h : Below w.heap.size w w') (o : Nat → Nat) (i : Nat) : Stp o i w o w' :=
  ⟨h.os, h.tape, h.output, h.size, fun k hk _ => h.block k hk, fun _ _ => rfl⟩
theorem Stp.ofGrown {w w' : World} {r : Option Nat} (h : w.grownBy w' r) (o : Nat → Nat) (i : Nat) (hr : ∀ k, r = some k → o k = i) : Stp o i w o w' :=
  ⟨h.os, h.tape, h.output, h.size, fun k hk hne => h.block k hk (fun e => hne (hr k e.symm)), fun _ _ => rfl⟩
theorem Stp.alloc (o : Nat → Nat) (i : Nat) (w : World) (x : Obj) : Stp o i w o (w.alloc x) := Stp.ofBelow ((Below.refl _ w).alloc (Nat.le_refl _) x) o i
theorem Stp.drew (o : Nat → Nat) (i : Nat) (w : World) : Stp o i w o w.drew := ⟨rfl, rfl, rfl, Nat.le_refl _, fun _ _ _ => rfl, fun _ _ => rfl⟩
/-- all blocks from n on are i's -/
def gives (o : Nat → Nat) (n i : Nat) : Nat → Nat := fun k => if k < n then o k else i
theorem gives_old {o : Nat → Nat} {n i k : Nat} (h : k < n) : gives o n i k = o k := by simp [gives, h]
theorem gives_new {o : Nat → Nat} {n i k : Nat} (h : n ≤ k) : gives o n i k = i := by simp [gives]; omega
theorem gives_mine {o : Nat → Nat} {n i k : Nat} (h : o k = i) : gives o n i k = i := by
  by_cases hk : k < n
  · rw [gives_old hk, h]
  · exact gives_new (by omega)
theorem Stp.gives {o o1 : Nat → Nat} {i : Nat} {w w1 : World} (a : Stp o i w o1 w1) (n : Nat) (hn : w.heap.size ≤ n) : Stp o i w (gives o1 n i) w1 :=
  ⟨a.os, a.tape, a.output, a.size, a.blk, fun k hk => (gives_old (by omega)).trans (a.own k hk)⟩

/-- since w0 nothing of w0 has changed, and its blocks are nobody's (0) -/
structure Since (w0 : World) (o : Nat → Nat) (w : World) : Prop where
  bel : Below w0.heap.size w0 w
  own : ∀ k, k < w0.heap.size → o k = 0
theorem Since.start (w : World) : Since w (fun _ => 0) w := ⟨Below.refl _ _, fun _ _ => rfl⟩
theorem Since.step {w0 w w' : World} {o o' : Nat → Nat} {i : Nat} (h : Since w0 o w) (s : Stp o i w o' w') (hi : i ≠ 0) : Since w0 o' w' :=
  ⟨h.bel.trans ⟨s.os, s.tape, s.output, s.size, fun k hk => s.blk k (Nat.lt_of_lt_of_le hk h.bel.size) (by rw [h.own k hk]; exact fun e => hi e.symm)⟩,
   fun k hk => (s.own k (Nat.lt_of_lt_of_le hk h.bel.size)).trans (h.own k hk)⟩
theorem Since.reads {w0 w w' : World} {o : Nat → Nat} (h : Since w0 o w) (b : Below w.heap.size w w') : Since w0 o w' := h.step (Stp.ofBelow b o 1) (by decide)
theorem Since.cell {w0 w : World} {o : Nat → Nat} (h : Since w0 o w) {p : Addr} {v : Value} (hc : w0.cell? p = some v) : w.cell? p = some v :=
  (h.bel.cell (World.block_lt_of_cell? w0 p hc)).trans hc

/-- a slice that is i's: its row is i's -/
structure Row (w : World) (o : Nat → Nat) (i : Nat) (e : TypeId) (sz : Nat) (v : Value) (n : Nat) (xs : List Value) : Prop where
  row : w.ownsRow 0 e sz v n xs
  own : ∀ g, v.ownBlock = some g → o g = i
section
variable {w w' : World} {o o' : Nat → Nat} {i j : Nat} {e : TypeId} {sz : Nat} {v : Value} {n : Nat} {xs : List Value}
theorem ownsRow_same {b : Nat} (h : w.ownsRow b e sz v n xs) (hs : ∀ g, v.ownBlock = some g → w'.heap[g]? = w.heap[g]?) : w'.ownsRow b e sz v n xs := by
  refine ⟨h.1, ?_⟩
  rcases h.2 with h | ⟨g, cap, cur, rfl, hb, hg, r⟩
  · exact .inl h
  · exact .inr ⟨g, cap, cur, rfl, hb, (hs g rfl).trans hg, r⟩
theorem Row.lt (h : Row w o i e sz v n xs) {g : Nat} (hg : v.ownBlock = some g) : g < w.heap.size := (h.row.lt g hg).2
theorem Row.other (h : Row w o j e sz v n xs) (s : Stp o i w o' w') (hne : j ≠ i) : Row w' o' j e sz v n xs :=
  ⟨ownsRow_same h.row (fun g hg => s.blk g (h.lt hg) (by rw [h.own g hg]; exact hne)), fun g hg => (s.own g (h.lt hg)).trans (h.own g hg)⟩
theorem Row.reads (h : Row w o i e sz v n xs) (b : Below w.heap.size w w') : Row w' o i e sz v n xs :=
  ⟨ownsRow_same h.row (fun g hg => b.block g (h.lt hg)), h.own⟩
theorem Row.nil (w : World) (o : Nat → Nat) (i : Nat) (e : TypeId) (sz : Nat) : Row w o i e sz (.slice none 0 0) 0 [] :=
  ⟨World.ownsRow_nil _ _ _ _, fun g hg => by simp [Value.ownBlock] at hg⟩
theorem add_zero' (g j : Nat) : Addr.add ⟨g, 0, none⟩ j = ⟨g, j, none⟩ := by unfold Addr.add; split <;> simp_all
theorem Row.len (h : Row w o i e sz v n xs) : xs.length = n * sz := h.row.1
/-- what the value is -/
theorem Row.val (h : Row w o i e sz v n xs) : (v = .slice none 0 0 ∧ n = 0 ∧ xs = []) ∨ ∃ g C, v = .slice (some ⟨g, 0, none⟩) n C ∧ o g = i ∧ g < w.heap.size ∧ (∀ k u, xs[k]? = some u → w.cell? ⟨g, k, none⟩ = some u) ∧ ∀ k, w.frozen? ⟨g, k, none⟩ = false := by
  have hl := h.row.1
  rcases h.row.2 with ⟨rfl, rfl⟩ | ⟨g, cap, cur, rfl, hb, hg, r⟩
  · exact .inl ⟨rfl, rfl, List.eq_nil_of_length_eq_zero (by simpa using hl)⟩
  · refine .inr ⟨g, cap, rfl, h.own g rfl, h.lt rfl, fun k u hu => ?_, fun k => by simp [World.frozen?, hg]⟩
    have := h.row.cells (g := g) rfl k u hu
    rwa [add_zero'] at this
/-- append(v, x...), whatever x is -/
theorem Row.append {P : Program} {t ty : TypeId} {ti : TypeInfo} {z : Value} {bytes : Nat} (h : Row w o i e sz v n xs) (ht : P.underlying t = some (.slice e)) (hi : P.info? e = some ti) (hz : ti.zero = some z) (hsize : ti.size = sz) (hby : ti.bytes = bytes)
    (hzs : z.cells.size = sz) (hsz : 0 < sz) (a : Addr) (m c : Nat) (news : List Value) (hl : news.length = m * sz) (hnews : ∀ j u, news[j]? = some u → w.cell? (a.add j) = some u) (h1 : ∀ u ∈ news, u.oneCell' = true)
    (h63 : n + m ≤ maxLen) (hbytes : (n + m) * bytes ≤ 140737488355328) :
    ∃ v' w', (Builtin.append_ #[t, t] ty #[v, .slice (some a) m c]).run P w = .ok v' w' ∧ Row w' (gives o w.heap.size i) i e sz v' (n + m) (xs ++ news) ∧ Stp o i w (gives o w.heap.size i) w' ∧ w.grownBy w' v.ownBlock ∧ (v'.ownBlock = v.ownBlock ∨ v'.ownBlock = some w.heap.size) := by
  obtain ⟨v', w', hr, h2, h3, _, h5⟩ := run_append_own_at (P := P) w 0 t ty e ti z sz bytes ht hi hz hsize hby hzs hsz v n xs h.row a m c news hl hnews h1 h63 hbytes (Nat.zero_le _)
  refine ⟨v', w', hr, ⟨h2, fun g hg => ?_⟩, (Stp.ofGrown h3 o i h.own).gives _ (Nat.le_refl _), h3, h5⟩
  rcases h5 with h5 | h5
  · exact gives_mine (h.own g (by rw [← h5]; exact hg))
  · rw [h5] at hg; cases hg; exact gives_new (Nat.le_refl _)
/-- v[k] = x, of a row of one cell each -/
theorem Row.set {g C : Nat} (h : Row w o i e 1 (.slice (some ⟨g, 0, none⟩) n C) n xs) (k : Nat) (u : Value) (_hk : k < n) : Row (w.setCell ⟨g, k, none⟩ u) o i e 1 (.slice (some ⟨g, 0, none⟩) n C) n (xs.set k u) := by
  obtain ⟨⟨hl, hr⟩, ho⟩ := h
  refine ⟨⟨by rw [List.length_set]; exact hl, ?_⟩, ho⟩
  rcases hr with ⟨hr, _⟩ | ⟨g', cap, cur, hv, hb, hg, h1, h2, h3, h4⟩
  · cases hr
  · cases hv
    refine .inr ⟨g, C, cur.setIfInBounds k u, rfl, hb, ?_, h1, h2, by simpa using h3, ?_⟩
    · obtain ⟨hlt, hk⟩ := Array.getElem?_eq_some_iff.1 hg
      show (w.heap.modify g _)[g]? = _
      rw [Array.getElem?_eq_getElem (by rw [Array.size_modify]; exact hlt), Array.getElem_modify_self, hk]
      rfl
    · rw [← h4, Array.toList_setIfInBounds, List.take_set]
theorem Stp.setCell (o : Nat → Nat) (i : Nat) (w : World) (g k : Nat) (u : Value) (h : o g = i) : Stp o i w o (w.setCell ⟨g, k, none⟩ u) :=
  ⟨rfl, rfl, rfl, by simp [World.setCell], fun b _ hne => Below.heap_setCell _ _ _ _ (fun e => hne (by rw [e]; exact h)), fun _ _ => rfl⟩
end
end Go.Proofs.YtainnhcmhgloaaaGreatDoor

namespace Go.Proofs.YtainnhcmhgloaaaGreatDoor
open Go.RowKit Go.ChangeMaps Go.MapKept Go.Maps
open Go.WideElems (Fit rd rg rd_mk rg_of)

structure MapAt (d : TypeDesc) (w : World) (m : Nat) (L : List (Value × Value)) : Prop where
  ex : ∃ (E : List MapEntry) (ck : Nat), w.heap[m]? = some (.map E.toArray ck) ∧ E.map (fun e => (e.key, e.val)) = L ∧ Stamped E.toArray ck ∧ ∀ x ∈ E, IsKey d x.key
section
variable {P : Program} {w w' : World} {m : Nat} {L : List (Value × Value)} {t kt et : TypeId} {d : TypeDesc} {k v : Value}
theorem MapAt.lt (h : MapAt d w m L) : m < w.heap.size := by
  obtain ⟨E, ck, hb, _⟩ := h.ex; exact (Array.getElem?_eq_some_iff.1 hb).1
theorem MapAt.same (h : MapAt d w m L) (hb : w'.heap[m]? = w.heap[m]?) : MapAt d w' m L := by
  obtain ⟨E, ck, h1, h2⟩ := h.ex; exact ⟨E, ck, hb.trans h1, h2⟩
theorem MapAt.nokeys (h : MapAt d w m L) : (L.map (·.1)).Nodup := by
  obtain ⟨E, ck, _, rfl, hs, _⟩ := h.ex
  rw [List.map_map]; exact hs.2.2
theorem MapAt.isKey (h : MapAt d w m L) {x : Value × Value} (hx : x ∈ L) : IsKey d x.1 := by
  obtain ⟨E, ck, _, rfl, _, hk⟩ := h.ex
  obtain ⟨e, he, rfl⟩ := List.mem_map.1 hx
  exact hk e he
theorem MapAt.notCells (h : MapAt d w m L) {cs : Array Value} {T : TypeId} {r : Nat × Nat} (hc : w.heap[m]? = some (.cells cs T r)) : False := by
  obtain ⟨E, ck, hb, _⟩ := h.ex; rw [hb] at hc; cases hc
theorem mapAt_new (d : TypeDesc) (w : World) : MapAt d (w.alloc (.map #[] 0)) w.heap.size [] :=
  ⟨[], 0, (MapKept.heap_alloc w _).1, rfl, stamped_empty 0, by simp⟩
theorem key_of_nodup {E : List MapEntry} (hn : (E.map (·.key)).Nodup) {e e' : MapEntry} (h : e ∈ E) (h' : e' ∈ E) (hk : e.key = e'.key) : e = e' := by
  induction E with
  | nil => cases h
  | cons x l ih =>
    simp only [List.map_cons, List.nodup_cons] at hn
    rcases List.mem_cons.1 h with h1 | h1 <;> rcases List.mem_cons.1 h' with h2 | h2
    · rw [h1, h2]
    · exact absurd (List.mem_map.2 ⟨e', h2, by rw [← hk, h1]⟩) hn.1
    · exact absurd (List.mem_map.2 ⟨e, h1, by rw [hk, h2]⟩) hn.1
    · exact ih hn.2 h1 h2
theorem MapAt.look (h : MapAt d w m L) (ht : P.underlying t = some (.map kt et)) (hk : P.underlying kt = some d) (hkv : (k, v) ∈ L) (c : Bool) :
    (Instr.lookup t (.map (some m)) k c).run P w = .ok (if c then .tuple #[v, .bool true] else v) w := by
  have ik := h.isKey hkv
  obtain ⟨E, ck, hb, rfl, hs, hi⟩ := h.ex
  obtain ⟨e, he, he2⟩ := List.mem_map.1 hkv
  simp only [Prod.mk.injEq] at he2
  rcases findNow_spec ik E 0 hi with ⟨_, h2⟩ | ⟨j, e', h1, h2, h3⟩
  · exact absurd he2.1 (h2 e he)
  · have : e' = e := key_of_nodup hs.2.2 (List.mem_of_getElem? h2) he (h3.trans he2.1.symm)
    rw [this, he2.2] at h1
    simp [Instr.lookup, run_underlying ht, MapKept.run_getObj_map hb, run_checkKey hk ik, run_findKey hk h1, Result.andThen]
theorem MapAt.lookNo (h : MapAt d w m L) (ht : P.underlying t = some (.map kt et)) (hk : P.underlying kt = some d) (ik : IsKey d k) (hno : ∀ x ∈ L, x.1 ≠ k) {z : Value} (hz : (zeroValue et).run P w = .ok z w) (c : Bool) :
    (Instr.lookup t (.map (some m)) k c).run P w = .ok (if c then .tuple #[z, .bool false] else z) w := by
  obtain ⟨E, ck, hb, rfl, hs, hi⟩ := h.ex
  rcases findNow_spec ik E 0 hi with ⟨h1, _⟩ | ⟨j, e', _, h2, h3⟩
  · simp [Instr.lookup, run_underlying ht, MapKept.run_getObj_map hb, run_checkKey hk ik, run_findKey hk h1, hz, Result.andThen]
  · exact absurd h3 (hno (e'.key, e'.val) (List.mem_map.2 ⟨e', List.mem_of_getElem? h2, rfl⟩))
theorem look_nil (ht : P.underlying t = some (.map kt et)) (hk : P.underlying kt = some d) (ik : IsKey d k) {z : Value} (hz : (zeroValue et).run P w = .ok z w) (c : Bool) :
    (Instr.lookup t (.map none) k c).run P w = .ok (if c then .tuple #[z, .bool false] else z) w := by
  have h1 : Instr.findNow d k [] 0 = some none := rfl
  simp [Instr.lookup, run_underlying ht, run_checkKey hk ik, run_findKey hk h1, hz, Result.andThen]
theorem MapAt.len (h : MapAt d w m L) (ht : P.underlying t = some (.map kt et)) (ty : TypeId) : (Builtin.len_ #[t] ty #[.map (some m)]).run P w = .ok (.int .i64 (L.length : Int)) w := by
  obtain ⟨E, ck, hb, rfl, _⟩ := h.ex
  simp [Builtin.len_, run_underlying ht, MapKept.run_getObj_map hb, goInt, Result.andThen]
theorem stp_setBlock9 {es : Array MapEntry} {c : Nat} (h : w.heap[m]? = some (.map es c)) (x : Obj) (o : Nat → Nat) (j : Nat) (ho : o m = j) : Stp o j w o (setBlock w m x) :=
  ⟨rfl, rfl, rfl, by simp [setBlock], fun k _ hne => heap_setBlock_other h _ (fun e => hne (by rw [e]; exact ho)), fun _ _ => rfl⟩
/-- only block m has changed -/
structure Only (m : Nat) (w w' : World) : Prop where
  os : w'.os = w.os
  tape : w'.tape = w.tape
  output : w'.output = w.output
  size : w'.heap.size = w.heap.size
  blk : ∀ k, k ≠ m → w'.heap[k]? = w.heap[k]?
theorem Only.stp {o : Nat → Nat} {j : Nat} (h : Only m w w') (ho : o m = j) : Stp o j w o w' :=
  ⟨h.os, h.tape, h.output, Nat.le_of_eq h.size.symm, fun k _ hne => h.blk k (fun e => hne (by rw [e]; exact ho)), fun _ _ => rfl⟩
theorem only_setBlock {es : Array MapEntry} {c : Nat} (h : w.heap[m]? = some (.map es c)) (x : Obj) : Only m w (setBlock w m x) :=
  ⟨rfl, rfl, rfl, by simp [setBlock], fun _ hne => heap_setBlock_other h _ hne⟩
/-- a new key -/
theorem MapAt.putNew (h : MapAt d w m L) (ht : P.underlying t = some (.map kt et)) (hk : P.underlying kt = some d) (ik : IsKey d k) (hno : ∀ x ∈ L, x.1 ≠ k) (v : Value) :
    ∃ w', (Instr.mapUpdate t (.map (some m)) k v).run P w = .ok () w' ∧ MapAt d w' m (L ++ [(k, v)]) ∧ Only m w w' := by
  obtain ⟨E, ck, hb, rfl, hs, hi⟩ := h.ex
  rcases findNow_spec ik E 0 hi with ⟨h1, hn⟩ | ⟨j, e', _, h2, h3⟩
  · refine ⟨setBlock w m (.map (E.toArray.push { key := k, val := v, born := ck }) (ck + 1)), ?_, ⟨E ++ [{ key := k, val := v, born := ck }], ck + 1, ?_, by simp, ?_, ?_⟩, only_setBlock hb _⟩
    · simp [Instr.mapUpdate, run_underlying ht, MapKept.run_getObj_map hb, run_checkKey hk ik, run_findKey hk h1, Result.andThen]
      rw [MapKept.run_setObj_map _ hb]; simp [setBlock]
    · rw [heap_setBlock_same hb]; simp
    · have := stamped_push hs (key := k) (val := v) (by simpa using hn)
      simpa using this
    · intro x hx
      rcases List.mem_append.1 hx with hx | hx
      · exact hi x hx
      · obtain rfl := List.mem_singleton.1 hx; exact ik
  · exact absurd h3 (hno (e'.key, e'.val) (List.mem_map.2 ⟨e', List.mem_of_getElem? h2, rfl⟩))
/-- a key that is there gets another value -/
theorem MapAt.put {L1 L2 : List (Value × Value)} {v0 : Value} (h : MapAt d w m (L1 ++ (k, v0) :: L2)) (ht : P.underlying t = some (.map kt et)) (hk : P.underlying kt = some d) (v : Value) :
    ∃ w', (Instr.mapUpdate t (.map (some m)) k v).run P w = .ok () w' ∧ MapAt d w' m (L1 ++ (k, v) :: L2) ∧ Only m w w' := by
  have ik := h.isKey (x := (k, v0)) (by simp)
  obtain ⟨E, ck, hb, hE, hs, hi⟩ := h.ex
  obtain ⟨E1, E2', rfl, he1, he2⟩ := List.map_eq_append_iff.1 hE
  obtain ⟨e, E2, rfl, hev, he3⟩ := List.map_eq_cons_iff.1 he2
  simp only [Prod.mk.injEq] at hev
  obtain ⟨hk1, hv1⟩ := hev
  have hj : (E1 ++ e :: E2)[E1.length]? = some e := by simp
  rcases findNow_spec ik (E1 ++ e :: E2) 0 hi with ⟨_, hn⟩ | ⟨j, e', h1, h2, h3⟩
  · exact absurd hk1 (hn e (by simp))
  · have ee : e' = e := key_of_nodup hs.2.2 (List.mem_of_getElem? h2) (by simp) (h3.trans hk1.symm)
    subst ee
    have hjl : j = E1.length := by
      have hnd : ((E1 ++ e' :: E2).map (·.key)).Nodup := hs.2.2
      have hj1 : j < (E1 ++ e' :: E2).length := (List.getElem?_eq_some_iff.1 h2).1
      refine (List.getElem?_inj (by simpa using hj1) hnd).1 ?_
      rw [List.getElem?_map, List.getElem?_map, h2, hj]
    subst hjl
    rw [Nat.zero_add] at h1
    have em : (E1 ++ e' :: E2).toArray.modify E1.length (fun x => { x with key := k, val := v }) = (E1 ++ { e' with key := k, val := v } :: E2).toArray := by
      apply Array.ext_getElem?
      intro q
      rw [Array.getElem?_modify]
      simp only [List.getElem?_toArray]
      by_cases hq : E1.length = q
      · subst hq; simp
      · rw [if_neg hq]
        rcases Nat.lt_or_ge q E1.length with hl | hl
        · rw [List.getElem?_append_left hl, List.getElem?_append_left hl]
        · rw [List.getElem?_append_right hl, List.getElem?_append_right hl]
          obtain ⟨z, hz⟩ : ∃ z, q - E1.length = z + 1 := ⟨q - E1.length - 1, by omega⟩
          rw [hz]; rfl
    refine ⟨setBlock w m (.map (E1 ++ { e' with key := k, val := v } :: E2).toArray ck), ?_, ⟨_, ck, heap_setBlock_same hb _, ?_, ?_, ?_⟩, only_setBlock hb _⟩
    · simp [Instr.mapUpdate, run_underlying ht, MapKept.run_getObj_map hb, run_checkKey hk ik, run_findKey hk h1, Result.andThen]
      rw [hk1, run_keyThatStays ik]
      simp only
      rw [MapKept.run_setObj_map _ hb]
      have em' := em
      simp only [List.modify_toArray] at em'
      simp only [em']
      rfl
    · simp [he1, he3]
    · have := stamped_modify hs E1.length (fun x => { x with key := k, val := v }) (fun _ _ => rfl) (fun x _ hx => by
        have : x = e' := by simpa using hx.symm
        rw [this]; exact hk1.symm)
      rw [em] at this; exact this
    · intro x hx
      rcases List.mem_append.1 hx with hx | hx
      · exact hi x (by simp [hx])
      · rcases List.mem_cons.1 hx with rfl | hx
        · exact ik
        · exact hi x (by simp [hx])
/-- a key goes -/
theorem MapAt.del {L1 L2 : List (Value × Value)} {v0 : Value} (h : MapAt d w m (L1 ++ (k, v0) :: L2)) (ht : P.underlying t = some (.map kt et)) (hk : P.underlying kt = some d) (ty : TypeId) :
    ∃ w', (Builtin.delete_ #[t, kt] ty #[.map (some m), k]).run P w = .ok (.tuple #[]) w' ∧ MapAt d w' m (L1 ++ L2) ∧ Only m w w' := by
  have ik := h.isKey (x := (k, v0)) (by simp)
  obtain ⟨E, ck, hb, hE, hs, hi⟩ := h.ex
  obtain ⟨E1, E2', rfl, he1, he2⟩ := List.map_eq_append_iff.1 hE
  obtain ⟨e, E2, rfl, hev, he3⟩ := List.map_eq_cons_iff.1 he2
  simp only [Prod.mk.injEq] at hev
  obtain ⟨hk1, hv1⟩ := hev
  have hj : (E1 ++ e :: E2)[E1.length]? = some e := by simp
  rcases findNow_spec ik (E1 ++ e :: E2) 0 hi with ⟨_, hn⟩ | ⟨j, e', h1, h2, h3⟩
  · exact absurd hk1 (hn e (by simp))
  · have ee : e' = e := key_of_nodup hs.2.2 (List.mem_of_getElem? h2) (by simp) (h3.trans hk1.symm)
    subst ee
    have hjl : j = E1.length := by
      have hnd : ((E1 ++ e' :: E2).map (·.key)).Nodup := hs.2.2
      have hj1 : j < (E1 ++ e' :: E2).length := (List.getElem?_eq_some_iff.1 h2).1
      refine (List.getElem?_inj (by simpa using hj1) hnd).1 ?_
      rw [List.getElem?_map, List.getElem?_map, h2, hj]
    subst hjl
    rw [Nat.zero_add] at h1
    have em : (E1 ++ e' :: E2).eraseIdx E1.length = E1 ++ E2 := by
      rw [List.eraseIdx_append_of_length_le (Nat.le_refl _)]; simp
    have sl : (E1 ++ E2).Sublist (E1 ++ e' :: E2) := List.Sublist.append_left (List.sublist_cons_self _ _) _
    refine ⟨setBlock w m (.map (E1 ++ E2).toArray ck), ?_, ⟨_, ck, heap_setBlock_same hb _, ?_, ⟨fun x hx => hs.1 x (sl.subset hx), (sl.map _).nodup hs.2.1, (sl.map _).nodup hs.2.2⟩, fun x hx => hi x (sl.subset hx)⟩, only_setBlock hb _⟩
    · simp [Builtin.delete_, run_underlying ht, MapKept.run_getObj_map hb, run_checkKey hk ik, run_findKey hk h1, Result.andThen]
      rw [MapKept.run_setObj_map _ hb, em]
      rfl
    · simp [he1, he3]
/-- a key that is not there goes -/
theorem MapAt.delNo (h : MapAt d w m L) (ht : P.underlying t = some (.map kt et)) (hk : P.underlying kt = some d) (ik : IsKey d k) (hno : ∀ x ∈ L, x.1 ≠ k) (ty : TypeId) :
    ∃ w', (Builtin.delete_ #[t, kt] ty #[.map (some m), k]).run P w = .ok (.tuple #[]) w' ∧ MapAt d w' m L ∧ Only m w w' := by
  obtain ⟨E, ck, hb, rfl, hs, hi⟩ := h.ex
  rcases findNow_spec ik E 0 hi with ⟨h1, _⟩ | ⟨j, e', _, h2, h3⟩
  · refine ⟨setBlock w m (.map E.toArray ck), ?_, ⟨E, ck, heap_setBlock_same hb _, rfl, hs, hi⟩, only_setBlock hb _⟩
    simp [Builtin.delete_, run_underlying ht, MapKept.run_getObj_map hb, run_checkKey hk ik, run_findKey hk h1, Result.andThen]
    rw [MapKept.run_setObj_map _ hb]
    rfl
  · exact absurd h3 (hno (e'.key, e'.val) (List.mem_map.2 ⟨e', List.mem_of_getElem? h2, rfl⟩))
theorem delete_nil9 (ht : P.underlying t = some (.map kt et)) (hk : P.underlying kt = some d) (ik : IsKey d k) (ty : TypeId) : (Builtin.delete_ #[t, kt] ty #[.map none, k]).run P w = .ok (.tuple #[]) w := by
  simp [Builtin.delete_, run_underlying ht, run_checkKey hk ik, Result.andThen]
/-! as the library reads it -/
theorem MapAt.owns {R : Value → Option (DataW Unit × List MemPlace)} (h : MapAt d w m L) (hl : L.length ≤ maxLen) (hkey : ∀ x ∈ L, ∃ q, keyOf P kt x.1 = some q) (hval : ∀ x ∈ L, ∃ y, R x.2 = some y) :
    ∃ D : DataW Unit, w.ownsMap P kt R m L.length D ∧ D = .map ((L.map (fun x => rg P kt R ⟨x.1, x.2, 0⟩)).foldr DataW.insert []) ∧ Maps.size D = L.length := by
  obtain ⟨E, ck, hb, rfl, hs, hi⟩ := h.ex
  refine ⟨_, ⟨E.toArray, ck, hb, ?_, by simp, rfl⟩, ?_, ?_⟩
  · refine ⟨by simpa using hl, hs, fun x hx => ?_⟩
    have hx' : x ∈ E := by simpa using hx
    obtain ⟨q, hq⟩ := hkey (x.key, x.val) (List.mem_map.2 ⟨x, hx', rfl⟩)
    obtain ⟨y, hy⟩ := hval (x.key, x.val) (List.mem_map.2 ⟨x, hx', rfl⟩)
    exact ⟨_, rd_mk hq hy⟩
  · rw [List.map_map]; rfl
  · show (List.foldr DataW.insert [] _).length = _
    rw [length_sorted]; simp
/-- what comes of a step of a range is an entry -/
theorem MapAt.ranged {R : Value → Option (DataW Unit × List MemPlace)} (hR : ∀ v v' y y', R v = some y → R v' = some y' → y.1 = y'.1 → v = v') (h : MapAt d w m L) (K : Keyed P kt) (ht : P.underlying t = some (.map kt et)) {z : Value} (hz : (zeroValue et).run P w = .ok z w) {nn : Nat} {D : DataW Unit} (hown : w.ownsMap P kt R m nn D) {key : Value} {kl : Lit} (hkey : keyOf P kt key = some kl) {v : Value} {y : DataW Unit × List MemPlace} (hv : R v = some y) (hat : ∀ zd, D.atKey kl zd = y.1) (hnn : y.1 ≠ .nil) :
    (key, v) ∈ L := by
  obtain ⟨es, clock, hb, F, _, rfl⟩ := hown
  obtain ⟨E, ck, hb2, rfl, hs, hi⟩ := h.ex
  rw [hb2] at hb
  cases hb
  rcases Maps.fit_look false K ht hz hb2 F hkey with ⟨_, _, h3⟩ | ⟨e0, y0, h1, h2, _, h4, h5, _⟩
  · exact absurd ((h3 .nil).symm.trans (hat .nil)).symm hnn
  · have he : e0 ∈ E := by simpa using h1
    have e2 := (h5 .nil).symm.trans (hat .nil)
    have := hR _ _ _ _ h4 hv e2
    exact List.mem_map.2 ⟨e0, he, by rw [h2, this]⟩
end
end Go.Proofs.YtainnhcmhgloaaaGreatDoor

namespace Go.Proofs.YtainnhcmhgloaaaGreatDoor
open Go.RowKit

/-- block B has these cells -/
def At (w : World) (B : Nat) (cs : Array Value) (T : TypeId) : Prop := w.heap[B]? = some (.cells cs T (0, 0))
section
variable {w w' : World} {B g n : Nat} {cs : Array Value} {T : TypeId}
theorem At.new (w : World) (cs : Array Value) (T : TypeId) : At (w.alloc (.cells cs T)) w.heap.size cs T := (MapKept.heap_alloc w _).1
theorem At.cell (h : At w B cs T) (j : Nat) : w.cell? ⟨B, j, none⟩ = cs[j]? := Lib.cell_of_heap h j
theorem At.fz (h : At w B cs T) (j : Nat) : w.frozen? ⟨B, j, none⟩ = false := Lib.frozen_of_heap h j
theorem At.lt (h : At w B cs T) : B < w.heap.size := (Array.getElem?_eq_some_iff.1 h).1
theorem At.drew (h : At w B cs T) : At w.drew B cs T := h
theorem At.drewN (h : At w B cs T) (q : Nat) : At (w.drewN q) B cs T := h
theorem At.same (h : At w B cs T) (hb : w'.heap[B]? = w.heap[B]?) : At w' B cs T := hb.trans h
theorem At.below (h : At w B cs T) (b : Below n w w') (hB : B < n) : At w' B cs T := (b.block B hB).trans h
theorem At.reads (h : At w B cs T) (b : Below w.heap.size w w') : At w' B cs T := h.below b h.lt
theorem At.set (h : At w B cs T) (j : Nat) (v : Value) : At (w.setCell ⟨B, j, none⟩ v) B (cs.setIfInBounds j v) T := by
  obtain ⟨hlt, hk⟩ := Array.getElem?_eq_some_iff.1 h
  show (w.heap.modify B _)[B]? = _
  rw [Array.getElem?_eq_getElem (by rw [Array.size_modify]; exact hlt), Array.getElem_modify_self, hk]
  rfl
theorem At.setOther (h : At w B cs T) (j : Nat) (v : Value) (hne : g ≠ B) : At (w.setCell ⟨g, j, none⟩ v) B cs T :=
  (Below.heap_setCell w ⟨g, j, none⟩ v B (fun e => hne e.symm)).trans h
theorem bdrew (h : Below n w.drew w') : Below n w w' := ⟨h.os, h.tape, h.output, h.size, h.block⟩
theorem below_drewN (w : World) (q : Nat) : Below w.heap.size w (w.drewN q) := ⟨rfl, rfl, rfl, Nat.le_refl _, fun _ _ => rfl⟩
theorem only_setCell (w : World) (g j : Nat) (v : Value) : Only g w (w.setCell ⟨g, j, none⟩ v) :=
  ⟨rfl, rfl, rfl, by simp [World.setCell], fun _ hk => Below.heap_setCell w ⟨g, j, none⟩ v _ hk⟩
end
end Go.Proofs.YtainnhcmhgloaaaGreatDoor
