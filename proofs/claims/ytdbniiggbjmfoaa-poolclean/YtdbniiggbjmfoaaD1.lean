/-
  Package disk: where a disk lies in memory; the contracts of left, settle, Read, Raw, Len.
-/
import Derived.Test.YtdbniiggbjmfoaaRows
import Derived.Test.YtdbniiggbjmfoaaE1
import Derived.Test.YtdbniiggbjmfoaaS3
import Derived.Test.YtdbniiggbjmfoaaS4
import Derived.WalkSpells
import Derived.WalkLawsBesides
import Derived.Lib.Strings
import Derived.IntWalk
import Derived.Deep.Light
import Derived.BigQuiet
import Derived.Deep.QuietTactic
import Derived.StillTailTactics
import Derived.Outline
import Derived.Maps.OwnOps
namespace Go.Proofs.Ytdbniiggbjmfoaa
open Go.RowKit Go.ChangeMaps

abbrev Wrs := List (Nat × ByteArray)
def wcells : Wrs → List Value
  | [] => []
  | x :: l => .int .i64 (x.1 : Int) :: .string x.2 :: wcells l
theorem wcells_length : ∀ Ws : Wrs, (wcells Ws).length = Ws.length * 2
  | [] => rfl
  | x :: l => by simp [wcells, wcells_length l]; omega
theorem wcells_append : ∀ A B : Wrs, wcells (A ++ B) = wcells A ++ wcells B
  | [], _ => rfl
  | x :: l, B => by simp [wcells, wcells_append l B]
theorem wcells_get : ∀ (Ws : Wrs) (j : Nat) (x : Nat × ByteArray), Ws[j]? = some x → (wcells Ws)[j * 2]? = some (.int .i64 (x.1 : Int)) ∧ (wcells Ws)[j * 2 + 1]? = some (.string x.2)
  | [], _, _, h => by simp at h
  | y :: l, 0, x, h => by simp at h; subst h; simp [wcells]
  | y :: l, j + 1, x, h => by
    have := wcells_get l j x (by simpa using h)
    rw [show (j + 1) * 2 = j * 2 + 1 + 1 by omega]
    simpa [wcells] using this
theorem wcells_one (Ws : Wrs) : ∀ u ∈ wcells Ws, u.oneCell' = true := by
  intro u hu
  induction Ws with
  | nil => simp [wcells] at hu
  | cons x l ih =>
    simp [wcells] at hu
    rcases hu with rfl | rfl | h
    · rfl
    · rfl
    · exact ih h

/-- a disk of the owner i: block p has where its pages are (a map, m) and its writes (v) -/
structure IsM (w : World) (o : Nat → Nat) (i p m : Nat) (v : Value) (L : Pgs) (Ws : Wrs) : Prop where
  hp : w.heap[p]? = some (.cells #[.map (some m), v] 57 (0, 0))
  hm : IsMap w m L
  hv : Row w o i 96 2 v Ws.length (wcells Ws)
  op : o p = i
  om : o m = i
  n1 : 1 ≤ L.length
  n2 : L.length ≤ 1024
  sz : ∀ q ∈ L, q.1.size = 256 ∧ q.2.size = 256
  ws : ∀ x ∈ Ws, x.1 < L.length ∧ x.2.size = 256
section
variable {w w' : World} {o o' : Nat → Nat} {i j p m : Nat} {v : Value} {L : Pgs} {Ws : Wrs}
theorem IsM.c0 (h : IsM w o i p m v L Ws) : w.cell? ⟨p, 0, none⟩ = some (.map (some m)) := by simp [World.cell?, h.hp]
theorem IsM.c1 (h : IsM w o i p m v L Ws) : w.cell? ⟨p, 1, none⟩ = some v := by simp [World.cell?, h.hp]
theorem IsM.fz (h : IsM w o i p m v L Ws) (k : Nat) : w.frozen? ⟨p, k, none⟩ = false := by simp [World.frozen?, h.hp]
theorem IsM.ltp (h : IsM w o i p m v L Ws) : p < w.heap.size := (Array.getElem?_eq_some_iff.1 h.hp).1
theorem IsM.ltm (h : IsM w o i p m v L Ws) : m < w.heap.size := (Array.getElem?_eq_some_iff.1 h.hm).1
theorem IsM.npm (h : IsM w o i p m v L Ws) : p ≠ m := by
  intro e; have a := h.hp; have b : w.heap[m]? = _ := h.hm; rw [← e, a] at b; cases b
theorem IsM.npv (h : IsM w o i p m v L Ws) : v.ownBlock ≠ some p := fun e => by
  rcases h.hv.row.2 with ⟨rfl, _⟩ | ⟨g, C, cur, rfl, _, hg, _⟩
  · cases e
  · cases e; rw [h.hp] at hg; cases hg
theorem IsM.nmv (h : IsM w o i p m v L Ws) : v.ownBlock ≠ some m := fun e => by
  have b : w.heap[m]? = some (.map (ents 0 L).toArray L.length) := h.hm
  rcases h.hv.row.2 with ⟨rfl, _⟩ | ⟨g, C, cur, rfl, _, hg, _⟩
  · cases e
  · cases e; rw [b] at hg; cases hg
theorem IsM.other (h : IsM w o j p m v L Ws) (s : Stp o i w o' w') (hne : j ≠ i) : IsM w' o' j p m v L Ws :=
  ⟨(s.blk p h.ltp (by rw [h.op]; exact hne)).trans h.hp, (s.blk m h.ltm (by rw [h.om]; exact hne)).trans h.hm, h.hv.other s hne, (s.own p h.ltp).trans h.op, (s.own m h.ltm).trans h.om, h.n1, h.n2, h.sz, h.ws⟩
theorem IsM.reads (h : IsM w o i p m v L Ws) (b : Below w.heap.size w w') : IsM w' o i p m v L Ws :=
  ⟨(b.block p h.ltp).trans h.hp, (b.block m h.ltm).trans h.hm, h.hv.reads b, h.op, h.om, h.n1, h.n2, h.sz, h.ws⟩
theorem IsM.alloc (h : IsM w o i p m v L Ws) (x : Obj) : IsM (w.alloc x) o i p m v L Ws := h.reads ((Below.refl _ w).alloc (Nat.le_refl _) x)
theorem IsM.drew (h : IsM w o i p m v L Ws) : IsM w.drew o i p m v L Ws := ⟨h.hp, h.hm, ⟨ownsRow_same h.hv.row (fun _ _ => rfl), h.hv.own⟩, h.op, h.om, h.n1, h.n2, h.sz, h.ws⟩
/-- the map has changed -/
theorem IsM.put (h : IsM w o i p m v L Ws) (k : Nat) (q : ByteArray × ByteArray) (hq : q.1.size = 256 ∧ q.2.size = 256) :
    IsM (setBlock w m (.map (ents 0 (L.set k q)).toArray L.length)) o i p m v (L.set k q) Ws := by
  refine ⟨(heap_setBlock_other h.hm _ h.npm).trans h.hp, isMap_put h.hm k q, ⟨ownsRow_same h.hv.row (fun g hg => heap_setBlock_other h.hm _ (fun e => h.nmv (by rw [← e]; exact hg))), h.hv.own⟩, h.op, h.om, by simpa using h.n1, by simpa using h.n2, ?_, fun x hx => by rw [List.length_set]; exact h.ws x hx⟩
  intro y hy
  rcases List.mem_or_eq_of_mem_set hy with hy | rfl
  · exact h.sz y hy
  · exact hq
end

/-- what a write leaves of a page, by its fate -/
def leftOf (f : Int) (s t : ByteArray) : ByteArray := if f = 2 then tornOf s t else if f = 1 then s else t
theorem leftOf_size (f : Int) (s t : ByteArray) (hs : s.size = 256) (ht : t.size = 256) : (leftOf f s t).size = 256 := by
  unfold leftOf; split
  · exact tornOf_size s t hs ht
  · split <;> assumption

theorem field_sure (a b : ByteArray) (w : World) : (Instr.field 59 (.agg #[.string a, .string b]) 0).run Try.prog w = .ok (.string a) w := by kernel_rfl
theorem field_now (a b : ByteArray) (w : World) : (Instr.field 59 (.agg #[.string a, .string b]) 1).run Try.prog w = .ok (.string b) w := by kernel_rfl

theorem zero_state (w : World) : (zeroValue 59).run Try.prog w = .ok (stv (⟨#[]⟩, ⟨#[]⟩)) w := by kernel_rfl

section
variable {w : World} {o : Nat → Nat} {i p m : Nat} {v : Value} {L : Pgs} {Ws : Wrs}
set_option maxRecDepth 100000 in
set_option maxHeartbeats 400000 in
theorem dlen_any (H : IsM w o i p m v L Ws) :
    Calls Try.prog 25 #[.pointer (some ⟨p, 0, none⟩)] w fun e w' => e = .returned (.int .i64 (L.length : Int)) ∧ w = w' := by
  have cp := H.c0
  have hl := fun ty => len_map (P := Try.prog) H.hm Try.underlying54 ty
  clear H
  go_enter Try.func25, Try.ntmps25
  go_wp2
  go_ret
  exact ⟨rfl, rfl⟩
set_option maxRecDepth 100000 in
set_option maxHeartbeats 400000 in
theorem read_out (H : IsM w o i p m v L Ws) (x : Int) (hx : x < 0 ∨ (L.length : Int) ≤ x) :
    Calls Try.prog 15 #[.pointer (some ⟨p, 0, none⟩), .int .i64 x] w fun e w' => e = .returned (.tuple #[.string ⟨#[]⟩, .int .i64 1]) ∧ Below w.heap.size w w' := by
  have cp := H.c0
  have hlk := look_miss (P := Try.prog) true H.hm Try.underlying54 Try.underlying3 (zero_state w) x hx
  simp only [stv, if_true] at hlk
  clear H hx
  go_enter Try.func15, Try.ntmps15
  go_wp2
  go_ret2
  exact ⟨rfl, by first | exact (Below.refl _ _).alloc (Nat.le_refl _) _ | exact ((Below.refl _ _).alloc (Nat.le_refl _) _).setCell (Nat.le_refl _) _⟩
/-- what a page as it stands is read as -/
def readOf (s : ByteArray) : ByteArray := if okPage s then s.extract 0 252 else ⟨#[]⟩
def errOf (s : ByteArray) : Int := if okPage s then 0 else 5
theorem open_both (p : ByteArray) (w : World) (h : p.size = 256) :
    Calls Try.prog 34 #[.string p] w fun e w' => e = .returned (.tuple #[.string (readOf p), .int .i64 (errOf p)]) ∧ Below w.heap.size w w' := by
  unfold readOf errOf
  cases ho : okPage p
  · simpa using open_sum p w h ho
  · simpa using open_ok p w h ho
set_option maxRecDepth 100000 in
set_option maxHeartbeats 400000 in
theorem read_in (H : IsM w o i p m v L Ws) (k : Nat) (q : ByteArray × ByteArray) (hq : L[k]? = some q) :
    Calls Try.prog 15 #[.pointer (some ⟨p, 0, none⟩), .int .i64 (k : Int)] w fun e w' => e = .returned (.tuple #[.string (readOf q.2), .int .i64 (errOf q.2)]) ∧ Below w.heap.size w w' := by
  have cp := H.c0
  have hlk := look_hit (P := Try.prog) true H.hm Try.underlying54 Try.underlying3 k q hq
  have hq1 := H.sz q (List.mem_of_getElem? hq)
  obtain ⟨qa, qb⟩ := q
  simp only [stv, if_true] at hlk
  have C := Lib.hid fun w => open_both qb w hq1.2
  clear H hq hq1
  dsimp only at C ⊢
  generalize readOf qb = R at *
  generalize errOf qb = E at *
  go_enter Try.func15, Try.ntmps15
  go_wp2_with fail
  refine (C.out _).mono ?_; rintro e w1 ⟨rfl, b1⟩
  go_wp2
  go_ret2
  exact ⟨rfl, by first | exact ((Below.refl _ w).alloc (Nat.le_refl _) _).trans (b1.mono (by simp)) | exact (((Below.refl _ w).alloc (Nat.le_refl _) _).setCell (Nat.le_refl _) _).trans (b1.mono (by simp))⟩
end
end Go.Proofs.Ytdbniiggbjmfoaa
