/-
  Package lock: who waits for whom, followed: the closure that calls itself (isLoop's).
-/
import Derived.Test.YtainnhcmhgloaaaGreatDoorW09h
namespace Go.Proofs.YtainnhcmhgloaaaGreatDoor
open Go.RowKit Go.Shelf Go.MapKept Go.Maps Go.Sort

/-- whether a waits behind b at once: who holds the name against them, or stands just ahead in the queue -/
def Bq (H W : Hs) (a b : Int) : Prop := ∃ y ∈ W, y.owner = a ∧ ((∃ h ∈ H, h.name = y.name ∧ h.owner = b ∧ b ≠ a ∧ fitN y.mode h.mode = false) ∨ ∃ (l1 l2 : Hs) (z : Has9), nameL W y.name = l1 ++ z :: y :: l2 ∧ z.owner = b)
/-- all but block m is as it was, and new -/
structure But (m : Nat) (w w' : World) : Prop where
  os : w'.os = w.os
  tape : w'.tape = w.tape
  output : w'.output = w.output
  size : w.heap.size ≤ w'.heap.size
  blk : ∀ k, k < w.heap.size → k ≠ m → w'.heap[k]? = w.heap[k]?
theorem But.refl (m : Nat) (w : World) : But m w w := ⟨rfl, rfl, rfl, Nat.le_refl _, fun _ _ _ => rfl⟩
theorem But.trans {m : Nat} {w w1 w2 : World} (a : But m w w1) (b : But m w1 w2) : But m w w2 :=
  ⟨b.os.trans a.os, b.tape.trans a.tape, b.output.trans a.output, Nat.le_trans a.size b.size, fun k hk hm => (b.blk k (Nat.lt_of_lt_of_le hk a.size) hm).trans (a.blk k hk hm)⟩
theorem But.of {m : Nat} {w w' : World} (b : Below w.heap.size w w') : But m w w' := ⟨b.os, b.tape, b.output, b.size, fun k hk _ => b.block k hk⟩
theorem But.only {m : Nat} {w w' : World} (b : Only m w w') : But m w w' := ⟨b.os, b.tape, b.output, Nat.le_of_eq b.size.symm, fun k _ hm => b.blk k hm⟩
theorem But.below {m n : Nat} {w0 w w' : World} (h : Below n w0 w) (b : But m w w') (hn : n ≤ w.heap.size) (hm : n ≤ m) : Below n w0 w' :=
  ⟨b.os.trans h.os, b.tape.trans h.tape, b.output.trans h.output, Nat.le_trans h.size b.size, fun k hk => (b.blk k (Nat.lt_of_lt_of_le hk hn) (by omega)).trans (h.block k hk)⟩
def skv (x : Int) : Value × Value := (.int .i64 x, .agg #[])
def leadsV (B2 B3 B4 B5 B6 : Nat) : Value := .func (.func 82) #[] #[ptr9 B2, ptr9 B3, ptr9 B4, ptr9 B5, ptr9 B6]
/-- where following stands: those that were seen -/
structure LS (w : World) (g B2 B3 B4 B5 B6 ms : Nat) (o : Int) (lat : Value) (T4 T6 : TypeId) (wr : World) (S : List Int) : Prop where
  bel : Below w.heap.size w wr
  sz : w.heap.size ≤ ms
  a2 : At wr B2 #[ptr9 g] 23
  a3 : At wr B3 #[.int .i64 o] 3
  a4 : At wr B4 #[.map (some ms)] T4
  a5 : At wr B5 #[lat] 36
  a6 : At wr B6 #[leadsV B2 B3 B4 B5 B6] T6
  m : MapAt (.int .i64) wr ms (S.map skv)
section
variable {w wr w' : World} {g B2 B3 B4 B5 B6 ms : Nat} {o : Int} {lat : Value} {T4 T6 : TypeId} {S S' : List Int}
theorem LS.but (h : LS w g B2 B3 B4 B5 B6 ms o lat T4 T6 wr S) (b : But ms wr w') (M : MapAt (.int .i64) w' ms (S'.map skv)) : LS w g B2 B3 B4 B5 B6 ms o lat T4 T6 w' S' := by
  have ne : ∀ {B : Nat} {cs : Array Value} {T : TypeId}, At wr B cs T → B ≠ ms := fun hA e => h.m.notCells (by rw [← e]; exact hA)
  exact ⟨b.below h.bel h.bel.size h.sz, h.sz, h.a2.same (b.blk _ h.a2.lt (ne h.a2)), h.a3.same (b.blk _ h.a3.lt (ne h.a3)), h.a4.same (b.blk _ h.a4.lt (ne h.a4)), h.a5.same (b.blk _ h.a5.lt (ne h.a5)), h.a6.same (b.blk _ h.a6.lt (ne h.a6)), M⟩
theorem LS.reads (h : LS w g B2 B3 B4 B5 B6 ms o lat T4 T6 wr S) (b : Below wr.heap.size wr w') : LS w g B2 B3 B4 B5 B6 ms o lat T4 T6 w' S :=
  h.but (But.of b) (h.m.same (b.block _ h.m.lt))
theorem seen_nodup (h : MapAt (.int .i64) w ms (S.map skv)) : S.Nodup := by
  have := h.nokeys
  rw [List.map_map] at this
  exact List.Pairwise.of_map (S := fun a b => a ≠ b) (f := fun n : Int => Value.int .i64 n) (fun a b hab e => hab (by rw [e])) this
end
section
variable {N : List En} {HL : List Ho} {WL H W : Hs} {n0 : ByteArray} {e : En}
/-- those that are told next are those behind whom one waits at once -/
theorem next_bq (A : Abs N HL WL H W n0 []) {y : Has9} (hy : y ∈ W) (he : e ∈ N) (hn : e.name = y.name) (hnd : (e.hs.map (·.1)).Nodup) {l : List Int} {l1 l2 : Hs} (hsp : nameL W y.name = l1 ++ y :: l2) (hl : l.Perm ((e.hs.map (·.1)).filter (badP e.hs y.owner y.mode))) (b : Int) :
    b ∈ l ++ (match l1.getLast? with | some z => [z.owner] | none => []) ↔ Bq H W y.owner b := by
  have hbad : b ∈ l ↔ ∃ h ∈ H, h.name = y.name ∧ h.owner = b ∧ b ≠ y.owner ∧ fitN y.mode h.mode = false := by
    rw [hl.mem_iff, List.mem_filter]
    constructor
    · rintro ⟨h1, h2⟩
      obtain ⟨p, hp, rfl⟩ := List.mem_map.1 h1
      unfold badP at h2
      rw [hsM_mem hnd hp] at h2
      simp at h2
      exact ⟨_, (A.mem he p.1 p.2).1 hp, hn, rfl, h2.1, h2.2⟩
    · rintro ⟨h, hh, h1, rfl, h2, h3⟩
      have hp := (A.mem he h.owner h.mode).2 (by rw [hn, ← h1]; exact hh)
      refine ⟨List.mem_map.2 ⟨_, hp, rfl⟩, ?_⟩
      unfold badP
      rw [hsM_mem hnd hp]
      simp [h2, h3]
  have uniq : ∀ {k1 k2 l1 l2 : Hs}, k1 ++ y :: k2 = l1 ++ y :: l2 → ((k1 ++ y :: k2).map (·.owner)).Nodup → k1 = l1 := by
    intro k1
    induction k1 with
    | nil =>
      intro k2 l1 l2 h hnd
      cases l1 with
      | nil => rfl
      | cons z l =>
        simp only [List.nil_append, List.cons_append, List.cons.injEq] at h
        exfalso
        rw [h.2] at hnd
        simp at hnd
    | cons z k ih =>
      intro k2 l1 l2 h hnd
      cases l1 with
      | nil =>
        simp only [List.nil_append, List.cons_append, List.cons.injEq] at h
        exfalso
        rw [h.1] at hnd
        simp at hnd
      | cons z' l =>
        simp only [List.cons_append, List.cons.injEq] at h
        simp only [List.cons_append, List.map_cons, List.nodup_cons] at hnd
        rw [h.1, ih h.2 hnd.2]
  constructor
  · intro h
    refine ⟨y, hy, rfl, ?_⟩
    rcases List.mem_append.1 h with h | h
    · exact .inl (hbad.1 h)
    · right
      cases hz : l1.getLast? with
      | none => rw [hz] at h; cases h
      | some z =>
        rw [hz] at h
        have hb := List.mem_singleton.1 h
        obtain ⟨ys, hys⟩ := List.getLast?_eq_some_iff.1 hz
        exact ⟨ys, l2, z, by rw [hsp, hys]; simp, hb.symm⟩
  · rintro ⟨y', hy', ho, h⟩
    obtain rfl : y' = y := wone A.ok.wn hy' hy ho
    rcases h with h | ⟨k1, k2, z, h1, rfl⟩
    · exact List.mem_append_left _ (hbad.2 h)
    · refine List.mem_append_right _ ?_
      have h2 : (k1 ++ [z]) ++ y' :: k2 = l1 ++ y' :: l2 := by rw [← hsp, h1]; simp
      have := uniq h2 (by rw [h2, ← hsp]; exact nameL_owners A.ok.wn _)
      rw [← this]; simp
theorem bq_no {x : Int} (hno : ∀ y ∈ W, y.owner ≠ x) (b : Int) : ¬ Bq H W x b := fun ⟨y, hy, h, _⟩ => hno y hy h
theorem Bq.univ {a b : Int} (h : Bq H W a b) : b ∈ H.map (·.owner) ++ W.map (·.owner) := by
  obtain ⟨y, hy, _, h⟩ := h
  rcases h with ⟨h, hh, _, rfl, _⟩ | ⟨l1, l2, z, h1, rfl⟩
  · exact List.mem_append_left _ (List.mem_map.2 ⟨h, hh, rfl⟩)
  · have : z ∈ nameL W y.name := by rw [h1]; simp
    exact List.mem_append_right _ (List.mem_map.2 ⟨z, (mem_nameL.1 this).1, rfl⟩)
/-- whether a waits behind b, over however many, step by step -/
inductive Bqs (H W : Hs) : Int → Int → Prop
  | one {a b} (h : Bq H W a b) : Bqs H W a b
  | more {a b c} (h : Bq H W a b) (t : Bqs H W b c) : Bqs H W a c
end
end Go.Proofs.YtainnhcmhgloaaaGreatDoor
