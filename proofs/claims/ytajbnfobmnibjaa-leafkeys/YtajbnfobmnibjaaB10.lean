/-
  Appending to the row that []byte(s) makes: its mark of frozen cells lies behind its end.
-/
import Derived.Test.YtajbnfobmnibjaaD10o
import Derived.Lib.ConvBytes
import Derived.Laws.CopyRow
namespace Go.Proofs.Ytajbnfobmnibjaa
open Go.RowKit

/-- storing cell by cell into a block whose frozen cells, if any, lie behind its end -/
theorem stores_tail (P : Program) (g o : Nat) (t : TypeId) (fz : Nat × Nat) (vs : List Value) : ∀ (i : Nat) (cur : Array Value) (w : World), w.heap[g]? = some (.cells cur t fz) → cur.size ≤ fz.1 → o + i + vs.length ≤ cur.size → (∀ v ∈ vs, v.oneCell' = true) →
    (storeCells ⟨g, o, none⟩ vs i).run P w = .ok () (w.setRow g (cur.toList.take (o + i) ++ vs ++ cur.toList.drop (o + i + vs.length)).toArray) := by
  induction vs with
  | nil =>
    intro i cur w hg _ _ _
    simp only [storeCells, List.append_nil, List.length_nil, Nat.add_zero, List.take_append_drop, Array.toArray_toList]
    rw [setRow_self w g cur t fz hg]
    rfl
  | cons v rest ih =>
    intro i cur w hg hf hl h1
    have hlen : (v :: rest).length = rest.length + 1 := rfl
    have hlt : o + i < cur.size := by omega
    have ha : (⟨g, o, none⟩ : Addr).add i = ⟨g, o + i, none⟩ := by unfold Addr.add; split <;> simp_all
    have hc : w.cell? ⟨g, o + i, none⟩ = some cur[o + i] := by simp [World.cell?, hg, hlt]
    have hz : w.frozen? ⟨g, o + i, none⟩ = false := by
      obtain ⟨lo, hi⟩ := fz
      simp only at hf
      simp only [World.frozen?, hg, Bool.and_eq_false_iff, decide_eq_false_iff_not]
      left; omega
    have hs : (store ((⟨g, o, none⟩ : Addr).add i) v).run P w = .ok () (w.setRow g (cur.setIfInBounds (o + i) v)) := by
      rw [ha, run_store P w _ v _ (h1 v (by simp)), hc]
      simp [hz, setCell_eq_setRow w g (o + i) cur t fz v hg]
    have h2 := ih (i + 1) (cur.setIfInBounds (o + i) v) (w.setRow g (cur.setIfInBounds (o + i) v)) (setRow_heap w g cur _ t _ hg) (by simpa using hf) (by simp; omega) (fun x hx => h1 x (by simp [hx]))
    simp only [storeCells, Sem.run_bind, hs, Result.andThen_ok, h2, setRow_setRow]
    congr 3
    have e := list_seg_step cur.toList (o + i) v rest (by simp; omega)
    simpa [Array.toList_setIfInBounds, Nat.add_assoc] using e
/-- a row of bytes of the call's own, or what []byte(s) made -/
def Own2 (base : Nat) (w : World) (v : Value) (l : List UInt8) : Prop :=
  OwnB10 base w v l ∨ ∃ g C cur m, v = .slice (some ⟨g, 0, none⟩) l.length C ∧ base ≤ g ∧ w.heap[g]? = some (.cells cur 5 (m, m + 1)) ∧ cur.size = m ∧ cur.size = C ∧ l.length ≤ C ∧ C ≤ maxLen ∧ cur.toList.take l.length = bcl10 l
theorem Own2.lt {base : Nat} {w : World} {v : Value} {l : List UInt8} (h : Own2 base w v l) : ∀ g, v.ownBlock = some g → base ≤ g ∧ g < w.heap.size := by
  rcases h with h | ⟨g, C, cur, m, rfl, h1, h2, _⟩
  · exact World.ownsRow.lt h
  · intro g' hg
    cases hg
    exact ⟨h1, (Array.getElem?_eq_some_iff.1 h2).1⟩
theorem Own2.below {base : Nat} {w w' : World} {v : Value} {l : List UInt8} (h : Own2 base w v l) (b : Below w.heap.size w w') : Own2 base w' v l := by
  rcases h with h | ⟨g, C, cur, m, rfl, h1, h2, h3⟩
  · exact .inl (h.below b)
  · exact .inr ⟨g, C, cur, m, rfl, h1, (b.block g (Array.getElem?_eq_some_iff.1 h2).1).trans h2, h3⟩
theorem own2_conv (base : Nat) (w : World) (s : ByteArray) (l : List UInt8) (hs : s = baL10 l) (hb : base ≤ w.heap.size) (hl : l.length ≤ 1000000) :
    Own2 base (Lib.bytesWorld w 5 s) (.slice (some ⟨w.heap.size, 0, none⟩) s.size (grownCap w s.size 0 5)) l := by
  subst hs
  have hge := grownCap_ge w (baL10 l).size 0 5
  have hle := grownCap_le_maxLen w (baL10 l).size 0 5 (by rw [baL10_size]; unfold maxLen; omega)
  have hsz : (Lib.bytesCells w 5 (baL10 l)).size = grownCap w (baL10 l).size 0 5 := by
    have h1 : (baL10 l).data.size = (baL10 l).size := rfl
    unfold Lib.bytesCells
    simp only [Array.size_append, Array.size_map, Array.size_replicate]
    omega
  refine .inr ⟨w.heap.size, _, _, _, by rw [baL10_size], hb, Lib.bytesWorld_at_new w 5 (baL10 l), rfl, hsz, by rw [baL10_size] at hge; exact hge, hle, ?_⟩
  unfold Lib.bytesCells bcl10
  simp only [Array.toList_append, Array.toList_map]
  rw [show (baL10 l).data.toList = l from rfl, List.take_left' (by simp)]
theorem Own2.append {base : Nat} {w : World} {v : Value} {l : List UInt8} (h : Own2 base w v l) (s : List UInt8) (hb : base ≤ w.heap.size) (hl : l.length ≤ 1000000) (hm : s.length ≤ 1000000) :
    ∃ v' w', (Builtin.append_ #[80, 9] 80 #[v, .string (baL10 s)]).run Try.prog w = .ok v' w' ∧ Own2 base w' v' (l ++ s) ∧ w.grownBy w' v.ownBlock := by
  rcases h with h | ⟨g, C, cur, m, rfl, h1, h2, h3, h4, h5, h6, h7⟩
  · obtain ⟨v', w', a1, a2, a3⟩ := h.append s hb hl hm
    exact ⟨v', w', a1, .inl a2, a3⟩
  · obtain ⟨i, hi, hz, hs, hby⟩ := Try.info_byte
    have hss : (baL10 s).size = s.length := baL10_size s
    have hcl : (bcl10 l).length = l.length := by simp [bcl10]
    have hsl : (Lib.strCells (baL10 s)).length = s.length := by rw [Lib.strCells_length, hss]
    by_cases hroom : l.length + s.length ≤ C
    · have hst := stores_tail Try.prog g l.length 5 (m, m + 1) (Lib.strCells (baL10 s)) 0 cur w h2 (by omega) (by rw [hsl]; omega) (Lib.strCells_oneCell (baL10 s))
      have hf := Lib.run_firstCells_string (P := Try.prog) w 1 (baL10 s)
      simp only [Nat.add_zero, Lib.strCells_length] at hst
      have hr : (Builtin.append_ #[80, 9] 80 #[.slice (some ⟨g, 0, none⟩) l.length C, .string (baL10 s)]).run Try.prog w = .ok (.slice (some ⟨g, 0, none⟩) (l.length + (baL10 s).size) C) (w.setRow g (cur.toList.take l.length ++ Lib.strCells (baL10 s) ++ cur.toList.drop (l.length + (baL10 s).size)).toArray) := by
        have hroom' : l.length + (baL10 s).size ≤ C := by omega
        simp [Builtin.append_, run_underlying Try.underlying80, run_underlying Try.underlying9, sizeOf, typeInfo, hi, hs, Builtin.lenOf, hroom', hf, Addr.add_lit, hst]
      have hN : (cur.toList.take l.length ++ Lib.strCells (baL10 s) ++ cur.toList.drop (l.length + (baL10 s).size)).toArray.size = cur.size := by
        have hcu : cur.toList.length = cur.size := Array.length_toList
        have e1 : (cur.toList.take l.length).length = l.length := by rw [List.length_take, hcu]; omega
        have e2 : (cur.toList.drop (l.length + (baL10 s).size)).length = cur.size - (l.length + s.length) := by rw [List.length_drop, hcu, hss]
        rw [List.size_toArray, List.length_append, List.length_append, e1, e2, hsl]; omega
      refine ⟨_, _, hr, .inr ⟨g, C, _, m, by rw [List.length_append, hss], h1, setRow_heap w g cur _ 5 _ h2, by rw [hN]; exact h3, by rw [hN]; exact h4, by rw [List.length_append]; exact hroom, h6, ?_⟩, ⟨rfl, rfl, rfl, by simp, fun k _ hk => setRow_other w g k _ (fun e => hk (by simp [Value.ownBlock, e]))⟩⟩
      rw [h7, strCells_baL10, ← bcl10_append]
      exact List.take_left' (by simp [bcl10])
    · have holds : ∀ j u, (bcl10 l)[j]? = some u → w.cell? ((⟨g, 0, none⟩ : Addr).add j) = some u := by
        intro j u hj
        have hjl : j < l.length := by have := (List.getElem?_eq_some_iff.1 hj).1; omega
        rw [← h7, List.getElem?_take, if_pos hjl] at hj
        have ha : (⟨g, 0, none⟩ : Addr).add j = ⟨g, j, none⟩ := by unfold Addr.add; split <;> simp_all
        rw [ha]
        simp only [World.cell?, h2]
        simpa using hj
      have hr := Lib.run_append_grow_string (P := Try.prog) (w := w) 80 9 80 5 i (.int .u8 0) Try.underlying80 Try.underlying9 hi hz ⟨g, 0, none⟩ l.length C (bcl10 l) (by rw [hs, hcl]; omega) holds (baL10 s) (by omega) (by omega) (by rw [hby]; exact growslice_fits (by omega) (by omega))
      have hge := grownCap_ge w (l.length + (baL10 s).size) C 5
      have hcm := grownCap_le_maxLen w (l.length + (baL10 s).size) C 5 (by unfold maxLen; omega)
      refine ⟨_, _, hr, .inl ?_, ⟨rfl, rfl, rfl, by simp, fun k hk _ => heap_alloc_old w.drew _ hk⟩⟩
      unfold OwnB10
      rw [bcl10_append, List.length_append, ← hss]
      refine ⟨by simp [bcl10, hss], .inr ⟨w.heap.size, _, _, rfl, hb, heap_alloc_new w.drew _, hge, hcm, ?_, ?_⟩⟩
      · have hz1 : (Value.int IntKind.u8 0).cells.size = 1 := rfl
        simp only [Array.size_append, List.size_toArray, size_zeroCells, hz1, hcl, hsl]
        omega
      · simp only [Array.toList_append, strCells_baL10]
        exact List.take_left' (by simp [bcl10, hss])
end Go.Proofs.Ytajbnfobmnibjaa
