/-
  The document's pool: a place's cells written; the contracts of write, Unpin.
-/
import Derived.Test.YthjlbfijfpfohaaGreatZ07a
import Derived.Test.YthjlbfijfpfohaaGreatGB
namespace Go.Proofs.YthjlbfijfpfohaaGreat
open Go.RowKit Go.MapKept

/-- blocks of the owner, but some, are as they were -/
def KeptQ (o : Nat → Nat) (j : Nat) (w w' : World) (X : Nat → Prop) : Prop := w.heap.size ≤ w'.heap.size ∧ ∀ b, b < w.heap.size → o b = j → ¬ X b → w'.heap[b]? = w.heap[b]?
def updQ (E : List Qn) (k : Nat) (F : Qn → Qn) : List Qn := E.map (fun e => if e.pg = k then F e else e)
section
variable {w w' : World} {o o' : Nat → Nat} {i j g x n q : Nat} {su : Int} {v : Value} {E : List Qn} {S : List ByteArray} {Ws : Wrs}
theorem mem_updQ {k : Nat} {F : Qn → Qn} {e : Qn} (h : e ∈ updQ E k F) : (e ∈ E ∧ e.pg ≠ k) ∨ ∃ y ∈ E, y.pg = k ∧ e = F y := by
  obtain ⟨b, hb, rfl⟩ := List.mem_map.1 h
  by_cases e : b.pg = k
  · exact .inr ⟨b, hb, e, by rw [if_pos e]⟩
  · rw [if_neg e]; exact .inl ⟨hb, e⟩
theorem updQ_mem {e : Qn} (he : e ∈ E) (F : Qn → Qn) : F e ∈ updQ E e.pg F := List.mem_map.2 ⟨e, he, by rw [if_pos rfl]⟩
theorem updQ_field {α : Type} (E : List Qn) (k : Nat) (F : Qn → Qn) (r : Qn → α) (hr : ∀ e : Qn, r (F e) = r e) : (updQ E k F).map r = E.map r := by
  unfold updQ; rw [List.map_map]; congr 1; funext e; simp only [Function.comp]; split
  · exact hr e
  · rfl
theorem updQ_updQ (E : List Qn) (k : Nat) (F F' : Qn → Qn) (hF : ∀ e : Qn, (F e).pg = e.pg) : updQ (updQ E k F) k F' = updQ E k (fun e => F' (F e)) := by
  unfold updQ; rw [List.map_map]; congr 1; funext e; simp only [Function.comp]
  by_cases h : e.pg = k
  · simp [h, hF]
  · simp [h]
theorem updQ_length (E : List Qn) (k : Nat) (F : Qn → Qn) : (updQ E k F).length = E.length := by simp [updQ]
/-- a cell of a place is written -/
theorem IsQ.put (h : IsQ w o j g x n su v E) {e : Qn} (he : e ∈ E) (c : Nat) (u : Value) (F : Qn → Qn) (hp : ∀ y : Qn, (F y).pg = y.pg ∧ (F y).b = y.b) (hv : qlv (F e) = (qlv e).setIfInBounds c u) :
    IsQ (w.setCell ⟨e.b, c, none⟩ u) o j g x n su v (updQ E e.pg F) := by
  have st := Stp.setCell o j w e.b c u (h.ob e he)
  have hne : ∀ gb, v.ownBlock = some gb → gb ≠ e.b := fun gb hg y => by
    rcases h.hv.row.2 with ⟨rfl, _⟩ | ⟨g2, C, cur, rfl, _, hgb, _⟩
    · cases hg
    · cases hg
      have b := h.hb e he
      unfold At at b
      rw [← y, hgb] at b
      simp only [Option.some.injEq, Obj.cells.injEq] at b
      exact absurd b.2.1 (by decide)
  refine ⟨h.hp.setOther c u (h.ngb he).symm, ?_, fun y hy => ?_, h.op, fun y hy => ?_, ?_, ?_⟩
  · rw [updQ_length, updQ_field E _ F qptr (fun y => by unfold qptr; rw [(hp y).2])]
    exact ⟨ownsRow_same h.hv.row (fun gb hg => Below.heap_setCell w ⟨e.b, c, none⟩ u gb (hne gb hg)), h.hv.own⟩
  · rcases mem_updQ hy with ⟨hy, hne⟩ | ⟨z, hz, hk, rfl⟩
    · exact (h.hb y hy).setOther c u (fun eb => hne (by rw [map_inj_of_nodup h.nb he hy eb]))
    · obtain rfl : z = e := map_inj_of_nodup h.nk hz he hk
      have := (h.hb z hz).set c u
      rw [← hv] at this
      rw [(hp z).2]; exact this
  · rcases mem_updQ hy with ⟨hy, _⟩ | ⟨z, hz, _, rfl⟩
    · exact h.ob y hy
    · rw [(hp z).2]; exact h.ob z hz
  · rw [updQ_field E _ F (·.b) (fun y => (hp y).2)]; exact h.nb
  · rw [updQ_field E _ F (·.pg) (fun y => (hp y).1)]; exact h.nk
set_option maxRecDepth 100000 in
set_option maxHeartbeats 1000000 in
theorem qwrite (h : IsQ w o j g x n su v E) (D : IsR w o q x S Ws) (hqj : q ≠ j) {e : Qn} (he : e ∈ E) (hk : e.pg < S.length) (hs : e.s.size ≤ 252) (hW : Ws.length ≤ 100000) :
    Calls Tryz.prog 56 #[.pointer (some ⟨g, 0, none⟩), .pointer (some ⟨e.b, 0, none⟩)] w fun y w' => y = .returned (.tuple #[]) ∧ ∃ o', IsQ w' o' j g x n su v (updQ E e.pg (fun z => { z with d := false })) ∧ IsR w' o' q x S (Ws ++ [(e.pg, pageOf e.s)]) ∧ Moves (Two j q) o w o' w' ∧ KeptQ o j w w' (fun b => b = e.b) := by
  have c0' : w.drew.cell? ⟨g, 0, none⟩ = some (.pointer (some ⟨x, 0, none⟩)) := h.hp.cell 0
  have b0' : w.drew.cell? ⟨e.b, 0, none⟩ = some (.int .i64 (e.pg : Int)) := (h.hb e he).cell 0
  have b1' : w.drew.cell? ⟨e.b, 1, none⟩ = some (.string e.s) := (h.hb e he).cell 1
  have CW := Lib.hid (rwrite_ok D.drew e.pg hk e.s hs hW)
  have HE := Lib.hid h; have HK := Lib.hid he
  clear h D he hk hs hW
  go_enter Tryz.func56, Tryz.ntmps56
  go_upto_region 0 with fail
  go_still_tail 12, (by kernel_rfl)
  change wpList _ _ _ _ _ w.drew
  go_wp2_with fail
  refine CW.out.mono ?_; rintro y w1 ⟨o1, rfl, D1, S1⟩
  have h1 := (HE.out.reads (below_drew w 1)).other S1 (fun e => hqj e.symm)
  have b3 : w1.cell? ⟨e.b, 3, none⟩ = some (.bool e.d) := (h1.hb e HK.out).cell 3
  have z3 := (h1.hb e HK.out).fz 3
  have HP := Lib.hid (h1.put HK.out 3 (.bool false) (fun z => { z with d := false }) (fun _ => ⟨rfl, rfl⟩) rfl)
  have S2 := Stp.setCell o1 j w1 e.b 3 (.bool false) (h1.ob e HK.out)
  have HM := Lib.hid ((Moves.of (X := Two j q) (.inr rfl) ((Stp.drew o q w).trans S1)).trans (Moves.of (.inl rfl) S2))
  have HD := Lib.hid (D1.other S2 hqj)
  have hKQ : KeptQ o j w (w1.setCell ⟨e.b, 3, none⟩ (.bool false)) (fun b => b = e.b) := ⟨Nat.le_trans S1.size S2.size, fun b hb ho hx => (Below.heap_setCell w1 ⟨e.b, 3, none⟩ (.bool false) b hx).trans (S1.blk b hb (by rw [ho]; exact fun y => hqj y.symm))⟩
  have HKQ := Lib.hid hKQ
  clear hKQ
  clear h1 D1 S1 S2 CW HE c0' b0' b1'
  go_wp2_with fail
  go_end0
  exact ⟨rfl, o1, HP.out, HD.out, HM.out, HKQ.out⟩
end
end Go.Proofs.YthjlbfijfpfohaaGreat
