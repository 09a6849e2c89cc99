/-
  The document's pool: the contract of free.
-/
import Derived.Test.YthjlbfijfpfohaaGreatZ07e
namespace Go.Proofs.YthjlbfijfpfohaaGreat
open Go.RowKit Go.MapKept
def Qn.goes (su : Int) (e : Qn) : Bool := decide (e.pins = 0) && (!e.d || (e.d && decide (e.la ≤ su)))
section
variable {w w' : World} {o o' : Nat → Nat} {i j g x n q : Nat} {su : Int} {v : Value} {E : List Qn} {S : List ByteArray} {Ws : Wrs}
set_option maxRecDepth 100000 in
set_option maxHeartbeats 1000000 in
theorem qfree_room (h : IsQ w o j g x n su v E) (hl : E.length < n) :
    Calls Tryz.prog 49 #[.pointer (some ⟨g, 0, none⟩)] w fun y w' => y = .returned (.bool true) ∧ Below w.heap.size w w' := by
  obtain ⟨va, vC, rfl⟩ := h.slot
  have c3 : ∀ c, (w.drewN c).cell? ⟨g, 3, none⟩ = some (.slice va E.length vC) := fun c => h.hp.cell 3
  have c1 : ∀ c, (w.drewN c).cell? ⟨g, 1, none⟩ = some (.int .i64 (n : Int)) := fun c => h.hp.cell 1
  have k1 : (E.length : Int) < (n : Int) := by omega
  clear h
  go_enter Tryz.func49, Tryz.ntmps49
  go_wp2_with fail
  go_quiet (fail)
  have HB := Lib.hid (below_drew w nq)
  clear c3 c1
  generalize w.drewN nq = W2 at *
  go_wp2_with fail
  go_ret
  exact ⟨rfl, HB.out⟩
set_option maxRecDepth 100000 in
set_option maxHeartbeats 4000000 in
theorem qfree_no (h : IsQ w o j g x n su v E) (hl : n ≤ E.length) (hl2 : E.length ≤ 1000) (hno : ∀ e ∈ E, e.goes su = false) :
    Calls Tryz.prog 49 #[.pointer (some ⟨g, 0, none⟩)] w fun y w' => y = .returned (.bool false) ∧ Below w.heap.size w w' := by
  obtain ⟨va, vC, rfl⟩ := h.slot
  have c3 : ∀ c, (w.drewN c).cell? ⟨g, 3, none⟩ = some (.slice va E.length vC) := fun c => h.hp.cell 3
  have c1 : ∀ c, (w.drewN c).cell? ⟨g, 1, none⟩ = some (.int .i64 (n : Int)) := fun c => h.hp.cell 1
  have k1 : ¬ (E.length : Int) < (n : Int) := by omega
  have k1' : decide (E.length < n) = false := decide_eq_false (by omega)
  have HH := Lib.hid h; have HN := Lib.hid hno
  clear h hno
  go_enter Tryz.func49, Tryz.ntmps49
  go_wp2_with fail
  go_quiet (fail)
  have H2 := Lib.hid (HH.out.reads (below_drew w nq))
  have HB := Lib.hid (below_drew w nq)
  clear c3 c1 HH
  generalize w.drewN nq = W2 at *
  go_wp2_with fail
  go_loopw [3] (fun u wr => ∃ k : Nat, k ≤ E.length ∧ u = .int .i64 (k : Int) ∧ IsQ wr o j g x n su (.slice va E.length vC) E ∧ Below w.heap.size w wr) (fun u _ => E.length - (intOf u).toNat)
  case atStart => exact ⟨0, by omega, rfl, H2.out, HB.out⟩
  case round =>
    obtain ⟨k, hk, rfl, h3, b3⟩ := hrel
    have H3 := Lib.hid h3; have HB3 := Lib.hid b3
    have c3 : wr.cell? ⟨g, 3, none⟩ = some (.slice va E.length vC) := h3.hp.cell 3
    clear H2 HB h3 b3
    by_cases hlt : k < E.length
    · have t1 : (k : Int) < (E.length : Int) := by omega
      have t0 : (0 : Int) ≤ (k : Int) := by omega
      have he := List.getElem?_eq_getElem hlt
      have hm := List.mem_of_getElem? he
      obtain ⟨gb, C, hv, cc⟩ := H3.out.at' he
      cases hv
      unfold qptr at cc
      have hg := HN.out _ hm
      obtain ⟨e, hee⟩ : ∃ e, E[k] = e := ⟨_, rfl⟩
      rw [hee] at cc hg hm
      have b2 : wr.cell? ⟨e.b, 2, none⟩ = some (.int .i64 (e.pins : Int)) := (H3.out.hb e hm).cell 2
      have b3 : wr.cell? ⟨e.b, 3, none⟩ = some (.bool e.d) := (H3.out.hb e hm).cell 3
      have CM := Lib.hid (qmay H3.out hm)
      unfold Qn.goes at hg
      clear he hee hm
      by_cases hp : e.pins = 0
      · cases hd : e.d with
        | false => rw [hp, hd] at hg; simp at hg
        | true =>
          have hla : decide (e.la ≤ su) = false := by rw [hp, hd] at hg; simpa using hg
          rw [hd, hla] at CM
          rw [hd] at b3
          rw [hp] at b2
          clear hg hla hd hp
          go_wp2_with (go_at_call 55; refine CM.out.mono ?_; rintro y W5 ⟨rfl, nq5, rfl⟩)
          exact ⟨⟨k + 1, by omega, by go_num, H3.out.reads (below_drew wr nq5), HB3.out.trans ((below_drew wr nq5).mono HB3.out.size)⟩, by simp [intOf]; omega⟩
      · have hz : ((e.pins : Int) == 0) = false := by rw [beq_eq_false_iff_ne]; omega
        generalize (e.pins : Int) = pn at *
        clear hg hp CM
        go_wp2_with fail
        exact ⟨⟨k + 1, by omega, by go_num, H3.out, HB3.out⟩, by simp [intOf]; omega⟩
    · have t1 : ¬ (k : Int) < (E.length : Int) := by omega
      go_wp2_with fail
      go_ret
      exact ⟨rfl, HB3.out⟩
end
end Go.Proofs.YthjlbfijfpfohaaGreat
