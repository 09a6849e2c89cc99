/-
  The document's pool: the contracts of Unpin, Put.
-/
import Derived.Test.YthjlbfijfpfohaaGreatZ07b
namespace Go.Proofs.YthjlbfijfpfohaaGreat
open Go.RowKit Go.MapKept
section
variable {w w' : World} {o o' : Nat → Nat} {i j g x n q : Nat} {su : Int} {v : Value} {E : List Qn} {S : List ByteArray} {Ws : Wrs}
set_option maxRecDepth 100000 in
set_option maxHeartbeats 1000000 in
theorem qunpin_none (h : IsQ w o j g x n su v E) (k : Int) (hl : E.length ≤ 1000) (hk : ∀ e ∈ E, (e.pg : Int) ≠ k) :
    Calls Tryz.prog 27 #[.pointer (some ⟨g, 0, none⟩), .int .i64 k] w fun e w' => e = .returned (.int .i64 7) ∧ w = w' := by
  have C := Lib.hid (qbad_none h k hl hk)
  clear h hk
  go_enter Tryz.func27, Tryz.ntmps27
  go_wp2_with fail
  refine C.out.mono ?_; rintro e _ ⟨rfl, rfl⟩
  go_wp2_with fail
  go_ret
  exact ⟨rfl, rfl⟩
set_option maxRecDepth 100000 in
set_option maxHeartbeats 1000000 in
theorem qunpin_state (h : IsQ w o j g x n su v E) {t : Nat} {e : Qn} (ht : E[t]? = some e) (hl : E.length ≤ 1000) (h0 : e.pins = 0) :
    Calls Tryz.prog 27 #[.pointer (some ⟨g, 0, none⟩), .int .i64 (e.pg : Int)] w fun e w' => e = .returned (.int .i64 9) ∧ w = w' := by
  have C := qbad_some h ht hl
  rw [if_pos h0] at C
  have HC := Lib.hid C
  clear h ht C
  go_enter Tryz.func27, Tryz.ntmps27
  go_wp2_with fail
  refine HC.out.mono ?_; rintro e _ ⟨rfl, rfl⟩
  go_wp2_with fail
  go_ret
  exact ⟨rfl, rfl⟩
set_option maxRecDepth 100000 in
set_option maxHeartbeats 1000000 in
theorem qunpin_ok (h : IsQ w o j g x n su v E) {t : Nat} {e : Qn} (ht : E[t]? = some e) (hl : E.length ≤ 1000) (h0 : e.pins ≠ 0) (hb : e.pins ≤ 1000000) :
    Calls Tryz.prog 27 #[.pointer (some ⟨g, 0, none⟩), .int .i64 (e.pg : Int)] w fun y w' => y = .returned (.int .i64 0) ∧ IsQ w' o j g x n su v (updQ E e.pg (fun z => { z with pins := z.pins - 1 })) ∧ Stp o j w o w' := by
  have C := qbad_some h ht hl
  rw [if_neg h0] at C
  have HC := Lib.hid C
  have CF := Lib.hid (fun c : Nat => qfind_some (h.reads (below_drew w c)) ht hl)
  obtain ⟨gb, C', rfl, cc⟩ := h.at' ht
  unfold qptr at cc
  have he := List.mem_of_getElem? ht
  have c3 : ∀ c, (w.drewN c).cell? ⟨g, 3, none⟩ = some (.slice (some ⟨gb, 0, none⟩) E.length C') := fun c => h.hp.cell 3
  have cl : ∀ c, (w.drewN c).cell? ⟨gb, t, none⟩ = some (.pointer (some ⟨e.b, 0, none⟩)) := fun c => cc
  have htl := (List.getElem?_eq_some_iff.1 ht).1
  have t1 : (t : Int) < (E.length : Int) := by omega
  have t0 : (0 : Int) ≤ (t : Int) := by omega
  have HH := Lib.hid h; have HE := Lib.hid he
  have p0 : (0 : Int) < (e.pins : Int) := by omega
  have p9 : (e.pins : Int) ≤ 1000000 := by omega
  have ew : ((e.pins - 1 : Nat) : Int) = (e.pins : Int) - 1 := by omega
  have HW := Lib.hid ew
  clear C h ht he ew cc htl hb h0
  go_enter Tryz.func27, Tryz.ntmps27
  go_wp2_with fail
  refine HC.out.mono ?_; rintro y _ ⟨rfl, rfl⟩
  clear HC
  go_wp2_with fail
  go_quiet ((go_at_call 36; exact Calls.quiet_of_same ((CF.out _).mono (fun e w' h => ⟨h.1, h.2.symm⟩))))
  have H2 := Lib.hid (HH.out.reads (below_drew w nq))
  have b2 : (w.drewN nq).cell? ⟨e.b, 2, none⟩ = some (.int .i64 (e.pins : Int)) := (H2.out.hb e HE.out).cell 2
  have z2 := (H2.out.hb e HE.out).fz 2
  have HP := Lib.hid (H2.out.put HE.out 2 (.int .i64 ((e.pins : Int) - 1)) (fun z => { z with pins := z.pins - 1 }) (fun _ => ⟨rfl, rfl⟩) (by rw [← HW.out]; rfl))
  have HS := Lib.hid ((Stp.ofBelow (below_drew w nq) o j).trans (Stp.setCell o j (w.drewN nq) e.b 2 (.int .i64 ((e.pins : Int) - 1)) (H2.out.ob e HE.out)))
  clear c3 cl CF H2
  generalize w.drewN nq = W2 at *
  go_wp2_with fail
  go_ret
  exact ⟨rfl, HP.out, HS.out⟩
end
end Go.Proofs.YthjlbfijfpfohaaGreat
