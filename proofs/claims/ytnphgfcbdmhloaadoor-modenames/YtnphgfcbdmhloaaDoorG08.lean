/-
  The package variables clashes and names: what their laid data tell of their cells; that the door's own heap meets the condition.
-/
import Derived.Test.YtnphgfcbdmhloaaDoorE08a
import Derived.ProofKit
import Derived.LaidMore
import Derived.OpenShut
import Derived.Stop.Joined
namespace Go.Proofs.YtnphgfcbdmhloaaDoor
open Go.ChangeShapes Go.WideShapes Go.ChangeAt Go.RowKit

def laid8 : List (String × DataW Unit) := [("budwood/mode.clashes", Rows.laid_budwood_mode_clashes), ("budwood/mode.names", Rows.laid_budwood_mode_names)]
theorem gClash : Tryd.prog.globalNamed "budwood/mode.clashes" = some 1 := by kernel_rfl
theorem tClash : (Tryd.prog.globals[1]?).map (·.type) = some 36 := by kernel_rfl
theorem gNames : Tryd.prog.globalNamed "budwood/mode.names" = some 0 := by kernel_rfl
theorem tNames : (Tryd.prog.globals[0]?).map (·.type) = some 35 := by kernel_rfl
theorem door_met8 (os : Os) (args : Array Value) : laidMetH Tryd.prog laid8 ((World.doorLaid Tryd.prog 400 os).forCall (fun _ _ => 0) ⟨#[], args, []⟩).memory :=
  laidMetH_of_parts3 (fuel := 8) (laidMet_of_run' 8 (by kernel_rfl) (by kernel_rfl)) (by kernel_rfl) (by kernel_rfl)
theorem ba_ext8 {a b : ByteArray} (h : a.data.toList = b.data.toList) : a = b := by
  cases a; cases b; simp at h; subst h; rfl
theorem laid_of8 {W : World} (h : laidMetH Tryd.prog laid8 W) : Laid8 W := by
  rw [MakeChecks.laidMetH_plain _ _ _ (by kernel_rfl)] at h
  obtain ⟨ps, ⟨g0, t0, cs0, f0, p0, q0, hg0, ht0, hv0, hd0, h1⟩, _, _⟩ := h
  obtain ⟨⟨g1, t1, cs1, f1, p1, q1, hg1, ht1, hv1, hd1, _⟩, _⟩ := h1
  obtain rfl := Option.some.inj (gClash.symm.trans hg0)
  obtain rfl := Option.some.inj (tClash.symm.trans ht0)
  obtain rfl := Option.some.inj (gNames.symm.trans hg1)
  obtain rfl := Option.some.inj (tNames.symm.trans ht1)
  obtain ⟨xs, m, _, hx, hlen, hn, hel⟩ := DataW.trod_array Tryd.underlying36 hd0
  obtain ⟨ys, m', _, hy, hlen', hn', hel'⟩ := DataW.trod_array Tryd.underlying35 hd1
  have ce : Tryd.prog.cellsOf 5 = 1 := by kernel_rfl
  have cs : Tryd.prog.cellsOf 9 = 1 := by kernel_rfl
  rw [ce] at hel
  rw [cs] at hel'
  simp only [Prod.mk.injEq, Rows.laid_budwood_mode_clashes, DataW.agg.injEq] at hx
  simp only [Prod.mk.injEq, Rows.laid_budwood_mode_names, DataW.agg.injEq] at hy
  have hd := hx.1
  have hd' := hy.1
  intro k hk
  constructor
  · have e1 := hel' k (by omega)
    obtain ⟨y, hy'⟩ : ∃ y, ys[k]? = some y := ⟨_, List.getElem?_eq_getElem (by omega)⟩
    rw [hy'] at e1
    have hdk : (ys.map (·.1))[k]? = some y.1 := by rw [List.getElem?_map, hy']; rfl
    rw [← hd'] at hdk
    obtain ⟨s, c1, c2, _⟩ := DataW.trod_string Tryd.underlying9 e1
    rw [c2] at hdk
    have hs : s = nmS k := by
      apply ba_ext8
      obtain rfl | rfl | rfl | rfl | rfl | rfl | rfl := seven k hk
      all_goals (simp at hdk; rw [← hdk]; rfl)
    rw [World.var?_cell hg1 hv1, ← Array.getElem?_toList, ← hs]
    have := congrArg (·[0]?) c1
    simpa [List.getElem?_take, List.getElem?_drop] using this
  · have e1 := hel k (by omega)
    obtain ⟨y, hy'⟩ : ∃ y, xs[k]? = some y := ⟨_, List.getElem?_eq_getElem (by omega)⟩
    rw [hy'] at e1
    have hdk : (xs.map (·.1))[k]? = some y.1 := by rw [List.getElem?_map, hy']; rfl
    rw [← hd] at hdk
    obtain ⟨n, c1, c2, _⟩ := DataW.trod_int Tryd.underlying5 e1
    rw [c2] at hdk
    have hs : n = (clN k : Int) := by
      obtain rfl | rfl | rfl | rfl | rfl | rfl | rfl := seven k hk
      all_goals (simp at hdk; rw [← hdk]; rfl)
    rw [World.var?_cell hg0 hv0, ← Array.getElem?_toList, ← hs]
    have := congrArg (·[0]?) c1
    simpa [List.getElem?_take, List.getElem?_drop] using this
end Go.Proofs.YtnphgfcbdmhloaaDoor
