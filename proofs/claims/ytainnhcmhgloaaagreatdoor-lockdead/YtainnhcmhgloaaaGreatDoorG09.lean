/-
  The package variable clashes: what its laid datum tells of its cells; that the door's own heap meets the condition.
-/
import Derived.Test.YtainnhcmhgloaaaGreatDoorD09a
import Derived.ProofKit
import Derived.LaidMore
import Derived.OpenShut
import Derived.Stop.Joined
namespace Go.Proofs.YtainnhcmhgloaaaGreatDoor
open Go.ChangeShapes Go.WideShapes Go.ChangeAt Go.RowKit

def laid9 : List (String × DataW Unit) := [("budwood/mode.clashes", Rows.laid_budwood_mode_clashes)]
theorem gClash9 : Tryz.prog.globalNamed "budwood/mode.clashes" = some 0 := by kernel_rfl
theorem tClash9 : (Tryz.prog.globals[0]?).map (·.type) = some 139 := by kernel_rfl
theorem door_met9 (os : Os) (args : Array Value) : laidMetH Tryz.prog laid9 ((World.doorLaid Tryz.prog 400 os).forCall (fun _ _ => 0) ⟨#[], args, []⟩).memory :=
  laidMetH_of_parts3 (fuel := 8) (laidMet_of_run' 8 (by kernel_rfl) (by kernel_rfl)) (by kernel_rfl) (by kernel_rfl)
theorem laid_of9 {W : World} (h : laidMetH Tryz.prog laid9 W) : Laid9 W := by
  rw [MakeChecks.laidMetH_plain _ _ _ (by kernel_rfl)] at h
  obtain ⟨ps, ⟨g0, t0, cs0, f0, p0, q0, hg0, ht0, hv0, hd0, h1⟩, _, _⟩ := h
  obtain rfl := Option.some.inj (gClash9.symm.trans hg0)
  obtain rfl := Option.some.inj (tClash9.symm.trans ht0)
  obtain ⟨xs, m, _, hx, hlen, hn, hel⟩ := DataW.trod_array Tryz.underlying139 hd0
  have ce : Tryz.prog.cellsOf 5 = 1 := by kernel_rfl
  rw [ce] at hel
  simp only [Prod.mk.injEq, Rows.laid_budwood_mode_clashes, DataW.agg.injEq] at hx
  have hd := hx.1
  intro k hk
  have e1 := hel k (by omega)
  obtain ⟨y, hy'⟩ : ∃ y, xs[k]? = some y := ⟨_, List.getElem?_eq_getElem (by omega)⟩
  rw [hy'] at e1
  have hdk : (xs.map (·.1))[k]? = some y.1 := by rw [List.getElem?_map, hy']; rfl
  rw [← hd] at hdk
  obtain ⟨n, c1, c2, _⟩ := DataW.trod_int Tryz.underlying5 e1
  rw [c2] at hdk
  have hs : n = (clN k : Int) := by
    obtain rfl | rfl | rfl | rfl | rfl | rfl | rfl := seven k hk
    all_goals (simp at hdk; rw [← hdk]; rfl)
  rw [World.var?_cell hg0 hv0, ← Array.getElem?_toList, ← hs]
  have := congrArg (·[0]?) c1
  simpa [List.getElem?_take, List.getElem?_drop] using this
end Go.Proofs.YtainnhcmhgloaaaGreatDoor
