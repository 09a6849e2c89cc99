/-
  The package variable partsOf: what its laid datum tells of its cells; that the door's own heap meets the condition.
-/
import Derived.Test.YthnpkhejfcclcaaDoorD05a
import Derived.ProofKit
import Derived.LaidMore
import Derived.OpenShut
import Derived.Stop.Joined
namespace Go.Proofs.YthnpkhejfcclcaaDoor
open Go.ChangeShapes Go.WideShapes Go.ChangeAt Go.RowKit

def laid5 : List (String × DataW Unit) := [("budwood/rec.partsOf", Rows.laid_budwood_rec_partsOf)]
theorem gParts : Tryd.prog.globalNamed "budwood/rec.partsOf" = some 0 := by kernel_rfl
theorem tParts : (Tryd.prog.globals[0]?).map (·.type) = some 51 := by kernel_rfl
theorem door_met5 (os : Os) (args : Array Value) : laidMetH Tryd.prog laid5 ((World.doorLaid Tryd.prog 400 os).forCall (fun _ _ => 0) ⟨#[], args, []⟩).memory :=
  laidMetH_of_parts3 (fuel := 8) (laidMet_of_run' 8 (by kernel_rfl) (by kernel_rfl)) (by kernel_rfl) (by kernel_rfl)
/-- five cells that read as a struct of five bools -/
theorem five_bools {enc : TypeId × Value → Unit} {P : Program} {w : World} {base : Nat} {spare : Nat → Bool} {held : Bool} {t : TypeId} {f0 f1 f2 f3 f4 : Field} {fuel : Nat} {cs : List Value} {x : DataW Unit × List MemPlace} {b0 b1 b2 b3 b4 : Bool}
    (ht : P.underlying t = some (.struct #[f0, f1, f2, f3, f4])) (ct : P.cellsOf t = 5) (o0 : f0.offset = 0) (o1 : f1.offset = 1) (o2 : f2.offset = 2) (o3 : f3.offset = 3) (o4 : f4.offset = 4)
    (t0 : P.underlying f0.type = some .bool) (t1 : P.underlying f1.type = some .bool) (t2 : P.underlying f2.type = some .bool) (t3 : P.underlying f3.type = some .bool) (t4 : P.underlying f4.type = some .bool)
    (c0 : P.cellsOf f0.type = 1) (c1 : P.cellsOf f1.type = 1) (c2 : P.cellsOf f2.type = 1) (c3 : P.cellsOf f3.type = 1) (c4 : P.cellsOf f4.type = 1)
    (h : DataW.trod enc P w base spare held fuel t cs = some x) (hx : x.1 = .agg [.lit (.bool b0), .lit (.bool b1), .lit (.bool b2), .lit (.bool b3), .lit (.bool b4)]) :
    cs = [.bool b0, .bool b1, .bool b2, .bool b3, .bool b4] := by
  obtain ⟨xs, n, _, hxe, hl, hxl, hall⟩ := DataW.trod_struct ht h
  rw [ct] at hl
  match cs, hl, xs, hxl with
  | [v0, v1, v2, v3, v4], _, [y0, y1, y2, y3, y4], _ =>
    have g0 := hall 0 f0 rfl
    have g1 := hall 1 f1 rfl
    have g2 := hall 2 f2 rfl
    have g3 := hall 3 f3 rfl
    have g4 := hall 4 f4 rfl
    simp [o0, o1, o2, o3, o4, c0, c1, c2, c3, c4] at g0 g1 g2 g3 g4
    obtain ⟨x0, e0, d0⟩ := DataW.trod_bool t0 g0
    obtain ⟨x1, e1, d1⟩ := DataW.trod_bool t1 g1
    obtain ⟨x2, e2, d2⟩ := DataW.trod_bool t2 g2
    obtain ⟨x3, e3, d3⟩ := DataW.trod_bool t3 g3
    obtain ⟨x4, e4, d4⟩ := DataW.trod_bool t4 g4
    simp at e0 e1 e2 e3 e4
    subst e0 e1 e2 e3 e4 d0 d1 d2 d3 d4
    rw [hxe] at hx
    simp at hx
    obtain ⟨rfl, rfl, rfl, rfl, rfl⟩ := hx
    rfl
theorem laid_of5 {W : World} (h : laidMetH Tryd.prog laid5 W) : Laid5 W := by
  rw [MakeChecks.laidMetH_plain _ _ _ (by kernel_rfl)] at h
  obtain ⟨ps, ⟨g0, t0, cs0, f0, p0, q0, hg0, ht0, hv0, hd0, _⟩, _, _⟩ := h
  obtain rfl := Option.some.inj (gParts.symm.trans hg0)
  obtain rfl := Option.some.inj (tParts.symm.trans ht0)
  obtain ⟨xs, m, _, hx1, hlen, hn, hel⟩ := DataW.trod_array Tryd.underlying51 hd0
  have ce : Tryd.prog.cellsOf 50 = 5 := by kernel_rfl
  have cb : Tryd.prog.cellsOf 4 = 1 := by kernel_rfl
  rw [ce] at hel
  simp only [Prod.mk.injEq, Rows.laid_budwood_rec_partsOf, DataW.agg.injEq] at hx1
  have hd := hx1.1
  intro k h1 h2
  have hk := hel k (by omega)
  obtain ⟨x, hx⟩ : ∃ x, xs[k]? = some x := ⟨_, List.getElem?_eq_getElem (by omega)⟩
  rw [hx] at hk
  have hdk : (xs.map (·.1))[k]? = some x.1 := by rw [List.getElem?_map, hx]; rfl
  rw [← hd] at hdk
  have hcells : (cs0.toList.drop (k * 5)).take 5 = [.bool (hasT k), .bool (hasF k), .bool (hasK k), .bool (hasV k), .bool (hasL k)] := by
    refine five_bools Tryd.underlying50 ce rfl rfl rfl rfl rfl Tryd.underlying4 Tryd.underlying4 Tryd.underlying4 Tryd.underlying4 Tryd.underlying4 cb cb cb cb cb hk ?_
    obtain rfl | rfl | rfl | rfl | rfl | rfl | rfl : k = 1 ∨ k = 2 ∨ k = 3 ∨ k = 4 ∨ k = 5 ∨ k = 6 ∨ k = 7 := by omega
    all_goals (simp at hdk; rw [← hdk]; rfl)
  have get : ∀ j v, ([.bool (hasT k), .bool (hasF k), .bool (hasK k), .bool (hasV k), .bool (hasL k)] : List Value)[j]? = some v → W.cell? ⟨0, k * 5 + j, none⟩ = some v := fun j v hj => by
    rw [World.var?_cell hg0 hv0, ← Array.getElem?_toList]
    have hj5 : j < 5 := by have := (List.getElem?_eq_some_iff.1 hj).1; simpa using this
    rw [← hcells, List.getElem?_take_of_lt hj5, List.getElem?_drop] at hj
    exact hj
  exact ⟨get 0 _ rfl, get 1 _ rfl, get 2 _ rfl, get 3 _ rfl, get 4 _ rfl⟩
end Go.Proofs.YthnpkhejfcclcaaDoor
