/-
  Package pool: the pages by age: the contracts of the two closures of makeRoom, and of slices.SortedFunc over them.
-/
import Derived.Test.YthjlbfijfpfohaaGreatN07d
namespace Go.Proofs.YthjlbfijfpfohaaGreat
open Go.RowKit Go.MapKept Go.Maps Go.Sort

def cmpI (x y : Int) : Int := if x < y then -1 else if y < x then 1 else 0
/-- when a page was pinned -/
def pinI (L : List Pl) (x : Int) : Int := match findP L x with
  | some a => (a.pinned : Int)
  | none => 0
section
variable {w w' : World} {o o' : Nat → Nat} {i j g pd m n t ck b q : Nat} {su : Int} {E : List En} {S : List ByteArray} {Ws : Wrs}
theorem isNaN7 (x : Int) (w : World) : Calls Tryz.prog 93 #[.int .i64 x] w fun e w' => e = .returned (.bool false) ∧ w = w' := by
  go_enter Tryz.func93, Tryz.ntmps93
  go_wp2
  go_ret
  exact ⟨by simp, rfl⟩
set_option maxRecDepth 100000 in
theorem compare7 (x y : Int) (w : World) : Calls Tryz.prog 78 #[.int .i64 x, .int .i64 y] w fun e w' => e = .returned (.int .i64 (cmpI x y)) ∧ w = w' := by
  have C := Lib.hid (fun (x : Int) (W : World) => isNaN7 x W)
  unfold cmpI
  by_cases h1 : x < y
  · rw [if_pos h1]
    go_enter Tryz.func78, Tryz.ntmps78
    go_wp2_with (go_at_call 93; refine (C.out _ _).mono ?_; rintro e w' ⟨rfl, rfl⟩)
    go_ret
    exact ⟨rfl, rfl⟩
  · by_cases h2 : y < x
    · rw [if_neg h1, if_pos h2]
      go_enter Tryz.func78, Tryz.ntmps78
      go_wp2_with (go_at_call 93; refine (C.out _ _).mono ?_; rintro e w' ⟨rfl, rfl⟩)
      go_ret
      exact ⟨rfl, rfl⟩
    · rw [if_neg h1, if_neg h2]
      go_enter Tryz.func78, Tryz.ntmps78
      go_wp2_with (go_at_call 93; refine (C.out _ _).mono ?_; rintro e w' ⟨rfl, rfl⟩)
      go_ret
      exact ⟨rfl, rfl⟩
set_option maxRecDepth 100000 in
set_option maxHeartbeats 1000000 in
theorem room1 (h : IsE w o j g pd m n su t E ck) {B : Nat} (hB : w.cell? ⟨B, 0, none⟩ = some (.pointer (some ⟨g, 0, none⟩))) {x y : En} (hx : x ∈ E) (hy : y ∈ E) :
    Calls Tryz.prog 77 #[.int .i64 (x.a.page : Int), .int .i64 (y.a.page : Int), .pointer (some ⟨B, 0, none⟩)] w fun e w' => e = .returned (.int .i64 (cmpI (x.a.pinned : Int) (y.a.pinned : Int))) ∧ ∃ q, w' = w.drewN q := by
  have c2 : ∀ q, (w.drewN q).cell? ⟨g, 2, none⟩ = some (.map (some m)) := fun q => h.hp.cell 2
  have cB : ∀ q, (w.drewN q).cell? ⟨B, 0, none⟩ = some (.pointer (some ⟨g, 0, none⟩)) := fun q => hB
  have lx : ∀ q, _ := fun q => (h.reads (below_drew w q)).look false hx
  have ly : ∀ q, _ := fun q => (h.reads (below_drew w q)).look false hy
  simp only [Bool.false_eq_true, if_false] at lx ly
  have cx : ∀ q, (w.drewN q).cell? ⟨x.b, 2, none⟩ = some (.int .i64 (x.a.pinned : Int)) := fun q => (h.hb x hx).cell 2
  have cy : ∀ q, (w.drewN q).cell? ⟨y.b, 2, none⟩ = some (.int .i64 (y.a.pinned : Int)) := fun q => (h.hb y hy).cell 2
  have CC := Lib.hid (fun (W : World) => compare7 (x.a.pinned : Int) (y.a.pinned : Int) W)
  clear h hx hy
  generalize (x.a.page : Int) = px at *
  generalize (y.a.page : Int) = py at *
  generalize (x.a.pinned : Int) = tx at *
  generalize (y.a.pinned : Int) = ty at *
  generalize cmpI tx ty = r at *
  generalize x.b = bx at *
  generalize y.b = bY at *
  go_enter Tryz.func77, Tryz.ntmps77
  go_wp2_with fail
  go_quiet ((go_at_call 78; exact Calls.quiet_of_same ((CC.out _).mono (fun e w' h => ⟨h.1, h.2.symm⟩))))
  go_wp2
  go_ret
  exact ⟨rfl, _, rfl⟩
set_option maxRecDepth 100000 in
set_option maxHeartbeats 1000000 in
theorem room2 (h : IsE w o j g pd m n su t E ck) {B : Nat} (hB : w.cell? ⟨B, 0, none⟩ = some (.pointer (some ⟨g, 0, none⟩))) {x : En} (hx : x ∈ E) :
    Calls Tryz.prog 80 #[.int .i64 (x.a.page : Int), .pointer (some ⟨B, 0, none⟩)] w fun e w' => e = .returned (.bool (x.a.goes su)) ∧ ∃ q, w' = w.drewN q := by
  have c2 : w.cell? ⟨g, 2, none⟩ = some (.map (some m)) := h.hp.cell 2
  have lx := h.look false hx
  simp only [Bool.false_eq_true, if_false] at lx
  have c1 : w.cell? ⟨x.b, 1, none⟩ = some (.int .i64 (x.a.pins : Int)) := (h.hb x hx).cell 1
  have CD := Lib.hid (pdirty (h.hb x hx))
  have CM := Lib.hid (pmay h.hp rfl (h.hb x hx) (su := su))
  unfold Pl.goes
  have hz : ((x.a.pins : Int) == 0) = decide (x.a.pins = 0) := by
    by_cases e : x.a.pins = 0
    · simp [e]
    · have : ((x.a.pins : Int) == 0) = false := by rw [beq_eq_false_iff_ne]; omega
      rw [this]; simp [e]
  clear h hx
  generalize (x.a.page : Int) = px at *
  generalize (x.a.pins : Int) = pn at *
  generalize decide (x.a.pins = 0) = z at *
  generalize x.b = bx at *
  generalize x.a.may su = my at *
  generalize x.a.dirty = d at *
  cases z with
  | false =>
    go_enter Tryz.func80, Tryz.ntmps80
    go_wp2_with fail
    go_ret
    exact ⟨rfl, 0, rfl⟩
  | true =>
    cases d with
    | false =>
      go_enter Tryz.func80, Tryz.ntmps80
      go_wp2_with (go_at_call 33; refine CD.out.mono ?_; rintro e w' ⟨rfl, rfl⟩)
      go_ret
      exact ⟨rfl, 0, rfl⟩
    | true =>
      go_enter Tryz.func80, Tryz.ntmps80
      go_wp2_with (first | (go_at_call 33; refine CD.out.mono ?_; rintro e w' ⟨rfl, rfl⟩) | (go_at_call 53; refine CM.out.mono ?_; rintro e w' ⟨rfl, nq, rfl⟩))
      go_ret
      exact ⟨by simp, nq, rfl⟩
end
end Go.Proofs.YthjlbfijfpfohaaGreat
