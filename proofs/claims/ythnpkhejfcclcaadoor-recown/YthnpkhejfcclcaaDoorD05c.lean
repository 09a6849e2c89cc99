/-
  Package rec: the contract of Right.
-/
import Derived.Test.YthnpkhejfcclcaaDoorD05b
namespace Go.Proofs.YthnpkhejfcclcaaDoor
open Go.RowKit

/-- what a kind has, in a box of its own -/
def Box5 (w : World) (B : Nat) (x0 x1 x2 x3 x4 : Bool) : Prop := w.heap[B]? = some (.cells #[.bool x0, .bool x1, .bool x2, .bool x3, .bool x4] 50 (0, 0))
section
variable {w w' : World} {B : Nat} {x0 x1 x2 x3 x4 : Bool}
theorem Box5.lt (h : Box5 w B x0 x1 x2 x3 x4) : B < w.heap.size := (Array.getElem?_eq_some_iff.1 h).1
theorem Box5.below (h : Box5 w B x0 x1 x2 x3 x4) {n : Nat} (b : Below n w w') (hn : B < n) : Box5 w' B x0 x1 x2 x3 x4 := (b.block B hn).trans h
theorem Box5.c0 (h : Box5 w B x0 x1 x2 x3 x4) : w.cell? ⟨B, 0, none⟩ = some (.bool x0) := by have h' : w.heap[B]? = _ := h; simp [World.cell?, h']
theorem Box5.c1 (h : Box5 w B x0 x1 x2 x3 x4) : w.cell? ⟨B, 1, none⟩ = some (.bool x1) := by have h' : w.heap[B]? = _ := h; simp [World.cell?, h']
theorem Box5.c2 (h : Box5 w B x0 x1 x2 x3 x4) : w.cell? ⟨B, 2, none⟩ = some (.bool x2) := by have h' : w.heap[B]? = _ := h; simp [World.cell?, h']
theorem Box5.c3 (h : Box5 w B x0 x1 x2 x3 x4) : w.cell? ⟨B, 3, none⟩ = some (.bool x3) := by have h' : w.heap[B]? = _ := h; simp [World.cell?, h']
theorem Box5.c4 (h : Box5 w B x0 x1 x2 x3 x4) : w.cell? ⟨B, 4, none⟩ = some (.bool x4) := by have h' : w.heap[B]? = _ := h; simp [World.cell?, h']
end
theorem box5_new (w : World) (x0 x1 x2 x3 x4 : Bool) : Box5 (w.alloc (.cells #[.bool x0, .bool x1, .bool x2, .bool x3, .bool x4] 50)) w.heap.size x0 x1 x2 x3 x4 := heap_alloc_new w _

/-- Right at work: the record's box, and what its kind has -/
structure InR (w0 w : World) (B D : Nat) (k t : Int) (ke va : ByteArray) (pa un nu : Int) (v : Value) (x0 x1 x2 x3 x4 : Bool) : Prop where
  x8 : Box8 QT w B k t ke va pa un nu v
  x5 : Box5 w D x0 x1 x2 x3 x4
  bel : Below w0.heap.size w0 w
theorem InR.below {w0 w w' : World} {B D : Nat} {k t : Int} {ke va : ByteArray} {pa un nu : Int} {v : Value} {x0 x1 x2 x3 x4 : Bool} (h : InR w0 w B D k t ke va pa un nu v x0 x1 x2 x3 x4) (b : Below w.heap.size w w') : InR w0 w' B D k t ke va pa un nu v x0 x1 x2 x3 x4 :=
  ⟨h.x8.below b h.x8.lt, h.x5.below b h.x5.lt, h.bel.trans (b.mono h.bel.size)⟩
set_option maxRecDepth 100000 in
set_option maxHeartbeats 2000000 in
theorem right_out (w : World) (k : Int) (hk : ¬ (1 ≤ k ∧ k < 8)) (t : Int) (ke va : ByteArray) (pa un nu : Int) (v : Value) :
    Calls Tryd.prog 11 #[.agg #[.int .i64 k, .int .i64 t, .string ke, .string va, .int .i64 pa, .int .i64 un, .int .i64 nu, v]] w fun e w' => e = .returned (.bool false) ∧ Below w.heap.size w w' := by
  have HB := Lib.hid (boxW_bel w k t ke va pa un nu v)
  have C1 := fun W => isKind_any k W
  rw [decide_eq_false hk] at C1
  have H1 := Lib.hid C1
  clear C1
  go_enter Tryd.func11, Tryd.ntmps11
  go_wp2_with fail
  refine (H1.out _).mono ?_; rintro e w1 ⟨rfl, rfl⟩
  go_wp2
  go_ret
  exact ⟨rfl, HB.out⟩
set_option maxRecDepth 100000 in
set_option maxHeartbeats 4000000 in
theorem right_in (w : World) (n : Nat) (h1 : 1 ≤ n) (h2 : n ≤ 7) (t : Int) (ke va : ByteArray) (pa un nu : Int) (pr : Prs) (a : Option Addr) (C : Nat) (hL : Laid5 w) (hP : PairsAt w a pr) (hS : SmallP pr) (hn : pr.length ≤ 1000000) (hke : ke.size ≤ 1000000) (hva : va.size ≤ 1000000) :
    Calls Tryd.prog 11 #[recV ⟨n, t, ke, va, pa, un, nu, pr⟩ a C] w fun e w' => e = .returned (.bool (rightB ⟨n, t, ke, va, pa, un, nu, pr⟩)) ∧ Below w.heap.size w w' := by
  rw [rightB_parts n h1 h2]
  dsimp only [recV]
  have HB := Lib.hid (boxW_bel w n t ke va pa un nu (.slice a pr.length C))
  have C0 := fun W => isKind_any n W
  rw [decide_eq_true (by omega)] at C0
  have H0 := Lib.hid C0
  have HX := Lib.hid (box8_new QT w n t ke va pa un nu (.slice a pr.length C))
  have HS := Lib.hid hS
  obtain ⟨p0, p1, p2, p3, p4⟩ := hL.step HB.out n h1 h2
  have hp := (hL.step HB.out).pos
  have HP := Lib.hid (hP.below HB.out)
  generalize hasT n = x0 at *
  generalize hasF n = x1 at *
  generalize hasK n = x2 at *
  generalize hasV n = x3 at *
  generalize hasL n = x4 at *
  have H1 := Lib.hid (fun W => rightTxn_any n t ke va pa un nu (.slice a pr.length C) x0 W)
  have H2 := Lib.hid (fun W => rightFar_any n t ke va pa un nu (.slice a pr.length C) x1 W)
  have H3 := Lib.hid (fun W => rightKey_any n t ke va pa un nu (.slice a pr.length C) x2 W hke)
  have H4 := Lib.hid (fun W => rightValue_any n t ke va pa un nu (.slice a pr.length C) x3 W hva)
  have H5 := Lib.hid (fun W (h : PairsAt W a pr) => rightPairs_any n t ke va pa un nu a C pr x4 W h HS.out hn)
  generalize txnB x0 t = y0 at *
  generalize farB x1 pa un nu = y1 at *
  generalize kyB x2 ke = y2 at *
  generalize vlB x3 va = y3 at *
  generalize prB x4 pr = y4 at *
  clear hL hP hS C0 hke hva
  have g1 : (n : Int) < 8 := by omega
  have g0 : (0 : Int) ≤ (n : Int) := by omega
  go_enter Tryd.func11, Tryd.ntmps11
  go_wp2_with fail
  refine (H0.out _).mono ?_; rintro e w1 ⟨rfl, rfl⟩
  have bb := (Below.refl (boxW w n t ke va pa un nu (.slice a pr.length C)).heap.size _).alloc (Nat.le_refl _) (.cells #[.bool x0, .bool x1, .bool x2, .bool x3, .bool x4] 50)
  have e1 : (boxW w n t ke va pa un nu (.slice a pr.length C)).heap.size = w.heap.size + 1 := by simp
  have Y5 := box5_new (boxW w n t ke va pa un nu (.slice a pr.length C)) x0 x1 x2 x3 x4
  rw [e1] at Y5
  have I1 := Lib.hid (show InR w ((boxW w n t ke va pa un nu (.slice a pr.length C)).alloc (.cells #[.bool x0, .bool x1, .bool x2, .bool x3, .bool x4] 50)) w.heap.size (w.heap.size + 1) n t ke va pa un nu (.slice a pr.length C) x0 x1 x2 x3 x4 from
    ⟨HX.out.below bb HX.out.lt, Y5, HB.out.trans (bb.mono HB.out.size)⟩)
  have HP1 := Lib.hid (HP.out.below bb)
  clear bb e1 Y5 HX HB HP
  go_wp2_with fail
  clear p0 p1 p2 p3 p4
  refine (H1.out _).mono ?_; rintro e w1 ⟨rfl, b1⟩
  have I2 := Lib.hid (I1.out.below b1); have HP2 := Lib.hid (HP1.out.below b1)
  clear b1 I1 HP1
  cases y0 with
  | false =>
    go_wp2
    go_ret
    exact ⟨rfl, I2.out.bel⟩
  | true =>
  have c0 := I2.out.x8.c0; have c1 := I2.out.x8.c1; have c2 := I2.out.x8.c2; have c3 := I2.out.x8.c3; have c4 := I2.out.x8.c4; have c5 := I2.out.x8.c5; have c6 := I2.out.x8.c6; have c7 := I2.out.x8.c7; have d1 := I2.out.x5.c1
  go_wp2_with fail
  clear c0 c1 c2 c3 c4 c5 c6 c7 d1
  refine (H2.out _).mono ?_; rintro e w2 ⟨rfl, b1⟩
  have I3 := Lib.hid (I2.out.below b1); have HP3 := Lib.hid (HP2.out.below b1)
  clear b1 I2 HP2
  cases y1 with
  | false =>
    go_wp2
    go_ret
    exact ⟨rfl, I3.out.bel⟩
  | true =>
  have c0 := I3.out.x8.c0; have c1 := I3.out.x8.c1; have c2 := I3.out.x8.c2; have c3 := I3.out.x8.c3; have c4 := I3.out.x8.c4; have c5 := I3.out.x8.c5; have c6 := I3.out.x8.c6; have c7 := I3.out.x8.c7; have d1 := I3.out.x5.c2
  go_wp2_with fail
  clear c0 c1 c2 c3 c4 c5 c6 c7 d1
  refine (H3.out _).mono ?_; rintro e w3 ⟨rfl, b1⟩
  have I4 := Lib.hid (I3.out.below b1); have HP4 := Lib.hid (HP3.out.below b1)
  clear b1 I3 HP3
  cases y2 with
  | false =>
    go_wp2
    go_ret
    exact ⟨rfl, I4.out.bel⟩
  | true =>
  have c0 := I4.out.x8.c0; have c1 := I4.out.x8.c1; have c2 := I4.out.x8.c2; have c3 := I4.out.x8.c3; have c4 := I4.out.x8.c4; have c5 := I4.out.x8.c5; have c6 := I4.out.x8.c6; have c7 := I4.out.x8.c7; have d1 := I4.out.x5.c3
  go_wp2_with fail
  clear c0 c1 c2 c3 c4 c5 c6 c7 d1
  refine (H4.out _).mono ?_; rintro e w4 ⟨rfl, b1⟩
  have I5 := Lib.hid (I4.out.below b1); have HP5 := Lib.hid (HP4.out.below b1)
  clear b1 I4 HP4
  cases y3 with
  | false =>
    go_wp2
    go_ret
    exact ⟨rfl, I5.out.bel⟩
  | true =>
  have c0 := I5.out.x8.c0; have c1 := I5.out.x8.c1; have c2 := I5.out.x8.c2; have c3 := I5.out.x8.c3; have c4 := I5.out.x8.c4; have c5 := I5.out.x8.c5; have c6 := I5.out.x8.c6; have c7 := I5.out.x8.c7; have d1 := I5.out.x5.c4
  go_wp2_with fail
  clear c0 c1 c2 c3 c4 c5 c6 c7 d1
  refine (H5.out _ HP5.out).mono ?_; rintro e w5 ⟨rfl, b1⟩
  have I6 := Lib.hid (I5.out.below b1)
  go_wp2
  go_ret
  exact ⟨by simp, I6.out.bel⟩
theorem right_any (w : World) (r : RecP) (a : Option Addr) (C : Nat) (hL : Laid5 w) (hP : PairsAt w a r.pairs) (hS : SmallP r.pairs) (hn : r.pairs.length ≤ 1000000) (h1 : r.key.size ≤ 1000000) (h2 : r.value.size ≤ 1000000) :
    Calls Tryd.prog 11 #[recV r a C] w fun e w' => e = .returned (.bool (rightB r)) ∧ Below w.heap.size w w' := by
  obtain ⟨k, t, ke, va, pa, un, nu, pr⟩ := r
  by_cases hk : 1 ≤ k ∧ k < 8
  · obtain ⟨n, rfl⟩ := Int.eq_ofNat_of_zero_le (show 0 ≤ k by omega)
    exact right_in w n (by omega) (by omega) t ke va pa un nu pr a C hL hP hS hn h1 h2
  · rw [rightB_no (fun h => hk (by obtain ⟨a1, a2, _⟩ := h; dsimp only at a1 a2; omega))]
    exact right_out w k hk t ke va pa un nu _
end Go.Proofs.YthnpkhejfcclcaaDoor
