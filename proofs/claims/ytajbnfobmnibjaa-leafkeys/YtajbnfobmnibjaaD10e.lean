/-
  Package leaf: the contract of whole.
-/
import Derived.Test.YtajbnfobmnibjaaD10d
import Derived.Deep.RegionHeld3
namespace Go.Proofs.Ytajbnfobmnibjaa
open Go.RowKit

/-- the cells of a leaf -/
def lc10 (a : Option Addr) (n C : Nat) (h : ByteArray) (x : Int) : Array Value := #[.slice a n C, .string h, .int .i64 x]
def zero10 : Value := .agg #[.slice none 0 0, .string ⟨#[]⟩, .int .i64 0]
theorem At.put3 {w : World} {B : Nat} {T : TypeId} {x y z u v t : Value} (h : At w B #[x, y, z] T) : At (((w.setCell ⟨B, 0, none⟩ u).setCell ⟨B, 1, none⟩ v).setCell ⟨B, 2, none⟩ t) B #[u, v, t] T := ((h.set 0 u).set 1 v).set 2 t
theorem below_put3 {w0 w : World} {n B : Nat} {u v t : Value} (h : Below n w0 w) (hB : n ≤ B) : Below n w0 (((w.setCell ⟨B, 0, none⟩ u).setCell ⟨B, 1, none⟩ v).setCell ⟨B, 2, none⟩ t) :=
  ((h.setCell (p := ⟨B, 0, none⟩) hB u).setCell (p := ⟨B, 1, none⟩) hB v).setCell (p := ⟨B, 2, none⟩) hB t
set_option maxRecDepth 100000 in
set_option maxHeartbeats 4000000 in
theorem whole10 (a b : Option Addr) (C D : Nat) (pr : Prs) (o : LfP) (w : World) (hA : PairsAt w a pr) (hw : wgt pr ≤ 1000000) (hh : o.high.size ≤ 1000000) :
    Calls Try.prog 58 #[.slice a pr.length C, lfV b D o] w fun e w' => e = .returned (if wgt pr ≤ 231 then .tuple #[lfV a C ⟨pr, o.high, o.next⟩, .int .i64 0] else .tuple #[zero10, .int .i64 6]) ∧ Below w.heap.size w w' := by
  have CR := Lib.hid (fun (W : World) (bb : Below w.heap.size w W) => hasRoom10 a C ⟨pr, o.high, o.next⟩ W (hA.below bb) hw)
  have CC := Lib.hid (fun W => clone_any o.high W hh)
  have bA : Below w.heap.size w (w.alloc (.cells #[.slice b o.pairs.length D, .string o.high, .int .i64 o.next] 24)) := (Below.refl _ w).alloc (Nat.le_refl _) _
  have bB : Below w.heap.size w ((w.alloc (.cells #[.slice b o.pairs.length D, .string o.high, .int .i64 o.next] 24)).alloc (.cells #[.slice none 0 0, .string ⟨#[]⟩, .int .i64 0] 24)) := bA.alloc bA.size _
  have e1 : (w.alloc (.cells #[.slice b o.pairs.length D, .string o.high, .int .i64 o.next] 24)).heap.size = w.heap.size + 1 := by simp
  have a1 := (At.new w #[.slice b o.pairs.length D, .string o.high, .int .i64 o.next] 24).reads ((Below.refl _ _).alloc (Nat.le_refl _) (.cells #[.slice none 0 0, .string ⟨#[]⟩, .int .i64 0] 24))
  have a2 := At.new (w.alloc (.cells #[.slice b o.pairs.length D, .string o.high, .int .i64 o.next] 24)) #[.slice none 0 0, .string ⟨#[]⟩, .int .i64 0] 24
  rw [e1] at a2
  have HB := Lib.hid bB; have H1 := Lib.hid a1; have H2 := Lib.hid a2
  clear bA bB e1 a1 a2 hA hw hh
  have HE := Lib.hid (show decide (wgt pr ≤ 231) = true ∨ decide (wgt pr ≤ 231) = false from by cases decide (wgt pr ≤ 231) <;> simp)
  have e2 : (if wgt pr ≤ 231 then Value.tuple #[lfV a C ⟨pr, o.high, o.next⟩, .int .i64 0] else .tuple #[zero10, .int .i64 6]) = if decide (wgt pr ≤ 231) then Value.tuple #[lfV a C ⟨pr, o.high, o.next⟩, .int .i64 0] else .tuple #[zero10, .int .i64 6] := by
    by_cases h : wgt pr ≤ 231 <;> simp [h]
  rw [e2]
  clear e2
  unfold lfV at *
  simp only at CR
  generalize hdw : decide (wgt pr ≤ 231) = dw at *
  obtain ⟨res, hres⟩ : ∃ res, (if dw = true then Value.tuple #[.agg #[.slice a pr.length C, .string o.high, .int .i64 o.next], .int .i64 0] else .tuple #[zero10, .int .i64 6]) = res := ⟨_, rfl⟩
  rw [hres]
  have HRS := Lib.hid hres
  clear hres hdw
  go_enter Try.func58, Try.ntmps58
  go_upto_region 1 with fail
  generalize (w.alloc (.cells #[.slice b o.pairs.length D, .string o.high, .int .i64 o.next] 24)).alloc (.cells #[.slice none 0 0, .string ⟨#[]⟩, .int .i64 0] 24) = W1 at *
  have q0 : W1.drew.cell? ⟨w.heap.size, 1, none⟩ = some (.string o.high) ∧ W1.drew.cell? ⟨w.heap.size, 2, none⟩ = some (.int .i64 o.next) := ⟨H1.out.cell 1, H1.out.cell 2⟩
  have HL := Lib.hid H1.out.lt
  have HARM := Lib.hid (show ∀ v1, Below W1.drew.heap.size W1.drew v1 → (v1.cell? ⟨w.heap.size, 1, none⟩ = some (.string o.high) ∧ v1.cell? ⟨w.heap.size, 2, none⟩ = some (.int .i64 o.next)) ∧
      ((v1.alloc (.cells #[.slice none 0 0, .string ⟨#[]⟩, .int .i64 0] 24)).cell? ⟨w.heap.size, 1, none⟩ = some (.string o.high) ∧ (v1.alloc (.cells #[.slice none 0 0, .string ⟨#[]⟩, .int .i64 0] 24)).cell? ⟨w.heap.size, 2, none⟩ = some (.int .i64 o.next)) ∧
      ((v1.alloc (.cells #[.slice a pr.length C, .string o.high, .int .i64 o.next] 24)).cell? ⟨w.heap.size, 1, none⟩ = some (.string o.high) ∧ (v1.alloc (.cells #[.slice a pr.length C, .string o.high, .int .i64 o.next] 24)).cell? ⟨w.heap.size, 2, none⟩ = some (.int .i64 o.next)) ∧
      At (v1.alloc (.cells #[.slice a pr.length C, .string o.high, .int .i64 o.next] 24)) v1.heap.size #[.slice a pr.length C, .string o.high, .int .i64 o.next] 24 ∧
      At (v1.alloc (.cells #[.slice a pr.length C, .string o.high, .int .i64 o.next] 24)) (w.heap.size + 1) #[.slice none 0 0, .string ⟨#[]⟩, .int .i64 0] 24 ∧
      Below w.heap.size w (v1.alloc (.cells #[.slice a pr.length C, .string o.high, .int .i64 o.next] 24)) from fun v1 b1 => by
    have A1 : At v1 w.heap.size #[.slice b o.pairs.length D, .string o.high, .int .i64 o.next] 24 := H1.out.drew.reads b1
    have A2 : At v1 (w.heap.size + 1) #[.slice none 0 0, .string ⟨#[]⟩, .int .i64 0] 24 := H2.out.drew.reads b1
    have hq2 : Below v1.heap.size v1 (v1.alloc (.cells #[.slice none 0 0, .string ⟨#[]⟩, .int .i64 0] 24)) := (Below.refl _ v1).alloc (Nat.le_refl _) _
    have hq3 : Below v1.heap.size v1 (v1.alloc (.cells #[.slice a pr.length C, .string o.high, .int .i64 o.next] 24)) := (Below.refl _ v1).alloc (Nat.le_refl _) _
    have A3 := A1.reads hq2
    have A4 := A1.reads hq3
    have B1 : Below w.heap.size w v1 := HB.out.drew.trans (b1.mono HB.out.size)
    exact ⟨⟨A1.cell 1, A1.cell 2⟩, ⟨A3.cell 1, A3.cell 2⟩, ⟨A4.cell 1, A4.cell 2⟩, At.new v1 _ _, A2.reads hq3, B1.trans (hq3.mono B1.size)⟩)
  have q5 : (W1.alloc (.cells #[.slice none 0 0, .string ⟨#[]⟩, .int .i64 0] 24)).drew.cell? ⟨w.heap.size, 1, none⟩ = some (.string o.high) ∧ (W1.alloc (.cells #[.slice none 0 0, .string ⟨#[]⟩, .int .i64 0] 24)).drew.cell? ⟨w.heap.size, 2, none⟩ = some (.int .i64 o.next) := by
    have A := H1.out.reads ((Below.refl _ W1).alloc (Nat.le_refl _) (.cells #[.slice none 0 0, .string ⟨#[]⟩, .int .i64 0] 24))
    exact ⟨A.cell 1, A.cell 2⟩
  have HARM2 := Lib.hid (show ∀ v1, Below (W1.alloc (.cells #[.slice none 0 0, .string ⟨#[]⟩, .int .i64 0] 24)).drew.heap.size (W1.alloc (.cells #[.slice none 0 0, .string ⟨#[]⟩, .int .i64 0] 24)).drew v1 → (v1.cell? ⟨w.heap.size, 1, none⟩ = some (.string o.high) ∧ v1.cell? ⟨w.heap.size, 2, none⟩ = some (.int .i64 o.next)) ∧
      (v1.cell? ⟨W1.heap.size, 0, none⟩ = some (.slice none 0 0) ∧ v1.cell? ⟨W1.heap.size, 1, none⟩ = some (.string ⟨#[]⟩) ∧ v1.cell? ⟨W1.heap.size, 2, none⟩ = some (.int .i64 0) ∧ v1.frozen? ⟨W1.heap.size, 0, none⟩ = false ∧ v1.frozen? ⟨W1.heap.size, 1, none⟩ = false ∧ v1.frozen? ⟨W1.heap.size, 2, none⟩ = false) ∧
      ((((v1.setCell ⟨W1.heap.size, 0, none⟩ (.slice a pr.length C)).setCell ⟨W1.heap.size, 1, none⟩ (.string o.high)).setCell ⟨W1.heap.size, 2, none⟩ (.int .i64 o.next)).cell? ⟨w.heap.size, 1, none⟩ = some (.string o.high) ∧ (((v1.setCell ⟨W1.heap.size, 0, none⟩ (.slice a pr.length C)).setCell ⟨W1.heap.size, 1, none⟩ (.string o.high)).setCell ⟨W1.heap.size, 2, none⟩ (.int .i64 o.next)).cell? ⟨w.heap.size, 2, none⟩ = some (.int .i64 o.next)) ∧
      At (((v1.setCell ⟨W1.heap.size, 0, none⟩ (.slice a pr.length C)).setCell ⟨W1.heap.size, 1, none⟩ (.string o.high)).setCell ⟨W1.heap.size, 2, none⟩ (.int .i64 o.next)) W1.heap.size #[.slice a pr.length C, .string o.high, .int .i64 o.next] 24 ∧
      At (((v1.setCell ⟨W1.heap.size, 0, none⟩ (.slice a pr.length C)).setCell ⟨W1.heap.size, 1, none⟩ (.string o.high)).setCell ⟨W1.heap.size, 2, none⟩ (.int .i64 o.next)) (w.heap.size + 1) #[.slice none 0 0, .string ⟨#[]⟩, .int .i64 0] 24 ∧
      Below w.heap.size w (((v1.setCell ⟨W1.heap.size, 0, none⟩ (.slice a pr.length C)).setCell ⟨W1.heap.size, 1, none⟩ (.string o.high)).setCell ⟨W1.heap.size, 2, none⟩ (.int .i64 o.next)) from fun v1 b1 => by
    have bz : Below W1.heap.size W1 (W1.alloc (.cells #[.slice none 0 0, .string ⟨#[]⟩, .int .i64 0] 24)) := (Below.refl _ W1).alloc (Nat.le_refl _) _
    have A1 : At v1 w.heap.size #[.slice b o.pairs.length D, .string o.high, .int .i64 o.next] 24 := (H1.out.reads bz).drew.reads b1
    have A2 : At v1 (w.heap.size + 1) #[.slice none 0 0, .string ⟨#[]⟩, .int .i64 0] 24 := (H2.out.reads bz).drew.reads b1
    have A3 : At v1 W1.heap.size #[.slice none 0 0, .string ⟨#[]⟩, .int .i64 0] 24 := (At.new W1 _ _).drew.reads b1
    have hl1 := H1.out.lt
    have hl2 := H2.out.lt
    have B1 : Below w.heap.size w v1 := (HB.out.trans (bz.mono HB.out.size)).drew.trans (b1.mono (HB.out.trans (bz.mono HB.out.size)).size)
    have A4 := ((A1.setOther 0 (.slice a pr.length C) (g := W1.heap.size) (by omega)).setOther 1 (.string o.high) (g := W1.heap.size) (by omega)).setOther 2 (.int .i64 o.next) (g := W1.heap.size) (by omega)
    have A5 := ((A2.setOther 0 (.slice a pr.length C) (g := W1.heap.size) (by omega)).setOther 1 (.string o.high) (g := W1.heap.size) (by omega)).setOther 2 (.int .i64 o.next) (g := W1.heap.size) (by omega)
    exact ⟨⟨A1.cell 1, A1.cell 2⟩, ⟨A3.cell 0, A3.cell 1, A3.cell 2, A3.fz 0, A3.fz 1, A3.fz 2⟩, ⟨A4.cell 1, A4.cell 2⟩, A3.put3, A5, below_put3 B1 HB.out.size⟩)
  go_wp2_with fail
  go_cut [6] (fun v wx => ∃ B, v = .pointer (some ⟨B, 0, none⟩) ∧ At wx B #[.slice a pr.length C, .string o.high, .int .i64 o.next] 24 ∧ At wx (w.heap.size + 1) #[.slice none 0 0, .string ⟨#[]⟩, .int .i64 0] 24 ∧ Below w.heap.size w wx)
  case first =>
    go_region_held3 (fun W => W.cell? ⟨w.heap.size, 1, none⟩ = some (.string o.high) ∧ W.cell? ⟨w.heap.size, 2, none⟩ = some (.int .i64 o.next)) (first | exact q0 | exact q1 | exact q2 | exact q3 | exact q5)
      (first
      | (go_at_call 54; ((with_reducible refine (CC.out W1.drew).mono ?_); rintro e1 v1 ⟨rfl, b1⟩; obtain ⟨q1, q2, q3, n1, n2, n3⟩ := HARM.out v1 b1; have HN := Lib.hid (And.intro n1 (And.intro n2 n3)); clear b1 n1 n2 n3))
      | (go_at_call 54; ((with_reducible refine (CC.out (W1.alloc (.cells #[.slice none 0 0, .string ⟨#[]⟩, .int .i64 0] 24)).drew).mono ?_); rintro e1 v1 ⟨rfl, b1⟩; obtain ⟨q1, ⟨y0, y1, y2, y3, y4, y5⟩, q3, n1, n2, n3⟩ := HARM2.out v1 b1; have HN := Lib.hid (And.intro n1 (And.intro n2 n3)); clear b1 n1 n2 n3)))
    all_goals (try go_wp2_with fail)
    all_goals (go_meet; exact ⟨_, rfl, HN.out.1, HN.out.2.1, HN.out.2.2⟩)
  case rest =>
    obtain ⟨B, rfl, h1, h2, hb⟩ := hcut
    have HA1 := Lib.hid h1; have HA2 := Lib.hid h2; have HB3 := Lib.hid hb
    have g0 : wc.cell? ⟨B, 0, none⟩ = some (.slice a pr.length C) := h1.cell 0
    have g1 : wc.cell? ⟨B, 1, none⟩ = some (.string o.high) := h1.cell 1
    have g2 : wc.cell? ⟨B, 2, none⟩ = some (.int .i64 o.next) := h1.cell 2
    clear h1 h2 hb q0 HL H1 H2 HB CC
    go_wp2_with fail
    refine (CR.out _ HB3.out).mono ?_; rintro r w4 ⟨rfl, b4⟩
    have HA4 := Lib.hid (HA1.out.reads b4); have HC4 := Lib.hid (HA2.out.reads b4); have HB4 := Lib.hid (HB3.out.trans (b4.mono HB3.out.size))
    clear b4 HA1 HA2 HB3 CR g0 g1 g2
    have k0 : w4.cell? ⟨w.heap.size + 1, 0, none⟩ = some (.slice none 0 0) := HC4.out.cell 0
    have k1 : w4.cell? ⟨w.heap.size + 1, 1, none⟩ = some (.string ⟨#[]⟩) := HC4.out.cell 1
    have k2 : w4.cell? ⟨w.heap.size + 1, 2, none⟩ = some (.int .i64 0) := HC4.out.cell 2
    have z0 : w4.frozen? ⟨w.heap.size + 1, 0, none⟩ = false := HC4.out.fz 0
    have z1 : w4.frozen? ⟨w.heap.size + 1, 1, none⟩ = false := HC4.out.fz 1
    have z2 : w4.frozen? ⟨w.heap.size + 1, 2, none⟩ = false := HC4.out.fz 2
    have g0 : w4.cell? ⟨B, 0, none⟩ = some (.slice a pr.length C) := HA4.out.cell 0
    have g1 : w4.cell? ⟨B, 1, none⟩ = some (.string o.high) := HA4.out.cell 1
    have g2 : w4.cell? ⟨B, 2, none⟩ = some (.int .i64 o.next) := HA4.out.cell 2
    have hN : w.heap.size ≤ w.heap.size + 1 := Nat.le_succ _
    cases dw with
    | false =>
      obtain rfl : Value.tuple #[zero10, .int .i64 6] = res := by rw [← HRS.out]; rfl
      have D := HC4.out.put3 (u := .slice none 0 0) (v := .string ⟨#[]⟩) (t := .int .i64 0)
      have BF := Lib.hid (below_put3 (B := w.heap.size + 1) (u := .slice none 0 0) (v := .string ⟨#[]⟩) (t := .int .i64 0) HB4.out hN)
      have f0 := D.cell 0
      have f1 := D.cell 1
      have f2 := D.cell 2
      simp only [List.getElem?_toArray, List.getElem?_cons_zero, List.getElem?_cons_succ] at f0 f1 f2
      clear D HC4 HA4 HB4 HRS
      go_wp2_with fail
      refine bodyPost_ret (v := Value.tuple #[zero10, .int .i64 6]) ?_ rfl ⟨rfl, BF.out⟩
      simp [results, Try.results58, go_sem, f0, f1, f2, zero10]
    | true =>
      obtain rfl : Value.tuple #[.agg #[.slice a pr.length C, .string o.high, .int .i64 o.next], .int .i64 0] = res := by rw [← HRS.out]; rfl
      have D := HC4.out.put3 (u := .slice a pr.length C) (v := .string o.high) (t := .int .i64 o.next)
      have BF := Lib.hid (below_put3 (B := w.heap.size + 1) (u := .slice a pr.length C) (v := .string o.high) (t := .int .i64 o.next) HB4.out hN)
      have f0 := D.cell 0
      have f1 := D.cell 1
      have f2 := D.cell 2
      simp only [List.getElem?_toArray, List.getElem?_cons_zero, List.getElem?_cons_succ] at f0 f1 f2
      clear D HC4 HA4 HB4 HRS
      go_wp2_with fail
      refine bodyPost_ret (v := Value.tuple #[.agg #[.slice a pr.length C, .string o.high, .int .i64 o.next], .int .i64 0]) ?_ rfl ⟨rfl, BF.out⟩
      simp [results, Try.results58, go_sem, f0, f1, f2]
end Go.Proofs.Ytajbnfobmnibjaa
