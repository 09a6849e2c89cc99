/-
  Package leaf: what Put, Del, Split, Join leave; the contract of Del.
-/
import Derived.Test.YtajbnfobmnibjaaD10g
namespace Go.Proofs.Ytajbnfobmnibjaa
open Go.RowKit

def zeroL : LfP := ⟨[], noB, 0⟩
theorem zero10_is : lfV none 0 zeroL = zero10 := rfl
theorem PrAt.zero (w : World) : PrAt w none 0 [] := ⟨fun i p h => by simp at h, Nat.le_refl _, by omega, fun _ => rfl, fun x h => (by cases h)⟩
/-- a leaf and an error -/
def LfOut (w : World) (l : LfP) (er : Int) (e : Ending) (w' : World) : Prop := ∃ a C, e = .returned (.tuple #[lfV a C l, .int .i64 er]) ∧ PrAt w' a C l.pairs ∧ Below w.heap.size w w'
theorem pairs_put3 {w : World} {B : Nat} {T : TypeId} {a : Option Addr} {l : Prs} {n : Option Addr} {m c : Nat} {s : ByteArray} {x : Int} {k : IntKind} (hA : At w B #[.slice n m c, .string s, .int k x] T) (hP : PairsAt w a l) (u v t : Value) :
    PairsAt (((w.setCell ⟨B, 0, none⟩ u).setCell ⟨B, 1, none⟩ v).setCell ⟨B, 2, none⟩ t) a l := by
  intro i p hp
  obtain ⟨g, off, rfl, c0, c1⟩ := hP i p hp
  have hne : g ≠ B := by
    rintro rfl
    rw [hA.cell] at c0 c1
    generalize off + i * 2 = j at *
    match j, c0, c1 with
    | 0, c0, _ => simp at c0
    | 1, _, c1 => simp at c1
    | 2, c0, _ => simp at c0
    | j + 3, c0, _ => simp at c0
  have hb : (((w.setCell ⟨B, 0, none⟩ u).setCell ⟨B, 1, none⟩ v).setCell ⟨B, 2, none⟩ t).heap[g]? = w.heap[g]? :=
    ((Below.heap_setCell _ ⟨B, 2, none⟩ t g hne).trans (Below.heap_setCell _ ⟨B, 1, none⟩ v g hne)).trans (Below.heap_setCell w ⟨B, 0, none⟩ u g hne)
  exact ⟨g, off, rfl, (World.cell?_of_block hb (a := ⟨g, off + i * 2, none⟩)).trans c0, (World.cell?_of_block hb (a := ⟨g, off + i * 2 + 1, none⟩)).trans c1⟩
theorem PrAt.put3 {w : World} {B C : Nat} {T : TypeId} {a : Option Addr} {l : Prs} {n : Option Addr} {m c : Nat} {s : ByteArray} {x : Int} {k : IntKind} (hA : At w B #[.slice n m c, .string s, .int k x] T) (hP : PrAt w a C l) (u v t : Value) :
    PrAt (((w.setCell ⟨B, 0, none⟩ u).setCell ⟨B, 1, none⟩ v).setCell ⟨B, 2, none⟩ t) a C l := ⟨pairs_put3 hA hP.at' u v t, hP.cap, hP.max, hP.nil, hP.form⟩
def delL (l : LfP) (k : ByteArray) : LfP := if rightL l && hasN l.pairs k then ⟨delPl l.pairs k, l.high, l.next⟩ else zeroL
def delE (l : LfP) (k : ByteArray) : Int := if rightL l then (if hasN l.pairs k then 0 else 7) else 1
theorem wgt_del (l : Prs) (k : ByteArray) : wgt (delPl l k) ≤ wgt l := by
  unfold delPl
  have h : wgt l = wgt (l.take (findN l k)) + wgt (l.drop (findN l k)) := by rw [← wgt_app, List.take_append_drop]
  have h2 : wgt (l.drop (findN l k)) = wgt ((l.drop (findN l k)).take 1) + wgt ((l.drop (findN l k)).drop 1) := by rw [← wgt_app, List.take_append_drop]
  rw [List.drop_drop] at h2
  rw [wgt_app]
  omega
set_option maxRecDepth 100000 in
set_option maxHeartbeats 4000000 in
theorem del10 (a : Option Addr) (C : Nat) (l : LfP) (key : ByteArray) (w : World) (hP : PrAt w a C l.pairs) (hS : SmallP l.pairs) (hh : l.high.size ≤ 1000000) (hw : wgt l.pairs ≤ 1000000) :
    Calls Try.prog 27 #[lfV a C l, .string key] w (LfOut w (delL l key) (delE l key)) := by
  have hn : l.pairs.length ≤ 1000000 := by have := wgt_len l.pairs; omega
  have bA : Below w.heap.size w (w.alloc (.cells #[.slice a l.pairs.length C, .string l.high, .int .i64 l.next] 24)) := (Below.refl _ w).alloc (Nat.le_refl _) _
  have bB : Below w.heap.size w ((w.alloc (.cells #[.slice a l.pairs.length C, .string l.high, .int .i64 l.next] 24)).alloc (.cells #[.slice none 0 0, .string ⟨#[]⟩, .int .i64 0] 24)) := bA.alloc bA.size _
  have e1 : (w.alloc (.cells #[.slice a l.pairs.length C, .string l.high, .int .i64 l.next] 24)).heap.size = w.heap.size + 1 := by simp
  have a1 := (At.new w #[.slice a l.pairs.length C, .string l.high, .int .i64 l.next] 24).reads ((Below.refl _ _).alloc (Nat.le_refl _) (.cells #[.slice none 0 0, .string ⟨#[]⟩, .int .i64 0] 24))
  have a2 := At.new (w.alloc (.cells #[.slice a l.pairs.length C, .string l.high, .int .i64 l.next] 24)) #[.slice none 0 0, .string ⟨#[]⟩, .int .i64 0] 24
  rw [e1] at a2
  have HB := Lib.hid bB; have H1 := Lib.hid a1; have H2 := Lib.hid a2
  clear bA bB e1 a1 a2
  have hN : w.heap.size ≤ w.heap.size + 1 := Nat.le_succ _
  have HN1 := Lib.hid hN
  clear hN
  have C1 := Lib.hid (fun (W : World) (b : Below w.heap.size w W) => right10 a C l W (hP.at'.below b) hS hh hw)
  cases hR : rightL l with
  | false =>
    rw [show delL l key = zeroL by unfold delL; rw [hR]; rfl, show delE l key = 1 by unfold delE; rw [hR]; rfl]
    rw [hR] at C1
    clear hP hS hh hw hR hn
    unfold lfV at C1 ⊢
    go_enter Try.func27, Try.ntmps27
    go_upto_region 1 with fail
    generalize (w.alloc (.cells #[.slice a l.pairs.length C, .string l.high, .int .i64 l.next] 24)).alloc (.cells #[.slice none 0 0, .string ⟨#[]⟩, .int .i64 0] 24) = W1 at *
    have d0 : W1.cell? ⟨w.heap.size, 0, none⟩ = some (.slice a l.pairs.length C) := H1.out.cell 0
    have d1 : W1.cell? ⟨w.heap.size, 1, none⟩ = some (.string l.high) := H1.out.cell 1
    have d2 : W1.cell? ⟨w.heap.size, 2, none⟩ = some (.int .i64 l.next) := H1.out.cell 2
    go_wp2_with fail
    refine (C1.out _ HB.out).mono ?_; rintro r W2 ⟨rfl, b2⟩
    have HB2 := Lib.hid (HB.out.trans (b2.mono HB.out.size)); have HC2 := Lib.hid (H2.out.reads b2)
    clear b2 d0 d1 d2 H1 H2 C1
    have k0 : W2.cell? ⟨w.heap.size + 1, 0, none⟩ = some (.slice none 0 0) := HC2.out.cell 0
    have k1 : W2.cell? ⟨w.heap.size + 1, 1, none⟩ = some (.string ⟨#[]⟩) := HC2.out.cell 1
    have k2 : W2.cell? ⟨w.heap.size + 1, 2, none⟩ = some (.int .i64 0) := HC2.out.cell 2
    have z0 : W2.frozen? ⟨w.heap.size + 1, 0, none⟩ = false := HC2.out.fz 0
    have z1 : W2.frozen? ⟨w.heap.size + 1, 1, none⟩ = false := HC2.out.fz 1
    have z2 : W2.frozen? ⟨w.heap.size + 1, 2, none⟩ = false := HC2.out.fz 2
    have D := HC2.out.put3 (u := .slice none 0 0) (v := .string ⟨#[]⟩) (t := .int .i64 0)
    have BF := Lib.hid (below_put3 (B := w.heap.size + 1) (u := .slice none 0 0) (v := .string ⟨#[]⟩) (t := .int .i64 0) HB2.out HN1.out)
    have f0 := D.cell 0
    have f1 := D.cell 1
    have f2 := D.cell 2
    simp only [List.getElem?_toArray, List.getElem?_cons_zero, List.getElem?_cons_succ] at f0 f1 f2
    clear D
    go_wp2_with fail
    refine bodyPost_ret (v := Value.tuple #[zero10, .int .i64 1]) ?_ rfl ⟨none, 0, rfl, PrAt.zero _, BF.out⟩
    simp [results, Try.results27, go_sem, f0, f1, f2, zero10]
  | true =>
    have hr : Rise l.pairs := (rises_iff _).1 (rightL_iff.1 hR).2.1
    have hw2 : wgt l.pairs ≤ 231 := (rightL_iff.1 hR).1
    have C2 := Lib.hid (fun (W : World) (b : Below w.heap.size w W) => find10 a C l.pairs key W (hP.at'.below b) hr hn)
    rw [hR] at C1
    cases hN : hasN l.pairs key with
    | false =>
      rw [show delL l key = zeroL by unfold delL; rw [hR, hN]; rfl, show delE l key = 7 by unfold delE; rw [hR, hN]; rfl]
      rw [hN] at C2
      clear hP hS hh hw hR hn hr hN hw2
      generalize findN l.pairs key = f at *
      unfold lfV at C1 ⊢
      go_enter Try.func27, Try.ntmps27
      go_upto_region 1 with fail
      generalize (w.alloc (.cells #[.slice a l.pairs.length C, .string l.high, .int .i64 l.next] 24)).alloc (.cells #[.slice none 0 0, .string ⟨#[]⟩, .int .i64 0] 24) = W1 at *
      have d0 : W1.cell? ⟨w.heap.size, 0, none⟩ = some (.slice a l.pairs.length C) := H1.out.cell 0
      have d1 : W1.cell? ⟨w.heap.size, 1, none⟩ = some (.string l.high) := H1.out.cell 1
      have d2 : W1.cell? ⟨w.heap.size, 2, none⟩ = some (.int .i64 l.next) := H1.out.cell 2
      go_wp2_with fail
      refine (C1.out _ HB.out).mono ?_; rintro r W2 ⟨rfl, b2⟩
      have HB2 := Lib.hid (HB.out.trans (b2.mono HB.out.size)); have HA2 := Lib.hid (H1.out.reads b2); have HC2 := Lib.hid (H2.out.reads b2)
      clear b2 d0 d1 d2 H1 H2 C1
      have d0 : W2.cell? ⟨w.heap.size, 0, none⟩ = some (.slice a l.pairs.length C) := HA2.out.cell 0
      go_wp2_with fail
      refine (C2.out _ HB2.out).mono ?_; rintro r W3 ⟨rfl, b3⟩
      have HB3 := Lib.hid (HB2.out.trans (b3.mono HB2.out.size)); have HC3 := Lib.hid (HC2.out.reads b3)
      clear b3 d0 HA2 C2 HB2 HC2
      have k0 : W3.cell? ⟨w.heap.size + 1, 0, none⟩ = some (.slice none 0 0) := HC3.out.cell 0
      have k1 : W3.cell? ⟨w.heap.size + 1, 1, none⟩ = some (.string ⟨#[]⟩) := HC3.out.cell 1
      have k2 : W3.cell? ⟨w.heap.size + 1, 2, none⟩ = some (.int .i64 0) := HC3.out.cell 2
      have z0 : W3.frozen? ⟨w.heap.size + 1, 0, none⟩ = false := HC3.out.fz 0
      have z1 : W3.frozen? ⟨w.heap.size + 1, 1, none⟩ = false := HC3.out.fz 1
      have z2 : W3.frozen? ⟨w.heap.size + 1, 2, none⟩ = false := HC3.out.fz 2
      have D := HC3.out.put3 (u := .slice none 0 0) (v := .string ⟨#[]⟩) (t := .int .i64 0)
      have BF := Lib.hid (below_put3 (B := w.heap.size + 1) (u := .slice none 0 0) (v := .string ⟨#[]⟩) (t := .int .i64 0) HB3.out HN1.out)
      have f0 := D.cell 0
      have f1 := D.cell 1
      have f2 := D.cell 2
      simp only [List.getElem?_toArray, List.getElem?_cons_zero, List.getElem?_cons_succ] at f0 f1 f2
      clear D
      go_wp2_with fail
      refine bodyPost_ret (v := Value.tuple #[zero10, .int .i64 7]) ?_ rfl ⟨none, 0, rfl, PrAt.zero _, BF.out⟩
      simp [results, Try.results27, go_sem, f0, f1, f2, zero10]
    | true =>
      obtain ⟨v, hv⟩ := hasN_iff.1 hN
      have hfl : findN l.pairs key < l.pairs.length := (List.getElem?_eq_some_iff.1 hv).1
      have hlen := wgt_len l.pairs
      obtain ⟨R, hRR⟩ : ∃ R, delPl l.pairs key = R := ⟨_, rfl⟩
      have hwR : wgt R ≤ 231 := by rw [← hRR]; have := wgt_del l.pairs key; omega
      rw [show delL l key = ⟨R, l.high, l.next⟩ by unfold delL; rw [hR, hN, ← hRR]; rfl, show delE l key = 0 by unfold delE; rw [hR, hN]; rfl]
      rw [hN] at C2
      have CH := Lib.hid (fun (W : World) (b : Below w.heap.size w W) => show Calls Try.prog 59 #[.slice a l.pairs.length C, .int .i64 (findN l.pairs key : Int), .int .i64 ((findN l.pairs key : Int) + 1), .slice none 0 0] W fun e w' => ∃ a' C', e = .returned (.slice a' R.length C') ∧ PrAt w' a' C' R ∧ Below W.heap.size W w' from by
        have X := changed10 a none C 0 l.pairs [] (findN l.pairs key) (findN l.pairs key + 1) W (hP.below b) (fun i p h => by simp at h) (by omega) (by omega) (by omega) (by simp) hS (fun p h => by cases h) R (by rw [← hRR]; unfold delPl; rw [List.append_nil])
        simpa using X)
      have CW := Lib.hid (fun (a' : Option Addr) (C' : Nat) (W : World) (h : PairsAt W a' R) => show Calls Try.prog 58 #[.slice a' R.length C', .agg #[.slice a l.pairs.length C, .string l.high, .int .i64 l.next]] W fun e w' => e = .returned (.tuple #[.agg #[.slice a' R.length C', .string l.high, .int .i64 l.next], .int .i64 0]) ∧ Below W.heap.size W w' from by
        have X := whole10 a' a C' C R l W h (by omega) hh
        rw [if_pos hwR] at X
        exact X)
      clear hP hS hh hw hR hr hN hv hw2 hlen hwR hRR
      generalize findN l.pairs key = f at *
      have f0 : (0 : Int) ≤ (f : Int) := by omega
      have f1 : (f : Int) < (l.pairs.length : Int) := by omega
      have f2 : (l.pairs.length : Int) ≤ 1000000 := by omega
      clear hn hfl
      unfold lfV at C1 ⊢
      go_enter Try.func27, Try.ntmps27
      go_upto_region 1 with fail
      generalize (w.alloc (.cells #[.slice a l.pairs.length C, .string l.high, .int .i64 l.next] 24)).alloc (.cells #[.slice none 0 0, .string ⟨#[]⟩, .int .i64 0] 24) = W1 at *
      have d0 : W1.cell? ⟨w.heap.size, 0, none⟩ = some (.slice a l.pairs.length C) := H1.out.cell 0
      have d1 : W1.cell? ⟨w.heap.size, 1, none⟩ = some (.string l.high) := H1.out.cell 1
      have d2 : W1.cell? ⟨w.heap.size, 2, none⟩ = some (.int .i64 l.next) := H1.out.cell 2
      go_wp2_with fail
      refine (C1.out _ HB.out).mono ?_; rintro r W2 ⟨rfl, b2⟩
      have HB2 := Lib.hid (HB.out.trans (b2.mono HB.out.size)); have HA2 := Lib.hid (H1.out.reads b2); have HC2 := Lib.hid (H2.out.reads b2)
      clear b2 d0 d1 d2 H1 H2 C1
      have d0 : W2.cell? ⟨w.heap.size, 0, none⟩ = some (.slice a l.pairs.length C) := HA2.out.cell 0
      go_wp2_with fail
      refine (C2.out _ HB2.out).mono ?_; rintro r W3 ⟨rfl, b3⟩
      have HB3 := Lib.hid (HB2.out.trans (b3.mono HB2.out.size)); have HA3 := Lib.hid (HA2.out.reads b3); have HC3 := Lib.hid (HC2.out.reads b3)
      clear b3 d0 HA2 C2 HB2 HC2
      have q0 : W3.drew.cell? ⟨w.heap.size, 0, none⟩ = some (.slice a l.pairs.length C) ∧ W3.drew.cell? ⟨w.heap.size, 1, none⟩ = some (.string l.high) ∧ W3.drew.cell? ⟨w.heap.size, 2, none⟩ = some (.int .i64 l.next) := ⟨HA3.out.cell 0, HA3.out.cell 1, HA3.out.cell 2⟩
      have ARM1 := Lib.hid (show ∀ v1, Below W3.drew.heap.size W3.drew v1 → (v1.cell? ⟨w.heap.size, 0, none⟩ = some (.slice a l.pairs.length C) ∧ v1.cell? ⟨w.heap.size, 1, none⟩ = some (.string l.high) ∧ v1.cell? ⟨w.heap.size, 2, none⟩ = some (.int .i64 l.next)) from fun v1 b1 => by
        have A1 := HA3.out.drew.reads b1
        exact ⟨A1.cell 0, A1.cell 1, A1.cell 2⟩)
      have ARM2 := Lib.hid (show ∀ v1 v2 a' C', Below W3.drew.heap.size W3.drew v1 → Below v1.heap.size v1 v2 → (v2.cell? ⟨w.heap.size, 0, none⟩ = some (.slice a l.pairs.length C) ∧ v2.cell? ⟨w.heap.size, 1, none⟩ = some (.string l.high) ∧ v2.cell? ⟨w.heap.size, 2, none⟩ = some (.int .i64 l.next)) ∧
          (v2.cell? ⟨w.heap.size + 1, 0, none⟩ = some (.slice none 0 0) ∧ v2.cell? ⟨w.heap.size + 1, 1, none⟩ = some (.string ⟨#[]⟩) ∧ v2.cell? ⟨w.heap.size + 1, 2, none⟩ = some (.int .i64 0) ∧ v2.frozen? ⟨w.heap.size + 1, 0, none⟩ = false ∧ v2.frozen? ⟨w.heap.size + 1, 1, none⟩ = false ∧ v2.frozen? ⟨w.heap.size + 1, 2, none⟩ = false) ∧
          ((((v2.setCell ⟨w.heap.size + 1, 0, none⟩ (.slice a' R.length C')).setCell ⟨w.heap.size + 1, 1, none⟩ (.string l.high)).setCell ⟨w.heap.size + 1, 2, none⟩ (.int .i64 l.next)).cell? ⟨w.heap.size, 0, none⟩ = some (.slice a l.pairs.length C) ∧ (((v2.setCell ⟨w.heap.size + 1, 0, none⟩ (.slice a' R.length C')).setCell ⟨w.heap.size + 1, 1, none⟩ (.string l.high)).setCell ⟨w.heap.size + 1, 2, none⟩ (.int .i64 l.next)).cell? ⟨w.heap.size, 1, none⟩ = some (.string l.high) ∧ (((v2.setCell ⟨w.heap.size + 1, 0, none⟩ (.slice a' R.length C')).setCell ⟨w.heap.size + 1, 1, none⟩ (.string l.high)).setCell ⟨w.heap.size + 1, 2, none⟩ (.int .i64 l.next)).cell? ⟨w.heap.size, 2, none⟩ = some (.int .i64 l.next)) ∧
          (At (((v2.setCell ⟨w.heap.size + 1, 0, none⟩ (.slice a' R.length C')).setCell ⟨w.heap.size + 1, 1, none⟩ (.string l.high)).setCell ⟨w.heap.size + 1, 2, none⟩ (.int .i64 l.next)) (w.heap.size + 1) #[.slice a' R.length C', .string l.high, .int .i64 l.next] 24 ∧ Below w.heap.size w (((v2.setCell ⟨w.heap.size + 1, 0, none⟩ (.slice a' R.length C')).setCell ⟨w.heap.size + 1, 1, none⟩ (.string l.high)).setCell ⟨w.heap.size + 1, 2, none⟩ (.int .i64 l.next)) ∧
            (PrAt v1 a' C' R → PrAt (((v2.setCell ⟨w.heap.size + 1, 0, none⟩ (.slice a' R.length C')).setCell ⟨w.heap.size + 1, 1, none⟩ (.string l.high)).setCell ⟨w.heap.size + 1, 2, none⟩ (.int .i64 l.next)) a' C' R)) from fun v1 v2 a' C' b1 b2 => by
        have A1 := (HA3.out.drew.reads b1).reads b2
        have A2 := (HC3.out.drew.reads b1).reads b2
        have B1 := HB3.out.drew.trans (b1.mono HB3.out.size)
        have hl := HA3.out.lt
        have A4 := ((A1.setOther 0 (.slice a' R.length C') (g := w.heap.size + 1) (by omega)).setOther 1 (.string l.high) (g := w.heap.size + 1) (by omega)).setOther 2 (.int .i64 l.next) (g := w.heap.size + 1) (by omega)
        refine ⟨⟨A1.cell 0, A1.cell 1, A1.cell 2⟩, ⟨A2.cell 0, A2.cell 1, A2.cell 2, A2.fz 0, A2.fz 1, A2.fz 2⟩, ⟨A4.cell 0, A4.cell 1, A4.cell 2⟩, A2.put3, below_put3 (B1.trans (b2.mono B1.size)) HN1.out, fun hp => ?_⟩
        exact PrAt.put3 A2 (hp.below b2) _ _ _)
      have CH3 := Lib.hid (by
        have X := CH.out W3.drew HB3.out.drew
        rw [← show IntKind.i64.wrap ((f : Int) + 1) = (f : Int) + 1 from IntWalk.i64_in _ (by omega)] at X
        exact X)
      clear CH HA3 HB3 HC3 HB
      go_wp2_with fail
      go_region_held3 (fun W => W.cell? ⟨w.heap.size, 0, none⟩ = some (.slice a l.pairs.length C) ∧ W.cell? ⟨w.heap.size, 1, none⟩ = some (.string l.high) ∧ W.cell? ⟨w.heap.size, 2, none⟩ = some (.int .i64 l.next)) (first | exact q0 | exact q1 | exact q2 | exact q3)
        (first
        | (go_at_call 59; ((with_reducible refine CH3.out.mono ?_); rintro e1 v1 ⟨a', C', rfl, hp1, b1⟩; have q1 := ARM1.out v1 b1; have HB1 := Lib.hid b1; have HP1 := Lib.hid hp1; clear b1 hp1))
        | (go_at_call 58; ((with_reducible refine (CW.out a' C' v1 HP1.out.at').mono ?_); rintro e2 v2 ⟨rfl, b2⟩; obtain ⟨q2, ⟨y0, y1, y2, y3, y4, y5⟩, q3, n2⟩ := ARM2.out v1 v2 a' C' HB1.out b2; have HN2 := Lib.hid n2; clear b2 n2)))
      all_goals
        have f0 := HN2.out.1.cell 0
        have f1 := HN2.out.1.cell 1
        have f2 := HN2.out.1.cell 2
        simp only [List.getElem?_toArray, List.getElem?_cons_zero, List.getElem?_cons_succ] at f0 f1 f2
        have HX := Lib.hid (HN2.out.2.2 HP1.out)
        try go_wp2_with fail
        refine bodyPost_ret (v := Value.tuple #[.agg #[.slice a' R.length C', .string l.high, .int .i64 l.next], .int .i64 0]) ?_ rfl ⟨a', C', rfl, HX.out, HN2.out.2.1⟩
        simp [results, Try.results27, go_sem, f0, f1, f2]
end Go.Proofs.Ytajbnfobmnibjaa
