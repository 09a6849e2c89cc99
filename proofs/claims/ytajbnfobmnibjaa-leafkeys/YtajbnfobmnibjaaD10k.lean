/-
  Package leaf: the contract of Join. Made by gen_D10k.py.
-/
import Derived.Test.YtajbnfobmnibjaaD10j
namespace Go.Proofs.Ytajbnfobmnibjaa
open Go.RowKit

def joinOk (x y : LfP) : Bool := rightL x && (rightL y && followsB y x.high)
def joinL (x y : LfP) : LfP := if joinOk x y then wholeL (x.pairs ++ y.pairs) y else zeroL
def joinE (x y : LfP) : Int := if joinOk x y then wholeE (x.pairs ++ y.pairs) else 1
set_option maxRecDepth 100000 in
set_option maxHeartbeats 8000000 in
theorem join10 (a b : Option Addr) (C D : Nat) (x y : LfP) (w : World) (hP : PrAt w a C x.pairs) (hQ : PrAt w b D y.pairs) (hS : SmallP x.pairs) (hS2 : SmallP y.pairs) (hh : x.high.size ≤ 1000000) (hh2 : y.high.size ≤ 1000000) (hw : wgt x.pairs ≤ 1000000) (hw2 : wgt y.pairs ≤ 1000000) :
    Calls Try.prog 31 #[lfV a C x, lfV b D y] w (LfOut w (joinL x y) (joinE x y)) := by
  have hn : x.pairs.length ≤ 1000000 := by have := wgt_len x.pairs; omega
  have hm : y.pairs.length ≤ 1000000 := by have := wgt_len y.pairs; omega
  have bA : Below w.heap.size w (w.alloc (.cells #[.slice a x.pairs.length C, .string x.high, .int .i64 x.next] 24)) := (Below.refl _ w).alloc (Nat.le_refl _) _
  have bB : Below w.heap.size w ((w.alloc (.cells #[.slice a x.pairs.length C, .string x.high, .int .i64 x.next] 24)).alloc (.cells #[.slice b y.pairs.length D, .string y.high, .int .i64 y.next] 24)) := bA.alloc bA.size _
  have bC : Below w.heap.size w (((w.alloc (.cells #[.slice a x.pairs.length C, .string x.high, .int .i64 x.next] 24)).alloc (.cells #[.slice b y.pairs.length D, .string y.high, .int .i64 y.next] 24)).alloc (.cells #[.slice none 0 0, .string ⟨#[]⟩, .int .i64 0] 24)) := bB.alloc bB.size _
  have e1 : (w.alloc (.cells #[.slice a x.pairs.length C, .string x.high, .int .i64 x.next] 24)).heap.size = w.heap.size + 1 := by simp
  have e2 : ((w.alloc (.cells #[.slice a x.pairs.length C, .string x.high, .int .i64 x.next] 24)).alloc (.cells #[.slice b y.pairs.length D, .string y.high, .int .i64 y.next] 24)).heap.size = w.heap.size + 2 := by simp
  have g1 : Below (w.alloc (.cells #[.slice a x.pairs.length C, .string x.high, .int .i64 x.next] 24)).heap.size (w.alloc (.cells #[.slice a x.pairs.length C, .string x.high, .int .i64 x.next] 24)) ((w.alloc (.cells #[.slice a x.pairs.length C, .string x.high, .int .i64 x.next] 24)).alloc (.cells #[.slice b y.pairs.length D, .string y.high, .int .i64 y.next] 24)) := (Below.refl _ _).alloc (Nat.le_refl _) _
  have g2 : Below ((w.alloc (.cells #[.slice a x.pairs.length C, .string x.high, .int .i64 x.next] 24)).alloc (.cells #[.slice b y.pairs.length D, .string y.high, .int .i64 y.next] 24)).heap.size ((w.alloc (.cells #[.slice a x.pairs.length C, .string x.high, .int .i64 x.next] 24)).alloc (.cells #[.slice b y.pairs.length D, .string y.high, .int .i64 y.next] 24)) (((w.alloc (.cells #[.slice a x.pairs.length C, .string x.high, .int .i64 x.next] 24)).alloc (.cells #[.slice b y.pairs.length D, .string y.high, .int .i64 y.next] 24)).alloc (.cells #[.slice none 0 0, .string ⟨#[]⟩, .int .i64 0] 24)) := (Below.refl _ _).alloc (Nat.le_refl _) _
  have a1 := ((At.new w #[.slice a x.pairs.length C, .string x.high, .int .i64 x.next] 24).reads g1).reads g2
  have a2 := (At.new (w.alloc (.cells #[.slice a x.pairs.length C, .string x.high, .int .i64 x.next] 24)) #[.slice b y.pairs.length D, .string y.high, .int .i64 y.next] 24).reads g2
  have a3 := At.new ((w.alloc (.cells #[.slice a x.pairs.length C, .string x.high, .int .i64 x.next] 24)).alloc (.cells #[.slice b y.pairs.length D, .string y.high, .int .i64 y.next] 24)) #[.slice none 0 0, .string ⟨#[]⟩, .int .i64 0] 24
  rw [e1] at a2
  rw [e2] at a3
  have HB := Lib.hid bC; have H1 := Lib.hid a1; have H2 := Lib.hid a2; have H3 := Lib.hid a3
  clear bA bB bC e1 e2 a1 a2 a3 g1 g2
  have HN1 := Lib.hid (show w.heap.size ≤ w.heap.size + 2 by omega)
  have C1 := Lib.hid (fun (W : World) (bb : Below w.heap.size w W) => right10 a C x W (hP.at'.below bb) hS hh hw)
  have C2 := Lib.hid (fun (W : World) (bb : Below w.heap.size w W) => right10 b D y W (hQ.at'.below bb) hS2 hh2 hw2)
  have C3 := Lib.hid (fun (W : World) (bb : Below w.heap.size w W) => follows10 b D y x.high W (hQ.at'.below bb) hm)
  unfold lfV at C1 C2 C3 ⊢
  obtain ⟨OK, hOK⟩ : ∃ o, joinOk x y = o := ⟨_, rfl⟩
  have HOK := Lib.hid hOK
  obtain ⟨L, hL⟩ : ∃ L, joinL x y = L := ⟨_, rfl⟩
  obtain ⟨E, hE⟩ : ∃ E, joinE x y = E := ⟨_, rfl⟩
  rw [hL, hE]
  have HL := Lib.hid hL; have HE := Lib.hid hE
  have HP := Lib.hid hP; have HQ := Lib.hid hQ; have HS := Lib.hid hS; have HS2 := Lib.hid hS2; have HH2 := Lib.hid hh2; have HW := Lib.hid hw; have HW2 := Lib.hid hw2; have HN := Lib.hid hn; have HM := Lib.hid hm
  clear hL hE hP hQ hS hS2 hh hh2 hw hw2 hn hm hOK
  go_enter Try.func31, Try.ntmps31
  go_upto_region 1 with fail
  generalize (((w.alloc (.cells #[.slice a x.pairs.length C, .string x.high, .int .i64 x.next] 24)).alloc (.cells #[.slice b y.pairs.length D, .string y.high, .int .i64 y.next] 24)).alloc (.cells #[.slice none 0 0, .string ⟨#[]⟩, .int .i64 0] 24)) = W1 at *
  go_cut [20] (fun v wx => v = .bool (!OK) ∧ At wx w.heap.size #[.slice a x.pairs.length C, .string x.high, .int .i64 x.next] 24 ∧ At wx (w.heap.size + 1) #[.slice b y.pairs.length D, .string y.high, .int .i64 y.next] 24 ∧ At wx (w.heap.size + 2) #[.slice none 0 0, .string ⟨#[]⟩, .int .i64 0] 24 ∧ Below w.heap.size w wx)
  case first =>
    have d0 : W1.cell? ⟨w.heap.size, 0, none⟩ = some (.slice a x.pairs.length C) := H1.out.cell 0
    have d1 : W1.cell? ⟨w.heap.size, 1, none⟩ = some (.string x.high) := H1.out.cell 1
    have d2 : W1.cell? ⟨w.heap.size, 2, none⟩ = some (.int .i64 x.next) := H1.out.cell 2
    go_wp2_with fail
    refine (C1.out _ HB.out).mono ?_; rintro r W2 ⟨rfl, b2⟩
    have HB2 := Lib.hid (HB.out.trans (b2.mono HB.out.size)); have HA2 := Lib.hid (H1.out.reads b2); have HC2 := Lib.hid (H2.out.reads b2); have HD2 := Lib.hid (H3.out.reads b2)
    clear b2 d0 d1 d2 H1 H2 H3 C1 HP HQ HS HS2 HH2 HW HW2 HN HM HL HE HB
    have d1 : W2.cell? ⟨w.heap.size, 1, none⟩ = some (.string x.high) := HA2.out.cell 1
    have k0 : W2.cell? ⟨w.heap.size + 1, 0, none⟩ = some (.slice b y.pairs.length D) := HC2.out.cell 0
    have k1 : W2.cell? ⟨w.heap.size + 1, 1, none⟩ = some (.string y.high) := HC2.out.cell 1
    have k2 : W2.cell? ⟨w.heap.size + 1, 2, none⟩ = some (.int .i64 y.next) := HC2.out.cell 2
    have hO := HOK.out
    unfold joinOk at hO
    clear HOK
    cases hR : rightL x with
    | false =>
      obtain rfl : OK = false := by rw [← hO, hR]; rfl
      go_wp2_with fail
      go_meet
      exact ⟨rfl, HA2.out, HC2.out, HD2.out, HB2.out⟩
    | true =>
      rw [hR, Bool.true_and] at hO
      go_wp2_with fail
      refine (C2.out _ HB2.out).mono ?_; rintro r W3 ⟨rfl, b3⟩
      have HB3 := Lib.hid (HB2.out.trans (b3.mono HB2.out.size)); have HA3 := Lib.hid (HA2.out.reads b3); have HC3 := Lib.hid (HC2.out.reads b3); have HD3 := Lib.hid (HD2.out.reads b3)
      clear b3 d1 k0 k1 k2 HA2 HC2 HD2 HB2 C2
      have d1 : W3.cell? ⟨w.heap.size, 1, none⟩ = some (.string x.high) := HA3.out.cell 1
      have k0 : W3.cell? ⟨w.heap.size + 1, 0, none⟩ = some (.slice b y.pairs.length D) := HC3.out.cell 0
      have k1 : W3.cell? ⟨w.heap.size + 1, 1, none⟩ = some (.string y.high) := HC3.out.cell 1
      have k2 : W3.cell? ⟨w.heap.size + 1, 2, none⟩ = some (.int .i64 y.next) := HC3.out.cell 2
      cases hK : rightL y with
      | false =>
        obtain rfl : OK = false := by rw [← hO, hK]; rfl
        go_wp2_with fail
        go_meet
        exact ⟨rfl, HA3.out, HC3.out, HD3.out, HB3.out⟩
      | true =>
        rw [hK, Bool.true_and] at hO
        rw [hO] at C3
        clear hO
        go_wp2_with fail
        refine (C3.out _ HB3.out).mono ?_; rintro r W4 ⟨rfl, b4⟩
        have HB4 := Lib.hid (HB3.out.trans (b4.mono HB3.out.size)); have HA4 := Lib.hid (HA3.out.reads b4); have HC4 := Lib.hid (HC3.out.reads b4); have HD4 := Lib.hid (HD3.out.reads b4)
        clear b4 d1 k0 k1 k2 HA3 HC3 HD3 HB3 C3
        go_wp2_with fail
        go_meet
        exact ⟨rfl, HA4.out, HC4.out, HD4.out, HB4.out⟩
  case rest =>
    obtain ⟨rfl, hA2, hC2, hD2, hB2⟩ := hcut
    have HA2 := Lib.hid hA2; have HC2 := Lib.hid hC2; have HD2 := Lib.hid hD2; have HB2 := Lib.hid hB2
    clear hA2 hC2 hD2 hB2 H1 H2 H3 HB C1 C2 C3
    cases OK with
    | false =>
      obtain rfl : zeroL = L := by have := HL.out; unfold joinL at this; rw [HOK.out] at this; exact this
      obtain rfl : 1 = E := by have := HE.out; unfold joinE at this; rw [HOK.out] at this; exact this
      clear HP HQ HS HS2 HH2 HW HW2 HN HM HL HE HOK
      have k0 : wc.cell? ⟨w.heap.size + 2, 0, none⟩ = some (.slice none 0 0) := HD2.out.cell 0
      have k1 : wc.cell? ⟨w.heap.size + 2, 1, none⟩ = some (.string ⟨#[]⟩) := HD2.out.cell 1
      have k2 : wc.cell? ⟨w.heap.size + 2, 2, none⟩ = some (.int .i64 0) := HD2.out.cell 2
      have z0 : wc.frozen? ⟨w.heap.size + 2, 0, none⟩ = false := HD2.out.fz 0
      have z1 : wc.frozen? ⟨w.heap.size + 2, 1, none⟩ = false := HD2.out.fz 1
      have z2 : wc.frozen? ⟨w.heap.size + 2, 2, none⟩ = false := HD2.out.fz 2
      have DD := HD2.out.put3 (u := .slice none 0 0) (v := .string ⟨#[]⟩) (t := .int .i64 0)
      have BF := Lib.hid (below_put3 (B := w.heap.size + 2) (u := .slice none 0 0) (v := .string ⟨#[]⟩) (t := .int .i64 0) HB2.out HN1.out)
      have f0 := DD.cell 0
      have f1 := DD.cell 1
      have f2 := DD.cell 2
      simp only [List.getElem?_toArray, List.getElem?_cons_zero, List.getElem?_cons_succ] at f0 f1 f2
      clear DD
      go_wp2_with fail
      refine bodyPost_ret (v := Value.tuple #[zero10, .int .i64 1]) ?_ rfl ⟨none, 0, rfl, PrAt.zero _, BF.out⟩
      simp [results, Try.results31, go_sem, f0, f1, f2, zero10]
    | true =>
      have hO := HOK.out
      unfold joinOk at hO
      simp only [Bool.and_eq_true] at hO
      have hwx : wgt x.pairs ≤ 231 := (rightL_iff.1 hO.1).1
      have hwy : wgt y.pairs ≤ 231 := (rightL_iff.1 hO.2.1).1
      have hlx := wgt_len x.pairs
      have hly := wgt_len y.pairs
      obtain ⟨R, hRR⟩ : ∃ R, x.pairs ++ y.pairs = R := ⟨_, rfl⟩
      have hwR : wgt R ≤ 1000000 := by rw [← hRR, wgt_app]; omega
      have hL : wholeL R y = L := by have := HL.out; unfold joinL at this; rw [HOK.out, hRR] at this; exact this
      have hE : wholeE R = E := by have := HE.out; unfold joinE at this; rw [HOK.out, hRR] at this; exact this
      have CH := Lib.hid (changed10 a b C D x.pairs y.pairs x.pairs.length x.pairs.length wc.drew ((HP.out.below HB2.out).below ((Below.refl _ wc).drew)) ((HQ.out.below HB2.out).below ((Below.refl _ wc).drew)).at' (Nat.le_refl _) (Nat.le_refl _) (by omega) (by omega) HS.out HS2.out R (by rw [← hRR]; simp))
      have CW := Lib.hid (fun (a' : Option Addr) (C' : Nat) (W : World) (h : PrAt W a' C' R) => wholeO a' b C' D R y W h hwR HH2.out L E hL hE)
      have f0 : (0 : Int) ≤ (x.pairs.length : Int) := by omega
      have f1 : (x.pairs.length : Int) ≤ 1000000 := by omega
      clear HP HQ HS HS2 HH2 HW HW2 HL HE HOK hO hwx hwy hlx hly hRR hwR hL hE HN HM
      have qa : (wc.drew.cell? ⟨w.heap.size, 0, none⟩ = some (.slice a x.pairs.length C) ∧ wc.drew.cell? ⟨w.heap.size + 1, 0, none⟩ = some (.slice b y.pairs.length D) ∧ wc.drew.cell? ⟨w.heap.size + 1, 1, none⟩ = some (.string y.high) ∧ wc.drew.cell? ⟨w.heap.size + 1, 2, none⟩ = some (.int .i64 y.next)) := ⟨HA2.out.cell 0, HC2.out.cell 0, HC2.out.cell 1, HC2.out.cell 2⟩
      have ARM1 := Lib.hid (show ∀ v1, Below wc.drew.heap.size wc.drew v1 → (v1.cell? ⟨w.heap.size, 0, none⟩ = some (.slice a x.pairs.length C) ∧ v1.cell? ⟨w.heap.size + 1, 0, none⟩ = some (.slice b y.pairs.length D) ∧ v1.cell? ⟨w.heap.size + 1, 1, none⟩ = some (.string y.high) ∧ v1.cell? ⟨w.heap.size + 1, 2, none⟩ = some (.int .i64 y.next)) from fun v1 b1 => by
        have A1 := HA2.out.drew.reads b1
        have A2 := HC2.out.drew.reads b1
        exact ⟨A1.cell 0, A2.cell 0, A2.cell 1, A2.cell 2⟩)
      have ARM2 := Lib.hid (show ∀ v1 v2 a2 C2, Below wc.drew.heap.size wc.drew v1 → Below v1.heap.size v1 v2 → PrAt v2 a2 C2 L.pairs → (v2.cell? ⟨w.heap.size, 0, none⟩ = some (.slice a x.pairs.length C) ∧ v2.cell? ⟨w.heap.size + 1, 0, none⟩ = some (.slice b y.pairs.length D) ∧ v2.cell? ⟨w.heap.size + 1, 1, none⟩ = some (.string y.high) ∧ v2.cell? ⟨w.heap.size + 1, 2, none⟩ = some (.int .i64 y.next)) ∧
          (v2.cell? ⟨w.heap.size + 2, 0, none⟩ = some (.slice none 0 0) ∧ v2.cell? ⟨w.heap.size + 2, 1, none⟩ = some (.string ⟨#[]⟩) ∧ v2.cell? ⟨w.heap.size + 2, 2, none⟩ = some (.int .i64 0) ∧ v2.frozen? ⟨w.heap.size + 2, 0, none⟩ = false ∧ v2.frozen? ⟨w.heap.size + 2, 1, none⟩ = false ∧ v2.frozen? ⟨w.heap.size + 2, 2, none⟩ = false) ∧
          ((((v2.setCell ⟨w.heap.size + 2, 0, none⟩ (.slice a2 L.pairs.length C2)).setCell ⟨w.heap.size + 2, 1, none⟩ (.string L.high)).setCell ⟨w.heap.size + 2, 2, none⟩ (.int .i64 L.next)).cell? ⟨w.heap.size, 0, none⟩ = some (.slice a x.pairs.length C) ∧ (((v2.setCell ⟨w.heap.size + 2, 0, none⟩ (.slice a2 L.pairs.length C2)).setCell ⟨w.heap.size + 2, 1, none⟩ (.string L.high)).setCell ⟨w.heap.size + 2, 2, none⟩ (.int .i64 L.next)).cell? ⟨w.heap.size + 1, 0, none⟩ = some (.slice b y.pairs.length D) ∧ (((v2.setCell ⟨w.heap.size + 2, 0, none⟩ (.slice a2 L.pairs.length C2)).setCell ⟨w.heap.size + 2, 1, none⟩ (.string L.high)).setCell ⟨w.heap.size + 2, 2, none⟩ (.int .i64 L.next)).cell? ⟨w.heap.size + 1, 1, none⟩ = some (.string y.high) ∧ (((v2.setCell ⟨w.heap.size + 2, 0, none⟩ (.slice a2 L.pairs.length C2)).setCell ⟨w.heap.size + 2, 1, none⟩ (.string L.high)).setCell ⟨w.heap.size + 2, 2, none⟩ (.int .i64 L.next)).cell? ⟨w.heap.size + 1, 2, none⟩ = some (.int .i64 y.next)) ∧
          (At (((v2.setCell ⟨w.heap.size + 2, 0, none⟩ (.slice a2 L.pairs.length C2)).setCell ⟨w.heap.size + 2, 1, none⟩ (.string L.high)).setCell ⟨w.heap.size + 2, 2, none⟩ (.int .i64 L.next)) (w.heap.size + 2) #[.slice a2 L.pairs.length C2, .string L.high, .int .i64 L.next] 24 ∧ Below w.heap.size w (((v2.setCell ⟨w.heap.size + 2, 0, none⟩ (.slice a2 L.pairs.length C2)).setCell ⟨w.heap.size + 2, 1, none⟩ (.string L.high)).setCell ⟨w.heap.size + 2, 2, none⟩ (.int .i64 L.next)) ∧ PrAt (((v2.setCell ⟨w.heap.size + 2, 0, none⟩ (.slice a2 L.pairs.length C2)).setCell ⟨w.heap.size + 2, 1, none⟩ (.string L.high)).setCell ⟨w.heap.size + 2, 2, none⟩ (.int .i64 L.next)) a2 C2 L.pairs) from fun v1 v2 a2 C2 b1 b2 hp => by
        have A1 := (HA2.out.drew.reads b1).reads b2
        have A2 := (HC2.out.drew.reads b1).reads b2
        have A3 := (HD2.out.drew.reads b1).reads b2
        have B1 := HB2.out.drew.trans (b1.mono HB2.out.size)
        have hl := HA2.out.lt
        have A4 := ((A1.setOther 0 (.slice a2 L.pairs.length C2) (g := w.heap.size + 2) (by omega)).setOther 1 (.string L.high) (g := w.heap.size + 2) (by omega)).setOther 2 (.int .i64 L.next) (g := w.heap.size + 2) (by omega)
        have A5 := ((A2.setOther 0 (.slice a2 L.pairs.length C2) (g := w.heap.size + 2) (by omega)).setOther 1 (.string L.high) (g := w.heap.size + 2) (by omega)).setOther 2 (.int .i64 L.next) (g := w.heap.size + 2) (by omega)
        exact ⟨⟨A1.cell 0, A2.cell 0, A2.cell 1, A2.cell 2⟩, ⟨A3.cell 0, A3.cell 1, A3.cell 2, A3.fz 0, A3.fz 1, A3.fz 2⟩, ⟨A4.cell 0, A5.cell 0, A5.cell 1, A5.cell 2⟩, A3.put3, below_put3 (B1.trans (b2.mono B1.size)) HN1.out, PrAt.put3 A3 hp _ _ _⟩)
      clear HA2 HC2 HD2 HB2
      go_wp2_with fail
      go_region_held3 (fun W => (W.cell? ⟨w.heap.size, 0, none⟩ = some (.slice a x.pairs.length C) ∧ W.cell? ⟨w.heap.size + 1, 0, none⟩ = some (.slice b y.pairs.length D) ∧ W.cell? ⟨w.heap.size + 1, 1, none⟩ = some (.string y.high) ∧ W.cell? ⟨w.heap.size + 1, 2, none⟩ = some (.int .i64 y.next))) (first | exact qa | exact q1 | exact q2 | exact q3)
        (first
        | (go_at_call 59; ((with_reducible refine CH.out.mono ?_); rintro e1 v1 ⟨a', C', rfl, hp1, b1⟩; have q1 := ARM1.out v1 b1; have HB1 := Lib.hid b1; have HP1 := Lib.hid hp1; clear b1 hp1))
        | (go_at_call 58; ((with_reducible refine (CW.out a' C' v1 HP1.out).mono ?_); rintro e2 v2 ⟨a2, C2, rfl, hp2, b2⟩; obtain ⟨q2, ⟨y0, y1, y2, y3, y4, y5⟩, q3, n2⟩ := ARM2.out v1 v2 a2 C2 HB1.out b2 hp2; have HN2 := Lib.hid n2; clear b2 n2 hp2)))
      all_goals
        have f0 := HN2.out.1.cell 0
        have f1 := HN2.out.1.cell 1
        have f2 := HN2.out.1.cell 2
        simp only [List.getElem?_toArray, List.getElem?_cons_zero, List.getElem?_cons_succ] at f0 f1 f2
        try go_wp2_with fail
        refine bodyPost_ret (v := Value.tuple #[.agg #[.slice a2 L.pairs.length C2, .string L.high, .int .i64 L.next], .int .i64 E]) ?_ rfl ⟨a2, C2, rfl, HN2.out.2.2, HN2.out.2.1⟩
        simp [results, Try.results31, go_sem, f0, f1, f2]
end Go.Proofs.Ytajbnfobmnibjaa
