/-
  Package leaf: the contract of Split. Made by gen_D10l.py.
-/
import Derived.Test.YtajbnfobmnibjaaD10k
import Derived.Test.YtajbnfobmnibjaaD10f
namespace Go.Proofs.Ytajbnfobmnibjaa
open Go.RowKit

theorem halfFrom_ge (l : Prs) : ∀ k n, n ≤ halfFrom l n k
  | 0, n => Nat.le_refl n
  | k + 1, n => by
    unfold halfFrom
    split
    · have := halfFrom_ge l k (n + 1); omega
    · exact Nat.le_refl n
theorem halfFrom_le (l : Prs) : ∀ k n, n ≤ l.length - 1 → halfFrom l n k ≤ l.length - 1
  | 0, n, h => h
  | k + 1, n, h => by
    unfold halfFrom
    split
    · rename_i h2; exact halfFrom_le l k (n + 1) (by omega)
    · exact h
theorem half_in {l : Prs} (h : 2 ≤ l.length) : 1 ≤ halfN l ∧ halfN l < l.length := by
  have h1 := halfFrom_ge l l.length 1
  have h2 := halfFrom_le l l.length 1 (by omega)
  unfold halfN
  omega
def splitOk (l : LfP) (pg : Int) : Bool := rightL l && (decide (2 ≤ l.pairs.length) && (decide (0 ≤ pg) && decide (pg < 1024)))
def splitA (l : LfP) (pg : Int) : LfP := if splitOk l pg then ⟨l.pairs.take (halfN l.pairs), ((l.pairs[halfN l.pairs]?).map (·.1)).getD noB, pg + 1⟩ else zeroL
def splitB (l : LfP) (pg : Int) : LfP := if splitOk l pg then ⟨l.pairs.drop (halfN l.pairs), l.high, l.next⟩ else zeroL
def splitE (l : LfP) (pg : Int) : Int := if splitOk l pg then 0 else 1
def SpOut (w : World) (A B : LfP) (er : Int) (e : Ending) (w' : World) : Prop := ∃ a C b D, e = .returned (.tuple #[lfV a C A, lfV b D B, .int .i64 er]) ∧ PrAt w' a C A.pairs ∧ PrAt w' b D B.pairs ∧ Below w.heap.size w w'
set_option maxRecDepth 100000 in
set_option maxHeartbeats 8000000 in
theorem split10 (a : Option Addr) (C : Nat) (l : LfP) (pg : Int) (w : World) (hP : PrAt w a C l.pairs) (hS : SmallP l.pairs) (hh : l.high.size ≤ 1000000) (hw : wgt l.pairs ≤ 1000000) :
    Calls Try.prog 29 #[lfV a C l, .int .i64 pg] w (SpOut w (splitA l pg) (splitB l pg) (splitE l pg)) := by
  have hn : l.pairs.length ≤ 1000000 := by have := wgt_len l.pairs; omega
  have bA : Below w.heap.size w (w.alloc (.cells #[.slice a l.pairs.length C, .string l.high, .int .i64 l.next] 24)) := (Below.refl _ w).alloc (Nat.le_refl _) _
  have bB : Below w.heap.size w ((w.alloc (.cells #[.slice a l.pairs.length C, .string l.high, .int .i64 l.next] 24)).alloc (.cells #[.slice none 0 0, .string ⟨#[]⟩, .int .i64 0] 24)) := bA.alloc bA.size _
  have bC : Below w.heap.size w (((w.alloc (.cells #[.slice a l.pairs.length C, .string l.high, .int .i64 l.next] 24)).alloc (.cells #[.slice none 0 0, .string ⟨#[]⟩, .int .i64 0] 24)).alloc (.cells #[.slice none 0 0, .string ⟨#[]⟩, .int .i64 0] 24)) := bB.alloc bB.size _
  have e1 : (w.alloc (.cells #[.slice a l.pairs.length C, .string l.high, .int .i64 l.next] 24)).heap.size = w.heap.size + 1 := by simp
  have e2 : ((w.alloc (.cells #[.slice a l.pairs.length C, .string l.high, .int .i64 l.next] 24)).alloc (.cells #[.slice none 0 0, .string ⟨#[]⟩, .int .i64 0] 24)).heap.size = w.heap.size + 2 := by simp
  have g1 : Below (w.alloc (.cells #[.slice a l.pairs.length C, .string l.high, .int .i64 l.next] 24)).heap.size (w.alloc (.cells #[.slice a l.pairs.length C, .string l.high, .int .i64 l.next] 24)) ((w.alloc (.cells #[.slice a l.pairs.length C, .string l.high, .int .i64 l.next] 24)).alloc (.cells #[.slice none 0 0, .string ⟨#[]⟩, .int .i64 0] 24)) := (Below.refl _ _).alloc (Nat.le_refl _) _
  have g2 : Below ((w.alloc (.cells #[.slice a l.pairs.length C, .string l.high, .int .i64 l.next] 24)).alloc (.cells #[.slice none 0 0, .string ⟨#[]⟩, .int .i64 0] 24)).heap.size ((w.alloc (.cells #[.slice a l.pairs.length C, .string l.high, .int .i64 l.next] 24)).alloc (.cells #[.slice none 0 0, .string ⟨#[]⟩, .int .i64 0] 24)) (((w.alloc (.cells #[.slice a l.pairs.length C, .string l.high, .int .i64 l.next] 24)).alloc (.cells #[.slice none 0 0, .string ⟨#[]⟩, .int .i64 0] 24)).alloc (.cells #[.slice none 0 0, .string ⟨#[]⟩, .int .i64 0] 24)) := (Below.refl _ _).alloc (Nat.le_refl _) _
  have a1 := ((At.new w #[.slice a l.pairs.length C, .string l.high, .int .i64 l.next] 24).reads g1).reads g2
  have a2 := (At.new (w.alloc (.cells #[.slice a l.pairs.length C, .string l.high, .int .i64 l.next] 24)) #[.slice none 0 0, .string ⟨#[]⟩, .int .i64 0] 24).reads g2
  have a3 := At.new ((w.alloc (.cells #[.slice a l.pairs.length C, .string l.high, .int .i64 l.next] 24)).alloc (.cells #[.slice none 0 0, .string ⟨#[]⟩, .int .i64 0] 24)) #[.slice none 0 0, .string ⟨#[]⟩, .int .i64 0] 24
  rw [e1] at a2
  rw [e2] at a3
  have HB := Lib.hid bC; have H1 := Lib.hid a1; have H2 := Lib.hid a2; have H3 := Lib.hid a3
  clear bA bB bC e1 e2 a1 a2 a3 g1 g2
  have HN1 := Lib.hid (show w.heap.size ≤ w.heap.size + 1 by omega); have HN2 := Lib.hid (show w.heap.size ≤ w.heap.size + 2 by omega)
  have C1 := Lib.hid (fun (W : World) (bb : Below w.heap.size w W) => right10 a C l W (hP.at'.below bb) hS hh hw)
  unfold lfV at C1 ⊢
  obtain ⟨OK, hOK⟩ : ∃ o, splitOk l pg = o := ⟨_, rfl⟩
  have HOK := Lib.hid hOK
  obtain ⟨LA, hLA⟩ : ∃ L, splitA l pg = L := ⟨_, rfl⟩
  obtain ⟨LB, hLB⟩ : ∃ L, splitB l pg = L := ⟨_, rfl⟩
  obtain ⟨E, hE⟩ : ∃ E, splitE l pg = E := ⟨_, rfl⟩
  rw [hLA, hLB, hE]
  have HLA := Lib.hid hLA; have HLB := Lib.hid hLB; have HE := Lib.hid hE
  have HP := Lib.hid hP; have HS := Lib.hid hS; have HH := Lib.hid hh; have HW := Lib.hid hw; have HN := Lib.hid hn
  clear hLA hLB hE hP hS hh hw hn hOK
  go_enter Try.func29, Try.ntmps29
  go_upto_region 1 with fail
  generalize (((w.alloc (.cells #[.slice a l.pairs.length C, .string l.high, .int .i64 l.next] 24)).alloc (.cells #[.slice none 0 0, .string ⟨#[]⟩, .int .i64 0] 24)).alloc (.cells #[.slice none 0 0, .string ⟨#[]⟩, .int .i64 0] 24)) = W1 at *
  go_cut [26] (fun v wx => v = .bool (!OK) ∧ At wx w.heap.size #[.slice a l.pairs.length C, .string l.high, .int .i64 l.next] 24 ∧ At wx (w.heap.size + 1) #[.slice none 0 0, .string ⟨#[]⟩, .int .i64 0] 24 ∧ At wx (w.heap.size + 2) #[.slice none 0 0, .string ⟨#[]⟩, .int .i64 0] 24 ∧ Below w.heap.size w wx)
  case first =>
    have d0 : W1.cell? ⟨w.heap.size, 0, none⟩ = some (.slice a l.pairs.length C) := H1.out.cell 0
    have d1 : W1.cell? ⟨w.heap.size, 1, none⟩ = some (.string l.high) := H1.out.cell 1
    have d2 : W1.cell? ⟨w.heap.size, 2, none⟩ = some (.int .i64 l.next) := H1.out.cell 2
    go_wp2_with fail
    refine (C1.out _ HB.out).mono ?_; rintro r W2 ⟨rfl, b2⟩
    have HB2 := Lib.hid (HB.out.trans (b2.mono HB.out.size)); have HA2 := Lib.hid (H1.out.reads b2); have HC2 := Lib.hid (H2.out.reads b2); have HD2 := Lib.hid (H3.out.reads b2)
    have n0 := HN.out
    clear b2 d0 d1 d2 H1 H2 H3 C1 HP HS HH HW HLA HLB HE HB
    have d0 : W2.cell? ⟨w.heap.size, 0, none⟩ = some (.slice a l.pairs.length C) := HA2.out.cell 0
    have hO := HOK.out
    unfold splitOk at hO
    clear HOK
    cases hR : rightL l with
    | false =>
      obtain rfl : OK = false := by rw [← hO, hR]; rfl
      go_wp2_with fail
      go_meet
      exact ⟨rfl, HA2.out, HC2.out, HD2.out, HB2.out⟩
    | true =>
      rw [hR, Bool.true_and] at hO
      have HO := Lib.hid hO
      clear hO
      by_cases x1 : 2 ≤ l.pairs.length
      · by_cases x2 : 0 ≤ pg
        · have y1 : ¬ (l.pairs.length : Int) < 2 := by omega
          have y2 : ¬ pg < 0 := by omega
          by_cases x3 : pg < 1024
          · obtain rfl : OK = true := by rw [← HO.out, decide_eq_true x1, decide_eq_true x2, decide_eq_true x3]; rfl
            go_wp2_with fail
            go_meet
            exact ⟨by first | rfl | (simp; omega), HA2.out, HC2.out, HD2.out, HB2.out⟩
          · obtain rfl : OK = false := by rw [← HO.out, decide_eq_true x1, decide_eq_true x2, decide_eq_false x3]; rfl
            go_wp2_with fail
            go_meet
            exact ⟨by first | rfl | (simp; omega), HA2.out, HC2.out, HD2.out, HB2.out⟩
        · obtain rfl : OK = false := by rw [← HO.out, decide_eq_true x1, decide_eq_false x2]; rfl
          have y1 : ¬ (l.pairs.length : Int) < 2 := by omega
          have y2 : pg < 0 := by omega
          go_wp2_with fail
          go_meet
          exact ⟨by first | rfl | (simp; omega), HA2.out, HC2.out, HD2.out, HB2.out⟩
      · obtain rfl : OK = false := by rw [← HO.out, decide_eq_false x1]; rfl
        have y1 : (l.pairs.length : Int) < 2 := by omega
        go_wp2_with fail
        go_meet
        exact ⟨by first | rfl | (simp; omega), HA2.out, HC2.out, HD2.out, HB2.out⟩
  case rest =>
    obtain ⟨rfl, hA2, hC2, hD2, hB2⟩ := hcut
    have HA2 := Lib.hid hA2; have HC2 := Lib.hid hC2; have HD2 := Lib.hid hD2; have HB2 := Lib.hid hB2
    clear hA2 hC2 hD2 hB2 H1 H2 H3 HB C1
    have hne1 : w.heap.size + 1 ≠ w.heap.size + 2 := by omega
    have hne2 : w.heap.size + 2 ≠ w.heap.size + 1 := by omega
    have hne3 : w.heap.size ≠ w.heap.size + 1 := by omega
    have hne4 : w.heap.size ≠ w.heap.size + 2 := by omega
    generalize w.heap.size + 2 = B5 at *
    generalize w.heap.size + 1 = B4 at *
    cases OK with
    | false =>
      obtain rfl : zeroL = LA := by have := HLA.out; unfold splitA at this; rw [HOK.out] at this; exact this
      obtain rfl : zeroL = LB := by have := HLB.out; unfold splitB at this; rw [HOK.out] at this; exact this
      obtain rfl : 1 = E := by have := HE.out; unfold splitE at this; rw [HOK.out] at this; exact this
      clear HP HS HH HW HN HLA HLB HE HOK
      have k0 : wc.cell? ⟨B4, 0, none⟩ = some (.slice none 0 0) := HC2.out.cell 0
      have k1 : wc.cell? ⟨B4, 1, none⟩ = some (.string ⟨#[]⟩) := HC2.out.cell 1
      have k2 : wc.cell? ⟨B4, 2, none⟩ = some (.int .i64 0) := HC2.out.cell 2
      have kz0 : wc.frozen? ⟨B4, 0, none⟩ = false := HC2.out.fz 0
      have kz1 : wc.frozen? ⟨B4, 1, none⟩ = false := HC2.out.fz 1
      have kz2 : wc.frozen? ⟨B4, 2, none⟩ = false := HC2.out.fz 2
      have m0 : wc.cell? ⟨B5, 0, none⟩ = some (.slice none 0 0) := HD2.out.cell 0
      have m1 : wc.cell? ⟨B5, 1, none⟩ = some (.string ⟨#[]⟩) := HD2.out.cell 1
      have m2 : wc.cell? ⟨B5, 2, none⟩ = some (.int .i64 0) := HD2.out.cell 2
      have mz0 : wc.frozen? ⟨B5, 0, none⟩ = false := HD2.out.fz 0
      have mz1 : wc.frozen? ⟨B5, 1, none⟩ = false := HD2.out.fz 1
      have mz2 : wc.frozen? ⟨B5, 2, none⟩ = false := HD2.out.fz 2
      have D1 := HC2.out.put3 (u := .slice none 0 0) (v := .string ⟨#[]⟩) (t := .int .i64 0)
      have D2 := ((HD2.out.setOther 0 (.slice none 0 0) (g := B4) hne1).setOther 1 (.string ⟨#[]⟩) (g := B4) hne1).setOther 2 (.int .i64 0) (g := B4) hne1
      have D3 := ((D1.setOther 0 (.slice none 0 0) (g := B5) hne2).setOther 1 (.string ⟨#[]⟩) (g := B5) hne2).setOther 2 (.int .i64 0) (g := B5) hne2
      have D4 := D2.put3 (u := .slice none 0 0) (v := .string ⟨#[]⟩) (t := .int .i64 0)
      have BF := Lib.hid (below_put3 (B := B5) (u := .slice none 0 0) (v := .string ⟨#[]⟩) (t := .int .i64 0) (below_put3 (B := B4) (u := .slice none 0 0) (v := .string ⟨#[]⟩) (t := .int .i64 0) HB2.out HN1.out) HN2.out)
      have u0 := D2.cell 0
      have u1 := D2.cell 1
      have u2 := D2.cell 2
      have u3 := D2.fz 0
      have u4 := D2.fz 1
      have u5 := D2.fz 2
      simp only [List.getElem?_toArray, List.getElem?_cons_zero, List.getElem?_cons_succ] at u0 u1 u2
      have HD3 := Lib.hid D3; have HD4 := Lib.hid D4
      clear D1 D2 D3 D4
      go_upto_if 26 with fail
      refine wp_cond_true (by rfl) ?_
      rename_i hKK
      clear hKK
      go_wp2_with fail
      have f0 := HD3.out.cell 0
      have f1 := HD3.out.cell 1
      have f2 := HD3.out.cell 2
      have f3 := HD4.out.cell 0
      have f4 := HD4.out.cell 1
      have f5 := HD4.out.cell 2
      simp only [List.getElem?_toArray, List.getElem?_cons_zero, List.getElem?_cons_succ] at f0 f1 f2 f3 f4 f5
      refine bodyPost_ret (v := Value.tuple #[zero10, zero10, .int .i64 1]) ?_ rfl ⟨none, 0, none, 0, rfl, PrAt.zero _, PrAt.zero _, BF.out⟩
      simp [results, Try.results29, go_sem, f0, f1, f2, f3, f4, f5, zero10]
    | true =>
      have hO := HOK.out
      unfold splitOk at hO
      simp only [Bool.and_eq_true, decide_eq_true_eq] at hO
      obtain ⟨hR, hl2, hp0, hp1⟩ := hO
      have hw2 : wgt l.pairs ≤ 231 := (rightL_iff.1 hR).1
      have hlen := wgt_len l.pairs
      obtain ⟨hh1, hh2⟩ := half_in hl2
      obtain ⟨N, hN⟩ : ∃ N, halfN l.pairs = N := ⟨_, rfl⟩
      have C2 := Lib.hid (firstHalf10 a C l.pairs wc (HP.out.at'.below HB2.out) hl2 HW.out)
      rw [hN] at C2 hh1 hh2
      obtain ⟨⟨pk, pv⟩, hp⟩ : ∃ p, l.pairs[N]? = some p := ⟨_, List.getElem?_eq_getElem (by omega)⟩
      have hsm := HS.out _ (List.mem_of_getElem? hp)
      obtain ⟨FA, hFA⟩ : ∃ R, l.pairs.take N = R := ⟨_, rfl⟩
      obtain ⟨FB, hFB⟩ : ∃ R, l.pairs.drop N = R := ⟨_, rfl⟩
      obtain rfl : (⟨FA, pk, pg + 1⟩ : LfP) = LA := by have := HLA.out; unfold splitA at this; rw [HOK.out, hN, hp, hFA] at this; exact this
      obtain rfl : (⟨FB, l.high, l.next⟩ : LfP) = LB := by have := HLB.out; unfold splitB at this; rw [HOK.out, hN, hFB] at this; exact this
      obtain rfl : 0 = E := by have := HE.out; unfold splitE at this; rw [HOK.out] at this; exact this
      obtain ⟨g, off, rfl, c0, c1⟩ := HP.out.at' _ _ hp
      have CHA := Lib.hid (fun (W : World) (b : Below w.heap.size w W) => show Calls Try.prog 59 #[.slice (some ⟨g, off, none⟩) l.pairs.length C, .int .i64 (N : Int), .int .i64 (l.pairs.length : Int), .slice none 0 0] W fun e w' => ∃ a' C', e = .returned (.slice a' FA.length C') ∧ PrAt w' a' C' FA ∧ Below W.heap.size W w' from
        changed10 (some ⟨g, off, none⟩) none C 0 l.pairs [] N l.pairs.length W (HP.out.below b) (fun i p h => by simp at h) (by omega) (Nat.le_refl _) (by omega) (by simp) HS.out (fun p h => by cases h) FA (by rw [← hFA]; simp))
      have CHB := Lib.hid (fun (W : World) (b : Below w.heap.size w W) => show Calls Try.prog 59 #[.slice (some ⟨g, off, none⟩) l.pairs.length C, .int .i64 0, .int .i64 (N : Int), .slice none 0 0] W fun e w' => ∃ a' C', e = .returned (.slice a' FB.length C') ∧ PrAt w' a' C' FB ∧ Below W.heap.size W w' from
        changed10 (some ⟨g, off, none⟩) none C 0 l.pairs [] 0 N W (HP.out.below b) (fun i p h => by simp at h) (by omega) (by omega) (by omega) (by simp) HS.out (fun p h => by cases h) FB (by rw [← hFB]; simp))
      have CCA := Lib.hid (fun W => clone_any pk W hsm.1)
      have CCB := Lib.hid (fun W => clone_any l.high W HH.out)
      have HC0 := Lib.hid c0
      dsimp only at HC0
      have HG := Lib.hid (World.block_lt_of_cell? _ _ c0)
      have n1 : (0 : Int) ≤ (N : Int) := by omega
      have n2 : (N : Int) < (l.pairs.length : Int) := by omega
      have n3 : (l.pairs.length : Int) ≤ 1000000 := by omega
      clear HP HS HH HW HN HLA HLB HE HOK hR hl2 hw2 hlen hh1 hh2 hN hsm hFA hFB hp c0 c1
      go_upto_if 26 with fail
      refine wp_cond_false (by rfl) ?_
      rename_i hKK
      refine wp_skip ?_
      refine hKK _ _ ?_
      clear hKK
      have d0 : wc.cell? ⟨w.heap.size, 0, none⟩ = some (.slice (some ⟨g, off, none⟩) l.pairs.length C) := HA2.out.cell 0
      go_wp2_with fail
      refine C2.out.mono ?_; rintro r W3 ⟨rfl, b3⟩
      have HB3 := Lib.hid (HB2.out.trans (b3.mono HB2.out.size)); have HA3 := Lib.hid (HA2.out.reads b3); have HC3 := Lib.hid (HC2.out.reads b3); have HD3 := Lib.hid (HD2.out.reads b3)
      clear b3 d0 HA2 C2 HB2 HC2 HD2
      have SS := Lib.hid (show ∀ v, Below W3.heap.size W3 v → (v.cell? ⟨w.heap.size, 0, none⟩ = some (.slice (some ⟨g, off, none⟩) l.pairs.length C) ∧ v.cell? ⟨g, off + N * 2, none⟩ = some (.string pk)) from fun v bv => by
        have A1 := HA3.out.reads bv
        exact ⟨A1.cell 0, ((HB3.out.trans (bv.mono HB3.out.size)).cell HG.out).trans HC0.out⟩)
      have HX := Lib.hid (IntWalk.i64_in (pg + 1) (by omega))
      go_upto_region 4 with fail
      go_cut [8] (fun v wx => ∃ B8 a1 C1, v = .pointer (some ⟨B8, 0, none⟩) ∧ At wx B8 #[.slice a1 FA.length C1, .string pk, .int .i64 (IntKind.i64.wrap (pg + 1))] 24 ∧ PrAt wx a1 C1 FA ∧ Below W3.heap.size W3 wx ∧ W3.heap.size ≤ B8)
      case first =>
        have qd := SS.out W3.drew (Below.refl _ W3).drew
        have bz := (Below.refl W3.heap.size W3).alloc (Nat.le_refl _) (.cells #[.slice none 0 0, .string ⟨#[]⟩, .int .i64 0] 24)
        have qz := SS.out (W3.alloc (.cells #[.slice none 0 0, .string ⟨#[]⟩, .int .i64 0] 24)) bz
        have qy := SS.out (W3.alloc (.cells #[.slice none 0 0, .string ⟨#[]⟩, .int .i64 0] 24)).drew bz.drew
        have AX := Lib.hid (At.new W3 #[.slice none 0 0, .string ⟨#[]⟩, .int .i64 0] 24).drew
        have BZ := Lib.hid bz.drew
        have X1 := Lib.hid (CHA.out W3.drew HB3.out.drew)
        have X2 := Lib.hid (CHA.out (W3.alloc (.cells #[.slice none 0 0, .string ⟨#[]⟩, .int .i64 0] 24)).drew (HB3.out.trans (bz.mono HB3.out.size)).drew)
        clear bz
        go_wp2_with fail
        go_region_held3 (fun W => (W.cell? ⟨w.heap.size, 0, none⟩ = some (.slice (some ⟨g, off, none⟩) l.pairs.length C) ∧ W.cell? ⟨g, off + N * 2, none⟩ = some (.string pk))) (first | exact qd | exact qz | exact qy | exact q1 | exact q2 | exact q3 | exact q4 | exact q5 | exact q6)
          (first
          | (go_at_call 59; ((with_reducible refine X1.out.mono ?_); rintro e1 v1 ⟨a1, C1, rfl, hp1, b1⟩; have B1 := Lib.hid (bdrew b1); have HP1 := Lib.hid hp1; have q1 := SS.out v1 B1.out; have q2 := SS.out (v1.alloc (.cells #[.slice none 0 0, .string ⟨#[]⟩, .int .i64 0] 24)) (B1.out.alloc B1.out.size _); clear b1 hp1))
          | (go_at_call 59; ((with_reducible refine X2.out.mono ?_); rintro e1 u1 ⟨a1, C1, rfl, hp1, b1⟩; have AX1 := Lib.hid (AX.out.reads b1); have B1 := Lib.hid (BZ.out.trans (b1.mono BZ.out.size)); have HP1 := Lib.hid hp1; have q1 := SS.out u1 B1.out; clear b1 hp1))
          | (go_at_call 54; ((with_reducible refine (CCA.out u1).mono ?_); rintro e2 u2 ⟨rfl, b2⟩; have AX2 := AX1.out.reads b2; have B2 := Lib.hid (B1.out.trans (b2.mono B1.out.size)); have q3 := SS.out u2 B2.out; have q6 := SS.out (((u2.setCell ⟨W3.heap.size, 0, none⟩ (.slice a1 FA.length C1)).setCell ⟨W3.heap.size, 1, none⟩ (.string pk)).setCell ⟨W3.heap.size, 2, none⟩ (.int .i64 (IntKind.i64.wrap (pg + 1)))) (below_put3 B2.out (Nat.le_refl _)); have y0 := AX2.cell 0; have y1 := AX2.cell 1; have y2 := AX2.cell 2; have y3 := AX2.fz 0; have y4 := AX2.fz 1; have y5 := AX2.fz 2; simp only [List.getElem?_toArray, List.getElem?_cons_zero, List.getElem?_cons_succ] at y0 y1 y2; have HF := Lib.hid (And.intro (AX2.put3 (u := .slice a1 FA.length C1) (v := (.string pk)) (t := (.int .i64 (IntKind.i64.wrap (pg + 1))))) (And.intro (PrAt.put3 AX2 (HP1.out.below b2) (.slice a1 FA.length C1) (.string pk) (.int .i64 (IntKind.i64.wrap (pg + 1)))) (And.intro (below_put3 (u := .slice a1 FA.length C1) (v := (.string pk)) (t := (.int .i64 (IntKind.i64.wrap (pg + 1)))) B2.out (Nat.le_refl _)) (Nat.le_refl W3.heap.size)))); clear b2 AX2))
          | (go_at_call 54; ((with_reducible refine (CCA.out v1).mono ?_); rintro e2 v2 ⟨rfl, b2⟩; have B2 := Lib.hid (B1.out.trans (b2.mono B1.out.size)); have q3 := SS.out v2 B2.out; have q4 := SS.out (v2.alloc (.cells #[.slice none 0 0, .string ⟨#[]⟩, .int .i64 0] 24)) (B2.out.alloc B2.out.size _); have q5 := SS.out (v2.alloc (.cells #[.slice a1 FA.length C1, (.string pk), (.int .i64 (IntKind.i64.wrap (pg + 1)))] 24)) (B2.out.alloc B2.out.size _); have HF := Lib.hid (And.intro (At.new v2 #[.slice a1 FA.length C1, (.string pk), (.int .i64 (IntKind.i64.wrap (pg + 1)))] 24) (And.intro ((HP1.out.below b2).below ((Below.refl _ v2).alloc (Nat.le_refl _) (.cells #[.slice a1 FA.length C1, (.string pk), (.int .i64 (IntKind.i64.wrap (pg + 1)))] 24))) (And.intro (B2.out.alloc B2.out.size (.cells #[.slice a1 FA.length C1, (.string pk), (.int .i64 (IntKind.i64.wrap (pg + 1)))] 24)) B2.out.size))); clear b2))
          | (go_at_call 54; ((with_reducible refine (CCA.out (v1.alloc (.cells #[.slice none 0 0, .string ⟨#[]⟩, .int .i64 0] 24))).mono ?_); rintro e2 t2 ⟨rfl, b2⟩; have AX2 := (At.new v1 #[.slice none 0 0, .string ⟨#[]⟩, .int .i64 0] 24).reads b2; have B2 := Lib.hid ((B1.out.alloc B1.out.size (.cells #[.slice none 0 0, .string ⟨#[]⟩, .int .i64 0] 24)).trans (b2.mono (B1.out.alloc B1.out.size (.cells #[.slice none 0 0, .string ⟨#[]⟩, .int .i64 0] 24)).size)); have q3 := SS.out t2 B2.out; have q6 := SS.out (((t2.setCell ⟨v1.heap.size, 0, none⟩ (.slice a1 FA.length C1)).setCell ⟨v1.heap.size, 1, none⟩ (.string pk)).setCell ⟨v1.heap.size, 2, none⟩ (.int .i64 (IntKind.i64.wrap (pg + 1)))) (below_put3 B2.out B1.out.size); have y0 := AX2.cell 0; have y1 := AX2.cell 1; have y2 := AX2.cell 2; have y3 := AX2.fz 0; have y4 := AX2.fz 1; have y5 := AX2.fz 2; simp only [List.getElem?_toArray, List.getElem?_cons_zero, List.getElem?_cons_succ] at y0 y1 y2; have HF := Lib.hid (And.intro (AX2.put3 (u := .slice a1 FA.length C1) (v := (.string pk)) (t := (.int .i64 (IntKind.i64.wrap (pg + 1))))) (And.intro (PrAt.put3 AX2 ((HP1.out.below ((Below.refl _ v1).alloc (Nat.le_refl _) (.cells #[.slice none 0 0, .string ⟨#[]⟩, .int .i64 0] 24))).below b2) (.slice a1 FA.length C1) (.string pk) (.int .i64 (IntKind.i64.wrap (pg + 1)))) (And.intro (below_put3 (u := .slice a1 FA.length C1) (v := (.string pk)) (t := (.int .i64 (IntKind.i64.wrap (pg + 1)))) B2.out B1.out.size) B1.out.size))); clear b2 AX2)))
        all_goals (try go_wp2_with fail)
        all_goals (go_meet; exact ⟨_, _, _, rfl, HF.out.1, HF.out.2.1, HF.out.2.2.1, HF.out.2.2.2⟩)
      case rest =>
        obtain ⟨B8, aA, CA, rfl, h8, hp8, b8, hB8⟩ := hcut
        clear hB8
        obtain ⟨W4, hW4⟩ : ∃ x, x = wc := ⟨_, rfl⟩
        subst hW4
        have H8 := Lib.hid h8; have HP8 := Lib.hid hp8
        have HB4 := Lib.hid (HB3.out.trans (b8.mono HB3.out.size)); have HA4 := Lib.hid (HA3.out.reads b8); have HC4 := Lib.hid (HC3.out.reads b8); have HD4 := Lib.hid (HD3.out.reads b8)
        clear h8 hp8 b8 HA3 HB3 HC3 HD3 SS CHA CCA
        have SS := Lib.hid (show ∀ v, Below W4.heap.size W4 v → (v.cell? ⟨w.heap.size, 0, none⟩ = some (.slice (some ⟨g, off, none⟩) l.pairs.length C) ∧ v.cell? ⟨w.heap.size, 1, none⟩ = some (.string l.high) ∧ v.cell? ⟨w.heap.size, 2, none⟩ = some (.int .i64 l.next)) from fun v bv => by
          have A1 := HA4.out.reads bv
          exact ⟨A1.cell 0, A1.cell 1, A1.cell 2⟩)
        go_upto_region 5 with fail
        go_cut [9] (fun v wx => ∃ B9 a1 C1, v = .pointer (some ⟨B9, 0, none⟩) ∧ At wx B9 #[.slice a1 FB.length C1, .string l.high, .int .i64 l.next] 24 ∧ PrAt wx a1 C1 FB ∧ Below W4.heap.size W4 wx ∧ W4.heap.size ≤ B9)
        case first =>
          have qd := SS.out W4.drew (Below.refl _ W4).drew
          have bz := (Below.refl W4.heap.size W4).alloc (Nat.le_refl _) (.cells #[.slice none 0 0, .string ⟨#[]⟩, .int .i64 0] 24)
          have qz := SS.out (W4.alloc (.cells #[.slice none 0 0, .string ⟨#[]⟩, .int .i64 0] 24)) bz
          have qy := SS.out (W4.alloc (.cells #[.slice none 0 0, .string ⟨#[]⟩, .int .i64 0] 24)).drew bz.drew
          have AX := Lib.hid (At.new W4 #[.slice none 0 0, .string ⟨#[]⟩, .int .i64 0] 24).drew
          have BZ := Lib.hid bz.drew
          have X1 := Lib.hid (CHB.out W4.drew HB4.out.drew)
          have X2 := Lib.hid (CHB.out (W4.alloc (.cells #[.slice none 0 0, .string ⟨#[]⟩, .int .i64 0] 24)).drew (HB4.out.trans (bz.mono HB4.out.size)).drew)
          clear bz
          go_wp2_with fail
          go_region_held3 (fun W => (W.cell? ⟨w.heap.size, 0, none⟩ = some (.slice (some ⟨g, off, none⟩) l.pairs.length C) ∧ W.cell? ⟨w.heap.size, 1, none⟩ = some (.string l.high) ∧ W.cell? ⟨w.heap.size, 2, none⟩ = some (.int .i64 l.next))) (first | exact qd | exact qz | exact qy | exact q1 | exact q2 | exact q3 | exact q4 | exact q5 | exact q6)
            (first
            | (go_at_call 59; ((with_reducible refine X1.out.mono ?_); rintro e1 v1 ⟨a1, C1, rfl, hp1, b1⟩; have B1 := Lib.hid (bdrew b1); have HP1 := Lib.hid hp1; have q1 := SS.out v1 B1.out; have q2 := SS.out (v1.alloc (.cells #[.slice none 0 0, .string ⟨#[]⟩, .int .i64 0] 24)) (B1.out.alloc B1.out.size _); clear b1 hp1))
            | (go_at_call 59; ((with_reducible refine X2.out.mono ?_); rintro e1 u1 ⟨a1, C1, rfl, hp1, b1⟩; have AX1 := Lib.hid (AX.out.reads b1); have B1 := Lib.hid (BZ.out.trans (b1.mono BZ.out.size)); have HP1 := Lib.hid hp1; have q1 := SS.out u1 B1.out; clear b1 hp1))
            | (go_at_call 54; ((with_reducible refine (CCB.out u1).mono ?_); rintro e2 u2 ⟨rfl, b2⟩; have AX2 := AX1.out.reads b2; have B2 := Lib.hid (B1.out.trans (b2.mono B1.out.size)); have q3 := SS.out u2 B2.out; have q6 := SS.out (((u2.setCell ⟨W4.heap.size, 0, none⟩ (.slice a1 FB.length C1)).setCell ⟨W4.heap.size, 1, none⟩ (.string l.high)).setCell ⟨W4.heap.size, 2, none⟩ (.int .i64 l.next)) (below_put3 B2.out (Nat.le_refl _)); have y0 := AX2.cell 0; have y1 := AX2.cell 1; have y2 := AX2.cell 2; have y3 := AX2.fz 0; have y4 := AX2.fz 1; have y5 := AX2.fz 2; simp only [List.getElem?_toArray, List.getElem?_cons_zero, List.getElem?_cons_succ] at y0 y1 y2; have HF := Lib.hid (And.intro (AX2.put3 (u := .slice a1 FB.length C1) (v := (.string l.high)) (t := (.int .i64 l.next))) (And.intro (PrAt.put3 AX2 (HP1.out.below b2) (.slice a1 FB.length C1) (.string l.high) (.int .i64 l.next)) (And.intro (below_put3 (u := .slice a1 FB.length C1) (v := (.string l.high)) (t := (.int .i64 l.next)) B2.out (Nat.le_refl _)) (Nat.le_refl W4.heap.size)))); clear b2 AX2))
            | (go_at_call 54; ((with_reducible refine (CCB.out v1).mono ?_); rintro e2 v2 ⟨rfl, b2⟩; have B2 := Lib.hid (B1.out.trans (b2.mono B1.out.size)); have q3 := SS.out v2 B2.out; have q4 := SS.out (v2.alloc (.cells #[.slice none 0 0, .string ⟨#[]⟩, .int .i64 0] 24)) (B2.out.alloc B2.out.size _); have q5 := SS.out (v2.alloc (.cells #[.slice a1 FB.length C1, (.string l.high), (.int .i64 l.next)] 24)) (B2.out.alloc B2.out.size _); have HF := Lib.hid (And.intro (At.new v2 #[.slice a1 FB.length C1, (.string l.high), (.int .i64 l.next)] 24) (And.intro ((HP1.out.below b2).below ((Below.refl _ v2).alloc (Nat.le_refl _) (.cells #[.slice a1 FB.length C1, (.string l.high), (.int .i64 l.next)] 24))) (And.intro (B2.out.alloc B2.out.size (.cells #[.slice a1 FB.length C1, (.string l.high), (.int .i64 l.next)] 24)) B2.out.size))); clear b2))
            | (go_at_call 54; ((with_reducible refine (CCB.out (v1.alloc (.cells #[.slice none 0 0, .string ⟨#[]⟩, .int .i64 0] 24))).mono ?_); rintro e2 t2 ⟨rfl, b2⟩; have AX2 := (At.new v1 #[.slice none 0 0, .string ⟨#[]⟩, .int .i64 0] 24).reads b2; have B2 := Lib.hid ((B1.out.alloc B1.out.size (.cells #[.slice none 0 0, .string ⟨#[]⟩, .int .i64 0] 24)).trans (b2.mono (B1.out.alloc B1.out.size (.cells #[.slice none 0 0, .string ⟨#[]⟩, .int .i64 0] 24)).size)); have q3 := SS.out t2 B2.out; have q6 := SS.out (((t2.setCell ⟨v1.heap.size, 0, none⟩ (.slice a1 FB.length C1)).setCell ⟨v1.heap.size, 1, none⟩ (.string l.high)).setCell ⟨v1.heap.size, 2, none⟩ (.int .i64 l.next)) (below_put3 B2.out B1.out.size); have y0 := AX2.cell 0; have y1 := AX2.cell 1; have y2 := AX2.cell 2; have y3 := AX2.fz 0; have y4 := AX2.fz 1; have y5 := AX2.fz 2; simp only [List.getElem?_toArray, List.getElem?_cons_zero, List.getElem?_cons_succ] at y0 y1 y2; have HF := Lib.hid (And.intro (AX2.put3 (u := .slice a1 FB.length C1) (v := (.string l.high)) (t := (.int .i64 l.next))) (And.intro (PrAt.put3 AX2 ((HP1.out.below ((Below.refl _ v1).alloc (Nat.le_refl _) (.cells #[.slice none 0 0, .string ⟨#[]⟩, .int .i64 0] 24))).below b2) (.slice a1 FB.length C1) (.string l.high) (.int .i64 l.next)) (And.intro (below_put3 (u := .slice a1 FB.length C1) (v := (.string l.high)) (t := (.int .i64 l.next)) B2.out B1.out.size) B1.out.size))); clear b2 AX2)))
          all_goals (try go_wp2_with fail)
          all_goals (go_meet; exact ⟨_, _, _, rfl, HF.out.1, HF.out.2.1, HF.out.2.2.1, HF.out.2.2.2⟩)
        case rest =>
          obtain ⟨B9, aB, CB, rfl, h9, hp9, b9, hB9⟩ := hcut
          have hl4 := HC4.out.lt
          have hne5 : B4 ≠ B9 := by omega
          clear hB9 hl4
          have H9 := Lib.hid h9; have HP9 := Lib.hid hp9; have H8' := Lib.hid (H8.out.reads b9); have HP8' := Lib.hid (HP8.out.below b9)
          have HB5 := Lib.hid (HB4.out.trans (b9.mono HB4.out.size)); have HC5 := Lib.hid (HC4.out.reads b9); have HD5 := Lib.hid (HD4.out.reads b9)
          clear h9 hp9 b9 HA4 HB4 HC4 HD4 SS CHB CCB H8 HP8
          have h8 := H8'.out
          rw [HX.out] at h8
          have g0 : wc.cell? ⟨B8, 0, none⟩ = some (.slice aA FA.length CA) := h8.cell 0
          have g1 : wc.cell? ⟨B8, 1, none⟩ = some (.string pk) := h8.cell 1
          have g2 : wc.cell? ⟨B8, 2, none⟩ = some (.int .i64 (pg + 1)) := h8.cell 2
          have i0 : wc.cell? ⟨B9, 0, none⟩ = some (.slice aB FB.length CB) := H9.out.cell 0
          have i1 : wc.cell? ⟨B9, 1, none⟩ = some (.string l.high) := H9.out.cell 1
          have i2 : wc.cell? ⟨B9, 2, none⟩ = some (.int .i64 l.next) := H9.out.cell 2
          have k0 : wc.cell? ⟨B4, 0, none⟩ = some (.slice none 0 0) := HC5.out.cell 0
          have k1 : wc.cell? ⟨B4, 1, none⟩ = some (.string ⟨#[]⟩) := HC5.out.cell 1
          have k2 : wc.cell? ⟨B4, 2, none⟩ = some (.int .i64 0) := HC5.out.cell 2
          have kz0 : wc.frozen? ⟨B4, 0, none⟩ = false := HC5.out.fz 0
          have kz1 : wc.frozen? ⟨B4, 1, none⟩ = false := HC5.out.fz 1
          have kz2 : wc.frozen? ⟨B4, 2, none⟩ = false := HC5.out.fz 2
          have m0 : wc.cell? ⟨B5, 0, none⟩ = some (.slice none 0 0) := HD5.out.cell 0
          have m1 : wc.cell? ⟨B5, 1, none⟩ = some (.string ⟨#[]⟩) := HD5.out.cell 1
          have m2 : wc.cell? ⟨B5, 2, none⟩ = some (.int .i64 0) := HD5.out.cell 2
          have mz0 : wc.frozen? ⟨B5, 0, none⟩ = false := HD5.out.fz 0
          have mz1 : wc.frozen? ⟨B5, 1, none⟩ = false := HD5.out.fz 1
          have mz2 : wc.frozen? ⟨B5, 2, none⟩ = false := HD5.out.fz 2
          have D1 := HC5.out.put3 (u := .slice aA FA.length CA) (v := .string pk) (t := .int .i64 (pg + 1))
          have D2 := ((HD5.out.setOther 0 (.slice aA FA.length CA) (g := B4) hne1).setOther 1 (.string pk) (g := B4) hne1).setOther 2 (.int .i64 (pg + 1)) (g := B4) hne1
          have D3 := ((D1.setOther 0 (.slice aB FB.length CB) (g := B5) hne2).setOther 1 (.string l.high) (g := B5) hne2).setOther 2 (.int .i64 l.next) (g := B5) hne2
          have D4 := D2.put3 (u := .slice aB FB.length CB) (v := .string l.high) (t := .int .i64 l.next)
          have D5 := ((H9.out.setOther 0 (.slice aA FA.length CA) (g := B4) hne5).setOther 1 (.string pk) (g := B4) hne5).setOther 2 (.int .i64 (pg + 1)) (g := B4) hne5
          have x0 := D5.cell 0
          have x1 := D5.cell 1
          have x2 := D5.cell 2
          simp only [List.getElem?_toArray, List.getElem?_cons_zero, List.getElem?_cons_succ] at x0 x1 x2
          have u0 := D2.cell 0
          have u1 := D2.cell 1
          have u2 := D2.cell 2
          have u3 := D2.fz 0
          have u4 := D2.fz 1
          have u5 := D2.fz 2
          simp only [List.getElem?_toArray, List.getElem?_cons_zero, List.getElem?_cons_succ] at u0 u1 u2
          have R1 := Lib.hid (PrAt.put3 D2 (PrAt.put3 HC5.out HP8'.out (.slice aA FA.length CA) (.string pk) (.int .i64 (pg + 1))) (.slice aB FB.length CB) (.string l.high) (.int .i64 l.next))
          have R2 := Lib.hid (PrAt.put3 D2 (PrAt.put3 HC5.out HP9.out (.slice aA FA.length CA) (.string pk) (.int .i64 (pg + 1))) (.slice aB FB.length CB) (.string l.high) (.int .i64 l.next))
          have BF := Lib.hid (below_put3 (u := .slice aB FB.length CB) (v := .string l.high) (t := .int .i64 l.next) (below_put3 (u := .slice aA FA.length CA) (v := .string pk) (t := .int .i64 (pg + 1)) HB5.out HN1.out) HN2.out)
          have HD3 := Lib.hid D3; have HD4 := Lib.hid D4
          clear D1 D2 D3 D4 D5 HC5 HD5 HB5 H8' HP8' H9 HP9 h8
          go_upto_region 6 with fail
          go_region
          clear g0 g1 g2 i0 i1 i2 k0 k1 k2 kz0 kz1 kz2 m0 m1 m2 mz0 mz1 mz2 u0 u1 u2 u3 u4 u5 x0 x1 x2 hne1 hne2 hne3 hne4 hne5
          generalize hWW : (((((((wc.setCell ⟨B4, 0, none⟩ (.slice aA FA.length CA)).setCell ⟨B4, 1, none⟩ (.string pk)).setCell ⟨B4, 2, none⟩ (.int .i64 (pg + 1))).setCell ⟨B5, 0, none⟩ (.slice aB FB.length CB)).setCell ⟨B5, 1, none⟩ (.string l.high)).setCell ⟨B5, 2, none⟩ (.int .i64 l.next))).drew = WW
          have HWW := Lib.hid hWW
          clear hWW
          go_wp2_with fail
          obtain rfl := HWW.out
          all_goals
            have f0 := HD3.out.cell 0
            have f1 := HD3.out.cell 1
            have f2 := HD3.out.cell 2
            have f3 := HD4.out.cell 0
            have f4 := HD4.out.cell 1
            have f5 := HD4.out.cell 2
            simp only [List.getElem?_toArray, List.getElem?_cons_zero, List.getElem?_cons_succ] at f0 f1 f2 f3 f4 f5
            refine bodyPost_ret (v := Value.tuple #[.agg #[.slice aA FA.length CA, .string pk, .int .i64 (pg + 1)], .agg #[.slice aB FB.length CB, .string l.high, .int .i64 l.next], .int .i64 0]) ?_ rfl ⟨aA, CA, aB, CB, rfl, R1.out.below (Below.refl _ _).drew, R2.out.below (Below.refl _ _).drew, BF.out.drew⟩
            simp [results, Try.results29, go_sem, f0, f1, f2, f3, f4, f5]
end Go.Proofs.Ytajbnfobmnibjaa
