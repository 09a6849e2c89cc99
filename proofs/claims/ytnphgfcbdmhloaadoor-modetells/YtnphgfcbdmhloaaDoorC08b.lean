/-
  The document's answer for layer 8 (budwoodref08): the contracts of Fits, Covers, both, Join, Above, Name, Parse: the same plain answers as the program's.
-/
import Derived.Test.YtnphgfcbdmhloaaDoorC08
namespace Go.Proofs.YtnphgfcbdmhloaaDoor
open Go.RowKit

theorem rfits_any (a b : Int) (w : World) :
    Calls Tryd.prog 16 #[.int .i64 a, .int .i64 b] w fun e w' => e = .returned (.bool (fitB a b)) ∧ Below w.heap.size w w' := by
  have C1 := there_any a
  have C2 := there_any b
  by_cases ha : md a = true
  · by_cases hb : md b = true
    · rw [ha] at C1
      rw [hb] at C2
      have H1 := Lib.hid C1
      have H2 := Lib.hid C2
      obtain ⟨x, hx, rfl⟩ := md_in ha
      obtain ⟨y, hy, rfl⟩ := md_in hb
      rw [fitB_nat x y hx hy]
      have H3 := Lib.hid (fun W => clash_in x y hx hy W)
      clear C1 C2 ha hb hx hy
      cases g : fitN x y
      all_goals
        rw [g] at H3
        go_enter Tryd.func16, Tryd.ntmps16
        go_wp2_with fail
        refine (H1.out _).mono ?_; rintro e w1 ⟨rfl, rfl⟩
        go_wp2_with fail
        refine (H2.out _).mono ?_; rintro e w1 ⟨rfl, rfl⟩
        go_wp2_with fail
        refine (H3.out _).mono ?_; rintro e w1 ⟨rfl, b1⟩
        have B1 := Lib.hid b1
        clear b1
        go_wp2_with fail
        go_ret
        exact ⟨rfl, B1.out⟩
    · have e : fitB a b = false := by unfold fitB; rw [Bool.eq_false_iff.2 hb]; simp
      rw [e]
      rw [ha] at C1
      rw [Bool.eq_false_iff.2 hb] at C2
      have H1 := Lib.hid C1
      have H2 := Lib.hid C2
      clear C1 C2 ha hb e
      go_enter Tryd.func16, Tryd.ntmps16
      go_wp2_with fail
      refine (H1.out _).mono ?_; rintro e w1 ⟨rfl, rfl⟩
      go_wp2_with fail
      refine (H2.out _).mono ?_; rintro e w1 ⟨rfl, rfl⟩
      go_wp2_with fail
      go_ret
      exact ⟨rfl, Below.refl _ _⟩
  · have e : fitB a b = false := by unfold fitB; rw [Bool.eq_false_iff.2 ha]; simp
    rw [e]
    rw [Bool.eq_false_iff.2 ha] at C1
    have H1 := Lib.hid C1
    clear C1 C2 ha e
    go_enter Tryd.func16, Tryd.ntmps16
    go_wp2_with fail
    refine (H1.out _).mono ?_; rintro e w1 ⟨rfl, rfl⟩
    go_wp2_with fail
    go_ret
    exact ⟨rfl, Below.refl _ _⟩
/-- are there, among the modes from k on, only such as a clashes with, if b does? -/
def covK (a b k : Nat) : Bool := (List.range 7).all (fun m => decide (m < k) || (fitN a m == false || fitN b m))
theorem covK_end (a b : Nat) : covK a b 7 = true := by
  unfold covK
  rw [List.all_eq_true]
  intro m hm
  rw [List.mem_range] at hm
  simp [hm]
theorem covK_zero : ∀ a, a < 7 → ∀ b, b < 7 → (b ≠ 6 ∨ a = 6) → covN a b = covK a b 0 := by decide +kernel
theorem covK_step : ∀ k, k < 7 → ∀ a, a < 7 → ∀ b, b < 7 → covK a b k = ((fitN a k == false || fitN b k) && covK a b (k + 1)) := by decide +kernel
set_option maxHeartbeats 4000000 in
theorem rcovers_in (a b : Nat) (ha : a < 7) (hb : b < 7) (w : World) :
    Calls Tryd.prog 18 #[.int .i64 (a : Int), .int .i64 (b : Int)] w fun e w' => e = .returned (.bool (covN a b)) ∧ Below w.heap.size w w' := by
  have C1 := there_any (a : Int)
  have C2 := there_any (b : Int)
  rw [md_nat, decide_eq_true ha] at C1
  rw [md_nat, decide_eq_true hb] at C2
  have H1 := Lib.hid C1
  have H2 := Lib.hid C2
  have HA := Lib.hid ha
  have HBb := Lib.hid hb
  clear C1 C2
  have a6 : ((a : Int) != 6) = decide (a ≠ 6) := by by_cases h : a = 6 <;> simp [h] <;> omega
  have b6 : ((b : Int) == 6) = decide (b = 6) := by by_cases h : b = 6 <;> simp [h] <;> omega
  by_cases h6 : b = 6 ∧ a ≠ 6
  · have e : covN a b = false := by
      obtain ⟨h1, h2⟩ := h6
      subst h1
      exact (cov_rx a ha).trans (decide_eq_false h2)
    rw [e]
    rw [decide_eq_true h6.2] at a6
    rw [decide_eq_true h6.1] at b6
    clear e h6 ha hb
    go_enter Tryd.func18, Tryd.ntmps18
    go_wp2_with fail
    refine (H1.out _).mono ?_; rintro e w1 ⟨rfl, rfl⟩
    go_wp2_with fail
    refine (H2.out _).mono ?_; rintro e w1 ⟨rfl, rfl⟩
    go_wp2_with fail
    go_ret
    exact ⟨rfl, Below.refl _ _⟩
  · have h7 : b ≠ 6 ∨ a = 6 := by omega
    obtain ⟨R, HR⟩ : ∃ R, Hid (covN a b = R) := ⟨_, Lib.hid rfl⟩
    rw [HR.out]
    have HZ := Lib.hid ((covK_zero a ha b hb h7).symm.trans HR.out)
    have hcase : (b = 6 ∧ a = 6) ∨ b ≠ 6 := by omega
    clear h6 h7
    obtain hcase | hcase := hcase
    case' inl =>
      rw [decide_eq_false (by omega)] at a6
      rw [decide_eq_true hcase.1] at b6
    case' inr =>
      rw [decide_eq_false hcase] at b6
    all_goals
      clear hcase ha hb
      go_enter Tryd.func18, Tryd.ntmps18
      go_wp2_with fail
      refine (H1.out _).mono ?_; rintro e w1 ⟨rfl, rfl⟩
      go_wp2_with fail
      refine (H2.out _).mono ?_; rintro e w1 ⟨rfl, rfl⟩
      go_wp2_with fail
      go_loopw [5] (fun i wr => ∃ k : Nat, k ≤ 7 ∧ i = .int .i64 (k : Int) ∧ covK a b k = R ∧ Below w.heap.size w wr) (fun i _ => 7 - (intOf i).toNat)
      case atStart => exact ⟨0, by omega, rfl, HZ.out, Below.refl _ _⟩
      case round =>
        obtain ⟨k, hk, rfl, hR, bel⟩ := hrel
        have HB := Lib.hid bel
        clear bel
        by_cases hc : k < 7
        · have c1 : (k : Int) < 7 := by omega
          have K1 := Lib.hid (fun W => clash_in b k HBb.out hc W)
          have K2 := Lib.hid (fun W => clash_in a k HA.out hc W)
          rw [covK_step k hc a HA.out b HBb.out] at hR
          have HRR := Lib.hid hR
          clear hR
          cases g1 : fitN b k
          · rw [g1] at K1
            cases g2 : fitN a k
            · rw [g2] at K2
              have hR := HRR.out
              rw [g1, g2] at hR
              have HRR := Lib.hid hR
              clear hR g1 g2
              go_wp2_with fail
              refine (K1.out _).mono ?_; rintro e w1 ⟨rfl, b1⟩
              have HB := Lib.hid (HB.out.trans (b1.mono HB.out.size))
              clear b1
              go_wp2_with fail
              refine (K2.out _).mono ?_; rintro e w2 ⟨rfl, b1⟩
              have HB := Lib.hid (HB.out.trans (b1.mono HB.out.size))
              clear b1
              go_wp2_with fail
              exact ⟨⟨k + 1, by omega, by go_num, by simpa using HRR.out, HB.out⟩, by simp [intOf]; omega⟩
            · rw [g2] at K2
              have hR := HRR.out
              rw [g1, g2] at hR
              obtain rfl : false = R := by simpa using hR
              clear hR g1 g2
              go_wp2_with fail
              refine (K1.out _).mono ?_; rintro e w1 ⟨rfl, b1⟩
              have HB := Lib.hid (HB.out.trans (b1.mono HB.out.size))
              clear b1
              go_wp2_with fail
              refine (K2.out _).mono ?_; rintro e w2 ⟨rfl, b1⟩
              have HB := Lib.hid (HB.out.trans (b1.mono HB.out.size))
              clear b1
              go_wp2_with fail
              go_ret
              exact ⟨rfl, HB.out⟩
          · rw [g1] at K1
            have hR := HRR.out
            rw [g1] at hR
            have HRR := Lib.hid hR
            clear hR g1
            go_wp2_with fail
            refine (K1.out _).mono ?_; rintro e w1 ⟨rfl, b1⟩
            have HB := Lib.hid (HB.out.trans (b1.mono HB.out.size))
            clear b1
            go_wp2_with fail
            exact ⟨⟨k + 1, by omega, by go_num, by simpa using HRR.out, HB.out⟩, by simp [intOf]; omega⟩
        · obtain rfl : k = 7 := by omega
          rw [covK_end] at hR
          subst hR
          go_wp2_with fail
          go_ret
          exact ⟨rfl, HB.out⟩
end Go.Proofs.YtnphgfcbdmhloaaDoor
