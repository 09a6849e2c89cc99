/-
  Package mode, as stage 9's program has it: the package variable clashes; the contracts of isMode, Fits, Covers, Join.
-/
import Derived.Test.YtainnhcmhgloaaaGreatDoorRows
import Derived.Test.YtainnhcmhgloaaaGreatDoorB1
import Derived.WalkSpells
import Derived.WalkLawsBesides
import Derived.Lib.Strings
import Derived.Lib.Hide
import Derived.IntWalk
import Derived.Deep.Light
import Derived.BigQuiet
import Derived.Deep.QuietTactic
import Derived.StillTailTactics
import Derived.Deep.RegionHeld3
import Derived.Deep.DeepCutAuto
import Derived.Deep.CutBlock
import Derived.Outline
namespace Go.Proofs.YtainnhcmhgloaaaGreatDoor
open Go.RowKit

/-- the bits of the modes with which a mode clashes -/
def clN : Nat → Nat | 1 => 80 | 2 => 120 | 3 => 84 | 4 => 126 | 5 => 116 | 6 => 126 | _ => 0
/-- the package variable clashes (0), as the program's text lays it -/
def Laid9 (w : World) : Prop := ∀ k : Nat, k < 7 → w.cell? ⟨0, k, none⟩ = some (.int .u8 (clN k : Int))
theorem Laid9.pos {w : World} (h : Laid9 w) : 0 < w.heap.size := World.block_lt_of_cell? w _ (h 0 (by decide))
theorem Laid9.step {w w' : World} (h : Laid9 w) (b : Below w.heap.size w w') : Laid9 w' := fun k hk => (b.cell (by have := h.pos; exact this)).trans (h k hk)
theorem Laid9.drewN {w : World} (h : Laid9 w) (q : Nat) : Laid9 (w.drewN q) := h

def md (m : Int) : Bool := decide (0 ≤ m ∧ m < 7)
def fitN (a b : Nat) : Bool := !(clN a).testBit b
def covN (a b : Nat) : Bool := (List.range 7).all (fun m => fitN a m == false || fitN b m) && (b != 6 || a == 6)
def fitB (a b : Int) : Bool := md a && (md b && fitN a.toNat b.toNat)
def covB (a b : Int) : Bool := md a && (md b && covN a.toNat b.toNat)
def abN : Nat → Nat | 0 => 0 | 1 => 1 | 3 => 1 | _ => 2
theorem md_nat (a : Nat) : md (a : Int) = decide (a < 7) := by unfold md; by_cases h : a < 7 <;> simp [h] <;> omega
theorem md_in {m : Int} (h : md m = true) : ∃ a : Nat, a < 7 ∧ m = (a : Int) := by
  unfold md at h
  simp at h
  exact ⟨m.toNat, by omega, by omega⟩
theorem fitB_nat (a b : Nat) (ha : a < 7) (hb : b < 7) : fitB (a : Int) (b : Int) = fitN a b := by unfold fitB; rw [md_nat, md_nat]; simp [ha, hb]
theorem covB_nat (a b : Nat) (ha : a < 7) (hb : b < 7) : covB (a : Int) (b : Int) = covN a b := by unfold covB; rw [md_nat, md_nat]; simp [ha, hb]
theorem seven (a : Nat) (h : a < 7) : a = 0 ∨ a = 1 ∨ a = 2 ∨ a = 3 ∨ a = 4 ∨ a = 5 ∨ a = 6 := by omega

theorem isMode_any (k : Int) (w : World) : Calls Tryz.prog 102 #[.int .i64 k] w fun e w' => e = .returned (.bool (md k)) ∧ w = w' := by
  unfold md
  by_cases h1 : 0 ≤ k
  · by_cases h2 : k < 7
    · rw [decide_eq_true ⟨h1, h2⟩]
      go_enter Tryz.func102, Tryz.ntmps102
      go_wp2
      go_ret
      exact ⟨by first | rfl | (simp; done) | (simp; omega), rfl⟩
    · rw [decide_eq_false (fun h => h2 h.2)]
      have g : 7 ≤ k := by omega
      go_enter Tryz.func102, Tryz.ntmps102
      go_wp2
      go_ret
      exact ⟨by first | rfl | (simp; done) | (simp; omega), rfl⟩
  · rw [decide_eq_false (fun h => h1 h.1)]
    have g : k < 0 := by omega
    go_enter Tryz.func102, Tryz.ntmps102
    go_wp2
    go_ret
    exact ⟨by first | rfl | (simp; done) | (simp; omega), rfl⟩
set_option maxHeartbeats 4000000 in
theorem fits_in (a b : Nat) (ha : a < 7) (hb : b < 7) (w : World) (hL : Laid9 w) :
    Calls Tryz.prog 90 #[.int .i64 (a : Int), .int .i64 (b : Int)] w fun e w' => e = .returned (.bool (fitN a b)) ∧ w = w' := by
  have C1 := isMode_any (a : Int)
  have C2 := isMode_any (b : Int)
  rw [md_nat, decide_eq_true ha] at C1
  rw [md_nat, decide_eq_true hb] at C2
  have H1 := Lib.hid C1
  have H2 := Lib.hid C2
  have hc := hL a ha
  clear C1 C2 hL
  obtain rfl | rfl | rfl | rfl | rfl | rfl | rfl := seven a ha
  all_goals
    simp only [clN] at hc
    obtain rfl | rfl | rfl | rfl | rfl | rfl | rfl := seven b hb
  all_goals
    clear ha hb
    go_enter Tryz.func90, Tryz.ntmps90
    go_wp2_with fail
    refine (H1.out _).mono ?_; rintro e w1 ⟨rfl, rfl⟩
    go_wp2_with fail
    refine (H2.out _).mono ?_; rintro e w1 ⟨rfl, rfl⟩
    go_wp2_with fail
    go_ret
    exact ⟨by first | rfl | (simp; done) | decide, rfl⟩
theorem fits_any (a b : Int) (w : World) (hL : Laid9 w) :
    Calls Tryz.prog 90 #[.int .i64 a, .int .i64 b] w fun e w' => e = .returned (.bool (fitB a b)) ∧ w = w' := by
  by_cases ha : md a = true
  · by_cases hb : md b = true
    · obtain ⟨x, hx, rfl⟩ := md_in ha
      obtain ⟨y, hy, rfl⟩ := md_in hb
      rw [fitB_nat x y hx hy]
      exact fits_in x y hx hy w hL
    · have C1 := isMode_any a
      have C2 := isMode_any b
      have e : fitB a b = false := by unfold fitB; rw [Bool.eq_false_iff.2 hb]; simp
      rw [e]
      rw [ha] at C1
      rw [Bool.eq_false_iff.2 hb] at C2
      have H1 := Lib.hid C1
      have H2 := Lib.hid C2
      clear C1 C2 ha hb e
      go_enter Tryz.func90, Tryz.ntmps90
      go_wp2_with fail
      refine (H1.out _).mono ?_; rintro e w1 ⟨rfl, rfl⟩
      go_wp2_with fail
      refine (H2.out _).mono ?_; rintro e w1 ⟨rfl, rfl⟩
      go_wp2_with fail
      go_ret
      exact ⟨rfl, rfl⟩
  · have C1 := isMode_any a
    have e : fitB a b = false := by unfold fitB; rw [Bool.eq_false_iff.2 ha]; simp
    rw [e]
    rw [Bool.eq_false_iff.2 ha] at C1
    have H1 := Lib.hid C1
    clear C1 ha e
    go_enter Tryz.func90, Tryz.ntmps90
    go_wp2_with fail
    refine (H1.out _).mono ?_; rintro e w1 ⟨rfl, rfl⟩
    go_wp2_with fail
    go_ret
    exact ⟨rfl, rfl⟩
set_option maxHeartbeats 4000000 in
theorem covers_in (a b : Nat) (ha : a < 7) (hb : b < 7) (w : World) (hL : Laid9 w) :
    Calls Tryz.prog 103 #[.int .i64 (a : Int), .int .i64 (b : Int)] w fun e w' => e = .returned (.bool (covN a b)) ∧ Below w.heap.size w w' := by
  have C1 := isMode_any (a : Int)
  have C2 := isMode_any (b : Int)
  rw [md_nat, decide_eq_true ha] at C1
  rw [md_nat, decide_eq_true hb] at C2
  have H1 := Lib.hid C1
  have H2 := Lib.hid C2
  have hc := hL a ha
  have hd := hL b hb
  clear C1 C2 hL
  obtain rfl | rfl | rfl | rfl | rfl | rfl | rfl := seven a ha
  all_goals
    simp only [clN] at hc
    obtain rfl | rfl | rfl | rfl | rfl | rfl | rfl := seven b hb
  all_goals
    simp only [clN] at hd
    clear ha hb
    go_enter Tryz.func103, Tryz.ntmps103
    go_wp2_with fail
    refine (H1.out _).mono ?_; rintro e w1 ⟨rfl, rfl⟩
    go_wp2_with fail
    refine (H2.out _).mono ?_; rintro e w1 ⟨rfl, rfl⟩
    go_wp2_with fail
    go_region
    go_wp2_with fail
    go_ret
    exact ⟨by first | rfl | (simp; done) | decide, (Below.refl _ _).drew⟩
theorem covers_any (a b : Int) (w : World) (hL : Laid9 w) :
    Calls Tryz.prog 103 #[.int .i64 a, .int .i64 b] w fun e w' => e = .returned (.bool (covB a b)) ∧ Below w.heap.size w w' := by
  by_cases ha : md a = true
  · by_cases hb : md b = true
    · obtain ⟨x, hx, rfl⟩ := md_in ha
      obtain ⟨y, hy, rfl⟩ := md_in hb
      rw [covB_nat x y hx hy]
      exact covers_in x y hx hy w hL
    · have C1 := isMode_any a
      have C2 := isMode_any b
      have e : covB a b = false := by unfold covB; rw [Bool.eq_false_iff.2 hb]; simp
      rw [e]
      rw [ha] at C1
      rw [Bool.eq_false_iff.2 hb] at C2
      have H1 := Lib.hid C1
      have H2 := Lib.hid C2
      clear C1 C2 ha hb e
      go_enter Tryz.func103, Tryz.ntmps103
      go_wp2_with fail
      refine (H1.out _).mono ?_; rintro e w1 ⟨rfl, rfl⟩
      go_wp2_with fail
      refine (H2.out _).mono ?_; rintro e w1 ⟨rfl, rfl⟩
      go_wp2_with fail
      go_ret
      exact ⟨rfl, Below.refl _ _⟩
  · have C1 := isMode_any a
    have e : covB a b = false := by unfold covB; rw [Bool.eq_false_iff.2 ha]; simp
    rw [e]
    rw [Bool.eq_false_iff.2 ha] at C1
    have H1 := Lib.hid C1
    clear C1 ha e
    go_enter Tryz.func103, Tryz.ntmps103
    go_wp2_with fail
    refine (H1.out _).mono ?_; rintro e w1 ⟨rfl, rfl⟩
    go_wp2_with fail
    go_ret
    exact ⟨rfl, Below.refl _ _⟩
def okE (b : Bool) : Int := if b then 0 else 1
/-- what Join has found behind k of the modes -/
def jn (a b : Nat) : Nat → Nat
  | 0 => 6
  | k + 1 => if covN k a && (covN k b && covN (jn a b k) k) then k else jn a b k
theorem jn_lt (a b k : Nat) (h : k ≤ 7) : jn a b k < 7 := by
  induction k with
  | zero => exact (by decide : (6 : Nat) < 7)
  | succ k ih =>
    unfold jn
    split
    · omega
    · exact ih (by omega)
def joV (a b : Int) : Int := if md a && md b then (jn a.toNat b.toNat 7 : Int) else 0
theorem join_in (a b : Nat) (ha : a < 7) (hb : b < 7) (w : World) (hL : Laid9 w) :
    Calls Tryz.prog 78 #[.int .i64 (a : Int), .int .i64 (b : Int)] w fun e w' => e = .returned (.tuple #[.int .i64 (jn a b 7 : Int), .int .i64 0]) ∧ Below w.heap.size w w' := by
  have C1 := isMode_any (a : Int)
  have C2 := isMode_any (b : Int)
  rw [md_nat, decide_eq_true ha] at C1
  rw [md_nat, decide_eq_true hb] at C2
  have H1 := Lib.hid C1
  have H2 := Lib.hid C2
  have HL := Lib.hid hL
  clear C1 C2 hL
  go_enter Tryz.func78, Tryz.ntmps78
  go_wp2_with fail
  refine (H1.out _).mono ?_; rintro e w1 ⟨rfl, rfl⟩
  go_wp2_with fail
  refine (H2.out _).mono ?_; rintro e w1 ⟨rfl, rfl⟩
  go_wp2_with fail
  go_loopw [6, 16] (fun l i wr => ∃ k : Nat, k ≤ 7 ∧ i = .int .i64 (k : Int) ∧ l = .int .i64 (jn a b k : Int) ∧ Below w.heap.size w wr) (fun _ i _ => 7 - (intOf i).toNat)
  case atStart => exact ⟨0, by omega, rfl, rfl, Below.refl _ _⟩
  case round =>
    obtain ⟨k, hk, rfl, rfl, bel⟩ := hrel
    have HB := Lib.hid bel
    clear bel
    by_cases hc : k < 7
    · have c1 : (k : Int) < 7 := by omega
      have L1 := HL.out.step HB.out
      have K1 := Lib.hid (covers_in k a hc ha wr L1)
      have hj := jn_lt a b k hk
      have hn : jn a b (k + 1) = if covN k a && (covN k b && covN (jn a b k) k) then k else jn a b k := rfl
      have K2 := Lib.hid (fun wx hx => covers_in k b hc hb wx hx)
      have K3 := Lib.hid (fun wx hx => covers_in (jn a b k) k hj hc wx hx)
      have HN := Lib.hid hn
      have HL1 := Lib.hid L1
      generalize jn a b k = l at *
      clear hn L1 hj
      go_wp2_with fail
      refine K1.out.mono ?_; rintro e w1 ⟨rfl, b1⟩
      have L2 := HL1.out.step b1
      have B2 := HB.out.trans (b1.mono HB.out.size)
      cases g1 : covN k a
      · go_wp2_with fail
        exact ⟨⟨k + 1, by omega, by go_num, by rw [HN.out, g1]; rfl, B2⟩, by simp [intOf]; omega⟩
      · have HL2 := Lib.hid L2; have HB2 := Lib.hid B2
        clear L2 B2
        go_wp2_with fail
        refine (K2.out _ HL2.out).mono ?_; rintro e w2 ⟨rfl, b2⟩
        have L3 := HL2.out.step b2
        have B3 := HB2.out.trans (b2.mono HB2.out.size)
        cases g2 : covN k b
        · go_wp2_with fail
          exact ⟨⟨k + 1, by omega, by go_num, by rw [HN.out, g1, g2]; rfl, B3⟩, by simp [intOf]; omega⟩
        · have HL3 := Lib.hid L3; have HB3 := Lib.hid B3
          clear L3 B3
          go_wp2_with fail
          refine (K3.out _ HL3.out).mono ?_; rintro e w3 ⟨rfl, b3⟩
          have B4 := HB3.out.trans (b3.mono HB3.out.size)
          cases g3 : covN l k
          · go_wp2_with fail
            exact ⟨⟨k + 1, by omega, by go_num, by rw [HN.out, g1, g2, g3]; rfl, B4⟩, by simp [intOf]; omega⟩
          · go_wp2_with fail
            exact ⟨⟨k + 1, by omega, by go_num, by rw [HN.out, g1, g2, g3]; rfl, B4⟩, by simp [intOf]; omega⟩
    · obtain rfl : k = 7 := by omega
      go_wp2_with fail
      go_ret2
      exact ⟨rfl, HB.out⟩
theorem join_any (a b : Int) (w : World) (hL : Laid9 w) :
    Calls Tryz.prog 78 #[.int .i64 a, .int .i64 b] w fun e w' => e = .returned (.tuple #[.int .i64 (joV a b), .int .i64 (okE (md a && md b))]) ∧ Below w.heap.size w w' := by
  by_cases ha : md a = true
  · by_cases hb : md b = true
    · obtain ⟨x, hx, rfl⟩ := md_in ha
      obtain ⟨y, hy, rfl⟩ := md_in hb
      unfold joV
      rw [ha, hb]
      exact join_in x y hx hy w hL
    · have C1 := isMode_any a
      have C2 := isMode_any b
      unfold joV
      rw [ha, Bool.eq_false_iff.2 hb]
      rw [ha] at C1
      rw [Bool.eq_false_iff.2 hb] at C2
      have H1 := Lib.hid C1
      have H2 := Lib.hid C2
      clear C1 C2 ha hb
      go_enter Tryz.func78, Tryz.ntmps78
      go_wp2_with fail
      refine (H1.out _).mono ?_; rintro e w1 ⟨rfl, rfl⟩
      go_wp2_with fail
      refine (H2.out _).mono ?_; rintro e w1 ⟨rfl, rfl⟩
      go_wp2_with fail
      go_ret2
      exact ⟨rfl, Below.refl _ _⟩
  · have C1 := isMode_any a
    unfold joV
    rw [Bool.eq_false_iff.2 ha]
    rw [Bool.eq_false_iff.2 ha] at C1
    have H1 := Lib.hid C1
    clear C1 ha
    go_enter Tryz.func78, Tryz.ntmps78
    go_wp2_with fail
    refine (H1.out _).mono ?_; rintro e w1 ⟨rfl, rfl⟩
    go_wp2_with fail
    go_ret2
    exact ⟨rfl, Below.refl _ _⟩

end Go.Proofs.YtainnhcmhgloaaaGreatDoor
