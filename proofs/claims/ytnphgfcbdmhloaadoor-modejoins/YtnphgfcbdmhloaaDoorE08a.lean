/-
  Package mode: the package variables as the program's text lays them; the contracts of isMode, Fits, Covers, Above, Name.
-/
import Derived.Test.YtnphgfcbdmhloaaDoorRows
import Derived.Test.YtnphgfcbdmhloaaDoorB1
import Derived.WalkSpells
import Derived.WalkLawsBesides
import Derived.Lib.Strings
import Derived.Lib.Hide
import Derived.IntWalk
import Derived.Deep.Light
import Derived.BigQuiet
import Derived.Deep.QuietTactic
import Derived.StillTailTactics
import Derived.Deep.RegionHeld3
import Derived.Deep.DeepCutAuto
import Derived.Deep.CutBlock
import Derived.Outline
namespace Go.Proofs.YtnphgfcbdmhloaaDoor
open Go.RowKit

/-- the bits of the modes with which a mode clashes -/
def clN : Nat → Nat | 1 => 80 | 2 => 120 | 3 => 84 | 4 => 126 | 5 => 116 | 6 => 126 | _ => 0
/-- the modes' names -/
def nmS : Nat → ByteArray | 0 => ⟨#[45]⟩ | 1 => ⟨#[73, 83]⟩ | 2 => ⟨#[73, 88]⟩ | 3 => ⟨#[83]⟩ | 4 => ⟨#[88]⟩ | 5 => ⟨#[82]⟩ | 6 => ⟨#[82, 88]⟩ | _ => ⟨#[]⟩
/-- the package variables names (0) and clashes (1), as the program's text lays them -/
def Laid8 (w : World) : Prop := ∀ k : Nat, k < 7 → w.cell? ⟨0, k, none⟩ = some (.string (nmS k)) ∧ w.cell? ⟨1, k, none⟩ = some (.int .u8 (clN k : Int))
theorem Laid8.pos {w : World} (h : Laid8 w) : 1 < w.heap.size := World.block_lt_of_cell? w _ (h 0 (by decide)).2
theorem Laid8.step {w w' : World} (h : Laid8 w) (b : Below w.heap.size w w') : Laid8 w' := fun k hk =>
  ⟨(b.cell (by have := h.pos; show (0 : Nat) < _; omega)).trans (h k hk).1, (b.cell (by have := h.pos; exact this)).trans (h k hk).2⟩

def md (m : Int) : Bool := decide (0 ≤ m ∧ m < 7)
def fitN (a b : Nat) : Bool := !(clN a).testBit b
def covN (a b : Nat) : Bool := (List.range 7).all (fun m => fitN a m == false || fitN b m) && (b != 6 || a == 6)
def fitB (a b : Int) : Bool := md a && (md b && fitN a.toNat b.toNat)
def covB (a b : Int) : Bool := md a && (md b && covN a.toNat b.toNat)
def abN : Nat → Nat | 0 => 0 | 1 => 1 | 3 => 1 | _ => 2
theorem md_nat (a : Nat) : md (a : Int) = decide (a < 7) := by unfold md; by_cases h : a < 7 <;> simp [h] <;> omega
theorem md_in {m : Int} (h : md m = true) : ∃ a : Nat, a < 7 ∧ m = (a : Int) := by
  unfold md at h
  simp at h
  exact ⟨m.toNat, by omega, by omega⟩
theorem fitB_nat (a b : Nat) (ha : a < 7) (hb : b < 7) : fitB (a : Int) (b : Int) = fitN a b := by unfold fitB; rw [md_nat, md_nat]; simp [ha, hb]
theorem covB_nat (a b : Nat) (ha : a < 7) (hb : b < 7) : covB (a : Int) (b : Int) = covN a b := by unfold covB; rw [md_nat, md_nat]; simp [ha, hb]
theorem seven (a : Nat) (h : a < 7) : a = 0 ∨ a = 1 ∨ a = 2 ∨ a = 3 ∨ a = 4 ∨ a = 5 ∨ a = 6 := by omega

theorem isMode_any (k : Int) (w : World) : Calls Tryd.prog 22 #[.int .i64 k] w fun e w' => e = .returned (.bool (md k)) ∧ w = w' := by
  unfold md
  by_cases h1 : 0 ≤ k
  · by_cases h2 : k < 7
    · rw [decide_eq_true ⟨h1, h2⟩]
      go_enter Tryd.func22, Tryd.ntmps22
      go_wp2
      go_ret
      exact ⟨by first | rfl | (simp; done) | (simp; omega), rfl⟩
    · rw [decide_eq_false (fun h => h2 h.2)]
      have g : 7 ≤ k := by omega
      go_enter Tryd.func22, Tryd.ntmps22
      go_wp2
      go_ret
      exact ⟨by first | rfl | (simp; done) | (simp; omega), rfl⟩
  · rw [decide_eq_false (fun h => h1 h.1)]
    have g : k < 0 := by omega
    go_enter Tryd.func22, Tryd.ntmps22
    go_wp2
    go_ret
    exact ⟨by first | rfl | (simp; done) | (simp; omega), rfl⟩
set_option maxHeartbeats 4000000 in
theorem fits_in (a b : Nat) (ha : a < 7) (hb : b < 7) (w : World) (hL : Laid8 w) :
    Calls Tryd.prog 15 #[.int .i64 (a : Int), .int .i64 (b : Int)] w fun e w' => e = .returned (.bool (fitN a b)) ∧ w = w' := by
  have C1 := isMode_any (a : Int)
  have C2 := isMode_any (b : Int)
  rw [md_nat, decide_eq_true ha] at C1
  rw [md_nat, decide_eq_true hb] at C2
  have H1 := Lib.hid C1
  have H2 := Lib.hid C2
  have hc := (hL a ha).2
  clear C1 C2 hL
  obtain rfl | rfl | rfl | rfl | rfl | rfl | rfl := seven a ha
  all_goals
    simp only [clN] at hc
    obtain rfl | rfl | rfl | rfl | rfl | rfl | rfl := seven b hb
  all_goals
    clear ha hb
    go_enter Tryd.func15, Tryd.ntmps15
    go_wp2_with fail
    refine (H1.out _).mono ?_; rintro e w1 ⟨rfl, rfl⟩
    go_wp2_with fail
    refine (H2.out _).mono ?_; rintro e w1 ⟨rfl, rfl⟩
    go_wp2_with fail
    go_ret
    exact ⟨by first | rfl | (simp; done) | decide, rfl⟩
theorem fits_any (a b : Int) (w : World) (hL : Laid8 w) :
    Calls Tryd.prog 15 #[.int .i64 a, .int .i64 b] w fun e w' => e = .returned (.bool (fitB a b)) ∧ w = w' := by
  by_cases ha : md a = true
  · by_cases hb : md b = true
    · obtain ⟨x, hx, rfl⟩ := md_in ha
      obtain ⟨y, hy, rfl⟩ := md_in hb
      rw [fitB_nat x y hx hy]
      exact fits_in x y hx hy w hL
    · have C1 := isMode_any a
      have C2 := isMode_any b
      have e : fitB a b = false := by unfold fitB; rw [Bool.eq_false_iff.2 hb]; simp
      rw [e]
      rw [ha] at C1
      rw [Bool.eq_false_iff.2 hb] at C2
      have H1 := Lib.hid C1
      have H2 := Lib.hid C2
      clear C1 C2 ha hb e
      go_enter Tryd.func15, Tryd.ntmps15
      go_wp2_with fail
      refine (H1.out _).mono ?_; rintro e w1 ⟨rfl, rfl⟩
      go_wp2_with fail
      refine (H2.out _).mono ?_; rintro e w1 ⟨rfl, rfl⟩
      go_wp2_with fail
      go_ret
      exact ⟨rfl, rfl⟩
  · have C1 := isMode_any a
    have e : fitB a b = false := by unfold fitB; rw [Bool.eq_false_iff.2 ha]; simp
    rw [e]
    rw [Bool.eq_false_iff.2 ha] at C1
    have H1 := Lib.hid C1
    clear C1 ha e
    go_enter Tryd.func15, Tryd.ntmps15
    go_wp2_with fail
    refine (H1.out _).mono ?_; rintro e w1 ⟨rfl, rfl⟩
    go_wp2_with fail
    go_ret
    exact ⟨rfl, rfl⟩
set_option maxHeartbeats 4000000 in
theorem covers_in (a b : Nat) (ha : a < 7) (hb : b < 7) (w : World) (hL : Laid8 w) :
    Calls Tryd.prog 17 #[.int .i64 (a : Int), .int .i64 (b : Int)] w fun e w' => e = .returned (.bool (covN a b)) ∧ Below w.heap.size w w' := by
  have C1 := isMode_any (a : Int)
  have C2 := isMode_any (b : Int)
  rw [md_nat, decide_eq_true ha] at C1
  rw [md_nat, decide_eq_true hb] at C2
  have H1 := Lib.hid C1
  have H2 := Lib.hid C2
  have hc := (hL a ha).2
  have hd := (hL b hb).2
  clear C1 C2 hL
  obtain rfl | rfl | rfl | rfl | rfl | rfl | rfl := seven a ha
  all_goals
    simp only [clN] at hc
    obtain rfl | rfl | rfl | rfl | rfl | rfl | rfl := seven b hb
  all_goals
    simp only [clN] at hd
    clear ha hb
    go_enter Tryd.func17, Tryd.ntmps17
    go_wp2_with fail
    refine (H1.out _).mono ?_; rintro e w1 ⟨rfl, rfl⟩
    go_wp2_with fail
    refine (H2.out _).mono ?_; rintro e w1 ⟨rfl, rfl⟩
    go_wp2_with fail
    go_region
    go_wp2_with fail
    go_ret
    exact ⟨by first | rfl | (simp; done) | decide, (Below.refl _ _).drew⟩
theorem covers_any (a b : Int) (w : World) (hL : Laid8 w) :
    Calls Tryd.prog 17 #[.int .i64 a, .int .i64 b] w fun e w' => e = .returned (.bool (covB a b)) ∧ Below w.heap.size w w' := by
  by_cases ha : md a = true
  · by_cases hb : md b = true
    · obtain ⟨x, hx, rfl⟩ := md_in ha
      obtain ⟨y, hy, rfl⟩ := md_in hb
      rw [covB_nat x y hx hy]
      exact covers_in x y hx hy w hL
    · have C1 := isMode_any a
      have C2 := isMode_any b
      have e : covB a b = false := by unfold covB; rw [Bool.eq_false_iff.2 hb]; simp
      rw [e]
      rw [ha] at C1
      rw [Bool.eq_false_iff.2 hb] at C2
      have H1 := Lib.hid C1
      have H2 := Lib.hid C2
      clear C1 C2 ha hb e
      go_enter Tryd.func17, Tryd.ntmps17
      go_wp2_with fail
      refine (H1.out _).mono ?_; rintro e w1 ⟨rfl, rfl⟩
      go_wp2_with fail
      refine (H2.out _).mono ?_; rintro e w1 ⟨rfl, rfl⟩
      go_wp2_with fail
      go_ret
      exact ⟨rfl, Below.refl _ _⟩
  · have C1 := isMode_any a
    have e : covB a b = false := by unfold covB; rw [Bool.eq_false_iff.2 ha]; simp
    rw [e]
    rw [Bool.eq_false_iff.2 ha] at C1
    have H1 := Lib.hid C1
    clear C1 ha e
    go_enter Tryd.func17, Tryd.ntmps17
    go_wp2_with fail
    refine (H1.out _).mono ?_; rintro e w1 ⟨rfl, rfl⟩
    go_wp2_with fail
    go_ret
    exact ⟨rfl, Below.refl _ _⟩
def abV (m : Int) : Int := if md m then (abN m.toNat : Int) else 0
def okE (b : Bool) : Int := if b then 0 else 1
theorem above_any (a : Int) (w : World) :
    Calls Tryd.prog 11 #[.int .i64 a] w fun e w' => e = .returned (.tuple #[.int .i64 (abV a), .int .i64 (okE (md a))]) ∧ w = w' := by
  have C1 := isMode_any a
  by_cases ha : md a = true
  · unfold abV okE
    rw [ha] at C1 ⊢
    have H1 := Lib.hid C1
    obtain ⟨x, hx, rfl⟩ := md_in ha
    clear C1 ha
    obtain rfl | rfl | rfl | rfl | rfl | rfl | rfl := seven x hx
    all_goals
      clear hx
      go_enter Tryd.func11, Tryd.ntmps11
      go_wp2_with fail
      refine (H1.out _).mono ?_; rintro e w1 ⟨rfl, rfl⟩
      go_wp2_with fail
      go_ret2
      exact ⟨rfl, rfl⟩
  · unfold abV okE
    rw [Bool.eq_false_iff.2 ha] at C1 ⊢
    have H1 := Lib.hid C1
    clear C1 ha
    go_enter Tryd.func11, Tryd.ntmps11
    go_wp2_with fail
    refine (H1.out _).mono ?_; rintro e w1 ⟨rfl, rfl⟩
    go_wp2_with fail
    go_ret2
    exact ⟨rfl, rfl⟩
def nmV (m : Int) : ByteArray := if md m then nmS m.toNat else ⟨#[]⟩
theorem name_any (a : Int) (w : World) (hL : Laid8 w) :
    Calls Tryd.prog 19 #[.int .i64 a] w fun e w' => e = .returned (.string (nmV a)) ∧ w = w' := by
  have C1 := isMode_any a
  by_cases ha : md a = true
  · unfold nmV
    rw [ha] at C1 ⊢
    have H1 := Lib.hid C1
    obtain ⟨x, hx, rfl⟩ := md_in ha
    have hc := (hL x hx).1
    clear C1 ha hL
    obtain rfl | rfl | rfl | rfl | rfl | rfl | rfl := seven x hx
    all_goals
      clear hx
      go_enter Tryd.func19, Tryd.ntmps19
      go_wp2_with fail
      refine (H1.out _).mono ?_; rintro e w1 ⟨rfl, rfl⟩
      go_wp2_with fail
      go_ret
      exact ⟨rfl, rfl⟩
  · unfold nmV
    rw [Bool.eq_false_iff.2 ha] at C1 ⊢
    have H1 := Lib.hid C1
    clear C1 ha
    go_enter Tryd.func19, Tryd.ntmps19
    go_wp2_with fail
    refine (H1.out _).mono ?_; rintro e w1 ⟨rfl, rfl⟩
    go_wp2_with fail
    go_ret
    exact ⟨rfl, rfl⟩
end Go.Proofs.YtnphgfcbdmhloaaDoor
