/-
  The document's answer for layer 8 (budwoodref08): the contracts of there, table, Clash, Fits, Covers, both, Join, Above, Name, Parse.
-/
import Derived.Test.YtnphgfcbdmhloaaDoorK08
namespace Go.Proofs.YtnphgfcbdmhloaaDoor
open Go.RowKit

theorem there_any (k : Int) (w : World) : Calls Tryd.prog 24 #[.int .i64 k] w fun e w' => e = .returned (.bool (md k)) ∧ w = w' := by
  unfold md
  by_cases h1 : 0 ≤ k
  · by_cases h2 : k < 7
    · rw [decide_eq_true ⟨h1, h2⟩]
      go_enter Tryd.func24, Tryd.ntmps24
      go_wp2
      go_ret
      exact ⟨by first | rfl | (simp; done) | (simp; omega), rfl⟩
    · rw [decide_eq_false (fun h => h2 h.2)]
      have g : 7 ≤ k := by omega
      go_enter Tryd.func24, Tryd.ntmps24
      go_wp2
      go_ret
      exact ⟨by first | rfl | (simp; done) | (simp; omega), rfl⟩
  · rw [decide_eq_false (fun h => h1 h.1)]
    have g : k < 0 := by omega
    go_enter Tryd.func24, Tryd.ntmps24
    go_wp2
    go_ret
    exact ⟨by first | rfl | (simp; done) | (simp; omega), rfl⟩
def rows7 : Nat → ByteArray | 0 => ⟨#[46, 46, 46, 46, 46, 46, 46]⟩ | 1 => ⟨#[46, 46, 46, 46, 120, 46, 120]⟩ | 2 => ⟨#[46, 46, 46, 120, 120, 120, 120]⟩ | 3 => ⟨#[46, 46, 120, 46, 120, 46, 120]⟩ | 4 => ⟨#[46, 120, 120, 120, 120, 120, 120]⟩ | 5 => ⟨#[46, 46, 120, 46, 120, 120, 120]⟩ | _ => ⟨#[46, 120, 120, 120, 120, 120, 120]⟩
theorem table_any (w : World) : Calls Tryd.prog 26 #[] w fun e w' =>
    e = .returned (.slice (some ⟨w.heap.size, 0, none⟩) 7 7) ∧ (∀ k, k < 7 → w'.cell? ⟨w.heap.size, k, none⟩ = some (.string (rows7 k))) ∧ Below w.heap.size w w' := by
  go_enter Tryd.func26, Tryd.ntmps26
  go_wp2
  go_ret
  refine ⟨rfl, fun k hk => ?_, (Below.refl _ _).alloc (Nat.le_refl _) _⟩
  obtain rfl | rfl | rfl | rfl | rfl | rfl | rfl := seven k hk
  all_goals (simp [rows7, go_sem]; done)
set_option maxHeartbeats 4000000 in
theorem clash_in (a b : Nat) (ha : a < 7) (hb : b < 7) (w : World) :
    Calls Tryd.prog 25 #[.int .i64 (a : Int), .int .i64 (b : Int)] w fun e w' => e = .returned (.bool (!fitN a b)) ∧ Below w.heap.size w w' := by
  have H1 := Lib.hid table_any
  obtain rfl | rfl | rfl | rfl | rfl | rfl | rfl := seven a ha
  all_goals
    obtain rfl | rfl | rfl | rfl | rfl | rfl | rfl := seven b hb
  all_goals
    clear ha hb
    go_enter Tryd.func25, Tryd.ntmps25
    go_wp2_with fail
    refine (H1.out _).mono ?_; rintro e w1 ⟨rfl, hc, b1⟩
    have c0 := hc 0 (by decide)
    have c1 := hc 1 (by decide)
    have c2 := hc 2 (by decide)
    have c3 := hc 3 (by decide)
    have c4 := hc 4 (by decide)
    have c5 := hc 5 (by decide)
    have c6 := hc 6 (by decide)
    simp only [rows7] at c0 c1 c2 c3 c4 c5 c6
    have B1 := Lib.hid b1
    clear hc b1
    go_wp2_with fail
    go_ret
    exact ⟨by first | rfl | (simp; done) | decide, B1.out⟩
end Go.Proofs.YtnphgfcbdmhloaaDoor
