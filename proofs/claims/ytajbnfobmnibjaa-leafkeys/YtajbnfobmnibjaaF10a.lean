/-
  The law package's fixed calls of leaf, one by one.
-/
import Derived.Test.YtajbnfobmnibjaaD10s
namespace Go.Proofs.Ytajbnfobmnibjaa
open Go.RowKit

def fxL : LfP := ⟨[(⟨#[98]⟩, ⟨#[120]⟩)], ⟨#[]⟩, 0⟩
theorem fxL_small : SmallP fxL.pairs := small_of_wgt (n := 1000) (by unfold fxL; decide) (by decide)
def fxM : LfP := ⟨[(⟨#[97]⟩, ⟨#[]⟩), (⟨#[98]⟩, ⟨#[120]⟩)], ⟨#[]⟩, 0⟩
theorem fxM_small : SmallP fxM.pairs := small_of_wgt (n := 1000) (by unfold fxM; decide) (by decide)
def fxN : LfP := ⟨[(⟨#[97]⟩, ⟨#[]⟩)], ⟨#[]⟩, 0⟩
theorem fxN_small : SmallP fxN.pairs := small_of_wgt (n := 1000) (by unfold fxN; decide) (by decide)
def fxA : LfP := ⟨[(⟨#[97]⟩, ⟨#[]⟩)], ⟨#[98]⟩, 7⟩
theorem fxA_small : SmallP fxA.pairs := small_of_wgt (n := 1000) (by unfold fxA; decide) (by decide)
def fxB : LfP := ⟨[(⟨#[98]⟩, ⟨#[120]⟩)], ⟨#[]⟩, 0⟩
theorem fxB_small : SmallP fxB.pairs := small_of_wgt (n := 1000) (by unfold fxB; decide) (by decide)
def fxR : LfP := ⟨[], ⟨#[]⟩, -1⟩
theorem fxR_small : SmallP fxR.pairs := small_of_wgt (n := 1000) (by unfold fxR; decide) (by decide)
theorem fx_put1 (W : World) : Calls Try.prog 25 #[.agg #[.slice none 0 0, .string ⟨#[]⟩, .int .i64 0], .string ⟨#[98]⟩, .string ⟨#[120]⟩] W (fun e w' => ∃ a C, e = .returned (.tuple #[.agg #[.slice a 1 C, .string ⟨#[]⟩, .int .i64 0], .int .i64 0]) ∧ PrAt w' a C fxL.pairs ∧ Below W.heap.size W w') := by
  have H := put10 none 0 zeroL ⟨#[98]⟩ ⟨#[120]⟩ W (PrAt.zero W) (fun p h => by cases h) (by first | decide | (unfold zeroL; decide)) (by first | decide | (unfold zeroL; decide)) (by decide) (by decide)
  rw [show putL zeroL ⟨#[98]⟩ ⟨#[120]⟩ = fxL by kernel_rfl, show putE zeroL ⟨#[98]⟩ ⟨#[120]⟩ = 0 by kernel_rfl] at H
  exact H
theorem fx_put2 (W : World) (a : Option Addr) (C : Nat) (h : PrAt W a C fxL.pairs) : Calls Try.prog 25 #[.agg #[.slice a 1 C, .string ⟨#[]⟩, .int .i64 0], .string ⟨#[97]⟩, .string ⟨#[]⟩] W (fun e w' => ∃ a C, e = .returned (.tuple #[.agg #[.slice a 2 C, .string ⟨#[]⟩, .int .i64 0], .int .i64 0]) ∧ PrAt w' a C fxM.pairs ∧ Below W.heap.size W w') := by
  have H := put10 a C fxL ⟨#[97]⟩ ⟨#[]⟩ W h fxL_small (by first | decide | (unfold fxL; decide)) (by first | decide | (unfold fxL; decide)) (by decide) (by decide)
  rw [show putL fxL ⟨#[97]⟩ ⟨#[]⟩ = fxM by kernel_rfl, show putE fxL ⟨#[97]⟩ ⟨#[]⟩ = 0 by kernel_rfl] at H
  exact H
theorem fx_put3 (W : World) (a : Option Addr) (C : Nat) (h : PrAt W a C fxA.pairs) : Calls Try.prog 25 #[.agg #[.slice a 1 C, .string ⟨#[98]⟩, .int .i64 7], .string ⟨#[98]⟩, .string ⟨#[120]⟩] W (fun e w' => ∃ a C, e = .returned (.tuple #[.agg #[.slice a 0 C, .string ⟨#[]⟩, .int .i64 0], .int .i64 1]) ∧ PrAt w' a C zeroL.pairs ∧ Below W.heap.size W w') := by
  have H := put10 a C fxA ⟨#[98]⟩ ⟨#[120]⟩ W h fxA_small (by first | decide | (unfold fxA; decide)) (by first | decide | (unfold fxA; decide)) (by decide) (by decide)
  rw [show putL fxA ⟨#[98]⟩ ⟨#[120]⟩ = zeroL by kernel_rfl, show putE fxA ⟨#[98]⟩ ⟨#[120]⟩ = 1 by kernel_rfl] at H
  exact H
theorem fx_get1 (W : World) (a : Option Addr) (C : Nat) (h : PrAt W a C fxM.pairs) : Calls Try.prog 23 #[.agg #[.slice a 2 C, .string ⟨#[]⟩, .int .i64 0], .string ⟨#[98]⟩] W fun e w' => e = .returned (.tuple #[.string ⟨#[120]⟩, .int .i64 0]) ∧ Below W.heap.size W w' := by
  have H := get10 a C fxM ⟨#[98]⟩ W h.at' fxM_small (by first | decide | (unfold fxM; decide)) (by first | decide | (unfold fxM; decide))
  rw [show getT fxM ⟨#[98]⟩ = ⟨#[120]⟩ by kernel_rfl, show getE fxM ⟨#[98]⟩ = 0 by kernel_rfl] at H
  exact H
theorem fx_get2 (W : World) (a : Option Addr) (C : Nat) (h : PrAt W a C fxM.pairs) : Calls Try.prog 23 #[.agg #[.slice a 2 C, .string ⟨#[]⟩, .int .i64 0], .string ⟨#[99]⟩] W fun e w' => e = .returned (.tuple #[.string ⟨#[]⟩, .int .i64 7]) ∧ Below W.heap.size W w' := by
  have H := get10 a C fxM ⟨#[99]⟩ W h.at' fxM_small (by first | decide | (unfold fxM; decide)) (by first | decide | (unfold fxM; decide))
  rw [show getT fxM ⟨#[99]⟩ = ⟨#[]⟩ by kernel_rfl, show getE fxM ⟨#[99]⟩ = 7 by kernel_rfl] at H
  exact H
theorem fx_del (W : World) (a : Option Addr) (C : Nat) (h : PrAt W a C fxM.pairs) : Calls Try.prog 27 #[.agg #[.slice a 2 C, .string ⟨#[]⟩, .int .i64 0], .string ⟨#[98]⟩] W (fun e w' => ∃ a C, e = .returned (.tuple #[.agg #[.slice a 1 C, .string ⟨#[]⟩, .int .i64 0], .int .i64 0]) ∧ PrAt w' a C fxN.pairs ∧ Below W.heap.size W w') := by
  have H := del10 a C fxM ⟨#[98]⟩ W h fxM_small (by first | decide | (unfold fxM; decide)) (by first | decide | (unfold fxM; decide))
  rw [show delL fxM ⟨#[98]⟩ = fxN by kernel_rfl, show delE fxM ⟨#[98]⟩ = 0 by kernel_rfl] at H
  exact H
theorem fx_split1 (W : World) (a : Option Addr) (C : Nat) (h : PrAt W a C fxM.pairs) : Calls Try.prog 29 #[.agg #[.slice a 2 C, .string ⟨#[]⟩, .int .i64 0], .int .i64 6] W fun e w' => ∃ a C b D, e = .returned (.tuple #[.agg #[.slice a 1 C, .string ⟨#[98]⟩, .int .i64 7], .agg #[.slice b 1 D, .string ⟨#[]⟩, .int .i64 0], .int .i64 0]) ∧ PrAt w' a C fxA.pairs ∧ PrAt w' b D fxB.pairs ∧ Below W.heap.size W w' := by
  have H := split10 a C fxM 6 W h fxM_small (by first | decide | (unfold fxM; decide)) (by first | decide | (unfold fxM; decide))
  rw [show splitA fxM 6 = fxA by kernel_rfl, show splitB fxM 6 = fxB by kernel_rfl, show splitE fxM 6 = 0 by kernel_rfl] at H
  exact H
theorem fx_split2 (W : World) (a : Option Addr) (C : Nat) (h : PrAt W a C fxL.pairs) : Calls Try.prog 29 #[.agg #[.slice a 1 C, .string ⟨#[]⟩, .int .i64 0], .int .i64 6] W fun e w' => ∃ a C b D, e = .returned (.tuple #[.agg #[.slice a 0 C, .string ⟨#[]⟩, .int .i64 0], .agg #[.slice b 0 D, .string ⟨#[]⟩, .int .i64 0], .int .i64 1]) ∧ PrAt w' a C zeroL.pairs ∧ PrAt w' b D zeroL.pairs ∧ Below W.heap.size W w' := by
  have H := split10 a C fxL 6 W h fxL_small (by first | decide | (unfold fxL; decide)) (by first | decide | (unfold fxL; decide))
  rw [show splitA fxL 6 = zeroL by kernel_rfl, show splitB fxL 6 = zeroL by kernel_rfl, show splitE fxL 6 = 1 by kernel_rfl] at H
  exact H
theorem fx_join (W : World) (a b : Option Addr) (C D : Nat) (h : PrAt W a C fxA.pairs) (h2 : PrAt W b D fxB.pairs) : Calls Try.prog 31 #[.agg #[.slice a 1 C, .string ⟨#[98]⟩, .int .i64 7], .agg #[.slice b 1 D, .string ⟨#[]⟩, .int .i64 0]] W (fun e w' => ∃ a C, e = .returned (.tuple #[.agg #[.slice a 2 C, .string ⟨#[]⟩, .int .i64 0], .int .i64 0]) ∧ PrAt w' a C fxM.pairs ∧ Below W.heap.size W w') := by
  have H := join10 a b C D fxA fxB W h h2 fxA_small fxB_small (by unfold fxA; decide) (by unfold fxB; decide) (by unfold fxA; decide) (by unfold fxB; decide)
  rw [show joinL fxA fxB = fxM by kernel_rfl, show joinE fxA fxB = 0 by kernel_rfl] at H
  exact H
theorem fx_encL (W : World) (a : Option Addr) (C : Nat) (h : PrAt W a C fxL.pairs) : Calls Try.prog 18 #[.agg #[.slice a 1 C, .string ⟨#[]⟩, .int .i64 0]] W fun e w' => e = .returned (.string ⟨#[76, 1, 0, 0, 0, 1, 98, 1, 120]⟩) ∧ Below W.heap.size W w' := by
  have H := encode10_yes a C fxL W h.at' fxL_small (by first | decide | (unfold fxL; decide)) (by first | decide | (unfold fxL; decide)) (by kernel_rfl)
  rw [show baL10 (encLf fxL) = ⟨#[76, 1, 0, 0, 0, 1, 98, 1, 120]⟩ by kernel_rfl] at H
  exact H
theorem fx_encM (W : World) (a : Option Addr) (C : Nat) (h : PrAt W a C fxM.pairs) : Calls Try.prog 18 #[.agg #[.slice a 2 C, .string ⟨#[]⟩, .int .i64 0]] W fun e w' => e = .returned (.string ⟨#[76, 2, 0, 0, 0, 1, 97, 0, 1, 98, 1, 120]⟩) ∧ Below W.heap.size W w' := by
  have H := encode10_yes a C fxM W h.at' fxM_small (by first | decide | (unfold fxM; decide)) (by first | decide | (unfold fxM; decide)) (by kernel_rfl)
  rw [show baL10 (encLf fxM) = ⟨#[76, 2, 0, 0, 0, 1, 97, 0, 1, 98, 1, 120]⟩ by kernel_rfl] at H
  exact H
theorem fx_dec1 (W : World) : Calls Try.prog 11 #[.string ⟨#[76, 2, 0, 0, 0, 1, 97, 0, 1, 98, 1, 120, 0]⟩] W (fun e w' => ∃ a C, e = .returned (.tuple #[.agg #[.slice a 2 C, .string ⟨#[]⟩, .int .i64 0], .int .i64 0]) ∧ PrAt w' a C fxM.pairs ∧ Below W.heap.size W w') := by
  have H := decode10 ⟨#[76, 2, 0, 0, 0, 1, 97, 0, 1, 98, 1, 120, 0]⟩ W (by decide)
  rw [show decL (⟨#[76, 2, 0, 0, 0, 1, 97, 0, 1, 98, 1, 120, 0]⟩ : ByteArray).data.toList = fxM by kernel_rfl, show decE (⟨#[76, 2, 0, 0, 0, 1, 97, 0, 1, 98, 1, 120, 0]⟩ : ByteArray).data.toList = 0 by kernel_rfl] at H
  exact H
theorem fx_dec2 (W : World) : Calls Try.prog 11 #[.string ⟨#[76, 2, 0, 0, 0, 1, 97, 0, 1, 98, 1, 120, 1]⟩] W (fun e w' => ∃ a C, e = .returned (.tuple #[.agg #[.slice a 0 C, .string ⟨#[]⟩, .int .i64 0], .int .i64 4]) ∧ PrAt w' a C zeroL.pairs ∧ Below W.heap.size W w') := by
  have H := decode10 ⟨#[76, 2, 0, 0, 0, 1, 97, 0, 1, 98, 1, 120, 1]⟩ W (by decide)
  rw [show decL (⟨#[76, 2, 0, 0, 0, 1, 97, 0, 1, 98, 1, 120, 1]⟩ : ByteArray).data.toList = zeroL by kernel_rfl, show decE (⟨#[76, 2, 0, 0, 0, 1, 97, 0, 1, 98, 1, 120, 1]⟩ : ByteArray).data.toList = 4 by kernel_rfl] at H
  exact H
theorem fx_same (W : World) (a b : Option Addr) (C D : Nat) (h : PrAt W a C fxM.pairs) (h2 : PrAt W b D fxM.pairs) : Calls Try.prog 20 #[.agg #[.slice a 2 C, .string ⟨#[]⟩, .int .i64 0], .agg #[.slice b 2 D, .string ⟨#[]⟩, .int .i64 0]] W fun e w' => e = .returned (.bool true) ∧ Below W.heap.size W w' := by
  have H := same10 a b C D fxM fxM W h.at' h2.at' (by unfold fxM; decide) (by unfold fxM; decide)
  rw [show sameL fxM fxM = true by kernel_rfl] at H
  exact H
theorem fx_size (W : World) (a : Option Addr) (C : Nat) (h : PrAt W a C fxM.pairs) : Calls Try.prog 16 #[.agg #[.slice a 2 C, .string ⟨#[]⟩, .int .i64 0]] W fun e w' => e = .returned (.int .i64 12) ∧ Below W.heap.size W w' := by
  have H := size10 a C fxM W h.at' (by unfold fxM; decide) (by unfold fxM; decide)
  rw [show sizeL fxM = 12 by kernel_rfl] at H
  exact H
theorem fx_right (W : World) (a : Option Addr) (C : Nat) (h : PrAt W a C fxM.pairs) : Calls Try.prog 13 #[.agg #[.slice a 2 C, .string ⟨#[]⟩, .int .i64 0]] W fun e w' => e = .returned (.bool true) ∧ Below W.heap.size W w' := by
  have H := right10 a C fxM W h.at' fxM_small (by first | decide | (unfold fxM; decide)) (by first | decide | (unfold fxM; decide))
  rw [show rightL fxM = true by kernel_rfl] at H
  exact H
theorem fx_wrong (W : World) : Calls Try.prog 13 #[.agg #[.slice none 0 0, .string ⟨#[]⟩, .int .i64 (-1)]] W fun e w' => e = .returned (.bool false) ∧ Below W.heap.size W w' := by
  have H := right10 none 0 fxR W (PrAt.zero W).at' fxR_small (by first | decide | (unfold fxR; decide)) (by first | decide | (unfold fxR; decide))
  rw [show rightL fxR = false by kernel_rfl] at H
  exact H
end Go.Proofs.Ytajbnfobmnibjaa
