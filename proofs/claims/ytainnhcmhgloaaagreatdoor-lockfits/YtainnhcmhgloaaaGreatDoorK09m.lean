/-
  Plain facts of modes, each looked at mode by mode.
-/
import Derived.Test.YtainnhcmhgloaaaGreatDoorD09a
namespace Go.Proofs.YtainnhcmhgloaaaGreatDoor
open Go.RowKit

theorem less1 : ∀ a, a < 7 → ∀ b, b < 7 → ∀ c, c < 7 → covN a b = true → fitN c a = true → fitN c b = true := by decide +kernel
theorem fits1 : ∀ a, a < 7 → ∀ b, b < 7 → ∀ c, c < 7 → covN a b = true → fitN a c = true → fitN b c = true := by decide +kernel
theorem covs1 : ∀ a, a < 7 → ∀ b, b < 7 → ∀ c, c < 7 → covN a b = true → covN b c = true → covN a c = true := by decide +kernel
theorem fit_swap : ∀ a, a < 7 → ∀ b, b < 7 → fitN b a = fitN a b := by decide +kernel
theorem fit_none : ∀ a, a < 7 → fitN 0 a = true := by decide +kernel
theorem cov_none : ∀ a, a < 7 → covN a 0 = true := by decide +kernel
theorem cov_self : ∀ a, a < 7 → covN a a = true := by decide +kernel
theorem cov_rx : ∀ a, a < 7 → covN a 6 = decide (a = 6) := by decide +kernel
theorem rx_cov : ∀ a, a < 7 → covN 6 a = true := by decide +kernel
theorem fit_x : ∀ a, a < 7 → a ≠ 0 → fitN a 4 = false := by decide +kernel
theorem fit_rx : ∀ a, a < 7 → a ≠ 0 → fitN a 6 = false := by decide +kernel
theorem jn_swap : ∀ a, a < 7 → ∀ b, b < 7 → jn b a 7 = jn a b 7 := by decide +kernel
theorem jn_self : ∀ a, a < 7 → jn a a 7 = a := by decide +kernel
theorem jn_group : ∀ a, a < 7 → ∀ b, b < 7 → ∀ c, c < 7 → jn (jn a b 7) c 7 = jn a (jn b c 7) 7 := by decide +kernel
theorem jn_left : ∀ a, a < 7 → ∀ b, b < 7 → covN (jn a b 7) a = true := by decide +kernel
theorem jn_right : ∀ a, a < 7 → ∀ b, b < 7 → covN (jn a b 7) b = true := by decide +kernel
theorem jn_least : ∀ a, a < 7 → ∀ b, b < 7 → ∀ c, c < 7 → covN c a = true → covN c b = true → covN c (jn a b 7) = true := by decide +kernel

end Go.Proofs.YtainnhcmhgloaaaGreatDoor
