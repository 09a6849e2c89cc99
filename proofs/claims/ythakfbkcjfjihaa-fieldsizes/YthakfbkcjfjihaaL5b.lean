/-
  FieldSizes: the walk, as the frame wants it.
-/
import Derived.Test.YthakfbkcjfjihaaL5
import Derived.OpenShut
namespace Go.Proofs.Ythakfbkcjfjihaa
open Go.RowKit
theorem walkw_FieldSizes (n : Int) (hn : (Lit.int .u64 n).wf = true) (z : Int) (hz : (Lit.int .i64 z).wf = true) (w : World) :
    Calls Try.prog 7 #[.int .u64 n, .int .i64 z] w fun e w' => e = .returned (.bool true) ∧ Below w.heap.size w w' := by
  have hb := bounds_u64 hn
  obtain ⟨v, rfl⟩ := Int.eq_ofNat_of_zero_le hb.1
  exact walk_FieldSizes v (Lib.hid (by omega)) z w
end Go.Proofs.Ythakfbkcjfjihaa
