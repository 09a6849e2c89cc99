/-
  The contracts of the document's answer for layer 2: Seal, Open.
-/
import Derived.Test.YtdbniiggbjmfoaaS2
import Derived.Test.YtdbniiggbjmfoaaC2
import Derived.Test.YtdbniiggbjmfoaaW6
import Derived.Test.YtdbniiggbjmfoaaW7
namespace Go.Proofs.Ytdbniiggbjmfoaa
open Go.RowKit

theorem rpad252 (s : ByteArray) (w : World) (h : s.size ≤ 252) :
    Calls Try.prog 18 #[.string s, .int .i64 252] w fun e w' => e = .returned (.tuple #[.string (padOf s 252), .int .i64 0]) ∧ Below w.heap.size w w' :=
  rpad_ok s 252 w (by omega) (by omega)

theorem rput4 (c : Nat) (w : World) (hc : c < 4294967296) :
    Calls Try.prog 31 #[.string ⟨#[32, 32, 32, 32]⟩, .int .i64 0, .int .i64 4, .int .u64 (c : Int)] w fun e w' =>
      e = .returned (.tuple #[.string ⟨(Lib.leBytes 4 c).toArray⟩, .int .i64 0]) ∧ Below w.heap.size w w' := by
  have hk := rput_ok ⟨#[32, 32, 32, 32]⟩ 0 4 c w (by decide) (by decide) (by omega) (by rw [show (4 : Int).toNat = 4 from rfl]; omega)
  rw [show (0 : Int).toNat = 0 from rfl, show (4 : Int).toNat = 4 from rfl, spliceB_whole _ _ (by rw [Lib.leBytes_length]; decide)] at hk
  exact hk


end Go.Proofs.Ytdbniiggbjmfoaa
