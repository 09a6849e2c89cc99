/-
  Package leaf: the contract of Encode, of a leaf that may not be.
-/
import Derived.Test.YtajbnfobmnibjaaK10b
namespace Go.Proofs.Ytajbnfobmnibjaa
open Go.RowKit

set_option maxRecDepth 100000 in
set_option maxHeartbeats 4000000 in
theorem encode10_no (a : Option Addr) (C : Nat) (l : LfP) (w : World) (hP : PairsAt w a l.pairs) (hS : SmallP l.pairs) (hh : l.high.size ≤ 1000000) (hw : wgt l.pairs ≤ 1000000) (hR : rightL l = false) :
    Calls Try.prog 18 #[lfV a C l] w fun e w' => e = .returned (.string noB) ∧ Below w.heap.size w w' := by
  have hn : l.pairs.length ≤ 1000000 := by have := wgt_len l.pairs; omega
  have HB := Lib.hid (box10 w a C l)
  have HAt := Lib.hid (At.new w #[.slice a l.pairs.length C, .string l.high, .int .i64 l.next] 24)
  have C1 := Lib.hid (fun (W : World) (b : Below w.heap.size w W) => right10 a C l W (hP.below b) hS hh hw)
  rw [hR] at C1
  clear hP hS hh hw hR hn
  unfold lfV at *
  go_enter Try.func18, Try.ntmps18
  go_upto_region 1 with fail
  generalize w.alloc (.cells #[.slice a l.pairs.length C, .string l.high, .int .i64 l.next] 24) = W1 at *
  have d0 : W1.cell? ⟨w.heap.size, 0, none⟩ = some (.slice a l.pairs.length C) := HAt.out.cell 0
  have d1 : W1.cell? ⟨w.heap.size, 1, none⟩ = some (.string l.high) := HAt.out.cell 1
  have d2 : W1.cell? ⟨w.heap.size, 2, none⟩ = some (.int .i64 l.next) := HAt.out.cell 2
  go_wp2_with fail
  refine (C1.out _ HB.out).mono ?_; rintro r W2 ⟨rfl, b2⟩
  have HB2 := Lib.hid (HB.out.trans (b2.mono HB.out.size))
  clear b2 d0 d1 d2 HAt C1
  go_wp2_with fail
  go_ret
  exact ⟨rfl, HB2.out⟩
end Go.Proofs.Ytajbnfobmnibjaa
