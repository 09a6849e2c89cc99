/-
  Package leaf: the contract of Get.
-/
import Derived.Test.YtajbnfobmnibjaaD10e
namespace Go.Proofs.Ytajbnfobmnibjaa
open Go.RowKit

/-- what Get answers -/
def getT (l : LfP) (k : ByteArray) : ByteArray := if rightL l then (getP l.pairs k).getD noB else noB
def getE (l : LfP) (k : ByteArray) : Int := if rightL l then (if hasN l.pairs k then 0 else 7) else 1
theorem getT_no {l : LfP} {k : ByteArray} (h : rightL l = false) : getT l k = noB := by unfold getT; rw [h]; rfl
theorem getE_no {l : LfP} {k : ByteArray} (h : rightL l = false) : getE l k = 1 := by unfold getE; rw [h]; rfl
theorem getT_none {l : LfP} {k : ByteArray} (h : rightL l = true) (h' : hasN l.pairs k = false) : getT l k = noB := by unfold getT getP; rw [h, h']; rfl
theorem getE_none {l : LfP} {k : ByteArray} (h : rightL l = true) (h' : hasN l.pairs k = false) : getE l k = 7 := by unfold getE; rw [h, h']; rfl
theorem getT_some {l : LfP} {k v : ByteArray} (h : rightL l = true) (h' : l.pairs[findN l.pairs k]? = some (k, v)) : getT l k = v := by
  unfold getT getP; rw [h, hasN_iff.2 ⟨v, h'⟩, h']; rfl
theorem getE_some {l : LfP} {k v : ByteArray} (h : rightL l = true) (h' : l.pairs[findN l.pairs k]? = some (k, v)) : getE l k = 0 := by
  unfold getE; rw [h, hasN_iff.2 ⟨v, h'⟩]; rfl
set_option maxRecDepth 100000 in
set_option maxHeartbeats 4000000 in
theorem get10 (a : Option Addr) (C : Nat) (l : LfP) (key : ByteArray) (w : World) (hP : PairsAt w a l.pairs) (hS : SmallP l.pairs) (hh : l.high.size ≤ 1000000) (hw : wgt l.pairs ≤ 1000000) :
    Calls Try.prog 23 #[lfV a C l, .string key] w fun e w' => e = .returned (.tuple #[.string (getT l key), .int .i64 (getE l key)]) ∧ Below w.heap.size w w' := by
  have hn : l.pairs.length ≤ 1000000 := by have := wgt_len l.pairs; omega
  have HB := Lib.hid (box10 w a C l)
  have HAt := Lib.hid (At.new w #[.slice a l.pairs.length C, .string l.high, .int .i64 l.next] 24)
  have C1 := Lib.hid (fun (W : World) (b : Below w.heap.size w W) => right10 a C l W (hP.below b) hS hh hw)
  cases hR : rightL l with
  | false =>
    rw [getT_no hR, getE_no hR]
    rw [hR] at C1
    clear hP hS hh hw hR hn
    unfold lfV at *
    go_enter Try.func23, Try.ntmps23
    go_upto_region 1 with fail
    generalize w.alloc (.cells #[.slice a l.pairs.length C, .string l.high, .int .i64 l.next] 24) = W1 at *
    have d0 : W1.cell? ⟨w.heap.size, 0, none⟩ = some (.slice a l.pairs.length C) := HAt.out.cell 0
    have d1 : W1.cell? ⟨w.heap.size, 1, none⟩ = some (.string l.high) := HAt.out.cell 1
    have d2 : W1.cell? ⟨w.heap.size, 2, none⟩ = some (.int .i64 l.next) := HAt.out.cell 2
    go_wp2_with fail
    refine (C1.out _ HB.out).mono ?_; rintro r W2 ⟨rfl, b2⟩
    have HB2 := Lib.hid (HB.out.trans (b2.mono HB.out.size))
    clear b2 d0 d1 d2 HAt C1
    go_wp2_with fail
    go_ret2
    exact ⟨rfl, HB2.out⟩
  | true =>
    have hr : Rise l.pairs := (rises_iff _).1 (rightL_iff.1 hR).2.1
    have C2 := Lib.hid (fun (W : World) (b : Below w.heap.size w W) => find10 a C l.pairs key W (hP.below b) hr hn)
    rw [hR] at C1
    cases hN : hasN l.pairs key with
    | false =>
      rw [getT_none hR hN, getE_none hR hN]
      rw [hN] at C2
      clear hP hS hh hw hR hn hr hN
      generalize findN l.pairs key = f at *
      unfold lfV at *
      go_enter Try.func23, Try.ntmps23
      go_upto_region 1 with fail
      generalize w.alloc (.cells #[.slice a l.pairs.length C, .string l.high, .int .i64 l.next] 24) = W1 at *
      have d0 : W1.cell? ⟨w.heap.size, 0, none⟩ = some (.slice a l.pairs.length C) := HAt.out.cell 0
      have d1 : W1.cell? ⟨w.heap.size, 1, none⟩ = some (.string l.high) := HAt.out.cell 1
      have d2 : W1.cell? ⟨w.heap.size, 2, none⟩ = some (.int .i64 l.next) := HAt.out.cell 2
      go_wp2_with fail
      refine (C1.out _ HB.out).mono ?_; rintro r W2 ⟨rfl, b2⟩
      have HB2 := Lib.hid (HB.out.trans (b2.mono HB.out.size)); have HA2 := Lib.hid (HAt.out.reads b2)
      clear b2 d0 d1 d2 HAt C1
      have d0 : W2.cell? ⟨w.heap.size, 0, none⟩ = some (.slice a l.pairs.length C) := HA2.out.cell 0
      go_wp2_with fail
      refine (C2.out _ HB2.out).mono ?_; rintro r W3 ⟨rfl, b3⟩
      have HB3 := Lib.hid (HB2.out.trans (b3.mono HB2.out.size))
      clear b3 d0 HA2 C2 HB2
      go_wp2_with fail
      go_ret2
      exact ⟨rfl, HB3.out⟩
    | true =>
      obtain ⟨v, hv⟩ := hasN_iff.1 hN
      rw [getT_some hR hv, getE_some hR hv]
      rw [hN] at C2
      have hvs := hS _ (List.mem_of_getElem? hv)
      obtain ⟨g, off, rfl, c0, c1⟩ := hP _ _ hv
      have hfl : findN l.pairs key < l.pairs.length := (List.getElem?_eq_some_iff.1 hv).1
      have hg : g < w.heap.size := World.block_lt_of_cell? _ _ c1
      have CC := Lib.hid (fun W => clone_any v W hvs.2)
      clear hP hS hh hw hR hr hN hv c0 hvs
      generalize findN l.pairs key = f at *
      have f0 : (0 : Int) ≤ (f : Int) := by omega
      have f1 : (f : Int) < (l.pairs.length : Int) := by omega
      have f2 : (l.pairs.length : Int) ≤ 1000000 := by omega
      clear hn hfl
      have HC1 := Lib.hid c1; have HG := Lib.hid hg
      clear c1 hg
      dsimp only at HC1
      unfold lfV at *
      go_enter Try.func23, Try.ntmps23
      go_upto_region 1 with fail
      generalize w.alloc (.cells #[.slice (some ⟨g, off, none⟩) l.pairs.length C, .string l.high, .int .i64 l.next] 24) = W1 at *
      have d0 : W1.cell? ⟨w.heap.size, 0, none⟩ = some (.slice (some ⟨g, off, none⟩) l.pairs.length C) := HAt.out.cell 0
      have d1 : W1.cell? ⟨w.heap.size, 1, none⟩ = some (.string l.high) := HAt.out.cell 1
      have d2 : W1.cell? ⟨w.heap.size, 2, none⟩ = some (.int .i64 l.next) := HAt.out.cell 2
      go_wp2_with fail
      refine (C1.out _ HB.out).mono ?_; rintro r W2 ⟨rfl, b2⟩
      have HB2 := Lib.hid (HB.out.trans (b2.mono HB.out.size)); have HA2 := Lib.hid (HAt.out.reads b2)
      clear b2 d0 d1 d2 HAt C1
      have d0 : W2.cell? ⟨w.heap.size, 0, none⟩ = some (.slice (some ⟨g, off, none⟩) l.pairs.length C) := HA2.out.cell 0
      go_wp2_with fail
      refine (C2.out _ HB2.out).mono ?_; rintro r W3 ⟨rfl, b3⟩
      have HB3 := Lib.hid (HB2.out.trans (b3.mono HB2.out.size)); have HA3 := Lib.hid (HA2.out.reads b3)
      clear b3 d0 HA2 C2 HB2
      have d0 : W3.cell? ⟨w.heap.size, 0, none⟩ = some (.slice (some ⟨g, off, none⟩) l.pairs.length C) := HA3.out.cell 0
      have d1 : W3.cell? ⟨g, off + f * 2 + 1, none⟩ = some (.string v) := (HB3.out.cell HG.out).trans HC1.out
      go_wp2_with fail
      refine (CC.out _).mono ?_; rintro r W4 ⟨rfl, b4⟩
      have HB4 := Lib.hid (HB3.out.trans (b4.mono HB3.out.size))
      clear b4 d0 d1 HA3 CC HB3
      go_wp2_with fail
      go_ret2
      exact ⟨rfl, HB4.out⟩
end Go.Proofs.Ytajbnfobmnibjaa
