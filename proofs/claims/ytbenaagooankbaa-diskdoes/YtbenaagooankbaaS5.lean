/-
  The contracts of the document's answer for layer 2: Seal, Open.
-/
import Derived.Test.YtbenaagooankbaaS2
import Derived.Test.YtbenaagooankbaaC2
import Derived.Test.YtbenaagooankbaaW6
import Derived.Test.YtbenaagooankbaaW7
namespace Go.Proofs.Ytbenaagooankbaa
open Go.RowKit

theorem rpad252 (s : ByteArray) (w : World) (h : s.size ≤ 252) :
    Calls Try.prog 21 #[.string s, .int .i64 252] w fun e w' => e = .returned (.tuple #[.string (padOf s 252), .int .i64 0]) ∧ Below w.heap.size w w' :=
  rpad_ok s 252 w (by omega) (by omega)

theorem rput4 (c : Nat) (w : World) (hc : c < 4294967296) :
    Calls Try.prog 39 #[.string ⟨#[32, 32, 32, 32]⟩, .int .i64 0, .int .i64 4, .int .u64 (c : Int)] w fun e w' =>
      e = .returned (.tuple #[.string ⟨(Lib.leBytes 4 c).toArray⟩, .int .i64 0]) ∧ Below w.heap.size w w' := by
  have hk := rput_ok ⟨#[32, 32, 32, 32]⟩ 0 4 c w (by decide) (by decide) (by omega) (by rw [show (4 : Int).toNat = 4 from rfl]; omega)
  rw [show (0 : Int).toNat = 0 from rfl, show (4 : Int).toNat = 4 from rfl, spliceB_whole _ _ (by rw [Lib.leBytes_length]; decide)] at hk
  exact hk

set_option maxHeartbeats 400000 in
theorem rseal_big (s : ByteArray) (w : World) (h : 252 < s.size) (hs : s.size ≤ 1000000) :
    Calls Try.prog 25 #[.string s] w fun e w' => e = .returned (.tuple #[.string ⟨#[]⟩, .int .i64 2]) ∧ w = w' := by
  go_enter Try.func25, Try.ntmps25
  go_wp2
  go_ret2
  exact ⟨rfl, rfl⟩

set_option maxHeartbeats 400000 in
theorem rseal_ok (s : ByteArray) (w : World) (h : s.size ≤ 252) :
    Calls Try.prog 25 #[.string s] w fun e w' => e = .returned (.tuple #[.string (pageOf s), .int .i64 0]) ∧ Below w.heap.size w w' := by
  have C1 := Lib.hid fun w => rpad252 s w h
  have hs := padOf_size s 252 h
  have C2 := Lib.hid fun w => rof_any (padOf s 252) w (by omega)
  have C3 := Lib.hid fun w => rput4 (crcOf (padOf s 252).data.toList) w (crcOf_lt _)
  have hc := crcOf_lt (padOf s 252).data.toList
  have hfin : pageOf s = padOf s 252 ++ ⟨(Lib.leBytes 4 (crcOf (padOf s 252).data.toList)).toArray⟩ := by
    apply ba_ext; rw [pageOf_list, ByteArray.data_append]; simp
  have HF := Lib.hid hfin; clear hfin
  have hq : (⟨(Lib.leBytes 4 (crcOf (padOf s 252).data.toList)).toArray⟩ : ByteArray).size ≤ 4 := by
    rw [Lib.size_eq]; show (Lib.leBytes 4 _).length ≤ 4; rw [Lib.leBytes_length]; omega
  generalize (⟨(Lib.leBytes 4 (crcOf (padOf s 252).data.toList)).toArray⟩ : ByteArray) = Q at *
  generalize crcOf (padOf s 252).data.toList = c at *
  generalize padOf s 252 = B at *
  generalize pageOf s = P at *
  have HS : B.size ≤ 252 := by omega
  clear hs
  go_enter Try.func25, Try.ntmps25
  go_wp2_with fail
  refine (C1.out _).mono ?_; rintro e w1 ⟨rfl, b1⟩
  go_wp2_with fail
  refine (C2.out _).mono ?_; rintro e w2 ⟨rfl, rfl⟩
  go_wp2_with fail
  refine (C3.out _).mono ?_; rintro e w3 ⟨rfl, b3⟩
  go_wp2
  go_ret2
  rw [HF.out]
  exact ⟨rfl, b1.trans (b3.mono b1.size)⟩

set_option maxHeartbeats 400000 in
theorem ropen_form (p : ByteArray) (w : World) (h : p.size ≠ 256) (hp : p.size ≤ 1000000) :
    Calls Try.prog 33 #[.string p] w fun e w' => e = .returned (.tuple #[.string ⟨#[]⟩, .int .i64 4]) ∧ w = w' := by
  have h1 : ((p.size : Int) != 256) = true := by rw [bne_iff_ne]; omega
  clear h
  go_enter Try.func33, Try.ntmps33
  go_wp2
  go_ret2
  exact ⟨rfl, rfl⟩

theorem toList_beq (a b : ByteArray) : (a.toList == b.toList) = decide (a = b) := by
  rw [Lib.toList_data, Lib.toList_data, Bool.eq_iff_iff, beq_iff_eq, decide_eq_true_iff]
  exact ⟨fun h => ba_ext h, fun h => by rw [h]⟩

set_option maxHeartbeats 400000 in
theorem ropen_sum (p : ByteArray) (w : World) (h : p.size = 256) (ho : okPage p = false) :
    Calls Try.prog 33 #[.string p] w fun e w' => e = .returned (.tuple #[.string ⟨#[]⟩, .int .i64 5]) ∧ Below w.heap.size w w' := by
  have hx : (p.extract 0 252).size ≤ 252 := by rw [ByteArray.size_extract]; omega
  have C1 := Lib.hid fun w => rseal_ok (p.extract 0 252) w hx
  have h0 : ((p.size : Int) != 256) = false := by rw [bne_eq_false_iff_eq]; omega
  have h2 : (252 : Int) ≤ (p.size : Int) := by omega
  have hne : (pageOf (p.extract 0 252)) ≠ p := fun e => by rw [(page_back p h).2 e] at ho; cases ho
  clear ho h
  generalize hB : p.extract 0 252 = B at *
  generalize pageOf B = Q at *
  have n1 : (Q.toList == p.toList) = false := by rw [toList_beq]; simp [hne]
  clear hne
  go_enter Try.func33, Try.ntmps33
  go_wp2_with fail
  refine (C1.out _).mono ?_; rintro e w1 ⟨rfl, b1⟩
  go_wp2
  go_ret2
  exact ⟨rfl, b1⟩

set_option maxHeartbeats 400000 in
theorem ropen_ok (p : ByteArray) (w : World) (h : p.size = 256) (ho : okPage p = true) :
    Calls Try.prog 33 #[.string p] w fun e w' => e = .returned (.tuple #[.string (p.extract 0 252), .int .i64 0]) ∧ Below w.heap.size w w' := by
  have hx : (p.extract 0 252).size ≤ 252 := by rw [ByteArray.size_extract]; omega
  have c := fun w => rseal_ok (p.extract 0 252) w hx
  have h0 : ((p.size : Int) != 256) = false := by rw [bne_eq_false_iff_eq]; omega
  have h2 : (252 : Int) ≤ (p.size : Int) := by omega
  rw [(page_back p h).1 ho] at c
  have C1 := Lib.hid c
  clear ho h c
  generalize hB : p.extract 0 252 = B at *
  go_enter Try.func33, Try.ntmps33
  go_wp2_with fail
  refine (C1.out _).mono ?_; rintro e w1 ⟨rfl, b1⟩
  go_wp2
  go_ret2
  exact ⟨rfl, b1⟩
end Go.Proofs.Ytbenaagooankbaa
