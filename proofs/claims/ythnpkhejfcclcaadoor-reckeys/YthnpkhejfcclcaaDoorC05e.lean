/-
  The document's answer for layer 5 (budwoodref05): the contracts of num, text, Encode.
-/
import Derived.Test.YthnpkhejfcclcaaDoorC05d
import Derived.Test.YthnpkhejfcclcaaDoorW6
import Derived.Test.YthnpkhejfcclcaaDoorW7
namespace Go.Proofs.YthnpkhejfcclcaaDoor
open Go.RowKit

def baL (l : List UInt8) : ByteArray := ⟨l.toArray⟩
theorem baL_append (l m : List UInt8) : baL l ++ baL m = baL (l ++ m) := by
  apply ba_ext; rw [ByteArray.data_append]; simp [baL]
theorem baL_size (l : List UInt8) : (baL l).size = l.length := by rw [Lib.size_eq]; simp [baL]
theorem encB_baL (r : RecP) : encB r = baL (encL r) := rfl
set_option maxHeartbeats 800000 in
theorem rnum6 (n : Int) (w : World) (h0 : 0 ≤ n) (h1 : n ≤ 1099511627776) :
    Calls Tryd.prog 36 #[.int .i64 n, .int .i64 6] w fun e w' => e = .returned (.string (baL (num6 n))) ∧ Below w.heap.size w w' := by
  obtain ⟨v, rfl⟩ := Int.eq_ofNat_of_zero_le h0
  have hk := fun w => rput_ok ⟨#[32, 32, 32, 32, 32, 32]⟩ 0 6 v w (by decide) (by decide) (by omega) (by rw [show (6 : Int).toNat = 6 from rfl, show (256 : Nat) ^ 6 = 281474976710656 from rfl]; omega)
  rw [show (0 : Int).toNat = 0 from rfl, show (6 : Int).toNat = 6 from rfl, spliceB_whole _ _ (by rw [Lib.leBytes_length]; decide)] at hk
  have e1 : (⟨#[32, 32, 32, 32, 32, 32]⟩ : ByteArray).extract 0 6 = ⟨#[32, 32, 32, 32, 32, 32]⟩ := by decide +kernel
  have e2 : num6 (v : Int) = Lib.leBytes 6 v := by unfold num6; rw [Int.toNat_natCast]
  rw [e2]
  have CP := Lib.hid hk
  have E1 := Lib.hid e1
  clear hk e2 e1
  have hv : v < 18446744073709551616 := by omega
  go_enter Tryd.func36, Tryd.ntmps36
  go_wp2_with fail
  try rw [E1.out]
  refine (CP.out _).mono ?_; rintro e w1 ⟨rfl, b1⟩
  go_wp2
  go_ret
  exact ⟨rfl, b1⟩
set_option maxHeartbeats 800000 in
theorem rnum2 (v : Nat) (w : World) (h1 : v < 65536) :
    Calls Tryd.prog 36 #[.int .i64 (v : Int), .int .i64 2] w fun e w' => e = .returned (.string (baL (Lib.leBytes 2 v))) ∧ Below w.heap.size w w' := by
  have hk := fun w => rput_ok ⟨#[32, 32]⟩ 0 2 v w (by decide) (by decide) (by omega) (by rw [show (2 : Int).toNat = 2 from rfl, show (256 : Nat) ^ 2 = 65536 from rfl]; omega)
  rw [show (0 : Int).toNat = 0 from rfl, show (2 : Int).toNat = 2 from rfl, spliceB_whole _ _ (by rw [Lib.leBytes_length]; decide)] at hk
  have e1 : (⟨#[32, 32, 32, 32, 32, 32]⟩ : ByteArray).extract 0 2 = ⟨#[32, 32]⟩ := by decide +kernel
  have CP := Lib.hid hk
  have E1 := Lib.hid e1
  clear hk e1
  go_enter Tryd.func36, Tryd.ntmps36
  go_wp2_with fail
  try rw [E1.out]
  refine (CP.out _).mono ?_; rintro e w1 ⟨rfl, b1⟩
  go_wp2
  go_ret
  exact ⟨rfl, b1⟩
theorem toUInt8_ofNat (n : Nat) : n.toUInt8 = UInt8.ofNat n := rfl
set_option maxHeartbeats 800000 in
theorem rtxt_any (s : ByteArray) (w : World) (hs : s.size ≤ 255) :
    Calls Tryd.prog 37 #[.string s] w fun e w' => e = .returned (.string (baL (txtL s))) ∧ Below w.heap.size w w' := by
  have hfin : baL (txtL s) = ⟨#[UInt8.ofNat s.size]⟩ ++ s := by
    apply ba_ext; rw [ByteArray.data_append]; simp [baL, txtL]
  have HF := Lib.hid hfin; clear hfin
  have hst := fun W g c hc => run_string_one (P := Tryd.prog) 43 9 5 Tryd.underlying43 Tryd.underlying5 Tryd.underlying9 W g c s.size (by omega) hc
  have r1 : IntKind.u8.wrap (s.size : Int) = (s.size : Int) := by rw [IntKind.wrap_u8]; omega
  have hcell : (w.alloc (.cells #[.int .u8 (s.size : Int)] 5)).cell? ⟨w.heap.size, 0, none⟩ = some (.int .u8 (s.size : Int)) := by rw [World.cell?_alloc_at _ _ _ _ rfl]; rfl
  have h2 := hst _ w.heap.size 1 hcell
  clear hst hcell
  obtain ⟨B, hB⟩ : ∃ B : ByteArray, B = ⟨#[UInt8.ofNat s.size]⟩ := ⟨_, rfl⟩
  rw [← hB] at h2 HF
  have hBs : B.size ≤ 1 := by rw [hB]; exact Nat.le_refl _
  clear hB
  go_enter Tryd.func37, Tryd.ntmps37
  go_wp2
  go_ret
  rw [HF.out]
  exact ⟨rfl, (Below.refl _ w).alloc (Nat.le_refl _) _⟩
end Go.Proofs.YthnpkhejfcclcaaDoor
