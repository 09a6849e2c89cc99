/-
  The contracts of package sum's Seal and Open.
-/
import Derived.Test.YtdbniiggbjmfoaaS2
import Derived.Test.YtdbniiggbjmfoaaC2
import Derived.Test.YtdbniiggbjmfoaaW3
namespace Go.Proofs.Ytdbniiggbjmfoaa
open Go.RowKit

theorem pad252 (s : ByteArray) (w : World) (h : s.size ≤ 252) :
    Calls Try.prog 40 #[.string s, .int .i64 252] w fun e w' => e = .returned (.tuple #[.string (padOf s 252), .int .i64 0]) ∧ Below w.heap.size w w' :=
  pad_ok s 252 w (by omega) (by omega)

theorem add_noSum (s : ByteArray) : (s ++ (⟨#[0, 0, 0, 0]⟩ : ByteArray)).data.toList = s.data.toList ++ [0, 0, 0, 0] := by
  rw [ByteArray.data_append]; simp

theorem putSum_gen (B : ByteArray) (c : Nat) (w : World) (hB : B.size = 252) (hc : c < 4294967296) :
    Calls Try.prog 41 #[.string (B ++ ⟨#[0, 0, 0, 0]⟩), .int .i64 252, .int .i64 4, .int .u64 (c : Int)] w fun e w' =>
      e = .returned (.tuple #[.string ⟨(B.data.toList ++ Lib.leBytes 4 c).toArray⟩, .int .i64 0]) ∧ Below w.heap.size w w' := by
  have hsz : (B ++ (⟨#[0, 0, 0, 0]⟩ : ByteArray)).size = 256 := by rw [ByteArray.size_append, hB]; rfl
  have hl : B.data.toList.length = 252 := by rw [← Lib.size_eq]; exact hB
  have hk := put_ok (B ++ ⟨#[0, 0, 0, 0]⟩) 252 4 (c : Int) w (by omega) (errAt_ok.2 (by omega)) (by omega) (by rw [show (4 : Int).toNat = 4 from rfl]; omega)
  rw [show (252 : Int).toNat = 252 from rfl, show (4 : Int).toNat = 4 from rfl, Int.toNat_natCast, add_noSum, splice_page _ _ hl (Lib.leBytes_length _ _)] at hk
  exact hk
theorem putSum (s : ByteArray) (w : World) (h : s.size ≤ 252) :
    Calls Try.prog 41 #[.string (padOf s 252 ++ ⟨#[0, 0, 0, 0]⟩), .int .i64 252, .int .i64 4, .int .u64 ((crcOf (padOf s 252).data.toList : Nat) : Int)] w fun e w' =>
      e = .returned (.tuple #[.string (pageOf s), .int .i64 0]) ∧ Below w.heap.size w w' :=
  putSum_gen (padOf s 252) _ w (padOf_size s 252 h) (crcOf_lt _)

set_option maxHeartbeats 400000 in
theorem seal_big (s : ByteArray) (w : World) (h : 252 < s.size) :
    Calls Try.prog 24 #[.string s] w fun e w' => e = .returned (.tuple #[.string ⟨#[]⟩, .int .i64 2]) ∧ w = w' := by
  have C := Lib.hid fun w => pad_big s 252 w (by omega) (by omega) (by omega)
  clear h
  go_enter Try.func24, Try.ntmps24
  go_wp2_with fail
  refine (C.out _).mono ?_; rintro e _ ⟨rfl, rfl⟩
  go_wp2
  go_ret2
  exact ⟨rfl, rfl⟩

set_option maxHeartbeats 400000 in
theorem seal_ok (s : ByteArray) (w : World) (h : s.size ≤ 252) :
    Calls Try.prog 24 #[.string s] w fun e w' => e = .returned (.tuple #[.string (pageOf s), .int .i64 0]) ∧ Below w.heap.size w w' := by
  have C1 := Lib.hid fun w => pad252 s w h
  have hs := padOf_size s 252 h
  have C2 := Lib.hid fun w => of_any (padOf s 252) w (by omega)
  have C3 := Lib.hid fun w => putSum s w h
  have hc := crcOf_lt (padOf s 252).data.toList
  generalize crcOf (padOf s 252).data.toList = c at *
  generalize padOf s 252 = B at *
  generalize pageOf s = P at *
  have HS : B.size ≤ 252 := by omega
  clear hs
  go_enter Try.func24, Try.ntmps24
  go_wp2_with fail
  refine (C1.out _).mono ?_; rintro e w1 ⟨rfl, b1⟩
  go_wp2_with fail
  refine (C2.out _).mono ?_; rintro e w2 ⟨rfl, b2⟩
  go_wp2_with fail
  refine (C3.out _).mono ?_; rintro e w3 ⟨rfl, b3⟩
  go_wp2
  go_ret2
  have s1 := b1.size; have s2 := b2.size
  exact ⟨rfl, (b1.trans (b2.mono s1)).trans (b3.mono (by omega))⟩

set_option maxHeartbeats 400000 in
theorem open_form (p : ByteArray) (w : World) (h : p.size ≠ 256) (_hp : p.size ≤ 1000000) :
    Calls Try.prog 34 #[.string p] w fun e w' => e = .returned (.tuple #[.string ⟨#[]⟩, .int .i64 4]) ∧ w = w' := by
  have h1 : ((p.size : Int) != 256) = true := by rw [bne_iff_ne]; omega
  clear h
  go_enter Try.func34, Try.ntmps34
  go_wp2
  go_ret2
  exact ⟨rfl, rfl⟩

theorem getSum (p : ByteArray) (w : World) (h : p.size = 256) :
    Calls Try.prog 46 #[.string p, .int .i64 252, .int .i64 4] w fun e w' => e = .returned (.tuple #[.int .u64 ((Lib.leNat ((p.data.toList.drop 252).take 4) : Nat) : Int), .int .i64 0]) ∧ w = w' :=
  get_ok p 252 4 w (by omega) (errAt_ok.2 (by omega))

set_option maxHeartbeats 400000 in
theorem open_sum (p : ByteArray) (w : World) (h : p.size = 256) (ho : okPage p = false) :
    Calls Try.prog 34 #[.string p] w fun e w' => e = .returned (.tuple #[.string ⟨#[]⟩, .int .i64 5]) ∧ Below w.heap.size w w' := by
  have C1 := Lib.hid fun w => getSum p w h
  have hx : (p.extract 0 252).size ≤ 252 := by rw [ByteArray.size_extract]; omega
  have C2 := Lib.hid fun w => of_any (p.extract 0 252) w (by omega)
  unfold okPage at ho
  rw [decide_eq_false_iff_not] at ho
  have hc := crcOf_lt (p.extract 0 252).data.toList
  have h0 : ((p.size : Int) != 256) = false := by rw [bne_eq_false_iff_eq]; omega
  have h2 : (252 : Int) ≤ (p.size : Int) := by omega
  generalize crcOf (p.extract 0 252).data.toList = c at *
  generalize Lib.leNat ((p.data.toList.drop 252).take 4) = d at *
  have ho' : ((d : Int) != (c : Int)) = true := by rw [bne_iff_ne]; omega
  clear ho h
  generalize hB : p.extract 0 252 = B at *
  go_enter Try.func34, Try.ntmps34
  go_wp2_with fail
  refine (C1.out _).mono ?_; rintro e _ ⟨rfl, rfl⟩
  go_wp2_with fail
  refine (C2.out _).mono ?_; rintro e w2 ⟨rfl, b2⟩
  go_wp2
  go_ret2
  exact ⟨rfl, b2⟩

set_option maxHeartbeats 400000 in
theorem open_ok (p : ByteArray) (w : World) (h : p.size = 256) (ho : okPage p = true) :
    Calls Try.prog 34 #[.string p] w fun e w' => e = .returned (.tuple #[.string (p.extract 0 252), .int .i64 0]) ∧ Below w.heap.size w w' := by
  have C1 := Lib.hid fun w => getSum p w h
  have hx : (p.extract 0 252).size ≤ 252 := by rw [ByteArray.size_extract]; omega
  have C2 := Lib.hid fun w => of_any (p.extract 0 252) w (by omega)
  have C3 := Lib.hid fun w => clone_any (p.extract 0 252) w (by omega)
  unfold okPage at ho
  rw [decide_eq_true_iff] at ho
  rw [ho] at C1
  have hc := crcOf_lt (p.extract 0 252).data.toList
  have h0 : ((p.size : Int) != 256) = false := by rw [bne_eq_false_iff_eq]; omega
  have h2 : (252 : Int) ≤ (p.size : Int) := by omega
  clear ho h
  generalize crcOf (p.extract 0 252).data.toList = c at *
  generalize hB : p.extract 0 252 = B at *
  go_enter Try.func34, Try.ntmps34
  go_wp2_with fail
  refine (C1.out _).mono ?_; rintro e _ ⟨rfl, rfl⟩
  go_wp2_with fail
  refine (C2.out _).mono ?_; rintro e w2 ⟨rfl, b2⟩
  go_wp2_with fail
  refine (C3.out _).mono ?_; rintro e w3 ⟨rfl, b3⟩
  go_wp2
  go_ret2
  exact ⟨rfl, b2.trans (b3.mono b2.size)⟩
end Go.Proofs.Ytdbniiggbjmfoaa
