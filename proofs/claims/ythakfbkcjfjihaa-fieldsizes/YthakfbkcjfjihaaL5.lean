/-
  FieldSizes: the walk, one theorem a size and a way (it fits; it does not).
-/
import Derived.Test.YthakfbkcjfjihaaW4
namespace Go.Proofs.Ythakfbkcjfjihaa
open Go.RowKit

def PutS (k : Int) (w : World) (e : Ending) (w' : World) : Prop := ∃ s, e = .returned (.tuple #[.string s, .int .i64 k]) ∧ Below w.heap.size w w'
theorem put8 (v : Nat) (hv : v < 18446744073709551616) (w : World) : Calls Try.prog 12 #[.string ⟨#[49, 50, 51, 52, 53, 54, 55, 56]⟩, .int .i64 0, .int .i64 8, .int .u64 v] w fun e w' => e = .returned (.tuple #[.string ⟨(Lib.leBytes 8 v).toArray⟩, .int .i64 0]) ∧ Below w.heap.size w w' := by
  refine (put_ok ⟨#[49, 50, 51, 52, 53, 54, 55, 56]⟩ 0 8 v w (by decide) (by decide) (by omega) (by show (v : Int) < 256 ^ 8; omega)).mono fun e w' ⟨he, hb⟩ => ⟨?_, hb⟩
  rw [he]
  show Ending.returned (.tuple #[.string ⟨(spliceB [49, 50, 51, 52, 53, 54, 55, 56] 0 (Lib.leBytes 8 (v : Int).toNat)).toArray⟩, .int .i64 0]) = _
  rw [spliceB_whole _ _ (by rw [Lib.leBytes_length]; decide), Int.toNat_natCast]
theorem get8 (v i : Nat) (hi : i < 8) (w : World) : Calls Try.prog 10 #[.string ⟨(Lib.leBytes 8 v).toArray⟩, .int .i64 i, .int .i64 1] w fun e w' => e = .returned (.tuple #[.int .u64 ((v / 256 ^ i % 256 : Nat) : Int), .int .i64 0]) ∧ w = w' := by
  have hsz : (⟨(Lib.leBytes 8 v).toArray⟩ : ByteArray).size = 8 := by rw [Lib.size_eq]; exact Lib.leBytes_length 8 v
  refine (get_ok ⟨(Lib.leBytes 8 v).toArray⟩ i 1 w (by rw [hsz]; decide) (errAt_ok.2 (by rw [hsz]; omega))).mono fun e w' ⟨he, hb⟩ => ⟨?_, hb⟩
  rw [he]
  show Ending.returned (.tuple #[.int .u64 ((Lib.leNat (((Lib.leBytes 8 v).drop (i : Int).toNat).take 1) : Nat) : Int), .int .i64 0]) = _
  rw [Int.toNat_natCast, leNat_byte 8 v i hi]

set_option maxRecDepth 100000 in
set_option maxHeartbeats 400000 in
theorem sizes_1_fit (v : Nat) (HN : Hid (v < 18446744073709551616)) (z : Int) (hk : bits .and .i64 z 7 = 0) (w : World) (hf : (v : Int) < 256) :
    Calls Try.prog 7 #[.int .u64 v, .int .i64 z] w fun e w' => e = .returned (.bool true) ∧ Below w.heap.size w w' := by
  have hput : ∀ w, Calls Try.prog 12 #[.string ⟨#[49, 50, 51, 52, 53, 54, 55, 56]⟩, .int .i64 0, .int .i64 1, .int .u64 v] w (PutS 0 w) := fun w =>
    (put_ok ⟨#[49, 50, 51, 52, 53, 54, 55, 56]⟩ 0 1 v w (by decide) (by decide) (by omega) (by show (v : Int) < 256 ^ 1; have := HN.out; omega)).mono fun e w' ⟨he, hb⟩ => ⟨_, he, hb⟩
  have HP := Lib.hid hput; clear hput
  have hd : decide ((v : Int) < 256) = true := by simp; omega
  clear hf
  go_enter Try.func7, Try.ntmps7
  go_wp2_with fail
  refine (HP.out _).mono ?_; rintro e w1 ⟨s, rfl, b1⟩
  go_wp2_with fail
  refine (put8 v HN.out _).mono ?_; rintro e w2 ⟨rfl, b2⟩
  clear hk hd
  go_wp2_with fail
  go_loop [11, 12] (fun m i => ∃ k : Nat, k ≤ 8 ∧ i = .int .i64 ((k : Int) - 1) ∧ m = .int .u64 ((v / 256 ^ k : Nat) : Int)) (fun _ i => (intOf i + 1).toNat)
  case atStart => exact ⟨8, by omega, rfl, by rw [Nat.div_eq_of_lt HN.out]; rfl⟩
  case round =>
    obtain ⟨k, hk, rfl, rfl⟩ := hrel
    cases k with
    | zero =>
      have hz : v / 256 ^ 0 = v := by simp
      rw [hz]; clear hz
      go_wp2_with fail
      refine (fixed_true _).mono ?_; rintro e w3 ⟨rfl, b3⟩
      go_wp2_with fail
      go_ret
      have s1 := b1.size; have s2 := b2.size
      exact ⟨rfl, (b1.trans (b2.mono s1)).trans (b3.mono (by omega))⟩
    | succ k =>
      have e1 : ((k + 1 : Nat) : Int) - 1 = (k : Int) := by omega
      rw [e1]
      have HD := Lib.hid (down_step v k HN.out)
      clear e1
      generalize v / 256 ^ (k + 1) = u at *
      go_wp2_with fail
      refine (get8 v k (by omega) _).mono ?_; rintro e w3 ⟨rfl, rfl⟩
      generalize v / 256 ^ k % 256 = x at *
      go_wp2_with fail
      exact ⟨⟨k, by omega, rfl, by rw [HD.out]⟩, by simp [intOf]⟩

set_option maxRecDepth 100000 in
set_option maxHeartbeats 400000 in
theorem sizes_1_big (v : Nat) (HN : Hid (v < 18446744073709551616)) (z : Int) (hk : bits .and .i64 z 7 = 0) (w : World) (hf : 256 ≤ (v : Int)) :
    Calls Try.prog 7 #[.int .u64 v, .int .i64 z] w fun e w' => e = .returned (.bool true) ∧ Below w.heap.size w w' := by
  have hput : ∀ w, Calls Try.prog 12 #[.string ⟨#[49, 50, 51, 52, 53, 54, 55, 56]⟩, .int .i64 0, .int .i64 1, .int .u64 v] w (PutS 2 w) := fun w =>
    (put_big ⟨#[49, 50, 51, 52, 53, 54, 55, 56]⟩ 0 1 v w (by decide) (by decide) (by omega) (by show (256 : Int) ^ 1 ≤ v; omega)).mono fun e w' ⟨he, hb⟩ => ⟨_, he, hb ▸ Below.refl _ _⟩
  have HP := Lib.hid hput; clear hput
  have hd : decide ((v : Int) < 256) = false := by simp; omega
  clear hf
  go_enter Try.func7, Try.ntmps7
  go_wp2_with fail
  refine (HP.out _).mono ?_; rintro e w1 ⟨s, rfl, b1⟩
  go_wp2_with fail
  refine (put8 v HN.out _).mono ?_; rintro e w2 ⟨rfl, b2⟩
  clear hk hd
  go_wp2_with fail
  go_loop [11, 12] (fun m i => ∃ k : Nat, k ≤ 8 ∧ i = .int .i64 ((k : Int) - 1) ∧ m = .int .u64 ((v / 256 ^ k : Nat) : Int)) (fun _ i => (intOf i + 1).toNat)
  case atStart => exact ⟨8, by omega, rfl, by rw [Nat.div_eq_of_lt HN.out]; rfl⟩
  case round =>
    obtain ⟨k, hk, rfl, rfl⟩ := hrel
    cases k with
    | zero =>
      have hz : v / 256 ^ 0 = v := by simp
      rw [hz]; clear hz
      go_wp2_with fail
      refine (fixed_true _).mono ?_; rintro e w3 ⟨rfl, b3⟩
      go_wp2_with fail
      go_ret
      have s1 := b1.size; have s2 := b2.size
      exact ⟨rfl, (b1.trans (b2.mono s1)).trans (b3.mono (by omega))⟩
    | succ k =>
      have e1 : ((k + 1 : Nat) : Int) - 1 = (k : Int) := by omega
      rw [e1]
      have HD := Lib.hid (down_step v k HN.out)
      clear e1
      generalize v / 256 ^ (k + 1) = u at *
      go_wp2_with fail
      refine (get8 v k (by omega) _).mono ?_; rintro e w3 ⟨rfl, rfl⟩
      generalize v / 256 ^ k % 256 = x at *
      go_wp2_with fail
      exact ⟨⟨k, by omega, rfl, by rw [HD.out]⟩, by simp [intOf]⟩

set_option maxRecDepth 100000 in
set_option maxHeartbeats 400000 in
theorem sizes_2_fit (v : Nat) (HN : Hid (v < 18446744073709551616)) (z : Int) (hk : bits .and .i64 z 7 = 1) (w : World) (hf : (v : Int) < 65536) :
    Calls Try.prog 7 #[.int .u64 v, .int .i64 z] w fun e w' => e = .returned (.bool true) ∧ Below w.heap.size w w' := by
  have hput : ∀ w, Calls Try.prog 12 #[.string ⟨#[49, 50, 51, 52, 53, 54, 55, 56]⟩, .int .i64 0, .int .i64 2, .int .u64 v] w (PutS 0 w) := fun w =>
    (put_ok ⟨#[49, 50, 51, 52, 53, 54, 55, 56]⟩ 0 2 v w (by decide) (by decide) (by omega) (by show (v : Int) < 256 ^ 2; have := HN.out; omega)).mono fun e w' ⟨he, hb⟩ => ⟨_, he, hb⟩
  have HP := Lib.hid hput; clear hput
  have hd : decide ((v : Int) < 65536) = true := by simp; omega
  clear hf
  go_enter Try.func7, Try.ntmps7
  go_wp2_with fail
  refine (HP.out _).mono ?_; rintro e w1 ⟨s, rfl, b1⟩
  go_wp2_with fail
  refine (put8 v HN.out _).mono ?_; rintro e w2 ⟨rfl, b2⟩
  clear hk hd
  go_wp2_with fail
  go_loop [11, 12] (fun m i => ∃ k : Nat, k ≤ 8 ∧ i = .int .i64 ((k : Int) - 1) ∧ m = .int .u64 ((v / 256 ^ k : Nat) : Int)) (fun _ i => (intOf i + 1).toNat)
  case atStart => exact ⟨8, by omega, rfl, by rw [Nat.div_eq_of_lt HN.out]; rfl⟩
  case round =>
    obtain ⟨k, hk, rfl, rfl⟩ := hrel
    cases k with
    | zero =>
      have hz : v / 256 ^ 0 = v := by simp
      rw [hz]; clear hz
      go_wp2_with fail
      refine (fixed_true _).mono ?_; rintro e w3 ⟨rfl, b3⟩
      go_wp2_with fail
      go_ret
      have s1 := b1.size; have s2 := b2.size
      exact ⟨rfl, (b1.trans (b2.mono s1)).trans (b3.mono (by omega))⟩
    | succ k =>
      have e1 : ((k + 1 : Nat) : Int) - 1 = (k : Int) := by omega
      rw [e1]
      have HD := Lib.hid (down_step v k HN.out)
      clear e1
      generalize v / 256 ^ (k + 1) = u at *
      go_wp2_with fail
      refine (get8 v k (by omega) _).mono ?_; rintro e w3 ⟨rfl, rfl⟩
      generalize v / 256 ^ k % 256 = x at *
      go_wp2_with fail
      exact ⟨⟨k, by omega, rfl, by rw [HD.out]⟩, by simp [intOf]⟩

set_option maxRecDepth 100000 in
set_option maxHeartbeats 400000 in
theorem sizes_2_big (v : Nat) (HN : Hid (v < 18446744073709551616)) (z : Int) (hk : bits .and .i64 z 7 = 1) (w : World) (hf : 65536 ≤ (v : Int)) :
    Calls Try.prog 7 #[.int .u64 v, .int .i64 z] w fun e w' => e = .returned (.bool true) ∧ Below w.heap.size w w' := by
  have hput : ∀ w, Calls Try.prog 12 #[.string ⟨#[49, 50, 51, 52, 53, 54, 55, 56]⟩, .int .i64 0, .int .i64 2, .int .u64 v] w (PutS 2 w) := fun w =>
    (put_big ⟨#[49, 50, 51, 52, 53, 54, 55, 56]⟩ 0 2 v w (by decide) (by decide) (by omega) (by show (256 : Int) ^ 2 ≤ v; omega)).mono fun e w' ⟨he, hb⟩ => ⟨_, he, hb ▸ Below.refl _ _⟩
  have HP := Lib.hid hput; clear hput
  have hd : decide ((v : Int) < 65536) = false := by simp; omega
  clear hf
  go_enter Try.func7, Try.ntmps7
  go_wp2_with fail
  refine (HP.out _).mono ?_; rintro e w1 ⟨s, rfl, b1⟩
  go_wp2_with fail
  refine (put8 v HN.out _).mono ?_; rintro e w2 ⟨rfl, b2⟩
  clear hk hd
  go_wp2_with fail
  go_loop [11, 12] (fun m i => ∃ k : Nat, k ≤ 8 ∧ i = .int .i64 ((k : Int) - 1) ∧ m = .int .u64 ((v / 256 ^ k : Nat) : Int)) (fun _ i => (intOf i + 1).toNat)
  case atStart => exact ⟨8, by omega, rfl, by rw [Nat.div_eq_of_lt HN.out]; rfl⟩
  case round =>
    obtain ⟨k, hk, rfl, rfl⟩ := hrel
    cases k with
    | zero =>
      have hz : v / 256 ^ 0 = v := by simp
      rw [hz]; clear hz
      go_wp2_with fail
      refine (fixed_true _).mono ?_; rintro e w3 ⟨rfl, b3⟩
      go_wp2_with fail
      go_ret
      have s1 := b1.size; have s2 := b2.size
      exact ⟨rfl, (b1.trans (b2.mono s1)).trans (b3.mono (by omega))⟩
    | succ k =>
      have e1 : ((k + 1 : Nat) : Int) - 1 = (k : Int) := by omega
      rw [e1]
      have HD := Lib.hid (down_step v k HN.out)
      clear e1
      generalize v / 256 ^ (k + 1) = u at *
      go_wp2_with fail
      refine (get8 v k (by omega) _).mono ?_; rintro e w3 ⟨rfl, rfl⟩
      generalize v / 256 ^ k % 256 = x at *
      go_wp2_with fail
      exact ⟨⟨k, by omega, rfl, by rw [HD.out]⟩, by simp [intOf]⟩

set_option maxRecDepth 100000 in
set_option maxHeartbeats 400000 in
theorem sizes_3_fit (v : Nat) (HN : Hid (v < 18446744073709551616)) (z : Int) (hk : bits .and .i64 z 7 = 2) (w : World) (hf : (v : Int) < 16777216) :
    Calls Try.prog 7 #[.int .u64 v, .int .i64 z] w fun e w' => e = .returned (.bool true) ∧ Below w.heap.size w w' := by
  have hput : ∀ w, Calls Try.prog 12 #[.string ⟨#[49, 50, 51, 52, 53, 54, 55, 56]⟩, .int .i64 0, .int .i64 3, .int .u64 v] w (PutS 0 w) := fun w =>
    (put_ok ⟨#[49, 50, 51, 52, 53, 54, 55, 56]⟩ 0 3 v w (by decide) (by decide) (by omega) (by show (v : Int) < 256 ^ 3; have := HN.out; omega)).mono fun e w' ⟨he, hb⟩ => ⟨_, he, hb⟩
  have HP := Lib.hid hput; clear hput
  have hd : decide ((v : Int) < 16777216) = true := by simp; omega
  clear hf
  go_enter Try.func7, Try.ntmps7
  go_wp2_with fail
  refine (HP.out _).mono ?_; rintro e w1 ⟨s, rfl, b1⟩
  go_wp2_with fail
  refine (put8 v HN.out _).mono ?_; rintro e w2 ⟨rfl, b2⟩
  clear hk hd
  go_wp2_with fail
  go_loop [11, 12] (fun m i => ∃ k : Nat, k ≤ 8 ∧ i = .int .i64 ((k : Int) - 1) ∧ m = .int .u64 ((v / 256 ^ k : Nat) : Int)) (fun _ i => (intOf i + 1).toNat)
  case atStart => exact ⟨8, by omega, rfl, by rw [Nat.div_eq_of_lt HN.out]; rfl⟩
  case round =>
    obtain ⟨k, hk, rfl, rfl⟩ := hrel
    cases k with
    | zero =>
      have hz : v / 256 ^ 0 = v := by simp
      rw [hz]; clear hz
      go_wp2_with fail
      refine (fixed_true _).mono ?_; rintro e w3 ⟨rfl, b3⟩
      go_wp2_with fail
      go_ret
      have s1 := b1.size; have s2 := b2.size
      exact ⟨rfl, (b1.trans (b2.mono s1)).trans (b3.mono (by omega))⟩
    | succ k =>
      have e1 : ((k + 1 : Nat) : Int) - 1 = (k : Int) := by omega
      rw [e1]
      have HD := Lib.hid (down_step v k HN.out)
      clear e1
      generalize v / 256 ^ (k + 1) = u at *
      go_wp2_with fail
      refine (get8 v k (by omega) _).mono ?_; rintro e w3 ⟨rfl, rfl⟩
      generalize v / 256 ^ k % 256 = x at *
      go_wp2_with fail
      exact ⟨⟨k, by omega, rfl, by rw [HD.out]⟩, by simp [intOf]⟩

set_option maxRecDepth 100000 in
set_option maxHeartbeats 400000 in
theorem sizes_3_big (v : Nat) (HN : Hid (v < 18446744073709551616)) (z : Int) (hk : bits .and .i64 z 7 = 2) (w : World) (hf : 16777216 ≤ (v : Int)) :
    Calls Try.prog 7 #[.int .u64 v, .int .i64 z] w fun e w' => e = .returned (.bool true) ∧ Below w.heap.size w w' := by
  have hput : ∀ w, Calls Try.prog 12 #[.string ⟨#[49, 50, 51, 52, 53, 54, 55, 56]⟩, .int .i64 0, .int .i64 3, .int .u64 v] w (PutS 2 w) := fun w =>
    (put_big ⟨#[49, 50, 51, 52, 53, 54, 55, 56]⟩ 0 3 v w (by decide) (by decide) (by omega) (by show (256 : Int) ^ 3 ≤ v; omega)).mono fun e w' ⟨he, hb⟩ => ⟨_, he, hb ▸ Below.refl _ _⟩
  have HP := Lib.hid hput; clear hput
  have hd : decide ((v : Int) < 16777216) = false := by simp; omega
  clear hf
  go_enter Try.func7, Try.ntmps7
  go_wp2_with fail
  refine (HP.out _).mono ?_; rintro e w1 ⟨s, rfl, b1⟩
  go_wp2_with fail
  refine (put8 v HN.out _).mono ?_; rintro e w2 ⟨rfl, b2⟩
  clear hk hd
  go_wp2_with fail
  go_loop [11, 12] (fun m i => ∃ k : Nat, k ≤ 8 ∧ i = .int .i64 ((k : Int) - 1) ∧ m = .int .u64 ((v / 256 ^ k : Nat) : Int)) (fun _ i => (intOf i + 1).toNat)
  case atStart => exact ⟨8, by omega, rfl, by rw [Nat.div_eq_of_lt HN.out]; rfl⟩
  case round =>
    obtain ⟨k, hk, rfl, rfl⟩ := hrel
    cases k with
    | zero =>
      have hz : v / 256 ^ 0 = v := by simp
      rw [hz]; clear hz
      go_wp2_with fail
      refine (fixed_true _).mono ?_; rintro e w3 ⟨rfl, b3⟩
      go_wp2_with fail
      go_ret
      have s1 := b1.size; have s2 := b2.size
      exact ⟨rfl, (b1.trans (b2.mono s1)).trans (b3.mono (by omega))⟩
    | succ k =>
      have e1 : ((k + 1 : Nat) : Int) - 1 = (k : Int) := by omega
      rw [e1]
      have HD := Lib.hid (down_step v k HN.out)
      clear e1
      generalize v / 256 ^ (k + 1) = u at *
      go_wp2_with fail
      refine (get8 v k (by omega) _).mono ?_; rintro e w3 ⟨rfl, rfl⟩
      generalize v / 256 ^ k % 256 = x at *
      go_wp2_with fail
      exact ⟨⟨k, by omega, rfl, by rw [HD.out]⟩, by simp [intOf]⟩

set_option maxRecDepth 100000 in
set_option maxHeartbeats 400000 in
theorem sizes_4_fit (v : Nat) (HN : Hid (v < 18446744073709551616)) (z : Int) (hk : bits .and .i64 z 7 = 3) (w : World) (hf : (v : Int) < 4294967296) :
    Calls Try.prog 7 #[.int .u64 v, .int .i64 z] w fun e w' => e = .returned (.bool true) ∧ Below w.heap.size w w' := by
  have hput : ∀ w, Calls Try.prog 12 #[.string ⟨#[49, 50, 51, 52, 53, 54, 55, 56]⟩, .int .i64 0, .int .i64 4, .int .u64 v] w (PutS 0 w) := fun w =>
    (put_ok ⟨#[49, 50, 51, 52, 53, 54, 55, 56]⟩ 0 4 v w (by decide) (by decide) (by omega) (by show (v : Int) < 256 ^ 4; have := HN.out; omega)).mono fun e w' ⟨he, hb⟩ => ⟨_, he, hb⟩
  have HP := Lib.hid hput; clear hput
  have hd : decide ((v : Int) < 4294967296) = true := by simp; omega
  clear hf
  go_enter Try.func7, Try.ntmps7
  go_wp2_with fail
  refine (HP.out _).mono ?_; rintro e w1 ⟨s, rfl, b1⟩
  go_wp2_with fail
  refine (put8 v HN.out _).mono ?_; rintro e w2 ⟨rfl, b2⟩
  clear hk hd
  go_wp2_with fail
  go_loop [11, 12] (fun m i => ∃ k : Nat, k ≤ 8 ∧ i = .int .i64 ((k : Int) - 1) ∧ m = .int .u64 ((v / 256 ^ k : Nat) : Int)) (fun _ i => (intOf i + 1).toNat)
  case atStart => exact ⟨8, by omega, rfl, by rw [Nat.div_eq_of_lt HN.out]; rfl⟩
  case round =>
    obtain ⟨k, hk, rfl, rfl⟩ := hrel
    cases k with
    | zero =>
      have hz : v / 256 ^ 0 = v := by simp
      rw [hz]; clear hz
      go_wp2_with fail
      refine (fixed_true _).mono ?_; rintro e w3 ⟨rfl, b3⟩
      go_wp2_with fail
      go_ret
      have s1 := b1.size; have s2 := b2.size
      exact ⟨rfl, (b1.trans (b2.mono s1)).trans (b3.mono (by omega))⟩
    | succ k =>
      have e1 : ((k + 1 : Nat) : Int) - 1 = (k : Int) := by omega
      rw [e1]
      have HD := Lib.hid (down_step v k HN.out)
      clear e1
      generalize v / 256 ^ (k + 1) = u at *
      go_wp2_with fail
      refine (get8 v k (by omega) _).mono ?_; rintro e w3 ⟨rfl, rfl⟩
      generalize v / 256 ^ k % 256 = x at *
      go_wp2_with fail
      exact ⟨⟨k, by omega, rfl, by rw [HD.out]⟩, by simp [intOf]⟩

set_option maxRecDepth 100000 in
set_option maxHeartbeats 400000 in
theorem sizes_4_big (v : Nat) (HN : Hid (v < 18446744073709551616)) (z : Int) (hk : bits .and .i64 z 7 = 3) (w : World) (hf : 4294967296 ≤ (v : Int)) :
    Calls Try.prog 7 #[.int .u64 v, .int .i64 z] w fun e w' => e = .returned (.bool true) ∧ Below w.heap.size w w' := by
  have hput : ∀ w, Calls Try.prog 12 #[.string ⟨#[49, 50, 51, 52, 53, 54, 55, 56]⟩, .int .i64 0, .int .i64 4, .int .u64 v] w (PutS 2 w) := fun w =>
    (put_big ⟨#[49, 50, 51, 52, 53, 54, 55, 56]⟩ 0 4 v w (by decide) (by decide) (by omega) (by show (256 : Int) ^ 4 ≤ v; omega)).mono fun e w' ⟨he, hb⟩ => ⟨_, he, hb ▸ Below.refl _ _⟩
  have HP := Lib.hid hput; clear hput
  have hd : decide ((v : Int) < 4294967296) = false := by simp; omega
  clear hf
  go_enter Try.func7, Try.ntmps7
  go_wp2_with fail
  refine (HP.out _).mono ?_; rintro e w1 ⟨s, rfl, b1⟩
  go_wp2_with fail
  refine (put8 v HN.out _).mono ?_; rintro e w2 ⟨rfl, b2⟩
  clear hk hd
  go_wp2_with fail
  go_loop [11, 12] (fun m i => ∃ k : Nat, k ≤ 8 ∧ i = .int .i64 ((k : Int) - 1) ∧ m = .int .u64 ((v / 256 ^ k : Nat) : Int)) (fun _ i => (intOf i + 1).toNat)
  case atStart => exact ⟨8, by omega, rfl, by rw [Nat.div_eq_of_lt HN.out]; rfl⟩
  case round =>
    obtain ⟨k, hk, rfl, rfl⟩ := hrel
    cases k with
    | zero =>
      have hz : v / 256 ^ 0 = v := by simp
      rw [hz]; clear hz
      go_wp2_with fail
      refine (fixed_true _).mono ?_; rintro e w3 ⟨rfl, b3⟩
      go_wp2_with fail
      go_ret
      have s1 := b1.size; have s2 := b2.size
      exact ⟨rfl, (b1.trans (b2.mono s1)).trans (b3.mono (by omega))⟩
    | succ k =>
      have e1 : ((k + 1 : Nat) : Int) - 1 = (k : Int) := by omega
      rw [e1]
      have HD := Lib.hid (down_step v k HN.out)
      clear e1
      generalize v / 256 ^ (k + 1) = u at *
      go_wp2_with fail
      refine (get8 v k (by omega) _).mono ?_; rintro e w3 ⟨rfl, rfl⟩
      generalize v / 256 ^ k % 256 = x at *
      go_wp2_with fail
      exact ⟨⟨k, by omega, rfl, by rw [HD.out]⟩, by simp [intOf]⟩

set_option maxRecDepth 100000 in
set_option maxHeartbeats 400000 in
theorem sizes_5_fit (v : Nat) (HN : Hid (v < 18446744073709551616)) (z : Int) (hk : bits .and .i64 z 7 = 4) (w : World) (hf : (v : Int) < 1099511627776) :
    Calls Try.prog 7 #[.int .u64 v, .int .i64 z] w fun e w' => e = .returned (.bool true) ∧ Below w.heap.size w w' := by
  have hput : ∀ w, Calls Try.prog 12 #[.string ⟨#[49, 50, 51, 52, 53, 54, 55, 56]⟩, .int .i64 0, .int .i64 5, .int .u64 v] w (PutS 0 w) := fun w =>
    (put_ok ⟨#[49, 50, 51, 52, 53, 54, 55, 56]⟩ 0 5 v w (by decide) (by decide) (by omega) (by show (v : Int) < 256 ^ 5; have := HN.out; omega)).mono fun e w' ⟨he, hb⟩ => ⟨_, he, hb⟩
  have HP := Lib.hid hput; clear hput
  have hd : decide ((v : Int) < 1099511627776) = true := by simp; omega
  clear hf
  go_enter Try.func7, Try.ntmps7
  go_wp2_with fail
  refine (HP.out _).mono ?_; rintro e w1 ⟨s, rfl, b1⟩
  go_wp2_with fail
  refine (put8 v HN.out _).mono ?_; rintro e w2 ⟨rfl, b2⟩
  clear hk hd
  go_wp2_with fail
  go_loop [11, 12] (fun m i => ∃ k : Nat, k ≤ 8 ∧ i = .int .i64 ((k : Int) - 1) ∧ m = .int .u64 ((v / 256 ^ k : Nat) : Int)) (fun _ i => (intOf i + 1).toNat)
  case atStart => exact ⟨8, by omega, rfl, by rw [Nat.div_eq_of_lt HN.out]; rfl⟩
  case round =>
    obtain ⟨k, hk, rfl, rfl⟩ := hrel
    cases k with
    | zero =>
      have hz : v / 256 ^ 0 = v := by simp
      rw [hz]; clear hz
      go_wp2_with fail
      refine (fixed_true _).mono ?_; rintro e w3 ⟨rfl, b3⟩
      go_wp2_with fail
      go_ret
      have s1 := b1.size; have s2 := b2.size
      exact ⟨rfl, (b1.trans (b2.mono s1)).trans (b3.mono (by omega))⟩
    | succ k =>
      have e1 : ((k + 1 : Nat) : Int) - 1 = (k : Int) := by omega
      rw [e1]
      have HD := Lib.hid (down_step v k HN.out)
      clear e1
      generalize v / 256 ^ (k + 1) = u at *
      go_wp2_with fail
      refine (get8 v k (by omega) _).mono ?_; rintro e w3 ⟨rfl, rfl⟩
      generalize v / 256 ^ k % 256 = x at *
      go_wp2_with fail
      exact ⟨⟨k, by omega, rfl, by rw [HD.out]⟩, by simp [intOf]⟩

set_option maxRecDepth 100000 in
set_option maxHeartbeats 400000 in
theorem sizes_5_big (v : Nat) (HN : Hid (v < 18446744073709551616)) (z : Int) (hk : bits .and .i64 z 7 = 4) (w : World) (hf : 1099511627776 ≤ (v : Int)) :
    Calls Try.prog 7 #[.int .u64 v, .int .i64 z] w fun e w' => e = .returned (.bool true) ∧ Below w.heap.size w w' := by
  have hput : ∀ w, Calls Try.prog 12 #[.string ⟨#[49, 50, 51, 52, 53, 54, 55, 56]⟩, .int .i64 0, .int .i64 5, .int .u64 v] w (PutS 2 w) := fun w =>
    (put_big ⟨#[49, 50, 51, 52, 53, 54, 55, 56]⟩ 0 5 v w (by decide) (by decide) (by omega) (by show (256 : Int) ^ 5 ≤ v; omega)).mono fun e w' ⟨he, hb⟩ => ⟨_, he, hb ▸ Below.refl _ _⟩
  have HP := Lib.hid hput; clear hput
  have hd : decide ((v : Int) < 1099511627776) = false := by simp; omega
  clear hf
  go_enter Try.func7, Try.ntmps7
  go_wp2_with fail
  refine (HP.out _).mono ?_; rintro e w1 ⟨s, rfl, b1⟩
  go_wp2_with fail
  refine (put8 v HN.out _).mono ?_; rintro e w2 ⟨rfl, b2⟩
  clear hk hd
  go_wp2_with fail
  go_loop [11, 12] (fun m i => ∃ k : Nat, k ≤ 8 ∧ i = .int .i64 ((k : Int) - 1) ∧ m = .int .u64 ((v / 256 ^ k : Nat) : Int)) (fun _ i => (intOf i + 1).toNat)
  case atStart => exact ⟨8, by omega, rfl, by rw [Nat.div_eq_of_lt HN.out]; rfl⟩
  case round =>
    obtain ⟨k, hk, rfl, rfl⟩ := hrel
    cases k with
    | zero =>
      have hz : v / 256 ^ 0 = v := by simp
      rw [hz]; clear hz
      go_wp2_with fail
      refine (fixed_true _).mono ?_; rintro e w3 ⟨rfl, b3⟩
      go_wp2_with fail
      go_ret
      have s1 := b1.size; have s2 := b2.size
      exact ⟨rfl, (b1.trans (b2.mono s1)).trans (b3.mono (by omega))⟩
    | succ k =>
      have e1 : ((k + 1 : Nat) : Int) - 1 = (k : Int) := by omega
      rw [e1]
      have HD := Lib.hid (down_step v k HN.out)
      clear e1
      generalize v / 256 ^ (k + 1) = u at *
      go_wp2_with fail
      refine (get8 v k (by omega) _).mono ?_; rintro e w3 ⟨rfl, rfl⟩
      generalize v / 256 ^ k % 256 = x at *
      go_wp2_with fail
      exact ⟨⟨k, by omega, rfl, by rw [HD.out]⟩, by simp [intOf]⟩

set_option maxRecDepth 100000 in
set_option maxHeartbeats 400000 in
theorem sizes_6_fit (v : Nat) (HN : Hid (v < 18446744073709551616)) (z : Int) (hk : bits .and .i64 z 7 = 5) (w : World) (hf : (v : Int) < 281474976710656) :
    Calls Try.prog 7 #[.int .u64 v, .int .i64 z] w fun e w' => e = .returned (.bool true) ∧ Below w.heap.size w w' := by
  have hput : ∀ w, Calls Try.prog 12 #[.string ⟨#[49, 50, 51, 52, 53, 54, 55, 56]⟩, .int .i64 0, .int .i64 6, .int .u64 v] w (PutS 0 w) := fun w =>
    (put_ok ⟨#[49, 50, 51, 52, 53, 54, 55, 56]⟩ 0 6 v w (by decide) (by decide) (by omega) (by show (v : Int) < 256 ^ 6; have := HN.out; omega)).mono fun e w' ⟨he, hb⟩ => ⟨_, he, hb⟩
  have HP := Lib.hid hput; clear hput
  have hd : decide ((v : Int) < 281474976710656) = true := by simp; omega
  clear hf
  go_enter Try.func7, Try.ntmps7
  go_wp2_with fail
  refine (HP.out _).mono ?_; rintro e w1 ⟨s, rfl, b1⟩
  go_wp2_with fail
  refine (put8 v HN.out _).mono ?_; rintro e w2 ⟨rfl, b2⟩
  clear hk hd
  go_wp2_with fail
  go_loop [11, 12] (fun m i => ∃ k : Nat, k ≤ 8 ∧ i = .int .i64 ((k : Int) - 1) ∧ m = .int .u64 ((v / 256 ^ k : Nat) : Int)) (fun _ i => (intOf i + 1).toNat)
  case atStart => exact ⟨8, by omega, rfl, by rw [Nat.div_eq_of_lt HN.out]; rfl⟩
  case round =>
    obtain ⟨k, hk, rfl, rfl⟩ := hrel
    cases k with
    | zero =>
      have hz : v / 256 ^ 0 = v := by simp
      rw [hz]; clear hz
      go_wp2_with fail
      refine (fixed_true _).mono ?_; rintro e w3 ⟨rfl, b3⟩
      go_wp2_with fail
      go_ret
      have s1 := b1.size; have s2 := b2.size
      exact ⟨rfl, (b1.trans (b2.mono s1)).trans (b3.mono (by omega))⟩
    | succ k =>
      have e1 : ((k + 1 : Nat) : Int) - 1 = (k : Int) := by omega
      rw [e1]
      have HD := Lib.hid (down_step v k HN.out)
      clear e1
      generalize v / 256 ^ (k + 1) = u at *
      go_wp2_with fail
      refine (get8 v k (by omega) _).mono ?_; rintro e w3 ⟨rfl, rfl⟩
      generalize v / 256 ^ k % 256 = x at *
      go_wp2_with fail
      exact ⟨⟨k, by omega, rfl, by rw [HD.out]⟩, by simp [intOf]⟩

set_option maxRecDepth 100000 in
set_option maxHeartbeats 400000 in
theorem sizes_6_big (v : Nat) (HN : Hid (v < 18446744073709551616)) (z : Int) (hk : bits .and .i64 z 7 = 5) (w : World) (hf : 281474976710656 ≤ (v : Int)) :
    Calls Try.prog 7 #[.int .u64 v, .int .i64 z] w fun e w' => e = .returned (.bool true) ∧ Below w.heap.size w w' := by
  have hput : ∀ w, Calls Try.prog 12 #[.string ⟨#[49, 50, 51, 52, 53, 54, 55, 56]⟩, .int .i64 0, .int .i64 6, .int .u64 v] w (PutS 2 w) := fun w =>
    (put_big ⟨#[49, 50, 51, 52, 53, 54, 55, 56]⟩ 0 6 v w (by decide) (by decide) (by omega) (by show (256 : Int) ^ 6 ≤ v; omega)).mono fun e w' ⟨he, hb⟩ => ⟨_, he, hb ▸ Below.refl _ _⟩
  have HP := Lib.hid hput; clear hput
  have hd : decide ((v : Int) < 281474976710656) = false := by simp; omega
  clear hf
  go_enter Try.func7, Try.ntmps7
  go_wp2_with fail
  refine (HP.out _).mono ?_; rintro e w1 ⟨s, rfl, b1⟩
  go_wp2_with fail
  refine (put8 v HN.out _).mono ?_; rintro e w2 ⟨rfl, b2⟩
  clear hk hd
  go_wp2_with fail
  go_loop [11, 12] (fun m i => ∃ k : Nat, k ≤ 8 ∧ i = .int .i64 ((k : Int) - 1) ∧ m = .int .u64 ((v / 256 ^ k : Nat) : Int)) (fun _ i => (intOf i + 1).toNat)
  case atStart => exact ⟨8, by omega, rfl, by rw [Nat.div_eq_of_lt HN.out]; rfl⟩
  case round =>
    obtain ⟨k, hk, rfl, rfl⟩ := hrel
    cases k with
    | zero =>
      have hz : v / 256 ^ 0 = v := by simp
      rw [hz]; clear hz
      go_wp2_with fail
      refine (fixed_true _).mono ?_; rintro e w3 ⟨rfl, b3⟩
      go_wp2_with fail
      go_ret
      have s1 := b1.size; have s2 := b2.size
      exact ⟨rfl, (b1.trans (b2.mono s1)).trans (b3.mono (by omega))⟩
    | succ k =>
      have e1 : ((k + 1 : Nat) : Int) - 1 = (k : Int) := by omega
      rw [e1]
      have HD := Lib.hid (down_step v k HN.out)
      clear e1
      generalize v / 256 ^ (k + 1) = u at *
      go_wp2_with fail
      refine (get8 v k (by omega) _).mono ?_; rintro e w3 ⟨rfl, rfl⟩
      generalize v / 256 ^ k % 256 = x at *
      go_wp2_with fail
      exact ⟨⟨k, by omega, rfl, by rw [HD.out]⟩, by simp [intOf]⟩

set_option maxRecDepth 100000 in
set_option maxHeartbeats 400000 in
theorem sizes_7_fit (v : Nat) (HN : Hid (v < 18446744073709551616)) (z : Int) (hk : bits .and .i64 z 7 = 6) (w : World) (hf : (v : Int) < 72057594037927936) :
    Calls Try.prog 7 #[.int .u64 v, .int .i64 z] w fun e w' => e = .returned (.bool true) ∧ Below w.heap.size w w' := by
  have hput : ∀ w, Calls Try.prog 12 #[.string ⟨#[49, 50, 51, 52, 53, 54, 55, 56]⟩, .int .i64 0, .int .i64 7, .int .u64 v] w (PutS 0 w) := fun w =>
    (put_ok ⟨#[49, 50, 51, 52, 53, 54, 55, 56]⟩ 0 7 v w (by decide) (by decide) (by omega) (by show (v : Int) < 256 ^ 7; have := HN.out; omega)).mono fun e w' ⟨he, hb⟩ => ⟨_, he, hb⟩
  have HP := Lib.hid hput; clear hput
  have hd : decide ((v : Int) < 72057594037927936) = true := by simp; omega
  clear hf
  go_enter Try.func7, Try.ntmps7
  go_wp2_with fail
  refine (HP.out _).mono ?_; rintro e w1 ⟨s, rfl, b1⟩
  go_wp2_with fail
  refine (put8 v HN.out _).mono ?_; rintro e w2 ⟨rfl, b2⟩
  clear hk hd
  go_wp2_with fail
  go_loop [11, 12] (fun m i => ∃ k : Nat, k ≤ 8 ∧ i = .int .i64 ((k : Int) - 1) ∧ m = .int .u64 ((v / 256 ^ k : Nat) : Int)) (fun _ i => (intOf i + 1).toNat)
  case atStart => exact ⟨8, by omega, rfl, by rw [Nat.div_eq_of_lt HN.out]; rfl⟩
  case round =>
    obtain ⟨k, hk, rfl, rfl⟩ := hrel
    cases k with
    | zero =>
      have hz : v / 256 ^ 0 = v := by simp
      rw [hz]; clear hz
      go_wp2_with fail
      refine (fixed_true _).mono ?_; rintro e w3 ⟨rfl, b3⟩
      go_wp2_with fail
      go_ret
      have s1 := b1.size; have s2 := b2.size
      exact ⟨rfl, (b1.trans (b2.mono s1)).trans (b3.mono (by omega))⟩
    | succ k =>
      have e1 : ((k + 1 : Nat) : Int) - 1 = (k : Int) := by omega
      rw [e1]
      have HD := Lib.hid (down_step v k HN.out)
      clear e1
      generalize v / 256 ^ (k + 1) = u at *
      go_wp2_with fail
      refine (get8 v k (by omega) _).mono ?_; rintro e w3 ⟨rfl, rfl⟩
      generalize v / 256 ^ k % 256 = x at *
      go_wp2_with fail
      exact ⟨⟨k, by omega, rfl, by rw [HD.out]⟩, by simp [intOf]⟩

set_option maxRecDepth 100000 in
set_option maxHeartbeats 400000 in
theorem sizes_7_big (v : Nat) (HN : Hid (v < 18446744073709551616)) (z : Int) (hk : bits .and .i64 z 7 = 6) (w : World) (hf : 72057594037927936 ≤ (v : Int)) :
    Calls Try.prog 7 #[.int .u64 v, .int .i64 z] w fun e w' => e = .returned (.bool true) ∧ Below w.heap.size w w' := by
  have hput : ∀ w, Calls Try.prog 12 #[.string ⟨#[49, 50, 51, 52, 53, 54, 55, 56]⟩, .int .i64 0, .int .i64 7, .int .u64 v] w (PutS 2 w) := fun w =>
    (put_big ⟨#[49, 50, 51, 52, 53, 54, 55, 56]⟩ 0 7 v w (by decide) (by decide) (by omega) (by show (256 : Int) ^ 7 ≤ v; omega)).mono fun e w' ⟨he, hb⟩ => ⟨_, he, hb ▸ Below.refl _ _⟩
  have HP := Lib.hid hput; clear hput
  have hd : decide ((v : Int) < 72057594037927936) = false := by simp; omega
  clear hf
  go_enter Try.func7, Try.ntmps7
  go_wp2_with fail
  refine (HP.out _).mono ?_; rintro e w1 ⟨s, rfl, b1⟩
  go_wp2_with fail
  refine (put8 v HN.out _).mono ?_; rintro e w2 ⟨rfl, b2⟩
  clear hk hd
  go_wp2_with fail
  go_loop [11, 12] (fun m i => ∃ k : Nat, k ≤ 8 ∧ i = .int .i64 ((k : Int) - 1) ∧ m = .int .u64 ((v / 256 ^ k : Nat) : Int)) (fun _ i => (intOf i + 1).toNat)
  case atStart => exact ⟨8, by omega, rfl, by rw [Nat.div_eq_of_lt HN.out]; rfl⟩
  case round =>
    obtain ⟨k, hk, rfl, rfl⟩ := hrel
    cases k with
    | zero =>
      have hz : v / 256 ^ 0 = v := by simp
      rw [hz]; clear hz
      go_wp2_with fail
      refine (fixed_true _).mono ?_; rintro e w3 ⟨rfl, b3⟩
      go_wp2_with fail
      go_ret
      have s1 := b1.size; have s2 := b2.size
      exact ⟨rfl, (b1.trans (b2.mono s1)).trans (b3.mono (by omega))⟩
    | succ k =>
      have e1 : ((k + 1 : Nat) : Int) - 1 = (k : Int) := by omega
      rw [e1]
      have HD := Lib.hid (down_step v k HN.out)
      clear e1
      generalize v / 256 ^ (k + 1) = u at *
      go_wp2_with fail
      refine (get8 v k (by omega) _).mono ?_; rintro e w3 ⟨rfl, rfl⟩
      generalize v / 256 ^ k % 256 = x at *
      go_wp2_with fail
      exact ⟨⟨k, by omega, rfl, by rw [HD.out]⟩, by simp [intOf]⟩

set_option maxRecDepth 100000 in
set_option maxHeartbeats 400000 in
theorem sizes_8_fit (v : Nat) (HN : Hid (v < 18446744073709551616)) (z : Int) (hk : bits .and .i64 z 7 = 7) (w : World) :
    Calls Try.prog 7 #[.int .u64 v, .int .i64 z] w fun e w' => e = .returned (.bool true) ∧ Below w.heap.size w w' := by
  have hput : ∀ w, Calls Try.prog 12 #[.string ⟨#[49, 50, 51, 52, 53, 54, 55, 56]⟩, .int .i64 0, .int .i64 8, .int .u64 v] w (PutS 0 w) := fun w =>
    (put_ok ⟨#[49, 50, 51, 52, 53, 54, 55, 56]⟩ 0 8 v w (by decide) (by decide) (by omega) (by show (v : Int) < 256 ^ 8; have := HN.out; omega)).mono fun e w' ⟨he, hb⟩ => ⟨_, he, hb⟩
  have HP := Lib.hid hput; clear hput
  go_enter Try.func7, Try.ntmps7
  go_wp2_with fail
  refine (HP.out _).mono ?_; rintro e w1 ⟨s, rfl, b1⟩
  go_wp2_with fail
  refine (put8 v HN.out _).mono ?_; rintro e w2 ⟨rfl, b2⟩
  clear hk
  go_wp2_with fail
  go_loop [11, 12] (fun m i => ∃ k : Nat, k ≤ 8 ∧ i = .int .i64 ((k : Int) - 1) ∧ m = .int .u64 ((v / 256 ^ k : Nat) : Int)) (fun _ i => (intOf i + 1).toNat)
  case atStart => exact ⟨8, by omega, rfl, by rw [Nat.div_eq_of_lt HN.out]; rfl⟩
  case round =>
    obtain ⟨k, hk, rfl, rfl⟩ := hrel
    cases k with
    | zero =>
      have hz : v / 256 ^ 0 = v := by simp
      rw [hz]; clear hz
      go_wp2_with fail
      refine (fixed_true _).mono ?_; rintro e w3 ⟨rfl, b3⟩
      go_wp2_with fail
      go_ret
      have s1 := b1.size; have s2 := b2.size
      exact ⟨rfl, (b1.trans (b2.mono s1)).trans (b3.mono (by omega))⟩
    | succ k =>
      have e1 : ((k + 1 : Nat) : Int) - 1 = (k : Int) := by omega
      rw [e1]
      have HD := Lib.hid (down_step v k HN.out)
      clear e1
      generalize v / 256 ^ (k + 1) = u at *
      go_wp2_with fail
      refine (get8 v k (by omega) _).mono ?_; rintro e w3 ⟨rfl, rfl⟩
      generalize v / 256 ^ k % 256 = x at *
      go_wp2_with fail
      exact ⟨⟨k, by omega, rfl, by rw [HD.out]⟩, by simp [intOf]⟩

theorem walk_FieldSizes (v : Nat) (HN : Hid (v < 18446744073709551616)) (z : Int) (w : World) :
    Calls Try.prog 7 #[.int .u64 v, .int .i64 z] w fun e w' => e = .returned (.bool true) ∧ Below w.heap.size w w' := by
  have hk := i64_and7 z
  have hc : z % 8 = 0 ∨ z % 8 = 1 ∨ z % 8 = 2 ∨ z % 8 = 3 ∨ z % 8 = 4 ∨ z % 8 = 5 ∨ z % 8 = 6 ∨ z % 8 = 7 := by omega
  rcases hc with h | h | h | h | h | h | h | h
  · by_cases hf : (v : Int) < 256
    · exact sizes_1_fit v HN z (hk.trans h) w hf
    · exact sizes_1_big v HN z (hk.trans h) w (by omega)
  · by_cases hf : (v : Int) < 65536
    · exact sizes_2_fit v HN z (hk.trans h) w hf
    · exact sizes_2_big v HN z (hk.trans h) w (by omega)
  · by_cases hf : (v : Int) < 16777216
    · exact sizes_3_fit v HN z (hk.trans h) w hf
    · exact sizes_3_big v HN z (hk.trans h) w (by omega)
  · by_cases hf : (v : Int) < 4294967296
    · exact sizes_4_fit v HN z (hk.trans h) w hf
    · exact sizes_4_big v HN z (hk.trans h) w (by omega)
  · by_cases hf : (v : Int) < 1099511627776
    · exact sizes_5_fit v HN z (hk.trans h) w hf
    · exact sizes_5_big v HN z (hk.trans h) w (by omega)
  · by_cases hf : (v : Int) < 281474976710656
    · exact sizes_6_fit v HN z (hk.trans h) w hf
    · exact sizes_6_big v HN z (hk.trans h) w (by omega)
  · by_cases hf : (v : Int) < 72057594037927936
    · exact sizes_7_fit v HN z (hk.trans h) w hf
    · exact sizes_7_big v HN z (hk.trans h) w (by omega)
  · exact sizes_8_fit v HN z (hk.trans h) w
end Go.Proofs.Ythakfbkcjfjihaa
