/-
  The contracts of package sum's halfByteSums and of the closure within it.
-/
import Derived.Test.YtdbniiggbjmfoaaRows
import Derived.Test.YtdbniiggbjmfoaaC1
import Derived.Test.YtdbniiggbjmfoaaB1
import Derived.WalkKit
import Derived.WalkSpells
import Derived.WalkLawsBesides
import Derived.Lib.Hide
import Derived.IntWalk
import Derived.Outline
namespace Go.Proofs.Ytdbniiggbjmfoaa
open Go.RowKit

/-- a table of 16 sums -/
def tab (k : Nat) : Array Value := ((List.range 16).map fun i => Value.int .u32 (if i < k then ((steps 4 i : Nat) : Int) else 0)).toArray
theorem tab_size (k : Nat) : (tab k).size = 16 := by simp [tab]
theorem tab_get (k i : Nat) (h : i < 16) : (tab k)[i]? = some (.int .u32 (if i < k then ((steps 4 i : Nat) : Int) else 0)) := by
  simp [tab, h]
theorem tab_set (k : Nat) (h : k < 16) : (tab k).setIfInBounds k (.int .u32 ((steps 4 k : Nat) : Int)) = tab (k + 1) := by
  apply Array.ext_getElem?
  intro i
  rw [Array.getElem?_setIfInBounds]
  by_cases hi : i < 16
  · rw [tab_get _ _ hi, tab_get _ _ hi, tab_size]
    by_cases hk : k = i
    · subst hk; simp [h]
    · rw [if_neg hk]
      congr 2
      by_cases h1 : i < k
      · rw [if_pos h1, if_pos (by omega)]
      · rw [if_neg h1, if_neg (by omega)]
  · rw [if_neg (by omega), Array.getElem?_eq_none (by rw [tab_size]; omega), Array.getElem?_eq_none (by rw [tab_size]; omega)]

theorem tab16 : tab 16 = #[.int .u32 0, .int .u32 274646895, .int .u32 549293790, .int .u32 820201905, .int .u32 1098587580, .int .u32 1361435347, .int .u32 1640403810, .int .u32 1905808397, .int .u32 2197175160, .int .u32 2460548119, .int .u32 2722870694, .int .u32 2987750089, .int .u32 3280807620, .int .u32 3553878443, .int .u32 3811616794, .int .u32 4084100981] := by kernel_rfl

theorem tab0 : tab 0 = #[.int .u32 0, .int .u32 0, .int .u32 0, .int .u32 0, .int .u32 0, .int .u32 0, .int .u32 0, .int .u32 0, .int .u32 0, .int .u32 0, .int .u32 0, .int .u32 0, .int .u32 0, .int .u32 0, .int .u32 0, .int .u32 0] := by kernel_rfl

theorem w_and1 (n : Nat) (h : n < 4294967296) : bits .and .u32 (n : Int) 1 = ((n % 2 : Nat) : Int) := by
  have := u32_and_nat n 1 h (by omega)
  rw [Nat.and_one_is_mod] at this; exact this
theorem w_and15 (n : Nat) (h : n < 4294967296) : bits .and .u32 (n : Int) 15 = ((n % 16 : Nat) : Int) := by
  have := u32_and_nat n 15 h (by omega)
  rw [show 15 = 2 ^ 4 - 1 from rfl, Nat.and_two_pow_sub_one_eq_mod] at this; exact this

set_option maxHeartbeats 400000 in
theorem fill_any (h : Nat) (c : Array Value) (T : TypeId) (w : World) (hh : h < 16) (hc : ∃ v : Value, c[h]? = some v ∧ v.oneCell' = true) :
    Calls Try.prog 61 #[.int .u32 h, .pointer (some ⟨w.heap.size, 0, none⟩)] (w.alloc (.cells c T)) fun e w' =>
      e = .returned (.tuple #[]) ∧ w.alloc (.cells (c.setIfInBounds h (.int .u32 ((steps 4 h : Nat) : Int))) T) = w' := by
  obtain ⟨v, hv, hv1⟩ := hc
  go_enter Try.func61, Try.ntmps61
  go_wp2
  go_loop [3, 4, 6] (fun n _ i => ∃ k : Nat, k ≤ 4 ∧ i = .int .i64 k ∧ n = .int .u32 ((steps k h : Nat) : Int)) (fun _ _ i => 4 - (intOf i).toNat)
  case atStart => exact ⟨0, by omega, rfl, rfl⟩
  case round =>
    obtain ⟨k, hk, rfl, rfl⟩ := hrel
    have hlt := steps_lt k (show h < 4294967296 by omega)
    have hst := steps_succ k h
    have HS := Lib.hid hst; clear hst
    generalize hn : steps k h = n at *
    have HN := Lib.hid hn; clear hn
    by_cases h4 : k < 4
    · have r1 := w_and1 n hlt
      have r2 := w_bit n hlt
      go_wp2
      have e : (n : Int) % 2 * 2197175160 = ((n % 2 * 2197175160 : Nat) : Int) := by omega
      exact ⟨⟨k + 1, by omega, by go_num, by rw [e, r2, HS.out]⟩, by simp [intOf]; omega⟩
    · go_wp2
      go_end0
      obtain rfl : k = 4 := by omega
      exact ⟨rfl, by rw [HN.out]⟩

set_option maxHeartbeats 400000 in
theorem sums_any (w : World) :
    Calls Try.prog 51 #[] w fun e w' => e = .returned (.agg (tab 16)) ∧ Below w.heap.size w w' := by
  have hmf : ∀ (fn : Fn) (first cap : Array Value) (w : World), (Instr.makeFunc fn first cap).run Try.prog w = .ok (.func fn first cap) w := fun _ _ _ _ => rfl
  go_enter Try.func51, Try.ntmps51
  go_wp2
  go_loopw [3, 5] (fun _ i wx => ∃ k : Nat, k ≤ 16 ∧ i = .int .u32 k ∧ wx = (w.alloc (.cells (tab 0) 88)).alloc (.cells (tab k) 88)) (fun _ i _ => 16 - (intOf i).toNat)
  case atStart => exact ⟨0, by omega, rfl, rfl⟩
  case round =>
    obtain ⟨k, hk, rfl, rfl⟩ := hrel
    by_cases hlt : k < 16
    · have hg := tab_get k k hlt
      have hts := Lib.hid (tab_set k hlt)
      have c := fill_any k (tab k) 88 (w.alloc (.cells (tab 0) 88)) hlt ⟨_, hg, rfl⟩
      have hsz : (w.alloc (.cells (tab 0) 88)).heap.size = w.heap.size + 1 := by simp
      rw [hts.out, hsz] at c
      have C := Lib.hid c
      clear hg c hsz hts
      generalize tab k = A at *
      generalize hA : tab (k + 1) = A' at *
      have HA := Lib.hid hA; clear hA
      generalize tab 0 = A0 at *
      go_wp2_with fail
      refine C.out.mono ?_; rintro e w1 ⟨rfl, rfl⟩
      go_wp2
      go_roundw
      case rel => exact ⟨k + 1, by omega, by go_num, by rw [HA.out]⟩
      case measure => simp [intOf]; omega
    · obtain rfl : k = 16 := by omega
      have HT := Lib.hid tab16
      rw [HT.out, tab0]
      go_wp2
      refine bodyPost_ret (v := .agg (tab 16)) (by rw [HT.out]; simp [results, Try.results51, go_sem]) rfl ⟨rfl, ?_⟩
      exact ((Below.refl _ _).alloc (Nat.le_refl _) _).alloc (by simp) _
end Go.Proofs.Ytdbniiggbjmfoaa
