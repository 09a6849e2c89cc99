/-
  The document's answer for layer 5 (budwoodref05): the contracts of Less, Key, Value, in, Row.
-/
import Derived.Test.YtajbnfobmnibjaaRows
import Derived.Test.YtajbnfobmnibjaaK05b
import Derived.Test.YtajbnfobmnibjaaB1
import Derived.WalkSpells
import Derived.WalkLawsBesides
import Derived.Lib.Strings
import Derived.Lib.Hide
import Derived.IntWalk
import Derived.Deep.Light
import Derived.BigQuiet
import Derived.Deep.QuietTactic
import Derived.StillTailTactics
import Derived.Deep.RegionHeld3
import Derived.Deep.DeepCutAuto
import Derived.Deep.CutBlock
import Derived.Outline
namespace Go.Proofs.Ytajbnfobmnibjaa
open Go.RowKit

/-- a slice's cells read as pairs -/
def PairsAt (w : World) (a : Option Addr) (l : List (ByteArray × ByteArray)) : Prop :=
  ∀ i p, l[i]? = some p → ∃ b off, a = some ⟨b, off, none⟩ ∧ w.cell? ⟨b, off + i * 2, none⟩ = some (.string p.1) ∧ w.cell? ⟨b, off + i * 2 + 1, none⟩ = some (.string p.2)
theorem PairsAt.below {w w' : World} {a : Option Addr} {l : List (ByteArray × ByteArray)} (h : PairsAt w a l) (b : Below w.heap.size w w') : PairsAt w' a l := by
  intro i p hp
  obtain ⟨g, off, e, c0, c1⟩ := h i p hp
  exact ⟨g, off, e, (b.cell (World.block_lt_of_cell? w _ c0)).trans c0, (b.cell (World.block_lt_of_cell? w _ c1)).trans c1⟩
theorem pairsAt_nil (w : World) (a : Option Addr) : PairsAt w a [] := fun i p h => by simp at h
theorem lexB_drop (a b : List UInt8) : ∀ k, a.take k = b.take k → k ≤ a.length → k ≤ b.length → lexB a b = lexB (a.drop k) (b.drop k) := by
  intro k
  induction k generalizing a b with
  | zero => intros; rfl
  | succ k ih =>
    intro h ha hb
    match a, b, ha, hb with
    | x :: a, y :: b, ha, hb =>
      simp at h ha hb
      obtain ⟨rfl, h⟩ := h
      simp only [lexB, if_true, List.drop_succ_cons]
      exact ih a b h ha hb
theorem lexB_ne {a b : List UInt8} {k : Nat} {x y : UInt8} (h : a.take k = b.take k) (hx : a[k]? = some x) (hy : b[k]? = some y) (hne : x ≠ y) : lexB a b = decide (x.toNat < y.toNat) := by
  have ha := (List.getElem?_eq_some_iff.1 hx).1
  have hb := (List.getElem?_eq_some_iff.1 hy).1
  rw [lexB_drop a b k h (by omega) (by omega), List.drop_eq_getElem_cons ha, List.drop_eq_getElem_cons hb]
  have e1 : a[k] = x := (List.getElem?_eq_some_iff.1 hx).2
  have e2 : b[k] = y := (List.getElem?_eq_some_iff.1 hy).2
  rw [e1, e2]
  simp [lexB, hne]
theorem lexB_end {a b : List UInt8} {k : Nat} (h : a.take k = b.take k) (ha : k ≤ a.length) (hb : k ≤ b.length) (he : k = a.length ∨ k = b.length) : lexB a b = decide (a.length < b.length) := by
  rw [lexB_drop a b k h ha hb]
  rcases he with rfl | rfl
  · rw [List.drop_length]
    cases hd : b.drop a.length with
    | nil => have := congrArg List.length hd; simp at this; simp [lexB]; omega
    | cons y l => have := congrArg List.length hd; simp at this; simp [lexB]; omega
  · rw [List.drop_length]
    cases hd : a.drop b.length with
    | nil => have := congrArg List.length hd; simp at this; simp [lexB]; omega
    | cons y l => have := congrArg List.length hd; simp at this; simp [lexB]; omega
theorem drewN_drewN (w : World) (m n : Nat) : (w.drewN m).drewN n = w.drewN (m + n) := by simp [World.drewN, Nat.add_assoc]
theorem get_list (s : ByteArray) (k : Nat) (h : k < s.size) : s.data.toList[k]? = some s[k] := by
  rw [List.getElem?_eq_getElem (by rw [← Lib.size_eq]; exact h)]; rfl

set_option maxHeartbeats 1000000 in
theorem less_any (a b : ByteArray) (w : World) (ha : a.size ≤ 1000000) (hb : b.size ≤ 1000000) :
    Calls Try.prog 38 #[.string a, .string b] w fun e w' => e = .returned (.bool (lessB a b)) ∧ ∃ m, w' = w.drewN m := by
  go_enter Try.func38, Try.ntmps38
  go_wp2
  go_loopw [5] (fun i wr => ∃ k : Nat, k ≤ a.size ∧ k ≤ b.size ∧ i = .int .i64 (k : Int) ∧ a.data.toList.take k = b.data.toList.take k ∧ ∃ m, wr = w.drewN m) (fun i _ => a.size - (intOf i).toNat)
  case atStart => exact ⟨0, by omega, by omega, rfl, rfl, 0, rfl⟩
  case round =>
    obtain ⟨k, h1, h2, rfl, ht, m, rfl⟩ := hrel
    have HT := Lib.hid ht; clear ht
    by_cases hc : k < a.size ∧ k < b.size
    · obtain ⟨c1, c2⟩ := hc
      have d1 : (k : Int) < (a.size : Int) := by omega
      have d2 : (k : Int) < (b.size : Int) := by omega
      have d0 : (0 : Int) ≤ (k : Int) := by omega
      obtain ⟨w1, HW⟩ : ∃ w1, Hid (w.drewN m = w1) := ⟨_, rfl⟩
      rw [HW.out]
      by_cases he : a[k] = b[k]
      · have hx : ((a[k].toNat : Int) != (b[k].toNat : Int)) = false := by rw [he]; simp
        have HT2 := Lib.hid (show a.data.toList.take (k + 1) = b.data.toList.take (k + 1) by rw [List.take_add_one, List.take_add_one, HT.out, get_list a k c1, get_list b k c2, he])
        clear he
        go_wp2_with fail
        go_quiet (fail)
        go_wp2
        refine ⟨⟨k + 1, by omega, by omega, by go_num, HT2.out, m + nq, ?_⟩, by simp [intOf]; omega⟩
        rw [← HW.out]; simp [World.drewN, Nat.add_assoc]
      · have hx : ((a[k].toNat : Int) != (b[k].toNat : Int)) = true := by
          rw [bne_iff_ne]; intro h
          exact he (UInt8.toNat_inj.1 (by omega))
        have HR := Lib.hid (show lessB a b = decide (a[k].toNat < b[k].toNat) from lexB_ne HT.out (get_list a k c1) (get_list b k c2) he)
        clear he
        go_wp2_with fail
        go_quiet (fail)
        go_wp2_with fail
        go_quiet (fail)
        go_wp2
        go_ret
        rw [HR.out]
        refine ⟨by simp, ?_⟩
        rw [← HW.out, drewN_drewN, drewN_drewN]
        exact ⟨_, rfl⟩
    · have HR := Lib.hid (show lessB a b = decide (a.size < b.size) by
        have := lexB_end (a := a.data.toList) (b := b.data.toList) (k := k) HT.out (by rw [← Lib.size_eq]; exact h1) (by rw [← Lib.size_eq]; exact h2) (by rw [← Lib.size_eq, ← Lib.size_eq]; omega)
        rw [← Lib.size_eq, ← Lib.size_eq] at this; exact this)
      by_cases hc1 : k < a.size
      · have d1 : (k : Int) < (a.size : Int) := by omega
        have d2 : (b.size : Int) ≤ (k : Int) := by omega
        clear hc
        go_wp2
        go_ret
        rw [HR.out]
        exact ⟨by simp, m, rfl⟩
      · have d1 : (a.size : Int) ≤ (k : Int) := by omega
        clear hc
        go_wp2
        go_ret
        rw [HR.out]
        exact ⟨by simp, m, rfl⟩
set_option maxHeartbeats 400000 in
theorem rkey_any (s : ByteArray) (w : World) (hs : s.size ≤ 1000000) :
    Calls Try.prog 34 #[.string s] w fun e w' => e = .returned (.bool (keyB s)) ∧ w = w' := by
  by_cases h1 : 1 ≤ s.size
  · by_cases h2 : s.size ≤ 16
    · have : keyB s = true := by simp [keyB]; omega
      rw [this]
      have g1 : (1 : Int) ≤ (s.size : Int) := by omega
      have g2 : (s.size : Int) ≤ 16 := by omega
      go_enter Try.func34, Try.ntmps34
      go_wp2
      go_ret
      exact ⟨by first | rfl | (simp; done) | (simp; omega), rfl⟩
    · have : keyB s = false := by simp [keyB]; omega
      rw [this]
      have g1 : (1 : Int) ≤ (s.size : Int) := by omega
      have g2 : (16 : Int) < (s.size : Int) := by omega
      go_enter Try.func34, Try.ntmps34
      go_wp2
      go_ret
      exact ⟨by first | rfl | (simp; done) | (simp; omega), rfl⟩
  · have : keyB s = false := by simp [keyB]; omega
    rw [this]
    have g1 : (s.size : Int) < 1 := by omega
    go_enter Try.func34, Try.ntmps34
    go_wp2
    go_ret
    exact ⟨by first | rfl | (simp; done) | (simp; omega), rfl⟩
set_option maxHeartbeats 400000 in
theorem rvalue_any (s : ByteArray) (w : World) (hs : s.size ≤ 1000000) :
    Calls Try.prog 35 #[.string s] w fun e w' => e = .returned (.bool (valB s)) ∧ w = w' := by
  by_cases h2 : s.size ≤ 32
  · have : valB s = true := by simp [valB]; omega
    rw [this]
    have g2 : (s.size : Int) ≤ 32 := by omega
    go_enter Try.func35, Try.ntmps35
    go_wp2
    go_ret
    exact ⟨by first | rfl | (simp; done) | (simp; omega), rfl⟩
  · have : valB s = false := by simp [valB]; omega
    rw [this]
    have g2 : (32 : Int) < (s.size : Int) := by omega
    go_enter Try.func35, Try.ntmps35
    go_wp2
    go_ret
    exact ⟨by first | rfl | (simp; done) | (simp; omega), rfl⟩
end Go.Proofs.Ytajbnfobmnibjaa
