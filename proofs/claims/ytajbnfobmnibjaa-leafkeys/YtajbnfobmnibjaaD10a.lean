/-
  Package leaf: the contracts of pairSize, pairsSize, hasRoom, rightPairs, rightHigh, Right, Size; of rec's Key and Value.
-/
import Derived.Test.YtajbnfobmnibjaaK10a
import Derived.Test.YtajbnfobmnibjaaO1
import Derived.Test.YtajbnfobmnibjaaW3
namespace Go.Proofs.Ytajbnfobmnibjaa
open Go.RowKit

set_option maxHeartbeats 400000 in
theorem key10 (s : ByteArray) (w : World) (hs : s.size ≤ 1000000) :
    Calls Try.prog 56 #[.string s] w fun e w' => e = .returned (.bool (keyB s)) ∧ w = w' := by
  by_cases h1 : 1 ≤ s.size
  · by_cases h2 : s.size ≤ 16
    · have : keyB s = true := by simp [keyB]; omega
      rw [this]
      have g1 : (1 : Int) ≤ (s.size : Int) := by omega
      have g2 : (s.size : Int) ≤ 16 := by omega
      go_enter Try.func56, Try.ntmps56
      go_wp2
      go_ret
      exact ⟨by first | rfl | (simp; done) | (simp; omega), rfl⟩
    · have : keyB s = false := by simp [keyB]; omega
      rw [this]
      have g1 : (1 : Int) ≤ (s.size : Int) := by omega
      have g2 : (16 : Int) < (s.size : Int) := by omega
      go_enter Try.func56, Try.ntmps56
      go_wp2
      go_ret
      exact ⟨by first | rfl | (simp; done) | (simp; omega), rfl⟩
  · have : keyB s = false := by simp [keyB]; omega
    rw [this]
    have g1 : (s.size : Int) < 1 := by omega
    go_enter Try.func56, Try.ntmps56
    go_wp2
    go_ret
    exact ⟨by first | rfl | (simp; done) | (simp; omega), rfl⟩
set_option maxHeartbeats 400000 in
theorem value10 (s : ByteArray) (w : World) (hs : s.size ≤ 1000000) :
    Calls Try.prog 57 #[.string s] w fun e w' => e = .returned (.bool (valB s)) ∧ w = w' := by
  by_cases h2 : s.size ≤ 32
  · have : valB s = true := by simp [valB]; omega
    rw [this]
    have g2 : (s.size : Int) ≤ 32 := by omega
    go_enter Try.func57, Try.ntmps57
    go_wp2
    go_ret
    exact ⟨by first | rfl | (simp; done) | (simp; omega), rfl⟩
  · have : valB s = false := by simp [valB]; omega
    rw [this]
    have g2 : (32 : Int) < (s.size : Int) := by omega
    go_enter Try.func57, Try.ntmps57
    go_wp2
    go_ret
    exact ⟨by first | rfl | (simp; done) | (simp; omega), rfl⟩
set_option maxHeartbeats 400000 in
theorem pairSize10 (k v : ByteArray) (hk : k.size ≤ 1000000) (hv : v.size ≤ 1000000) (w : World) :
    Calls Try.prog 66 #[.agg #[.string k, .string v]] w fun e w' => e = .returned (.int .i64 (pairN (k, v) : Int)) ∧ Below w.heap.size w w' := by
  have e : ((pairN (k, v) : Nat) : Int) = 2 + (k.size : Int) + (v.size : Int) := by unfold pairN; simp only; omega
  rw [e]
  have g1 : (0 : Int) ≤ (k.size : Int) := by omega
  have g2 : (0 : Int) ≤ (v.size : Int) := by omega
  have g3 : (k.size : Int) ≤ 1000000 := by omega
  have g4 : (v.size : Int) ≤ 1000000 := by omega
  clear e hk hv
  go_enter Try.func66, Try.ntmps66
  go_wp2
  go_ret
  exact ⟨by first | rfl | (simp; done) | (simp; omega), (Below.refl _ w).alloc (Nat.le_refl _) _⟩
theorem wgt_take (l : Prs) (k : Nat) : wgt (l.take k) ≤ wgt l := by
  conv => rhs; rw [← List.take_append_drop k l]
  rw [wgt_app]; omega
theorem wgt_step (l : Prs) (k : Nat) (p : ByteArray × ByteArray) (hp : l[k]? = some p) : wgt (l.take (k + 1)) = wgt (l.take k) + pairN p := by
  rw [List.take_add_one, hp, wgt_app]; simp [wgt]
theorem wgt_mem {l : Prs} {p : ByteArray × ByteArray} (h : p ∈ l) : pairN p ≤ wgt l := by
  induction l with
  | nil => cases h
  | cons x l ih =>
    rcases List.mem_cons.1 h with rfl | h
    · simp [wgt]
    · have := ih h; simp [wgt]; omega
set_option maxRecDepth 100000 in
theorem pairsSize10 (a : Option Addr) (C : Nat) (pr : Prs) (w : World) (hP : PairsAt w a pr) (hw : wgt pr ≤ 1000000) :
    Calls Try.prog 46 #[.slice a pr.length C] w fun e w' => e = .returned (.int .i64 (wgt pr : Int)) ∧ Below w.heap.size w w' := by
  have hlen := wgt_len pr
  have HP := Lib.hid hP; have HW := Lib.hid hw
  have hl : pr.length ≤ 1000000 := by omega
  clear hP hw hlen
  go_enter Try.func46, Try.ntmps46
  go_wp2
  go_loopw [3, 8] (fun n i wr => ∃ k : Nat, k ≤ pr.length ∧ i = .int .i64 (k : Int) ∧ n = .int .i64 ((wgt (pr.take k) : Nat) : Int) ∧ Below w.heap.size w wr) (fun _ i _ => pr.length - (intOf i).toNat)
  case atStart => exact ⟨0, by omega, rfl, rfl, Below.refl _ _⟩
  case round =>
    obtain ⟨k, hk, rfl, rfl, bel⟩ := hrel
    by_cases hc : k < pr.length
    · have c1 : (k : Int) < (pr.length : Int) := by omega
      have c0 : (0 : Int) ≤ (k : Int) := by omega
      obtain ⟨⟨pk, pv⟩, hp⟩ : ∃ p, pr[k]? = some p := ⟨_, List.getElem?_eq_getElem hc⟩
      have hs := wgt_step pr k _ hp
      have ht := wgt_take pr (k + 1)
      have hW := HW.out
      have hN : pairN (pk, pv) = 2 + pk.size + pv.size := rfl
      obtain ⟨g, off, rfl, d0, d1⟩ := HP.out.below bel k _ hp
      dsimp only at d0 d1
      have CS := Lib.hid (fun W => pairSize10 pk pv (by omega) (by omega) W)
      have HS := Lib.hid hs
      have HB := Lib.hid (bel.trans (((Below.refl wr.heap.size wr).alloc (Nat.le_refl _) (.cells #[.string pk, .string pv] 44)).mono bel.size))
      have e1 : (0 : Int) ≤ ((wgt (pr.take k) : Nat) : Int) := by omega
      have e2 : ((wgt (pr.take k) : Nat) : Int) + ((pairN (pk, pv) : Nat) : Int) ≤ 1000000 := by omega
      have e3 : (0 : Int) ≤ ((wgt (pr.take k) : Nat) : Int) + ((pairN (pk, pv) : Nat) : Int) := by omega
      generalize pairN (pk, pv) = N at *
      generalize hA : wgt (pr.take k) = A at *
      clear hp bel hs ht hW hN
      go_wp2_with fail
      refine (CS.out _).mono ?_; rintro e w1 ⟨rfl, b1⟩
      have HB1 := Lib.hid (HB.out.trans (b1.mono HB.out.size))
      clear b1
      go_wp2_with fail
      exact ⟨⟨k + 1, by omega, by go_num, by rw [HS.out]; go_num, HB1.out⟩, by simp [intOf]; omega⟩
    · obtain rfl : k = pr.length := by omega
      rw [List.take_length]
      go_wp2
      go_ret
      exact ⟨rfl, bel⟩
def lfV (a : Option Addr) (C : Nat) (l : LfP) : Value := .agg #[.slice a l.pairs.length C, .string l.high, .int .i64 l.next]
theorem box10 (w : World) (a : Option Addr) (C : Nat) (l : LfP) : Below w.heap.size w (w.alloc (.cells #[.slice a l.pairs.length C, .string l.high, .int .i64 l.next] 24)) := (Below.refl _ w).alloc (Nat.le_refl _) _
theorem hasRoom10 (a : Option Addr) (C : Nat) (l : LfP) (w : World) (hP : PairsAt w a l.pairs) (hw : wgt l.pairs ≤ 1000000) :
    Calls Try.prog 42 #[lfV a C l] w fun e w' => e = .returned (.bool (decide (wgt l.pairs ≤ 231))) ∧ Below w.heap.size w w' := by
  have CP := Lib.hid (pairsSize10 a C l.pairs _ (hP.below (box10 w a C l)) hw)
  have HB := Lib.hid (box10 w a C l)
  have e : decide (wgt l.pairs ≤ 231) = decide (21 + ((wgt l.pairs : Nat) : Int) ≤ 252) := by
    by_cases h : wgt l.pairs ≤ 231
    · rw [decide_eq_true h, decide_eq_true (by omega)]
    · rw [decide_eq_false h, decide_eq_false (by omega)]
  rw [e]
  have g1 : (0 : Int) ≤ ((wgt l.pairs : Nat) : Int) := by omega
  have g2 : ((wgt l.pairs : Nat) : Int) ≤ 1000000 := by omega
  clear hP hw e
  generalize wgt l.pairs = W at *
  unfold lfV at *
  go_enter Try.func42, Try.ntmps42
  go_wp2_with fail
  refine CP.out.mono ?_; rintro e w1 ⟨rfl, b1⟩
  have HB1 := Lib.hid (HB.out.trans (b1.mono HB.out.size))
  clear b1 CP
  go_wp2_with fail
  go_ret
  exact ⟨by first | rfl | (simp; done) | (simp; omega), HB1.out⟩
end Go.Proofs.Ytajbnfobmnibjaa
