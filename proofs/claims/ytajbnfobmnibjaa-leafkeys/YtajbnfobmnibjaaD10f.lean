/-
  Package leaf: the contracts of firstHalf, follows, Same, Get.
-/
import Derived.Test.YtajbnfobmnibjaaD10e
namespace Go.Proofs.Ytajbnfobmnibjaa
open Go.RowKit

/-- how many pairs make half of what all make -/
def halfFrom (l : Prs) (n : Nat) : Nat → Nat
  | 0 => n
  | k + 1 => if n < l.length - 1 ∧ 2 * wgt (l.take n) < wgt l then halfFrom l (n + 1) k else n
def halfN (l : Prs) : Nat := halfFrom l 1 l.length
theorem halfFrom_stop {l : Prs} {n : Nat} (h : ¬ (n < l.length - 1 ∧ 2 * wgt (l.take n) < wgt l)) (k : Nat) : halfFrom l n k = n := by
  cases k with
  | zero => rfl
  | succ k => unfold halfFrom; rw [if_neg h]
theorem halfFrom_go {l : Prs} {n : Nat} (h : n < l.length - 1 ∧ 2 * wgt (l.take n) < wgt l) (k : Nat) : halfFrom l n (k + 1) = halfFrom l (n + 1) k := by
  conv => lhs; unfold halfFrom
  rw [if_pos h]
set_option maxRecDepth 100000 in
set_option maxHeartbeats 4000000 in
theorem firstHalf10 (a : Option Addr) (C : Nat) (l : Prs) (w : World) (hP : PairsAt w a l) (hl : 2 ≤ l.length) (hw : wgt l ≤ 1000000) :
    Calls Try.prog 60 #[.slice a l.length C] w fun e w' => e = .returned (.int .i64 (halfN l : Int)) ∧ Below w.heap.size w w' := by
  have hlen := wgt_len l
  obtain ⟨p0, hp0⟩ : ∃ p, l[0]? = some p := ⟨_, List.getElem?_eq_getElem (by omega)⟩
  obtain ⟨g, off, rfl, c0, c1⟩ := hP 0 p0 hp0
  have CP := Lib.hid (pairsSize10 (some ⟨g, off, none⟩) C l w hP hw)
  have HP := Lib.hid hP; have HW := Lib.hid hw
  obtain ⟨F, hF⟩ : ∃ F, halfN l = F := ⟨_, rfl⟩
  rw [hF]
  have HF := Lib.hid (show halfFrom l 1 l.length = F from hF)
  have h0 := wgt_mem (List.mem_of_getElem? hp0)
  have hn0 : pairN p0 = 2 + p0.1.size + p0.2.size := rfl
  have CS := Lib.hid (fun W => pairSize10 p0.1 p0.2 (by omega) (by omega) W)
  have HW1 := Lib.hid (show wgt (l.take 1) = pairN p0 by have := wgt_step l 0 p0 hp0; simpa [wgt] using this)
  have i0 : (0 : Int) < (l.length : Int) := by omega
  have i1 : (l.length : Int) ≤ 1000000 := by omega
  have i2 : (2 : Int) ≤ (l.length : Int) := by omega
  rw [show (off + 0 * 2) = off by omega] at c0 c1
  have HD := Lib.hid (And.intro c0 c1)
  clear hF hn0 hP
  go_enter Try.func60, Try.ntmps60
  go_wp2_with fail
  refine CP.out.mono ?_; rintro r w1 ⟨rfl, b1⟩
  have HB1 := Lib.hid b1
  have d0 : w1.cell? ⟨g, off, none⟩ = some (.string p0.1) := (b1.cell (World.block_lt_of_cell? _ _ HD.out.1)).trans HD.out.1
  have d1 : w1.cell? ⟨g, off + 1, none⟩ = some (.string p0.2) := (b1.cell (World.block_lt_of_cell? _ _ HD.out.2)).trans HD.out.2
  clear b1 CP c0 c1
  go_wp2_with fail
  refine (CS.out _).mono ?_; rintro r w2 ⟨rfl, b2⟩
  have HB2 := Lib.hid (HB1.out.trans (b2.mono HB1.out.size))
  clear b2 CS d0 d1 HB1
  go_wp2_with fail
  go_loopw [4, 5] (fun u v wr => ∃ n : Nat, 1 ≤ n ∧ n ≤ l.length - 1 ∧ u = .int .i64 (n : Int) ∧ v = .int .i64 ((wgt (l.take n) : Nat) : Int) ∧ halfFrom l n (l.length + 1 - n) = F ∧ Below w.heap.size w wr) (fun u _ _ => l.length - (intOf u).toNat)
  case atStart => exact ⟨1, by omega, by omega, rfl, by rw [HW1.out], by rw [show l.length + 1 - 1 = l.length by omega]; exact HF.out, HB2.out⟩
  case round =>
    obtain ⟨n, hn1, hn2, rfl, rfl, hf, hb⟩ := hrel
    have HB := Lib.hid hb; have HFn := Lib.hid hf
    clear hb hf HB2
    have n0 : (0 : Int) ≤ (n : Int) := by omega
    have wt := wgt_take l n
    have W := HW.out
    obtain ⟨m, hm⟩ : ∃ m, l.length - 1 = m := ⟨_, rfl⟩
    have m1 : (l.length : Int) - 1 = (m : Int) := by omega
    have w0 : (0 : Int) ≤ ((wgt (l.take n) : Nat) : Int) := by omega
    have w1' : ((wgt (l.take n) : Nat) : Int) ≤ 1000000 := by omega
    by_cases hgo : n < l.length - 1 ∧ 2 * wgt (l.take n) < wgt l
    · obtain ⟨g1, g2⟩ := hgo
      obtain ⟨⟨pk, pv⟩, hp⟩ : ∃ p, l[n]? = some p := ⟨_, List.getElem?_eq_getElem (by omega)⟩
      have hs := wgt_step l n _ hp
      have ht := wgt_take l (n + 1)
      have hN : pairN (pk, pv) = 2 + pk.size + pv.size := rfl
      obtain ⟨_, _, e, d0, d1⟩ := HP.out.below HB.out n _ hp
      cases e
      dsimp only at d0 d1
      have CSn := Lib.hid (fun W => pairSize10 pk pv (by omega) (by omega) W)
      have HFn2 := Lib.hid (show halfFrom l (n + 1) (l.length + 1 - (n + 1)) = F by
        have := HFn.out
        rw [show l.length + 1 - n = (l.length + 1 - (n + 1)) + 1 by omega, halfFrom_go ⟨g1, g2⟩] at this
        exact this)
      have HS := Lib.hid hs
      have j1 : (n : Int) < (m : Int) := by omega
      have j2 : 2 * ((wgt (l.take n) : Nat) : Int) < ((wgt l : Nat) : Int) := by omega
      have j3 : (n : Int) < (l.length : Int) := by omega
      have e2 : ((wgt (l.take n) : Nat) : Int) + ((pairN (pk, pv) : Nat) : Int) ≤ 1000000 := by omega
      have e3 : (0 : Int) ≤ ((wgt (l.take n) : Nat) : Int) + ((pairN (pk, pv) : Nat) : Int) := by omega
      generalize pairN (pk, pv) = N at *
      generalize hA : wgt (l.take n) = A at *
      generalize wgt l = WL at *
      clear hs ht hN hp wt W
      go_wp2_with fail
      refine (CSn.out _).mono ?_; rintro r w3 ⟨rfl, b3⟩
      have HB3 := Lib.hid (HB.out.trans (b3.mono HB.out.size))
      clear b3 HB d0 d1 CSn
      go_wp2_with fail
      exact ⟨⟨n + 1, by omega, by omega, by go_num, by rw [HS.out]; go_num, HFn2.out, HB3.out⟩, by simp [intOf]; omega⟩
    · have hfe : n = F := by have := HFn.out; rw [halfFrom_stop hgo] at this; exact this
      have HFE := Lib.hid hfe
      have hgo' : ¬ (n : Int) < (m : Int) ∨ ((n : Int) < (m : Int) ∧ ¬ 2 * ((wgt (l.take n) : Nat) : Int) < ((wgt l : Nat) : Int)) := by omega
      clear hgo hfe HFn
      generalize hA : wgt (l.take n) = A at *
      generalize wgt l = WL at *
      rcases hgo' with g1 | ⟨g1, g2⟩
      all_goals
        go_wp2_with fail
        go_ret
        exact ⟨by rw [← HFE.out]; first | rfl | (simp; done), HB.out⟩
end Go.Proofs.Ytajbnfobmnibjaa
