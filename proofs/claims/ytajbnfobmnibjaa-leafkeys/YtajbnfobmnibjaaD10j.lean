/-
  Package leaf: the contracts of follows, Join.
-/
import Derived.Test.YtajbnfobmnibjaaD10i
namespace Go.Proofs.Ytajbnfobmnibjaa
open Go.RowKit

/-- no first key below a text -/
def firstB (pr : Prs) (h : ByteArray) : Bool := match pr with | [] => true | p :: _ => !lessB p.1 h
def followsB (l : LfP) (h : ByteArray) : Bool := !decide (h = noB) && ((decide (l.high = noB) || !lessB l.high h) && firstB l.pairs h)
set_option maxRecDepth 100000 in
set_option maxHeartbeats 4000000 in
theorem follows10 (a : Option Addr) (C : Nat) (l : LfP) (h : ByteArray) (w : World) (hP : PairsAt w a l.pairs) (hn : l.pairs.length ≤ 1000000) :
    Calls Try.prog 61 #[lfV a C l, .string h] w fun e w' => e = .returned (.bool (followsB l h)) ∧ Below w.heap.size w w' := by
  have HB := Lib.hid (box10 w a C l)
  have HAt := Lib.hid (At.new w #[.slice a l.pairs.length C, .string l.high, .int .i64 l.next] 24)
  have HP := Lib.hid (hP.below HB.out)
  have Xh := empty10 h
  have Xl := empty10 l.high
  have Y := lss10 l.high h
  unfold lfV followsB
  clear hP
  by_cases h0 : h = noB
  · rw [decide_eq_true h0] at Xh ⊢
    clear h0 Xl Y
    go_enter Try.func61, Try.ntmps61
    go_upto_region 1 with fail
    generalize w.alloc (.cells #[.slice a l.pairs.length C, .string l.high, .int .i64 l.next] 24) = W1 at *
    go_wp2_with fail
    go_ret
    exact ⟨rfl, HB.out⟩
  · rw [decide_eq_false h0] at Xh ⊢
    clear h0
    obtain ⟨b1, hb1⟩ : ∃ b, decide (l.high = noB) = b := ⟨_, rfl⟩
    obtain ⟨b2, hb2⟩ : ∃ b, lessB l.high h = b := ⟨_, rfl⟩
    rw [hb1] at Xl ⊢
    rw [hb2] at Y ⊢
    clear hb1 hb2
    have key : b1 = false ∧ b2 = true ∨ b1 = true ∨ b1 = false ∧ b2 = false := by cases b1 <;> cases b2 <;> simp
    rcases key with ⟨rfl, rfl⟩ | key
    · go_enter Try.func61, Try.ntmps61
      go_upto_region 1 with fail
      generalize w.alloc (.cells #[.slice a l.pairs.length C, .string l.high, .int .i64 l.next] 24) = W1 at *
      have d1 : W1.cell? ⟨w.heap.size, 1, none⟩ = some (.string l.high) := HAt.out.cell 1
      go_wp2_with fail
      go_ret
      exact ⟨rfl, HB.out⟩
    · have e1 : (!false && ((b1 || !b2) && firstB l.pairs h)) = firstB l.pairs h := by rcases key with rfl | ⟨rfl, rfl⟩ <;> simp
      rw [e1]
      clear e1
      have hF : (firstB l.pairs h = true ∧ l.pairs.length = 0) ∨ (∃ p, l.pairs[0]? = some p ∧ firstB l.pairs h = !lessB p.1 h) := by
        cases l.pairs with
        | nil => exact .inl ⟨rfl, rfl⟩
        | cons p t => exact .inr ⟨p, rfl, rfl⟩
      rcases hF with ⟨hF, hl⟩ | ⟨p, hp, hF⟩
      · rw [hF]
        have HAt' := HAt.out
        have HB' := HB.out
        rw [hl] at HAt' HB' ⊢
        have HL := Lib.hid hl
        clear HAt HB hl hF HP hn
        have HAt := Lib.hid HAt'; have HB := Lib.hid HB'
        clear HAt' HB'
        rcases key with rfl | ⟨rfl, rfl⟩
        all_goals
          go_enter Try.func61, Try.ntmps61
          go_upto_region 1 with fail
          generalize w.alloc (.cells #[.slice a 0 C, .string l.high, .int .i64 l.next] 24) = W1 at *
          have d0 : W1.cell? ⟨w.heap.size, 0, none⟩ = some (.slice a 0 C) := HAt.out.cell 0
          have d1 : W1.cell? ⟨w.heap.size, 1, none⟩ = some (.string l.high) := HAt.out.cell 1
          go_wp2_with fail
          go_ret
          exact ⟨rfl, HB.out⟩
      · rw [hF]
        obtain ⟨g, off, rfl, c0, c1⟩ := HP.out _ p hp
        rw [show off + 0 * 2 = off by omega] at c0
        have hlt : 0 < l.pairs.length := (List.getElem?_eq_some_iff.1 hp).1
        have m2 : ((l.pairs.length : Int) == 0) = false := by rw [beq_eq_false_iff_ne]; omega
        have m3 : (0 : Int) < (l.pairs.length : Int) := by omega
        have m5 : (l.pairs.length : Int) ≤ 1000000 := by omega
        have Z := lss10 p.1 h
        have HC0 := Lib.hid c0
        clear hp hF c0 c1 HP hn
        generalize p.1 = pk at *
        generalize lessB pk h = lb at *
        generalize l.pairs.length = n at *
        rcases key with rfl | ⟨rfl, rfl⟩
        all_goals
          go_enter Try.func61, Try.ntmps61
          go_upto_region 1 with fail
          generalize w.alloc (.cells #[.slice (some ⟨g, off, none⟩) n C, .string l.high, .int .i64 l.next] 24) = W1 at *
          have d0 : W1.cell? ⟨w.heap.size, 0, none⟩ = some (.slice (some ⟨g, off, none⟩) n C) := HAt.out.cell 0
          have d1 : W1.cell? ⟨w.heap.size, 1, none⟩ = some (.string l.high) := HAt.out.cell 1
          have d2 := HC0.out
          go_wp2_with fail
          go_ret
          exact ⟨rfl, HB.out⟩
end Go.Proofs.Ytajbnfobmnibjaa
