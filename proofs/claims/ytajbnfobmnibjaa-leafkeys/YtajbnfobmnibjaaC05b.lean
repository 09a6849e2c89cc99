/-
  The document's answer for layer 5 (budwoodref05): the contracts of Row, Pairs, Same.
-/
import Derived.Test.YtajbnfobmnibjaaC05a
namespace Go.Proofs.Ytajbnfobmnibjaa
open Go.RowKit

abbrev Prs := List (ByteArray × ByteArray)
theorem risesB_snoc2 (q p : ByteArray × ByteArray) : ∀ A : Prs, risesB (A ++ [q] ++ [p]) = (risesB (A ++ [q]) && keyB p.1 && valB p.2 && lessB q.1 p.1)
  | [] => by simp [risesB]; cases keyB q.1 <;> cases valB q.2 <;> cases lessB q.1 p.1 <;> cases keyB p.1 <;> cases valB p.2 <;> rfl
  | [x] => by simp [risesB]; cases keyB q.1 <;> cases valB q.2 <;> cases lessB q.1 p.1 <;> cases keyB p.1 <;> cases valB p.2 <;> cases keyB x.1 <;> cases valB x.2 <;> cases lessB x.1 q.1 <;> rfl
  | x :: y :: A => by
    have ih := risesB_snoc2 q p (y :: A)
    simp only [List.cons_append] at ih ⊢
    simp only [risesB]
    rw [ih]
    cases keyB x.1 <;> cases valB x.2 <;> cases lessB x.1 y.1 <;> simp
theorem rises_zero (l : Prs) (p : ByteArray × ByteArray) (h : l[0]? = some p) : risesB (l.take 1) = (keyB p.1 && valB p.2) := by
  cases l with
  | nil => simp at h
  | cons x l => simp at h; subst h; simp [risesB]
theorem rises_next (l : Prs) (k : Nat) (q p : ByteArray × ByteArray) (hq : l[k]? = some q) (hp : l[k + 1]? = some p) : risesB (l.take (k + 2)) = (risesB (l.take (k + 1)) && keyB p.1 && valB p.2 && lessB q.1 p.1) := by
  rw [show k + 2 = k + 1 + 1 from rfl, List.take_add_one (l := l) (i := k + 1), hp, List.take_add_one, hq]
  exact risesB_snoc2 q p _
theorem risesB_tail {x : ByteArray × ByteArray} {l : Prs} (h : risesB (x :: l) = true) : risesB l = true := (risesB_head h).2.2
theorem risesB_take : ∀ (l : Prs) (k : Nat), risesB l = true → risesB (l.take k) = true
  | [], k, _ => by simp [risesB]
  | [p], 0, _ => by simp [risesB]
  | [p], k + 1, h => by simpa using h
  | p :: q :: l, 0, _ => by simp [risesB]
  | p :: q :: l, 1, h => by simp [risesB] at h ⊢; exact ⟨h.1.1.1, h.1.1.2⟩
  | p :: q :: l, k + 2, h => by
    have ih := risesB_take (q :: l) (k + 1) (risesB_tail h)
    simp only [List.take_succ_cons] at ih ⊢
    simp only [risesB, Bool.and_eq_true] at h ⊢
    exact ⟨h.1, ih⟩
theorem rises_bad (l : Prs) (k : Nat) (h : risesB (l.take k) = false) : risesB l = false := by
  cases hr : risesB l with
  | false => rfl
  | true => rw [risesB_take l k hr] at h; exact h
theorem quiet_flip {w : World} {v : Value} {e : Ending} {w' : World} (h : e = .returned v ∧ w = w') : e = .returned v ∧ w' = w := ⟨h.1, h.2.symm⟩
def SmallP (l : Prs) : Prop := ∀ p ∈ l, p.1.size ≤ 1000000 ∧ p.2.size ≤ 1000000

theorem text_beq (a b : ByteArray) : (a.toList == b.toList) = decide (a = b) := by
  rw [Lib.toList_data, Lib.toList_data, Bool.eq_iff_iff, beq_iff_eq, decide_eq_true_iff]
  exact ⟨fun h => ba_ext h, fun h => by rw [h]⟩
set_option maxRecDepth 100000 in
set_option maxHeartbeats 2000000 in
theorem rpairs_any (w : World) (a b : Option Addr) (l r : Prs) (C D : Nat) (hP : PairsAt w a l) (hQ : PairsAt w b r) (hn : l.length ≤ 1000000) (_hm : r.length ≤ 1000000) :
    Calls Try.prog 52 #[.slice a l.length C, .slice b r.length D] w fun e w' => e = .returned (.bool (decide (l = r))) ∧ ∃ m, w' = w.drewN m := by
  have HP := Lib.hid hP; have HQ := Lib.hid hQ
  clear hP hQ
  by_cases hl : l.length = r.length
  · have hl1 : ((l.length : Int) != (r.length : Int)) = false := by rw [bne_eq_false_iff_eq]; omega
    have HL := Lib.hid hl; clear hl
    go_enter Try.func52, Try.ntmps52
    go_wp2
    go_loopw [5] (fun i wr => ∃ k : Nat, k ≤ l.length ∧ i = .int .i64 (k : Int) ∧ l.take k = r.take k ∧ ∃ m, wr = w.drewN m) (fun i _ => l.length - (intOf i).toNat)
    case atStart => exact ⟨0, by omega, rfl, rfl, 0, rfl⟩
    case round =>
      obtain ⟨k, hk, rfl, hr, m, rfl⟩ := hrel
      have HR := Lib.hid hr; clear hr
      by_cases hc : k < l.length
      · have c1 : (k : Int) < (l.length : Int) := by omega
        have c0 : (0 : Int) ≤ (k : Int) := by omega
        have c2 : (k : Int) < (r.length : Int) := by have := HL.out; omega
        obtain ⟨⟨pk, pv⟩, hp⟩ : ∃ p, l[k]? = some p := ⟨_, List.getElem?_eq_getElem hc⟩
        obtain ⟨⟨qk, qv⟩, hq⟩ : ∃ p, r[k]? = some p := ⟨_, List.getElem?_eq_getElem (by omega)⟩
        obtain ⟨g, off, rfl, d0, d1⟩ := HP.out k _ hp
        obtain ⟨g', off', rfl, f0, f1⟩ := HQ.out k _ hq
        obtain ⟨w1, HW⟩ : ∃ w1, Hid (w.drewN m = w1) := ⟨_, rfl⟩
        replace d0 : w1.cell? ⟨g, off + k * 2, none⟩ = some (.string pk) := by rw [← HW.out]; exact d0
        replace d1 : w1.cell? ⟨g, off + k * 2 + 1, none⟩ = some (.string pv) := by rw [← HW.out]; exact d1
        replace f0 : w1.cell? ⟨g', off' + k * 2, none⟩ = some (.string qk) := by rw [← HW.out]; exact f0
        replace f1 : w1.cell? ⟨g', off' + k * 2 + 1, none⟩ = some (.string qv) := by rw [← HW.out]; exact f1
        rw [HW.out]
        have X1 := text_beq pk qk
        have X2 := text_beq pv qv
        by_cases he : pk = qk ∧ pv = qv
        · obtain ⟨rfl, rfl⟩ := he
          have HT := Lib.hid (show l.take (k + 1) = r.take (k + 1) by rw [List.take_add_one, List.take_add_one, HR.out, hp, hq])
          rw [decide_eq_true rfl] at X1 X2
          clear hp hq HP HQ
          go_wp2_with fail
          go_quiet (fail)
          go_wp2
          refine ⟨⟨k + 1, by omega, by go_num, HT.out, ?_⟩, by simp [intOf]; omega⟩
          rw [← HW.out, drewN_drewN]
          exact ⟨_, rfl⟩
        · have HF := Lib.hid (show decide (l = r) = false by
            rw [decide_eq_false_iff_not]; intro e; rw [e, hq] at hp; cases hp; exact he ⟨rfl, rfl⟩)
          clear hp hq HP HQ
          by_cases h1 : pk = qk
          · have h2 : ¬ pv = qv := fun h => he ⟨h1, h⟩
            subst h1
            rw [decide_eq_true rfl] at X1
            rw [decide_eq_false h2] at X2
            clear he h2
            go_wp2_with fail
            go_quiet (fail)
            go_wp2
            go_ret
            rw [HF.out, ← HW.out, drewN_drewN]
            exact ⟨rfl, _, rfl⟩
          · rw [decide_eq_false h1] at X1
            clear he h1 X2
            go_wp2_with fail
            go_quiet (fail)
            go_wp2
            go_ret
            rw [HF.out, ← HW.out, drewN_drewN]
            exact ⟨rfl, _, rfl⟩
      · obtain rfl : k = l.length := by omega
        have HF := Lib.hid (show decide (l = r) = true by
          have := HR.out; rw [List.take_length, HL.out, List.take_length] at this; rw [decide_eq_true_iff]; exact this)
        clear HR
        go_wp2
        go_ret
        rw [HF.out]
        exact ⟨rfl, m, rfl⟩
  · have hl1 : ((l.length : Int) != (r.length : Int)) = true := by rw [bne_iff_ne]; omega
    have HF := Lib.hid (show decide (l = r) = false by rw [decide_eq_false_iff_not]; intro e; exact hl (by rw [e]))
    clear hl
    go_enter Try.func52, Try.ntmps52
    go_wp2
    go_ret
    rw [HF.out]
    exact ⟨rfl, 0, rfl⟩
end Go.Proofs.Ytajbnfobmnibjaa
