/-
  Package leaf: the contracts of slices.Equal, Same.
-/
import Derived.Test.YtajbnfobmnibjaaD10l
namespace Go.Proofs.Ytajbnfobmnibjaa
open Go.RowKit

set_option maxRecDepth 100000 in
set_option maxHeartbeats 2000000 in
theorem equal10 (w : World) (a b : Option Addr) (l r : Prs) (C D : Nat) (hP : PairsAt w a l) (hQ : PairsAt w b r) (hn : l.length ≤ 1000000) (_hm : r.length ≤ 1000000) :
    Calls Try.prog 51 #[.slice a l.length C, .slice b r.length D] w fun e w' => e = .returned (.bool (decide (l = r))) ∧ ∃ m, w' = w.drewN m := by
  have HP := Lib.hid hP; have HQ := Lib.hid hQ
  clear hP hQ
  by_cases hl : l.length = r.length
  · have hl1 : ((l.length : Int) != (r.length : Int)) = false := by rw [bne_eq_false_iff_eq]; omega
    have HL := Lib.hid hl; clear hl
    go_enter Try.func51, Try.ntmps51
    go_wp2
    go_loopw [13] (fun i wr => ∃ k : Nat, k ≤ l.length ∧ i = .int .i64 (k : Int) ∧ l.take k = r.take k ∧ ∃ m, wr = w.drewN m) (fun i _ => l.length - (intOf i).toNat)
    case atStart => exact ⟨0, by omega, rfl, rfl, 0, rfl⟩
    case round =>
      obtain ⟨k, hk, rfl, hr, m, rfl⟩ := hrel
      have HR := Lib.hid hr; clear hr
      by_cases hc : k < l.length
      · have c1 : (k : Int) < (l.length : Int) := by omega
        have c0 : (0 : Int) ≤ (k : Int) := by omega
        have c2 : (k : Int) < (r.length : Int) := by have := HL.out; omega
        obtain ⟨⟨pk, pv⟩, hp⟩ : ∃ p, l[k]? = some p := ⟨_, List.getElem?_eq_getElem hc⟩
        obtain ⟨⟨qk, qv⟩, hq⟩ : ∃ p, r[k]? = some p := ⟨_, List.getElem?_eq_getElem (by omega)⟩
        obtain ⟨g, off, rfl, d0, d1⟩ := HP.out k _ hp
        obtain ⟨g', off', rfl, f0, f1⟩ := HQ.out k _ hq
        obtain ⟨w1, HW⟩ : ∃ w1, Hid (w.drewN m = w1) := ⟨_, rfl⟩
        replace d0 : w1.cell? ⟨g, off + k * 2, none⟩ = some (.string pk) := by rw [← HW.out]; exact d0
        replace d1 : w1.cell? ⟨g, off + k * 2 + 1, none⟩ = some (.string pv) := by rw [← HW.out]; exact d1
        replace f0 : w1.cell? ⟨g', off' + k * 2, none⟩ = some (.string qk) := by rw [← HW.out]; exact f0
        replace f1 : w1.cell? ⟨g', off' + k * 2 + 1, none⟩ = some (.string qv) := by rw [← HW.out]; exact f1
        rw [HW.out]
        have X1 := text_beq pk qk
        have X2 := text_beq pv qv
        by_cases he : pk = qk ∧ pv = qv
        · obtain ⟨rfl, rfl⟩ := he
          have HT := Lib.hid (show l.take (k + 1) = r.take (k + 1) by rw [List.take_add_one, List.take_add_one, HR.out, hp, hq])
          rw [decide_eq_true rfl] at X1 X2
          clear hp hq HP HQ
          go_wp2_with fail
          go_quiet (fail)
          go_wp2
          refine ⟨⟨k + 1, by omega, by go_num, HT.out, ?_⟩, by simp [intOf]; omega⟩
          rw [← HW.out, drewN_drewN]
          exact ⟨_, rfl⟩
        · have HF := Lib.hid (show decide (l = r) = false by
            rw [decide_eq_false_iff_not]; intro e; rw [e, hq] at hp; cases hp; exact he ⟨rfl, rfl⟩)
          clear hp hq HP HQ
          by_cases h1 : pk = qk
          · have h2 : ¬ pv = qv := fun h => he ⟨h1, h⟩
            subst h1
            rw [decide_eq_true rfl] at X1
            rw [decide_eq_false h2] at X2
            clear he h2
            go_wp2_with fail
            go_quiet (fail)
            go_wp2
            go_ret
            rw [HF.out, ← HW.out, drewN_drewN]
            exact ⟨rfl, _, rfl⟩
          · rw [decide_eq_false h1] at X1
            clear he h1 X2
            go_wp2_with fail
            go_quiet (fail)
            go_wp2
            go_ret
            rw [HF.out, ← HW.out, drewN_drewN]
            exact ⟨rfl, _, rfl⟩
      · obtain rfl : k = l.length := by omega
        have HF := Lib.hid (show decide (l = r) = true by
          have := HR.out; rw [List.take_length, HL.out, List.take_length] at this; rw [decide_eq_true_iff]; exact this)
        clear HR
        go_wp2
        go_ret
        rw [HF.out]
        exact ⟨rfl, m, rfl⟩
  · have hl1 : ((l.length : Int) != (r.length : Int)) = true := by rw [bne_iff_ne]; omega
    have HF := Lib.hid (show decide (l = r) = false by rw [decide_eq_false_iff_not]; intro e; exact hl (by rw [e]))
    clear hl
    go_enter Try.func51, Try.ntmps51
    go_wp2
    go_ret
    rw [HF.out]
    exact ⟨rfl, 0, rfl⟩

def sameL (x y : LfP) : Bool := decide (x.high = y.high) && (decide (x.next = y.next) && decide (x.pairs = y.pairs))
set_option maxRecDepth 100000 in
set_option maxHeartbeats 4000000 in
theorem same10 (a b : Option Addr) (C D : Nat) (x y : LfP) (w : World) (hP : PairsAt w a x.pairs) (hQ : PairsAt w b y.pairs) (hn : x.pairs.length ≤ 1000000) (hm : y.pairs.length ≤ 1000000) :
    Calls Try.prog 20 #[lfV a C x, lfV b D y] w fun e w' => e = .returned (.bool (sameL x y)) ∧ Below w.heap.size w w' := by
  have bA : Below w.heap.size w (w.alloc (.cells #[.slice a x.pairs.length C, .string x.high, .int .i64 x.next] 24)) := (Below.refl _ w).alloc (Nat.le_refl _) _
  have bB : Below w.heap.size w ((w.alloc (.cells #[.slice a x.pairs.length C, .string x.high, .int .i64 x.next] 24)).alloc (.cells #[.slice b y.pairs.length D, .string y.high, .int .i64 y.next] 24)) := bA.alloc bA.size _
  have e1 : (w.alloc (.cells #[.slice a x.pairs.length C, .string x.high, .int .i64 x.next] 24)).heap.size = w.heap.size + 1 := by simp
  have a1 := (At.new w #[.slice a x.pairs.length C, .string x.high, .int .i64 x.next] 24).reads ((Below.refl _ _).alloc (Nat.le_refl _) (.cells #[.slice b y.pairs.length D, .string y.high, .int .i64 y.next] 24))
  have a2 := At.new (w.alloc (.cells #[.slice a x.pairs.length C, .string x.high, .int .i64 x.next] 24)) #[.slice b y.pairs.length D, .string y.high, .int .i64 y.next] 24
  rw [e1] at a2
  have HB := Lib.hid bB; have H1 := Lib.hid a1; have H2 := Lib.hid a2
  clear bA bB e1 a1 a2
  have CE := Lib.hid (fun (W : World) (bb : Below w.heap.size w W) => equal10 W a b x.pairs y.pairs C D (hP.below bb) (hQ.below bb) hn hm)
  have X := text_beq x.high y.high
  unfold lfV sameL
  clear hP hQ hn hm
  generalize decide (x.pairs = y.pairs) = R at *
  by_cases h1 : x.high = y.high
  · rw [decide_eq_true h1] at X ⊢
    clear h1
    by_cases h2 : x.next = y.next
    · have Y : (x.next == y.next) = true := beq_iff_eq.2 h2
      rw [decide_eq_true h2]
      clear h2
      go_enter Try.func20, Try.ntmps20
      go_upto_region 1 with fail
      generalize ((w.alloc (.cells #[.slice a x.pairs.length C, .string x.high, .int .i64 x.next] 24)).alloc (.cells #[.slice b y.pairs.length D, .string y.high, .int .i64 y.next] 24)) = W1 at *
      have d0 : W1.cell? ⟨w.heap.size, 0, none⟩ = some (.slice a x.pairs.length C) := H1.out.cell 0
      have d1 : W1.cell? ⟨w.heap.size, 1, none⟩ = some (.string x.high) := H1.out.cell 1
      have d2 : W1.cell? ⟨w.heap.size, 2, none⟩ = some (.int .i64 x.next) := H1.out.cell 2
      have k0 : W1.cell? ⟨w.heap.size + 1, 0, none⟩ = some (.slice b y.pairs.length D) := H2.out.cell 0
      have k1 : W1.cell? ⟨w.heap.size + 1, 1, none⟩ = some (.string y.high) := H2.out.cell 1
      have k2 : W1.cell? ⟨w.heap.size + 1, 2, none⟩ = some (.int .i64 y.next) := H2.out.cell 2
      go_wp2_with fail
      refine (CE.out _ HB.out).mono ?_; rintro r W2 ⟨rfl, m, rfl⟩
      clear d0 d1 d2 k0 k1 k2 CE
      go_wp2_with fail
      go_ret
      exact ⟨rfl, HB.out.trans ((below_drewN10 W1 m).mono HB.out.size)⟩
    · have Y : (x.next == y.next) = false := beq_eq_false_iff_ne.2 h2
      rw [decide_eq_false h2]
      clear h2
      go_enter Try.func20, Try.ntmps20
      go_upto_region 1 with fail
      generalize ((w.alloc (.cells #[.slice a x.pairs.length C, .string x.high, .int .i64 x.next] 24)).alloc (.cells #[.slice b y.pairs.length D, .string y.high, .int .i64 y.next] 24)) = W1 at *
      have d0 : W1.cell? ⟨w.heap.size, 0, none⟩ = some (.slice a x.pairs.length C) := H1.out.cell 0
      have d1 : W1.cell? ⟨w.heap.size, 1, none⟩ = some (.string x.high) := H1.out.cell 1
      have d2 : W1.cell? ⟨w.heap.size, 2, none⟩ = some (.int .i64 x.next) := H1.out.cell 2
      have k0 : W1.cell? ⟨w.heap.size + 1, 0, none⟩ = some (.slice b y.pairs.length D) := H2.out.cell 0
      have k1 : W1.cell? ⟨w.heap.size + 1, 1, none⟩ = some (.string y.high) := H2.out.cell 1
      have k2 : W1.cell? ⟨w.heap.size + 1, 2, none⟩ = some (.int .i64 y.next) := H2.out.cell 2
      go_wp2_with fail
      go_ret
      exact ⟨rfl, HB.out⟩
  · rw [decide_eq_false h1] at X ⊢
    clear h1
    go_enter Try.func20, Try.ntmps20
    go_upto_region 1 with fail
    generalize ((w.alloc (.cells #[.slice a x.pairs.length C, .string x.high, .int .i64 x.next] 24)).alloc (.cells #[.slice b y.pairs.length D, .string y.high, .int .i64 y.next] 24)) = W1 at *
    have d0 : W1.cell? ⟨w.heap.size, 0, none⟩ = some (.slice a x.pairs.length C) := H1.out.cell 0
    have d1 : W1.cell? ⟨w.heap.size, 1, none⟩ = some (.string x.high) := H1.out.cell 1
    have d2 : W1.cell? ⟨w.heap.size, 2, none⟩ = some (.int .i64 x.next) := H1.out.cell 2
    have k0 : W1.cell? ⟨w.heap.size + 1, 0, none⟩ = some (.slice b y.pairs.length D) := H2.out.cell 0
    have k1 : W1.cell? ⟨w.heap.size + 1, 1, none⟩ = some (.string y.high) := H2.out.cell 1
    have k2 : W1.cell? ⟨w.heap.size + 1, 2, none⟩ = some (.int .i64 y.next) := H2.out.cell 2
    go_wp2_with fail
    go_ret
    exact ⟨rfl, HB.out⟩
end Go.Proofs.Ytajbnfobmnibjaa
