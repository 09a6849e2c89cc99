/-
  Package rec: the contract of Same (and of slices.Equal).
-/
import Derived.Test.YthnpkhejfcclcaaDoorD05c
namespace Go.Proofs.YthnpkhejfcclcaaDoor
open Go.RowKit

set_option maxRecDepth 100000 in
set_option maxHeartbeats 2000000 in
theorem equal_any (w : World) (a b : Option Addr) (l r : Prs) (C D : Nat) (hP : PairsAt w a l) (hQ : PairsAt w b r) (hn : l.length ≤ 1000000) (_hm : r.length ≤ 1000000) :
    Calls Tryd.prog 38 #[.slice a l.length C, .slice b r.length D] w fun e w' => e = .returned (.bool (decide (l = r))) ∧ ∃ m, w' = w.drewN m := by
  have HP := Lib.hid hP; have HQ := Lib.hid hQ
  clear hP hQ
  by_cases hl : l.length = r.length
  · have hl1 : ((l.length : Int) != (r.length : Int)) = false := by rw [bne_eq_false_iff_eq]; omega
    have HL := Lib.hid hl; clear hl
    go_enter Tryd.func38, Tryd.ntmps38
    go_wp2
    go_loopw [13] (fun i wr => ∃ k : Nat, k ≤ l.length ∧ i = .int .i64 (k : Int) ∧ l.take k = r.take k ∧ ∃ m, wr = w.drewN m) (fun i _ => l.length - (intOf i).toNat)
    case atStart => exact ⟨0, by omega, rfl, rfl, 0, rfl⟩
    case round =>
      obtain ⟨k, hk, rfl, hr, m, rfl⟩ := hrel
      have HR := Lib.hid hr; clear hr
      by_cases hc : k < l.length
      · have c1 : (k : Int) < (l.length : Int) := by omega
        have c0 : (0 : Int) ≤ (k : Int) := by omega
        have c2 : (k : Int) < (r.length : Int) := by have := HL.out; omega
        obtain ⟨⟨pk, pv⟩, hp⟩ : ∃ p, l[k]? = some p := ⟨_, List.getElem?_eq_getElem hc⟩
        obtain ⟨⟨qk, qv⟩, hq⟩ : ∃ p, r[k]? = some p := ⟨_, List.getElem?_eq_getElem (by omega)⟩
        obtain ⟨g, off, rfl, d0, d1⟩ := HP.out k _ hp
        obtain ⟨g', off', rfl, f0, f1⟩ := HQ.out k _ hq
        obtain ⟨w1, HW⟩ : ∃ w1, Hid (w.drewN m = w1) := ⟨_, rfl⟩
        replace d0 : w1.cell? ⟨g, off + k * 2, none⟩ = some (.string pk) := by rw [← HW.out]; exact d0
        replace d1 : w1.cell? ⟨g, off + k * 2 + 1, none⟩ = some (.string pv) := by rw [← HW.out]; exact d1
        replace f0 : w1.cell? ⟨g', off' + k * 2, none⟩ = some (.string qk) := by rw [← HW.out]; exact f0
        replace f1 : w1.cell? ⟨g', off' + k * 2 + 1, none⟩ = some (.string qv) := by rw [← HW.out]; exact f1
        rw [HW.out]
        have X1 := text_beq pk qk
        have X2 := text_beq pv qv
        by_cases he : pk = qk ∧ pv = qv
        · obtain ⟨rfl, rfl⟩ := he
          have HT := Lib.hid (show l.take (k + 1) = r.take (k + 1) by rw [List.take_add_one, List.take_add_one, HR.out, hp, hq])
          rw [decide_eq_true rfl] at X1 X2
          clear hp hq HP HQ
          go_wp2_with fail
          go_quiet (fail)
          go_wp2
          refine ⟨⟨k + 1, by omega, by go_num, HT.out, ?_⟩, by simp [intOf]; omega⟩
          rw [← HW.out, drewN_drewN]
          exact ⟨_, rfl⟩
        · have HF := Lib.hid (show decide (l = r) = false by
            rw [decide_eq_false_iff_not]; intro e; rw [e, hq] at hp; cases hp; exact he ⟨rfl, rfl⟩)
          clear hp hq HP HQ
          by_cases h1 : pk = qk
          · have h2 : ¬ pv = qv := fun h => he ⟨h1, h⟩
            subst h1
            rw [decide_eq_true rfl] at X1
            rw [decide_eq_false h2] at X2
            clear he h2
            go_wp2_with fail
            go_quiet (fail)
            go_wp2
            go_ret
            rw [HF.out, ← HW.out, drewN_drewN]
            exact ⟨rfl, _, rfl⟩
          · rw [decide_eq_false h1] at X1
            clear he h1 X2
            go_wp2_with fail
            go_quiet (fail)
            go_wp2
            go_ret
            rw [HF.out, ← HW.out, drewN_drewN]
            exact ⟨rfl, _, rfl⟩
      · obtain rfl : k = l.length := by omega
        have HF := Lib.hid (show decide (l = r) = true by
          have := HR.out; rw [List.take_length, HL.out, List.take_length] at this; rw [decide_eq_true_iff]; exact this)
        clear HR
        go_wp2
        go_ret
        rw [HF.out]
        exact ⟨rfl, m, rfl⟩
  · have hl1 : ((l.length : Int) != (r.length : Int)) = true := by rw [bne_iff_ne]; omega
    have HF := Lib.hid (show decide (l = r) = false by rw [decide_eq_false_iff_not]; intro e; exact hl (by rw [e]))
    clear hl
    go_enter Tryd.func38, Tryd.ntmps38
    go_wp2
    go_ret
    rw [HF.out]
    exact ⟨rfl, 0, rfl⟩

set_option maxRecDepth 100000 in
set_option maxHeartbeats 2000000 in
theorem same_any (w : World) (x y : RecP) (a b : Option Addr) (C D : Nat) (hP : PairsAt w a x.pairs) (hQ : PairsAt w b y.pairs) (hn : x.pairs.length ≤ 1000000) (hm : y.pairs.length ≤ 1000000) :
    Calls Tryd.prog 16 #[recV x a C, recV y b D] w fun e w' => e = .returned (.bool (sameB x y)) ∧ Below w.heap.size w w' := by
  obtain ⟨k, t, ke, va, pa, un, nu, pr⟩ := x
  obtain ⟨k', t', ke', va', pa', un', nu', pr'⟩ := y
  have E : sameB ⟨k, t, ke, va, pa, un, nu, pr⟩ ⟨k', t', ke', va', pa', un', nu', pr'⟩ = ((k == k') && ((t == t') && ((pa == pa') && ((un == un') && ((nu == nu') && ((ke.toList == ke'.toList) && ((va.toList == va'.toList) && decide (pr = pr')))))))) := by
    rw [Bool.eq_iff_iff, sameB_iff, recP_eq]
    simp only [Bool.and_eq_true, beq_iff_eq, text_beq, decide_eq_true_iff]
    constructor
    · rintro ⟨h1, h2, h3, h4, h5, h6, h7, h8⟩; exact ⟨h1, h2, h5, h6, h7, h3, h4, h8⟩
    · rintro ⟨h1, h2, h5, h6, h7, h3, h4, h8⟩; exact ⟨h1, h2, h3, h4, h5, h6, h7, h8⟩
  rw [E]
  clear E
  dsimp only [recV] at *
  have CP := Lib.hid (fun W (h : Below w.heap.size w W) => equal_any W a b pr pr' C D (hP.below h) (hQ.below h) hn hm)
  generalize decide (pr = pr') = R at *
  clear hP hQ
  cases h1 : (k == k') with
  | false =>
    go_enter Tryd.func16, Tryd.ntmps16
    go_wp2
    go_ret
    exact ⟨rfl, (((Below.refl _ w).alloc (Nat.le_refl _) _).alloc (by simp) _)⟩
  | true =>
    cases h2 : (t == t') with
    | false =>
      go_enter Tryd.func16, Tryd.ntmps16
      go_wp2
      go_ret
      exact ⟨rfl, (((Below.refl _ w).alloc (Nat.le_refl _) _).alloc (by simp) _)⟩
    | true =>
      cases h5 : (pa == pa') with
      | false =>
        go_enter Tryd.func16, Tryd.ntmps16
        go_wp2
        go_ret
        exact ⟨rfl, (((Below.refl _ w).alloc (Nat.le_refl _) _).alloc (by simp) _)⟩
      | true =>
        cases h6 : (un == un') with
        | false =>
          go_enter Tryd.func16, Tryd.ntmps16
          go_wp2
          go_ret
          exact ⟨rfl, (((Below.refl _ w).alloc (Nat.le_refl _) _).alloc (by simp) _)⟩
        | true =>
          cases h7 : (nu == nu') with
          | false =>
            go_enter Tryd.func16, Tryd.ntmps16
            go_wp2
            go_ret
            exact ⟨rfl, (((Below.refl _ w).alloc (Nat.le_refl _) _).alloc (by simp) _)⟩
          | true =>
            cases h3 : (ke.toList == ke'.toList) with
            | false =>
              go_enter Tryd.func16, Tryd.ntmps16
              go_wp2
              go_ret
              exact ⟨rfl, (((Below.refl _ w).alloc (Nat.le_refl _) _).alloc (by simp) _)⟩
            | true =>
              cases h4 : (va.toList == va'.toList) with
              | false =>
                go_enter Tryd.func16, Tryd.ntmps16
                go_wp2
                go_ret
                exact ⟨rfl, (((Below.refl _ w).alloc (Nat.le_refl _) _).alloc (by simp) _)⟩
              | true =>
                have hB := ((Below.refl w.heap.size w).alloc (Nat.le_refl _) (.cells #[.int .i64 k, .int .i64 t, .string ke, .string va, .int .i64 pa, .int .i64 un, .int .i64 nu, .slice a pr.length C] 24)).alloc (by simp) (.cells #[.int .i64 k', .int .i64 t', .string ke', .string va', .int .i64 pa', .int .i64 un', .int .i64 nu', .slice b pr'.length D] 24)
                have CC := Lib.hid (CP.out _ hB)
                have HB := Lib.hid hB
                clear hB CP
                go_enter Tryd.func16, Tryd.ntmps16
                go_wp2_with fail
                refine CC.out.mono ?_; rintro e w2 ⟨rfl, m, rfl⟩
                go_wp2
                go_ret
                exact ⟨rfl, HB.out.trans ((below_drew5 _ m).mono (by simp; omega))⟩
end Go.Proofs.YthnpkhejfcclcaaDoor
