/-
  The document's answer for layer 10 (budwoodref10): Size, weight; the law package's ref; Right.
-/
import Derived.Test.YtajbnfobmnibjaaA10
import Derived.Test.YtajbnfobmnibjaaC05a
import Derived.BigQuiet
namespace Go.Proofs.Ytajbnfobmnibjaa
open Go.RowKit

abbrev RLf : TypeId := 29
set_option maxRecDepth 100000 in
set_option maxHeartbeats 4000000 in
theorem dsize10 (a : Option Addr) (C : Nat) (l : LfP) (w : World) (hP : PairsAt w a l.pairs) (hh : l.high.size ≤ 1000000) (hw : wgt l.pairs ≤ 1000000) :
    Calls Try.prog 17 #[lfV a C l] w fun e w' => e = .returned (.int .i64 (sizeL l : Int)) ∧ Below w.heap.size w w' := by
  have hl := wgt_len l.pairs
  have X := Lib.hid (At.new w #[.slice a l.pairs.length C, .string l.high, .int .i64 l.next] 29)
  have hb := (Below.refl w.heap.size w).alloc (Nat.le_refl _) (.cells #[.slice a l.pairs.length C, .string l.high, .int .i64 l.next] 29)
  have HP := Lib.hid (hP.below hb)
  have HB := Lib.hid hb; have HW := Lib.hid hw
  have HL := Lib.hid hl
  have hs : (l.high.size : Int) ≤ 1000000 := by omega
  have HZ := Lib.hid (show sizeL l = 5 + l.high.size + wgt l.pairs from rfl)
  clear hb hP hw hl hh
  unfold lfV
  go_enter Try.func17, Try.ntmps17
  go_upto_region 1 with fail
  generalize w.alloc (.cells #[.slice a l.pairs.length C, .string l.high, .int .i64 l.next] 29) = W1 at *
  have d1 := X.out.cell 1
  simp only [List.getElem?_toArray, List.getElem?_cons_zero, List.getElem?_cons_succ] at d1
  go_wp2_with fail
  clear d1
  go_loopw [3, 4] (fun n i wr => ∃ k : Nat, k ≤ l.pairs.length ∧ i = .int .i64 (k : Int) ∧ n = .int .i64 ((5 + l.high.size + wgt (l.pairs.take k) : Nat) : Int) ∧ ∃ m, wr = W1.drewN m) (fun _ i _ => l.pairs.length - (intOf i).toNat)
  case atStart => exact ⟨0, by omega, rfl, by simp [wgt], 0, rfl⟩
  case round =>
    obtain ⟨k, hk, rfl, rfl, m, rfl⟩ := hrel
    have X2 := X.out.drewN m
    have c0 := X2.cell 0
    simp only [List.getElem?_toArray, List.getElem?_cons_zero, List.getElem?_cons_succ] at c0
    have hln := HL.out; have hwn := HW.out
    have k0 : (0 : Int) ≤ (k : Int) := by omega
    have k9 : (l.pairs.length : Int) ≤ 1000000 := by omega
    by_cases hc : k < l.pairs.length
    · have c1 : (k : Int) < (l.pairs.length : Int) := by omega
      obtain ⟨⟨pk, pv⟩, hp⟩ : ∃ p, l.pairs[k]? = some p := ⟨_, List.getElem?_eq_getElem hc⟩
      obtain ⟨g, off, rfl, d0, d1⟩ := HP.out k _ hp
      dsimp only at d0 d1
      have e := wgt_step l.pairs k _ hp
      have hle := wgt_take l.pairs (k + 1)
      unfold pairN at e
      dsimp only at e
      obtain ⟨z0, h0⟩ : ∃ z, 5 + l.high.size + wgt (l.pairs.take k) = z := ⟨_, rfl⟩
      obtain ⟨z3, h3⟩ : ∃ z, 5 + l.high.size + wgt (l.pairs.take (k + 1)) = z := ⟨_, rfl⟩
      rw [h0]
      have HZ3 := Lib.hid h3
      have u1 : ((z0 : Nat) : Int) + 2 = ((z0 + 2 : Nat) : Int) := by omega
      have u2 : ((z0 + 2 : Nat) : Int) + (pk.size : Int) = ((z0 + 2 + pk.size : Nat) : Int) := by omega
      have u3 : ((z0 + 2 + pk.size : Nat) : Int) + (pv.size : Int) = ((z3 : Nat) : Int) := by omega
      have v1 : ((z0 + 2 : Nat) : Int) ≤ 3000000 := by omega
      have v2 : ((z0 + 2 + pk.size : Nat) : Int) ≤ 3000000 := by omega
      have v3 : ((z3 : Nat) : Int) ≤ 3000000 := by omega
      replace d0 : (W1.drewN m).cell? ⟨g, off + k * 2, none⟩ = some (.string pk) := d0
      replace d1 : (W1.drewN m).cell? ⟨g, off + k * 2 + 1, none⟩ = some (.string pv) := d1
      obtain ⟨w1, HW1⟩ : ∃ w1, Hid (W1.drewN m = w1) := ⟨_, rfl⟩
      rw [HW1.out] at d0 d1 c0 ⊢
      clear hp e hle h0 h3 X2
      generalize z0 + 2 + pk.size = z2 at *
      generalize z0 + 2 = z1 at *
      have w1' : IntKind.i64.wrap ((z1 : Nat) : Int) = (z1 : Int) := by rw [IntKind.wrap_i64]; omega
      have w2' : IntKind.i64.wrap ((z2 : Nat) : Int) = (z2 : Int) := by rw [IntKind.wrap_i64]; omega
      have w3' : IntKind.i64.wrap ((z3 : Nat) : Int) = (z3 : Int) := by rw [IntKind.wrap_i64]; omega
      go_wp2_with fail
      go_quiet (fail)
      go_wp2
      refine ⟨⟨k + 1, by omega, by go_num, by rw [HZ3.out], ?_⟩, by simp [intOf]; omega⟩
      rw [← HW1.out, drewN_drewN]
      exact ⟨_, rfl⟩
    · obtain rfl : k = l.pairs.length := by omega
      go_wp2_with fail
      go_ret
      refine ⟨by rw [HZ.out, List.take_length]; rfl, HB.out.trans ((below_drewN W1 m).mono HB.out.size)⟩
theorem dweight10 (a : Option Addr) (C : Nat) (l : Prs) (w : World) (hP : PairsAt w a l) (hw : wgt l ≤ 1000000) :
    Calls Try.prog 45 #[.slice a l.length C] w fun e w' => e = .returned (.int .i64 (wgt l : Int)) ∧ Below w.heap.size w w' := by
  have C1 := Lib.hid (dsize10 a C ⟨l, ⟨#[]⟩, 0⟩ w hP (by show (⟨#[]⟩ : ByteArray).size ≤ 1000000; decide) hw)
  have hz : sizeL ⟨l, ⟨#[]⟩, 0⟩ = 5 + wgt l := by unfold sizeL; simp only; rw [show (⟨#[]⟩ : ByteArray).size = 0 from rfl]
  rw [hz] at C1
  clear hz
  have u1 : ((5 + wgt l : Nat) : Int) - 5 = ((wgt l : Nat) : Int) := by omega
  have u2 : ((wgt l : Nat) : Int) ≤ 1000000 := by omega
  generalize wgt l = z at *
  unfold lfV at C1
  go_enter Try.func45, Try.ntmps45
  go_wp2_with fail
  refine C1.out.mono ?_; rintro e w1 ⟨rfl, b⟩
  have HB := Lib.hid b
  clear b C1
  go_wp2_with fail
  go_ret
  exact ⟨by show Ending.returned (Value.int IntKind.i64 (5 + (z : Int) - 5)) = _; rw [show (5 + (z : Int) - 5) = z by omega], HB.out⟩
theorem dref10 (a : Option Addr) (C : Nat) (l : LfP) (w : World) :
    Calls Try.prog 15 #[lfV a C l] w fun e w' => e = .returned (lfV a C l) ∧ Below w.heap.size w w' := by
  have X := At.new w #[.slice a l.pairs.length C, .string l.high, .int .i64 l.next] 24
  have b := (Below.refl w.heap.size w).alloc (Nat.le_refl _) (.cells #[.slice a l.pairs.length C, .string l.high, .int .i64 l.next] 24)
  have Y := At.new (w.alloc (.cells #[.slice a l.pairs.length C, .string l.high, .int .i64 l.next] 24)) #[.slice none 0 0, .string ⟨#[]⟩, .int .i64 0] 29
  have b2 := (Below.refl (w.alloc (.cells #[.slice a l.pairs.length C, .string l.high, .int .i64 l.next] 24)).heap.size _).alloc (Nat.le_refl _) (.cells #[.slice none 0 0, .string ⟨#[]⟩, .int .i64 0] 29)
  have X := X.reads b2
  rw [show (w.alloc (.cells #[.slice a l.pairs.length C, .string l.high, .int .i64 l.next] 24)).heap.size = w.heap.size + 1 by simp] at Y b2
  have HB := Lib.hid (b.trans (b2.mono (Nat.le_succ _)))
  have X := Lib.hid X; have Y := Lib.hid Y
  clear b b2
  unfold lfV
  go_enter Try.func15, Try.ntmps15
  go_upto_region 1 with fail
  generalize (w.alloc (.cells #[.slice a l.pairs.length C, .string l.high, .int .i64 l.next] 24)).alloc (.cells #[.slice none 0 0, .string ⟨#[]⟩, .int .i64 0] 29) = W1 at *
  have c0 := X.out.cell 0; have c1 := X.out.cell 1; have c2 := X.out.cell 2
  have d0 := Y.out.cell 0; have d1 := Y.out.cell 1; have d2 := Y.out.cell 2
  have z0 := Y.out.fz 0; have z1 := Y.out.fz 1; have z2 := Y.out.fz 2
  have D := Y.out.put3 (u := .slice a l.pairs.length C) (v := .string l.high) (t := .int .i64 l.next)
  have BF := Lib.hid (below_put3 (u := .slice a l.pairs.length C) (v := .string l.high) (t := .int .i64 l.next) HB.out (Nat.le_succ _))
  have f0 := D.cell 0; have f1 := D.cell 1; have f2 := D.cell 2
  simp only [List.getElem?_toArray, List.getElem?_cons_zero, List.getElem?_cons_succ] at c0 c1 c2 d0 d1 d2 f0 f1 f2
  clear D X Y HB
  go_wp2_with fail
  refine bodyPost_ret (v := .agg #[.slice a l.pairs.length C, .string l.high, .int .i64 l.next]) ?_ rfl ⟨rfl, BF.out⟩
  simp [results, Try.results15, go_sem, f0, f1, f2]
/-- what the document's Right looks at, one by one -/
theorem right_parts {l : LfP} (h1 : risesB l.pairs = true) (h2 : l.high = noB ∨ ∀ p ∈ l.pairs, lessB p.1 l.high = true) :
    rightL l = (decide (l.high.size ≤ 16) && (decide (0 ≤ l.next) && (decide (l.next ≤ 1024) && decide (wgt l.pairs ≤ 231)))) := by
  have hr := (rises_iff _).1 h1
  have hh : highB l = decide (l.high.size ≤ 16) := by
    unfold highB
    rcases h2 with h | h
    · rw [h]; rfl
    · by_cases hn : l.high = noB
      · rw [hn]; rfl
      · rw [decide_eq_false hn, (lastB_iff hr _).2 h, Bool.and_true, Bool.false_or]
        unfold keyB
        have : 1 ≤ l.high.size := by
          rcases Nat.eq_zero_or_pos l.high.size with e | e
          · have h5 : l.high.data.toList = [] := List.eq_nil_of_length_eq_zero (by rw [← Lib.size_eq]; exact e)
            exact absurd (ba_ext (h5.trans rfl)) hn
          · exact e
        simp [this]
  unfold rightL
  rw [h1, hh]
  cases decide (l.high.size ≤ 16) <;> cases decide (0 ≤ l.next) <;> cases decide (l.next ≤ 1024) <;> cases decide (wgt l.pairs ≤ 231) <;> rfl
theorem right_norise {l : LfP} (h : risesB l.pairs = false) : rightL l = false := by unfold rightL; rw [h]; simp
theorem right_nohigh {l : LfP} {p : ByteArray × ByteArray} (hp : p ∈ l.pairs) (hn : ¬ l.high = noB) (h : lessB p.1 l.high = false) : rightL l = false := by
  cases hr : rightL l with
  | false => rfl
  | true =>
    rcases rightL_highs hr with e | ⟨_, e⟩
    · exact absurd e hn
    · have := (lastB_iff (rightL_rise hr) _).1 e p hp
      rw [h] at this; cases this
end Go.Proofs.Ytajbnfobmnibjaa
