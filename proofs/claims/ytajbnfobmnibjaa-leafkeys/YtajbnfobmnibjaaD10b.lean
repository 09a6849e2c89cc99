/-
  Package leaf: the contracts of rightPairs, rightHigh, Right, Size.
-/
import Derived.Test.YtajbnfobmnibjaaD10a
import Derived.Test.YtajbnfobmnibjaaO10
namespace Go.Proofs.Ytajbnfobmnibjaa
open Go.RowKit

/-- the last key of the first k pairs -/
def lastKey10 (l : Prs) : Nat → ByteArray
  | 0 => ⟨#[]⟩
  | k + 1 => (l[k]?.map (·.1)).getD ⟨#[]⟩
theorem rises_step10 (l : Prs) (k : Nat) (p : ByteArray × ByteArray) (hp : l[k]? = some p) (hr : risesB (l.take k) = true) : risesB (l.take (k + 1)) = (keyB p.1 && (valB p.2 && lessB (lastKey10 l k) p.1)) := by
  cases k with
  | zero =>
    rw [rises_zero l _ hp]
    cases hk : keyB p.1 with
    | false => rfl
    | true => simp [lastKey10, show lessB ⟨#[]⟩ p.1 = true from less_no _ hk]
  | succ k =>
    obtain ⟨q, hq⟩ : ∃ q, l[k]? = some q := ⟨_, List.getElem?_eq_getElem (by have := (List.getElem?_eq_some_iff.1 hp).1; omega)⟩
    rw [rises_next l k q _ hq hp, hr]
    simp [lastKey10, hq, Bool.and_assoc]
set_option maxRecDepth 100000 in
set_option maxHeartbeats 2000000 in
theorem rightPairs10 (a : Option Addr) (C : Nat) (pr : Prs) (w : World) (hP : PairsAt w a pr) (hS : SmallP pr) (hn : pr.length ≤ 1000000) :
    Calls Try.prog 43 #[.slice a pr.length C] w fun e w' => e = .returned (.bool (risesB pr)) ∧ Below w.heap.size w w' := by
  have HP := Lib.hid hP; have HS := Lib.hid hS
  clear hP hS
  go_enter Try.func43, Try.ntmps43
  go_wp2
  go_loopw [3, 8] (fun la i wr => ∃ k : Nat, k ≤ pr.length ∧ i = .int .i64 (k : Int) ∧ la = .string (lastKey10 pr k) ∧ risesB (pr.take k) = true ∧ Below w.heap.size w wr) (fun _ i _ => pr.length - (intOf i).toNat)
  case atStart => exact ⟨0, by omega, rfl, rfl, rfl, Below.refl _ _⟩
  case round =>
    obtain ⟨k, hk, rfl, rfl, hr, bel⟩ := hrel
    have HR := Lib.hid hr; have HW := Lib.hid bel
    clear hr bel
    by_cases hc : k < pr.length
    · have c1 : (k : Int) < (pr.length : Int) := by omega
      have c0 : (0 : Int) ≤ (k : Int) := by omega
      obtain ⟨⟨pk, pv⟩, hp⟩ : ∃ p, pr[k]? = some p := ⟨_, List.getElem?_eq_getElem hc⟩
      obtain ⟨s1, s2⟩ := HS.out _ (List.mem_of_getElem? hp)
      obtain ⟨g, off, rfl, d0, d1⟩ := HP.out.below HW.out k _ hp
      dsimp only at s1 s2 d0 d1
      have HN := Lib.hid (rises_step10 pr k _ hp HR.out)
      have HL := Lib.hid (show lastKey10 pr (k + 1) = pk by simp [lastKey10, hp])
      have CK := fun W => key10 pk W s1
      have CV := fun W => value10 pv W s2
      have X := leq10 pk (lastKey10 pr k)
      dsimp only at HN
      generalize lastKey10 pr k = la at *
      have HB2 := Lib.hid (HW.out.trans (((Below.refl wr.heap.size wr).alloc (Nat.le_refl _) (.cells #[.string pk, .string pv] 44)).mono HW.out.size))
      have HF : Hid (risesB (pr.take (k + 1)) = false → risesB pr = false) := fun h => rises_bad pr (k + 1) h
      clear hp
      cases hkb : keyB pk with
      | false =>
        rw [hkb] at CK HN
        have HF2 := Lib.hid (HF.out HN.out)
        have HK := Lib.hid CK; clear CK CV X hkb HF HN
        go_wp2_with fail
        refine (HK.out _).mono ?_; rintro e w1 ⟨rfl, rfl⟩
        go_wp2
        go_ret
        rw [HF2.out]
        exact ⟨rfl, HB2.out⟩
      | true =>
        rw [hkb] at CK HN
        cases hvb : valB pv with
        | false =>
          rw [hvb] at CV HN
          have HF2 := Lib.hid (HF.out HN.out)
          have HK := Lib.hid CK; have HV := Lib.hid CV; clear CK CV X hkb hvb HF HN
          go_wp2_with fail
          refine (HK.out _).mono ?_; rintro e w1 ⟨rfl, rfl⟩
          go_wp2_with fail
          refine (HV.out _).mono ?_; rintro e w1 ⟨rfl, rfl⟩
          go_wp2
          go_ret
          rw [HF2.out]
          exact ⟨rfl, HB2.out⟩
        | true =>
          rw [hvb] at CV HN
          cases hlb : lessB la pk with
          | false =>
            rw [hlb] at X HN
            have HF2 := Lib.hid (HF.out HN.out)
            have HK := Lib.hid CK; have HV := Lib.hid CV; clear CK CV hkb hvb HF HN hlb
            go_wp2_with fail
            refine (HK.out _).mono ?_; rintro e w1 ⟨rfl, rfl⟩
            go_wp2_with fail
            refine (HV.out _).mono ?_; rintro e w1 ⟨rfl, rfl⟩
            go_wp2
            go_ret
            rw [HF2.out]
            exact ⟨rfl, HB2.out⟩
          | true =>
            rw [hlb] at X HN
            have HK := Lib.hid CK; have HV := Lib.hid CV; clear CK CV hkb hvb HF hlb
            go_wp2_with fail
            refine (HK.out _).mono ?_; rintro e w1 ⟨rfl, rfl⟩
            go_wp2_with fail
            refine (HV.out _).mono ?_; rintro e w1 ⟨rfl, rfl⟩
            go_wp2
            exact ⟨⟨k + 1, by omega, by go_num, by rw [HL.out], HN.out, HB2.out⟩, by simp [intOf]; omega⟩
    · obtain rfl : k = pr.length := by omega
      have HF := Lib.hid (show risesB pr = true by have := HR.out; rwa [List.take_length] at this)
      clear HR
      go_wp2
      go_ret
      rw [HF.out]
      exact ⟨rfl, HW.out⟩

theorem below_drewN10 (w : World) (q : Nat) : Below w.heap.size w (w.drewN q) := ⟨rfl, rfl, rfl, Nat.le_refl _, fun _ _ => rfl⟩
theorem lastB_get {pr : Prs} (h : 0 < pr.length) (s : ByteArray) : ∃ p, pr[pr.length - 1]? = some p ∧ lastB pr s = lessB p.1 s := by
  refine ⟨pr[pr.length - 1], List.getElem?_eq_getElem (by omega), ?_⟩
  unfold lastB
  rw [List.getLast?_eq_getElem?, List.getElem?_eq_getElem (by omega)]
set_option maxRecDepth 100000 in
set_option maxHeartbeats 4000000 in
theorem rightHigh10 (a : Option Addr) (C : Nat) (l : LfP) (w : World) (hP : PairsAt w a l.pairs) (hS : l.high.size ≤ 1000000) (hn : l.pairs.length ≤ 1000000) :
    Calls Try.prog 44 #[lfV a C l] w fun e w' => e = .returned (.bool (highB l)) ∧ Below w.heap.size w w' := by
  have HB := Lib.hid (box10 w a C l)
  have X := empty10 l.high
  have CK := fun W => key10 l.high W hS
  unfold lfV at *
  by_cases h0 : l.high = noB
  · have e : highB l = true := by unfold highB; rw [decide_eq_true h0]; rfl
    rw [e]
    rw [decide_eq_true h0] at X
    clear hP CK e h0
    generalize l.high = hi at *
    go_enter Try.func44, Try.ntmps44
    go_wp2_with fail
    go_ret
    exact ⟨rfl, HB.out⟩
  · rw [decide_eq_false h0] at X
    have e : highB l = (keyB l.high && lastB l.pairs l.high) := by unfold highB; rw [decide_eq_false h0]; rfl
    rw [e]
    clear e h0
    have HAt := Lib.hid (At.new w #[.slice a l.pairs.length C, .string l.high, .int .i64 l.next] 24)
    have HP := Lib.hid (hP.below HB.out)
    clear hP hS
    generalize hWW : w.alloc (.cells #[.slice a l.pairs.length C, .string l.high, .int .i64 l.next] 24) = W1 at *
    have HWW := Lib.hid hWW
    have HSZ := Lib.hid HB.out.size
    clear hWW
    have d0 : W1.cell? ⟨w.heap.size, 0, none⟩ = some (.slice a l.pairs.length C) := HAt.out.cell 0
    have d1 : W1.cell? ⟨w.heap.size, 1, none⟩ = some (.string l.high) := HAt.out.cell 1
    cases hk : keyB l.high with
    | false =>
      rw [hk] at CK
      have HK := Lib.hid CK
      clear CK hk HP
      generalize l.high = hi at *
      generalize l.pairs.length = n at *
      go_enter Try.func44, Try.ntmps44
      go_upto_region 1 with fail
      rw [HWW.out]
      go_wp2_with fail
      go_quiet ((go_at_call 56; exact Calls.quiet_of_same ((HK.out _).mono (fun e w' h => ⟨h.1, h.2.symm⟩))))
      go_wp2_with fail
      go_ret
      exact ⟨rfl, HB.out.trans ((below_drewN10 W1 nq).mono HSZ.out)⟩
    | true =>
      rw [hk] at CK
      have HK := Lib.hid CK
      clear CK hk
      rcases Nat.eq_zero_or_pos l.pairs.length with h0 | h0
      · have e : lastB l.pairs l.high = true := by rw [List.eq_nil_of_length_eq_zero h0]; rfl
        rw [e]
        rw [h0] at d0
        have HH0 := Lib.hid h0
        clear e h0 HP
        generalize l.high = hi at *
        generalize l.pairs.length = n at *
        obtain rfl := HH0.out
        go_enter Try.func44, Try.ntmps44
        go_upto_region 1 with fail
        rw [HWW.out]
        go_wp2_with fail
        go_quiet ((go_at_call 56; exact Calls.quiet_of_same ((HK.out _).mono (fun e w' h => ⟨h.1, h.2.symm⟩))))
        go_wp2_with fail
        go_ret
        exact ⟨rfl, HB.out.trans ((below_drewN10 W1 nq).mono HSZ.out)⟩
      · obtain ⟨p, hp, hl⟩ := lastB_get h0 l.high
        obtain ⟨g, off, rfl, c0, c1⟩ := HP.out _ p hp
        rw [hl]
        obtain ⟨m, hm⟩ : ∃ m, l.pairs.length - 1 = m := ⟨_, rfl⟩
        rw [hm] at c0
        have m1 : (l.pairs.length : Int) - 1 = (m : Int) := by omega
        have m2 : ((l.pairs.length : Int) == 0) = false := by rw [beq_eq_false_iff_ne]; omega
        have m3 : (m : Int) < (l.pairs.length : Int) := by omega
        have m4 : (0 : Int) ≤ (m : Int) := by omega
        have m5 : (l.pairs.length : Int) ≤ 1000000 := by omega
        have L := lss10 p.1 l.high
        clear hp hl hm h0 c1 HP
        generalize l.high = hi at *
        generalize l.pairs.length = n at *
        generalize p.1 = pk at *
        generalize lessB pk hi = lb at *
        go_enter Try.func44, Try.ntmps44
        go_upto_region 1 with fail
        rw [HWW.out]
        go_wp2_with fail
        go_quiet ((go_at_call 56; exact Calls.quiet_of_same ((HK.out _).mono (fun e w' h => ⟨h.1, h.2.symm⟩))))
        go_wp2_with fail
        go_ret
        exact ⟨rfl, HB.out.trans ((below_drewN10 W1 nq).mono HSZ.out)⟩
/-- a leaf may be -/
theorem right10 (a : Option Addr) (C : Nat) (l : LfP) (w : World) (hP : PairsAt w a l.pairs) (hS : SmallP l.pairs) (hh : l.high.size ≤ 1000000) (hw : wgt l.pairs ≤ 1000000) :
    Calls Try.prog 13 #[lfV a C l] w fun e w' => e = .returned (.bool (rightL l)) ∧ Below w.heap.size w w' := by
  have hn : l.pairs.length ≤ 1000000 := by have := wgt_len l.pairs; omega
  have HB := Lib.hid (box10 w a C l)
  have HAt := Lib.hid (At.new w #[.slice a l.pairs.length C, .string l.high, .int .i64 l.next] 24)
  have C1 := Lib.hid (fun (W : World) (b : Below w.heap.size w W) => hasRoom10 a C l W (hP.below b) hw)
  have C2 := Lib.hid (fun (W : World) (b : Below w.heap.size w W) => rightPairs10 a C l.pairs W (hP.below b) hS hn)
  have C3 := Lib.hid (fun (W : World) (b : Below w.heap.size w W) => rightHigh10 a C l W (hP.below b) hh hn)
  rw [show rightL l = (decide (wgt l.pairs ≤ 231) && (risesB l.pairs && (highB l && (decide (0 ≤ l.next) && decide (l.next ≤ 1024))))) from rfl]
  clear hP hS hh hw hn
  have hn : (decide (0 ≤ l.next) = true ∧ 0 ≤ l.next) ∨ (decide (0 ≤ l.next) = false ∧ ¬ 0 ≤ l.next) := by
    by_cases n0 : 0 ≤ l.next
    · exact .inl ⟨decide_eq_true n0, n0⟩
    · exact .inr ⟨decide_eq_false n0, n0⟩
  have hm : (decide (l.next ≤ 1024) = true ∧ l.next ≤ 1024) ∨ (decide (l.next ≤ 1024) = false ∧ ¬ l.next ≤ 1024) := by
    by_cases n0 : l.next ≤ 1024
    · exact .inl ⟨decide_eq_true n0, n0⟩
    · exact .inr ⟨decide_eq_false n0, n0⟩
  generalize decide (wgt l.pairs ≤ 231) = x1 at *
  generalize risesB l.pairs = x2 at *
  generalize highB l = x3 at *
  generalize decide (0 ≤ l.next) = x4 at *
  generalize decide (l.next ≤ 1024) = x5 at *
  have hX : x1 = false ∨ (x1 = true ∧ x2 = false) ∨ (x1 = true ∧ x2 = true ∧ x3 = false) ∨ (x1 = true ∧ x2 = true ∧ x3 = true) := by
    cases x1 <;> cases x2 <;> cases x3 <;> simp
  unfold lfV at *
  have HH := Lib.hid hn; have HM := Lib.hid hm
  clear hn hm
  rcases hX with rfl | ⟨rfl, rfl⟩ | ⟨rfl, rfl, rfl⟩ | ⟨rfl, rfl, rfl⟩
  · go_enter Try.func13, Try.ntmps13
    go_upto_region 1 with fail
    generalize w.alloc (.cells #[.slice a l.pairs.length C, .string l.high, .int .i64 l.next] 24) = W1 at *
    have d0 : W1.cell? ⟨w.heap.size, 0, none⟩ = some (.slice a l.pairs.length C) := HAt.out.cell 0
    have d1 : W1.cell? ⟨w.heap.size, 1, none⟩ = some (.string l.high) := HAt.out.cell 1
    have d2 : W1.cell? ⟨w.heap.size, 2, none⟩ = some (.int .i64 l.next) := HAt.out.cell 2
    go_wp2_with fail
    refine (C1.out _ HB.out).mono ?_; rintro r W2 ⟨rfl, b2⟩
    have HB2 := Lib.hid (HB.out.trans (b2.mono HB.out.size)); have HA2 := Lib.hid (HAt.out.reads b2)
    clear b2 d0 d1 d2 HAt C1
    have d0 : W2.cell? ⟨w.heap.size, 0, none⟩ = some (.slice a l.pairs.length C) := HA2.out.cell 0
    have d1 : W2.cell? ⟨w.heap.size, 1, none⟩ = some (.string l.high) := HA2.out.cell 1
    have d2 : W2.cell? ⟨w.heap.size, 2, none⟩ = some (.int .i64 l.next) := HA2.out.cell 2
    go_wp2_with fail
    go_ret
    exact ⟨rfl, HB2.out⟩
  · go_enter Try.func13, Try.ntmps13
    go_upto_region 1 with fail
    generalize w.alloc (.cells #[.slice a l.pairs.length C, .string l.high, .int .i64 l.next] 24) = W1 at *
    have d0 : W1.cell? ⟨w.heap.size, 0, none⟩ = some (.slice a l.pairs.length C) := HAt.out.cell 0
    have d1 : W1.cell? ⟨w.heap.size, 1, none⟩ = some (.string l.high) := HAt.out.cell 1
    have d2 : W1.cell? ⟨w.heap.size, 2, none⟩ = some (.int .i64 l.next) := HAt.out.cell 2
    go_wp2_with fail
    refine (C1.out _ HB.out).mono ?_; rintro r W2 ⟨rfl, b2⟩
    have HB2 := Lib.hid (HB.out.trans (b2.mono HB.out.size)); have HA2 := Lib.hid (HAt.out.reads b2)
    clear b2 d0 d1 d2 HAt C1
    have d0 : W2.cell? ⟨w.heap.size, 0, none⟩ = some (.slice a l.pairs.length C) := HA2.out.cell 0
    have d1 : W2.cell? ⟨w.heap.size, 1, none⟩ = some (.string l.high) := HA2.out.cell 1
    have d2 : W2.cell? ⟨w.heap.size, 2, none⟩ = some (.int .i64 l.next) := HA2.out.cell 2
    go_wp2_with fail
    refine (C2.out _ HB2.out).mono ?_; rintro r W3 ⟨rfl, b3⟩
    have HB3 := Lib.hid (HB2.out.trans (b3.mono HB2.out.size))
    clear b3 d0 d1 d2 HA2 C2 HB2
    go_wp2_with fail
    go_ret
    exact ⟨rfl, HB3.out⟩
  · go_enter Try.func13, Try.ntmps13
    go_upto_region 1 with fail
    generalize w.alloc (.cells #[.slice a l.pairs.length C, .string l.high, .int .i64 l.next] 24) = W1 at *
    have d0 : W1.cell? ⟨w.heap.size, 0, none⟩ = some (.slice a l.pairs.length C) := HAt.out.cell 0
    have d1 : W1.cell? ⟨w.heap.size, 1, none⟩ = some (.string l.high) := HAt.out.cell 1
    have d2 : W1.cell? ⟨w.heap.size, 2, none⟩ = some (.int .i64 l.next) := HAt.out.cell 2
    go_wp2_with fail
    refine (C1.out _ HB.out).mono ?_; rintro r W2 ⟨rfl, b2⟩
    have HB2 := Lib.hid (HB.out.trans (b2.mono HB.out.size)); have HA2 := Lib.hid (HAt.out.reads b2)
    clear b2 d0 d1 d2 HAt C1
    have d0 : W2.cell? ⟨w.heap.size, 0, none⟩ = some (.slice a l.pairs.length C) := HA2.out.cell 0
    have d1 : W2.cell? ⟨w.heap.size, 1, none⟩ = some (.string l.high) := HA2.out.cell 1
    have d2 : W2.cell? ⟨w.heap.size, 2, none⟩ = some (.int .i64 l.next) := HA2.out.cell 2
    go_wp2_with fail
    refine (C2.out _ HB2.out).mono ?_; rintro r W3 ⟨rfl, b3⟩
    have HB3 := Lib.hid (HB2.out.trans (b3.mono HB2.out.size)); have HA3 := Lib.hid (HA2.out.reads b3)
    clear b3 d0 d1 d2 HA2 C2 HB2
    have d0 : W3.cell? ⟨w.heap.size, 0, none⟩ = some (.slice a l.pairs.length C) := HA3.out.cell 0
    have d1 : W3.cell? ⟨w.heap.size, 1, none⟩ = some (.string l.high) := HA3.out.cell 1
    have d2 : W3.cell? ⟨w.heap.size, 2, none⟩ = some (.int .i64 l.next) := HA3.out.cell 2
    go_wp2_with fail
    refine (C3.out _ HB3.out).mono ?_; rintro r W4 ⟨rfl, b4⟩
    have HB4 := Lib.hid (HB3.out.trans (b4.mono HB3.out.size))
    clear b4 d0 d1 d2 HA3 C3 HB3
    go_wp2_with fail
    go_ret
    exact ⟨rfl, HB4.out⟩
  · go_enter Try.func13, Try.ntmps13
    go_upto_region 1 with fail
    generalize w.alloc (.cells #[.slice a l.pairs.length C, .string l.high, .int .i64 l.next] 24) = W1 at *
    have d0 : W1.cell? ⟨w.heap.size, 0, none⟩ = some (.slice a l.pairs.length C) := HAt.out.cell 0
    have d1 : W1.cell? ⟨w.heap.size, 1, none⟩ = some (.string l.high) := HAt.out.cell 1
    have d2 : W1.cell? ⟨w.heap.size, 2, none⟩ = some (.int .i64 l.next) := HAt.out.cell 2
    go_wp2_with fail
    refine (C1.out _ HB.out).mono ?_; rintro r W2 ⟨rfl, b2⟩
    have HB2 := Lib.hid (HB.out.trans (b2.mono HB.out.size)); have HA2 := Lib.hid (HAt.out.reads b2)
    clear b2 d0 d1 d2 HAt C1
    have d0 : W2.cell? ⟨w.heap.size, 0, none⟩ = some (.slice a l.pairs.length C) := HA2.out.cell 0
    have d1 : W2.cell? ⟨w.heap.size, 1, none⟩ = some (.string l.high) := HA2.out.cell 1
    have d2 : W2.cell? ⟨w.heap.size, 2, none⟩ = some (.int .i64 l.next) := HA2.out.cell 2
    go_wp2_with fail
    refine (C2.out _ HB2.out).mono ?_; rintro r W3 ⟨rfl, b3⟩
    have HB3 := Lib.hid (HB2.out.trans (b3.mono HB2.out.size)); have HA3 := Lib.hid (HA2.out.reads b3)
    clear b3 d0 d1 d2 HA2 C2 HB2
    have d0 : W3.cell? ⟨w.heap.size, 0, none⟩ = some (.slice a l.pairs.length C) := HA3.out.cell 0
    have d1 : W3.cell? ⟨w.heap.size, 1, none⟩ = some (.string l.high) := HA3.out.cell 1
    have d2 : W3.cell? ⟨w.heap.size, 2, none⟩ = some (.int .i64 l.next) := HA3.out.cell 2
    go_wp2_with fail
    refine (C3.out _ HB3.out).mono ?_; rintro r W4 ⟨rfl, b4⟩
    have HB4 := Lib.hid (HB3.out.trans (b4.mono HB3.out.size)); have HA4 := Lib.hid (HA3.out.reads b4)
    clear b4 d0 d1 d2 HA3 C3 HB3
    have d2 : W4.cell? ⟨w.heap.size, 2, none⟩ = some (.int .i64 l.next) := HA4.out.cell 2
    rcases HH.out with ⟨rfl, n0⟩ | ⟨rfl, n0⟩
    · rcases HM.out with ⟨rfl, n1⟩ | ⟨rfl, n1⟩
      all_goals
        go_wp2_with fail
        go_ret
        exact ⟨by first | rfl | (simp; done) | (simp; omega), HB4.out⟩
    · go_wp2_with fail
      go_ret
      exact ⟨by first | rfl | (simp; done), HB4.out⟩
/-- a leaf's size -/
theorem size10 (a : Option Addr) (C : Nat) (l : LfP) (w : World) (hP : PairsAt w a l.pairs) (hh : l.high.size ≤ 1000000) (hw : wgt l.pairs ≤ 1000000) :
    Calls Try.prog 16 #[lfV a C l] w fun e w' => e = .returned (.int .i64 (sizeL l : Int)) ∧ Below w.heap.size w w' := by
  have HB := Lib.hid (box10 w a C l)
  have hC := fun (W : World) (b : Below w.heap.size w W) => pairsSize10 a C l.pairs W (hP.below b) hw
  have e : ((sizeL l : Nat) : Int) = 5 + (l.high.size : Int) + ((wgt l.pairs : Nat) : Int) := by unfold sizeL; omega
  rw [e]
  have g1 : (0 : Int) ≤ (l.high.size : Int) := by omega
  have g2 : (l.high.size : Int) ≤ 1000000 := by omega
  have g3 : (0 : Int) ≤ ((wgt l.pairs : Nat) : Int) := by omega
  have g4 : ((wgt l.pairs : Nat) : Int) ≤ 1000000 := by omega
  clear hP hh hw e
  generalize wgt l.pairs = W at *
  have HA := Lib.hid (At.new w #[.slice a l.pairs.length C, .string l.high, .int .i64 l.next] 24)
  unfold lfV at *
  go_enter Try.func16, Try.ntmps16
  go_upto_region 1 with fail
  generalize w.alloc (.cells #[.slice a l.pairs.length C, .string l.high, .int .i64 l.next] 24) = W1 at *
  have HL := Lib.hid HA.out.lt
  have q0 : W1.drew.cell? ⟨w.heap.size, 0, none⟩ = some (.slice a l.pairs.length C) ∧ W1.drew.cell? ⟨w.heap.size, 1, none⟩ = some (.string l.high) := ⟨HA.out.cell 0, HA.out.cell 1⟩
  have C2 := Lib.hid (hC W1.drew HB.out.drew)
  clear hC HA
  have x1 : IntKind.i64.wrap (5 + (l.high.size : Int)) = 5 + (l.high.size : Int) := IntWalk.i64_in _ (by omega)
  have x2 : IntKind.i64.wrap (5 + (l.high.size : Int) + (W : Int)) = 5 + (l.high.size : Int) + (W : Int) := IntWalk.i64_in _ (by omega)
  go_wp2_with fail
  go_region_held3 (fun W => W.cell? ⟨w.heap.size, 0, none⟩ = some (.slice a l.pairs.length C) ∧ W.cell? ⟨w.heap.size, 1, none⟩ = some (.string l.high)) (first | exact q0 | exact q1)
    (first
    | (go_at_call 46; ((with_reducible refine C2.out.mono ?_); rintro e1 v1 ⟨rfl, b1⟩; have q1 := And.intro ((b1.cell (p := ⟨w.heap.size, 0, none⟩) HL.out).trans q0.1) ((b1.cell (p := ⟨w.heap.size, 1, none⟩) HL.out).trans q0.2); have HB1 := Lib.hid (HB.out.drew.trans (b1.mono (Nat.le_of_lt HL.out))); clear b1)))
  all_goals (try go_wp2_with fail)
  all_goals (try go_ret)
  all_goals exact ⟨by first | rfl | (simp; done) | (simp; omega), HB1.out⟩
end Go.Proofs.Ytajbnfobmnibjaa
