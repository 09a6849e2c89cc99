/-
  WalRoom, walked.
-/
import Derived.Test.YtncpldmnnipljaaGG
namespace Go.Proofs.Ytncpldmnnipljaa
open Go.RowKit
theorem need_room (z r : Nat) : (z + 3 + 233) / 234 ≤ r ↔ 0 + 3 + z ≤ r * 234 := by omega
set_option maxRecDepth 100000 in
set_option maxHeartbeats 8000000 in
theorem walk_WalRoom (pages : Int) (_hpg : (Lit.int .i64 pages).wf = true) (a : Option Addr) (len cap : Nat) (ss : List ByteArray) (w : World) (h : IsStrs w a len ss) (hlen : len ≤ maxLen) :
    Calls Try.prog 8 #[.int .i64 pages, .slice a len cap] w fun e w' => e = .returned (.bool true) ∧ Below w.heap.size w w' := by
  obtain ⟨hl, hst, hmx⟩ := strs_of_arg h
  obtain ⟨r, hr⟩ : ∃ r : Nat, bits .and .i64 pages 15 = (r : Int) := ⟨(pages % 16).toNat, by rw [i64_and15]; omega⟩
  have hr2 : r < 16 := by rw [i64_and15] at hr; omega
  obtain ⟨n, hn⟩ : ∃ n, 4 + r = n := ⟨_, rfl⟩
  have hnI : 4 + (r : Int) = (n : Int) := by omega
  obtain ⟨m, hm⟩ : ∃ m, n / 2 = m := ⟨_, rfl⟩
  have hm1 : m ≤ 9 := by omega
  have hlen2 : (len : Int) ≤ 9223372036854775807 := by simp [maxLen] at hlen; omega
  have hT := Lib.hid hst; have HX := Lib.hid hmx; have HL := Lib.hid hl
  have HM := Lib.hid hm
  have hn3 : 4 ≤ n ∧ n ≤ 19 := by omega
  have CF := Lib.hid fixed6_true
  have CN := Lib.hid (dnew_ok w (fun _ => 0) 1 n (by omega) (by omega))
  clear h hst hmx _hpg hm hl hn hlen
  go_enter Try.func8, Try.ntmps8
  go_wp2_with fail
  refine CN.out.mono ?_; rintro e w1 ⟨p, o1, rfl, D1, S1⟩
  have C2 := ld_open (m := m) D1 (by rw [List.length_replicate]; exact HM.out) (by rw [List.length_replicate]; omega) (by rw [maxTag_new]; omega) (fun s hs => by rw [openS_new] at hs; cases hs) 2 0 (by decide) (by rw [openS_new]; exact Nat.le_refl _) (by rw [maxTag_new]; exact Nat.le_refl _)
  rw [openedL_new] at C2
  have HC2 := Lib.hid C2; have Z1 := Lib.hid ((Since.start w).step S1 (by decide))
  clear C2 D1 S1 CN
  go_wp2_with fail
  refine HC2.out.mono ?_; rintro e w2 ⟨g, rfl, L2, s2, b2⟩
  have Z2 := Lib.hid (Z1.out.step s2 (by decide)); have HL2 := Lib.hid L2
  clear L2 s2 b2 Z1 HC2
  go_wp2_with fail
  go_loopw [9] (fun i wr => ∃ (t : Nat) (o : Nat → Nat) (S : List ByteArray) (Ws : Wrs) (L : LogP), t ≤ len ∧ t ≤ 30 ∧ i = .int .i64 (t : Int) ∧ Since w o wr ∧ LD wr o 1 p 2 g m S Ws L (2 * t) ∧ L.tu = none ∧ L.wr = L.R.length) (fun i _ => len - (intOf i).toNat)
  case atStart => exact ⟨0, _, _, _, _, by omega, by omega, rfl, Z2.out, HL2.out, rfl, rfl⟩
  case round =>
    obtain ⟨t, o, S, Ws, L, ht, ht2, rfl, hZ, hL, htu, hwr⟩ := hrel
    have HZ := Lib.hid hZ; have HD := Lib.hid hL; have HTu := Lib.hid htu; have HWr := Lib.hid hwr
    clear Z2 HL2 hZ hL htu hwr
    by_cases hlt : t < len ∧ t < 30
    · obtain ⟨hlt1, hlt2⟩ := hlt
      have hlt' : (t : Int) < (len : Int) := by omega
      have hlt2' : (t : Int) < 30 := by omega
      have h0 : (0 : Int) ≤ (t : Int) := by omega
      obtain ⟨b, off, e1, e2, e3⟩ := (hT.out.since HZ.out).at (k := t) (by rw [HL.out]; exact hlt1)
      have hxm : (ss.getD t ⟨#[]⟩).size ≤ maxLen := HX.out _ (List.mem_of_getElem? e3)
      generalize ss.getD t ⟨#[]⟩ = x at *
      subst e1
      obtain ⟨k, k1, k2, k3, k4⟩ := cut6 x 700
      have k5 : (0 : Int) ≤ (k : Int) := by omega
      have k6 : (k : Int) ≤ (x.size : Int) := by omega
      have hxm2 : (x.size : Int) ≤ 9223372036854775807 := by simp [maxLen] at hxm; omega
      obtain ⟨s, hs⟩ : ∃ s, x.extract 0 k = s := ⟨_, rfl⟩
      have hsz : s.size = k := by rw [← hs, ByteArray.size_extract]; omega
      have q2 : wr.drew.cell? ⟨b, off + t, none⟩ = some (.string x) := e2
      have k1' : min (x.size : Int) 700 = (k : Int) := k1
      have kt : ((k : Int)).toNat = k := by omega
      obtain ⟨nd, hnd⟩ : ∃ nd, (k + 3 + 233) / 234 = nd := ⟨_, rfl⟩
      have hndI : Int.tdiv ((k : Int) + 3 + 233) 234 = (nd : Int) := by rw [Int.tdiv_eq_ediv_of_nonneg (by omega)]; omega
      have hwt : waitL L = 0 := by unfold waitL; rw [HWr.out, List.drop_eq_nil_of_le (Nat.le_refl _), recsB_nil]; rfl
      have hnm := HD.out.n
      have hcR := HD.out.cR
      clear e3 hxm k1
      go_wp2_with fail
      go_quiet (fail)
      have hsI : x.extract 0 k = s := hs
      have B3 := Lib.hid (below_drew wr nq)
      generalize wr.drewN nq = W3 at *
      have Z3 := Lib.hid (HZ.out.reads B3.out); have L3 := Lib.hid (HD.out.reads B3.out)
      clear q2 e2 B3 HZ HD
      go_wp2_with fail
      refine (ld_room L3.out).mono ?_; rintro e w4 ⟨rfl, b4⟩
      have Z4 := Lib.hid (Z3.out.reads b4); have L4 := Lib.hid (L3.out.reads b4)
      clear b4 Z3 L3
      obtain ⟨rm, hrm⟩ : ∃ rm, m - L.n = rm := ⟨_, rfl⟩
      rw [hrm]
      have hrm9 : rm ≤ 9 := by omega
      go_wp2_with fail
      refine (ld_records L4.out (by omega)).mono ?_; rintro e w5 ⟨v5, rfl, N5, b5⟩
      obtain ⟨a5, C5, rfl, _⟩ := N5.slice
      have Z5 := Lib.hid (Z4.out.reads b5); have L5 := Lib.hid (L4.out.reads b5)
      clear b5 N5 Z4 L4
      obtain ⟨nr, hnr⟩ : ∃ nr, L.R.length = nr := ⟨_, rfl⟩
      have hnr2 : nr ≤ 60 := by omega
      rw [hnr]
      have hfit : (waitL L + 3 + s.size ≤ (m - L.n) * 234) ↔ nd ≤ rm := by
        rw [hwt, hsz, hrm, ← hnd]; exact (need_room k rm).symm
      have CA := ld_append L5.out (by omega) s
      by_cases hk0 : k = 0
      · have eE : appE m L s = 1 := by unfold appE; rw [if_pos (.inl (by omega))]
        have hsE : s.toList = [] := text_none s (by omega)
        have hsE2 : s.toList.isEmpty = true := by rw [hsE]; rfl
        have eK : appK m L s = 0 := by unfold appK; rw [eE, if_neg (by decide)]
        have eL : appL m L s = L := by unfold appL; rw [eE, if_neg (by decide)]
        rw [eE, eK, eL] at CA
        have HCA := Lib.hid CA
        clear CA hfit eE eK eL
        go_wp2_with fail
        refine HCA.out.mono ?_; rintro e w6 ⟨rfl, o6, L6, M6⟩
        have Z6 := Lib.hid (Z5.out.moves M6 (duo_no (by decide) (by decide))); have HL6 := Lib.hid L6
        clear L6 M6 Z5 L5 HCA
        go_wp2_with fail
        refine (ld_records HL6.out (by omega)).mono ?_; rintro e w7 ⟨v7, rfl, N7, b7⟩
        obtain ⟨a7, C7, rfl, _⟩ := N7.slice
        have Z7 := Lib.hid (Z6.out.reads b7); have L7 := Lib.hid (HL6.out.reads b7)
        clear b7 N7 Z6 HL6
        rw [hnr]
        have CW := ld_write L7.out (by omega)
        rw [show wrE L = 0 by unfold wrE; rw [if_neg (by rw [HTu.out]; simp)], show wrL L = wroteL L by unfold wrL; rw [if_neg (by rw [HTu.out]; simp)]] at CW
        have HCW := Lib.hid CW
        clear CW
        go_wp2_with fail
        refine HCW.out.mono ?_; rintro e w8 ⟨rfl, o8, L8, M8⟩
        have Z8 := Lib.hid (Z7.out.moves M8 (duo_no (by decide) (by decide))); have HL8 := Lib.hid L8
        clear L8 M8 Z7 L7 HCW
        have hn8 : m - (wroteL L).n = rm := by show m - (L.n + needOf (waitL L)) = rm; rw [hwt, needOf_zero]; omega
        have CR8 := ld_room HL8.out
        rw [hn8] at CR8
        have HCR8 := Lib.hid CR8
        clear CR8
        go_wp2_with fail
        refine HCR8.out.mono ?_; rintro e w9 ⟨rfl, b9⟩
        have Z9 := Lib.hid (Z8.out.reads b9); have HL9 := Lib.hid (HL8.out.reads b9)
        clear b9 Z8 HL8 HCR8
        have CR9 := ld_room HL9.out
        rw [hn8] at CR9
        have HCR9 := Lib.hid CR9
        clear CR9
        go_wp2_with fail
        refine HCR9.out.mono ?_; rintro e w10 ⟨rfl, b10⟩
        have Z10 := Lib.hid (Z9.out.reads b10); have HL10 := Lib.hid (HL9.out.reads b10)
        clear b10 Z9 HL9 HCR9
        go_wp2_with fail
        exact ⟨⟨t + 1, o8, S, _, wroteL L, by omega, by omega, by go_num, Z10.out, HL10.out, HTu.out, rfl⟩, by simp [intOf]; omega⟩
      · have hsE : ¬ s.toList = [] := text_some s (by omega)
        have hsE2 : s.toList.isEmpty = false := text_some2 s (by omega)
        by_cases hfi : nd ≤ rm
        · have hfI : decide ((nd : Int) ≤ (rm : Int)) = true := decide_eq_true (by omega)
          have HD_wl := L5.out.I.wl
          have eE : appE m L s = 0 := by unfold appE; rw [if_neg (by omega), if_neg (by rw [HTu.out]; simp), if_pos (hfit.2 hfi)]
          have eK : appK m L s = ((nr + 1 : Nat) : Int) := by unfold appK; rw [eE, if_pos rfl, hnr]
          have eL : appL m L s = { L with R := L.R ++ [s] } := by unfold appL; rw [eE, if_pos rfl]
          rw [eE, eK, eL] at CA
          have hw1 := waitL_app L s HD_wl
          rw [hwt, hsz] at hw1
          obtain ⟨L', hL'⟩ : ∃ L', ({ L with R := L.R ++ [s] } : LogP) = L' := ⟨_, rfl⟩
          rw [hL'] at CA hw1
          have htu' : L'.tu = none := by rw [← hL']; exact HTu.out
          have hn' : L'.n = L.n := by rw [← hL']
          have HCA := Lib.hid CA
          clear CA hfit eE eK eL hL'
          go_wp2_with fail
          refine HCA.out.mono ?_; rintro e w6 ⟨rfl, o6, L6, M6⟩
          have Z6 := Lib.hid (Z5.out.moves M6 (duo_no (by decide) (by decide))); have HL6 := Lib.hid L6
          clear L6 M6 Z5 L5 HCA
          have CW := ld_write HL6.out (by omega)
          rw [show wrE L' = 0 by unfold wrE; rw [if_neg (by rw [htu']; simp)], show wrL L' = wroteL L' by unfold wrL; rw [if_neg (by rw [htu']; simp)]] at CW
          have HCW := Lib.hid CW; have HTu' := Lib.hid htu'
          clear CW htu'
          have hn8 : m - (wroteL L').n = rm - nd := by
            show m - (L'.n + needOf (waitL L')) = rm - nd
            rw [hw1, hn']; unfold needOf; omega
          have hrd : (rm : Int) - (nd : Int) = ((rm - nd : Nat) : Int) := by omega
          obtain ⟨rd, hrd2⟩ : ∃ rd, rm - nd = rd := ⟨_, rfl⟩
          rw [hrd2] at hn8 hrd
          clear hrd2 hw1 hn'
          go_wp2_with fail
          refine HCW.out.mono ?_; rintro e w8 ⟨rfl, o8, L8, M8⟩
          have Z8 := Lib.hid (Z6.out.moves M8 (duo_no (by decide) (by decide))); have HL8 := Lib.hid L8
          clear L8 M8 Z6 HL6 HCW
          have CR8 := ld_room HL8.out
          rw [hn8] at CR8
          have HCR8 := Lib.hid CR8
          clear CR8
          go_wp2_with fail
          refine HCR8.out.mono ?_; rintro e w9 ⟨rfl, b9⟩
          have Z9 := Lib.hid (Z8.out.reads b9); have HL9 := Lib.hid (HL8.out.reads b9)
          clear b9 Z8 HL8 HCR8
          have CR9 := ld_room HL9.out
          rw [hn8] at CR9
          have HCR9 := Lib.hid CR9
          clear CR9
          go_wp2_with fail
          refine HCR9.out.mono ?_; rintro e w10 ⟨rfl, b10⟩
          have Z10 := Lib.hid (Z9.out.reads b10); have HL10 := Lib.hid (HL9.out.reads b10)
          clear b10 Z9 HL9 HCR9
          go_wp2_with fail
          exact ⟨⟨t + 1, o8, S, _, wroteL L', by omega, by omega, by go_num, Z10.out, HL10.out, HTu'.out, rfl⟩, by simp [intOf]; omega⟩
        · have hfI : decide ((nd : Int) ≤ (rm : Int)) = false := decide_eq_false (by omega)
          have eE : appE m L s = 6 := by unfold appE; rw [if_neg (by omega), if_neg (by rw [HTu.out]; simp), if_neg (fun h => hfi (hfit.1 h))]
          have eK : appK m L s = 0 := by unfold appK; rw [eE, if_neg (by decide)]
          have eL : appL m L s = L := by unfold appL; rw [eE, if_neg (by decide)]
          rw [eE, eK, eL] at CA
          have HCA := Lib.hid CA
          clear CA hfit eE eK eL
          go_wp2_with fail
          refine HCA.out.mono ?_; rintro e w6 ⟨rfl, o6, L6, M6⟩
          have Z6 := Lib.hid (Z5.out.moves M6 (duo_no (by decide) (by decide))); have HL6 := Lib.hid L6
          clear L6 M6 Z5 L5 HCA
          go_wp2_with fail
          refine (ld_records HL6.out (by omega)).mono ?_; rintro e w7 ⟨v7, rfl, N7, b7⟩
          obtain ⟨a7, C7, rfl, _⟩ := N7.slice
          have Z7 := Lib.hid (Z6.out.reads b7); have L7 := Lib.hid (HL6.out.reads b7)
          clear b7 N7 Z6 HL6
          rw [hnr]
          have CW := ld_write L7.out (by omega)
          rw [show wrE L = 0 by unfold wrE; rw [if_neg (by rw [HTu.out]; simp)], show wrL L = wroteL L by unfold wrL; rw [if_neg (by rw [HTu.out]; simp)]] at CW
          have HCW := Lib.hid CW
          clear CW
          go_wp2_with fail
          refine HCW.out.mono ?_; rintro e w8 ⟨rfl, o8, L8, M8⟩
          have Z8 := Lib.hid (Z7.out.moves M8 (duo_no (by decide) (by decide))); have HL8 := Lib.hid L8
          clear L8 M8 Z7 L7 HCW
          have hn8 : m - (wroteL L).n = rm := by show m - (L.n + needOf (waitL L)) = rm; rw [hwt, needOf_zero]; omega
          have CR8 := ld_room HL8.out
          rw [hn8] at CR8
          have HCR8 := Lib.hid CR8
          clear CR8
          go_wp2_with fail
          refine HCR8.out.mono ?_; rintro e w9 ⟨rfl, b9⟩
          have Z9 := Lib.hid (Z8.out.reads b9); have HL9 := Lib.hid (HL8.out.reads b9)
          clear b9 Z8 HL8 HCR8
          have CR9 := ld_room HL9.out
          rw [hn8] at CR9
          have HCR9 := Lib.hid CR9
          clear CR9
          go_wp2_with fail
          refine HCR9.out.mono ?_; rintro e w10 ⟨rfl, b10⟩
          have Z10 := Lib.hid (Z9.out.reads b10); have HL10 := Lib.hid (HL9.out.reads b10)
          clear b10 Z9 HL9 HCR9
          go_wp2_with fail
          exact ⟨⟨t + 1, o8, S, _, wroteL L, by omega, by omega, by go_num, Z10.out, HL10.out, HTu.out, rfl⟩, by simp [intOf]; omega⟩
    · have CFf := CF.out wr
      have HCF := Lib.hid CFf
      clear CFf CF
      go_wp2_with fail
      all_goals
        refine HCF.out.mono ?_; rintro e w3 ⟨rfl, b3⟩
        go_wp2_with fail
        go_ret
        exact ⟨rfl, HZ.out.bel.trans (b3.mono HZ.out.bel.size)⟩
end Go.Proofs.Ytncpldmnnipljaa
