/-
  WalSure, walked.
-/
import Derived.Test.YtncpldmnnipljaaGG
import Derived.Test.YtncpldmnnipljaaGB
namespace Go.Proofs.Ytncpldmnnipljaa
open Go.RowKit
abbrev sLost : ByteArray := ⟨#[108, 111, 115, 116]⟩
theorem appE_any (m : Nat) (L : LogP) (s : ByteArray) : appE m L s = 0 ∧ appL m L s = { L with R := L.R ++ [s] } ∨ appE m L s ≠ 0 ∧ appL m L s = L := by
  unfold appL
  by_cases h : appE m L s = 0
  · exact .inl ⟨h, by rw [if_pos h]⟩
  · exact .inr ⟨h, by rw [if_neg h]⟩
theorem appE_wf (m : Nat) (L : LogP) (s : ByteArray) : 0 ≤ appE m L s ∧ appE m L s ≤ 9 := by
  unfold appE; (repeat' split) <;> omega
theorem appK_wf {w : World} {o : Nat → Nat} {q pd j g m : Nat} {S : List ByteArray} {Ws : Wrs} {L : LogP} {c : Nat} (H : LD w o q pd j g m S Ws L c) (s : ByteArray) : 0 ≤ appK m L s ∧ appK m L s ≤ c + 1 := by
  have := H.cR
  unfold appK; split <;> omega
theorem wrL_none {L : LogP} (h : L.tu = none) : wrE L = 0 ∧ wrL L = wroteL L := by
  unfold wrE wrL; rw [if_neg (by simp [h]), if_neg (by simp [h])]; exact ⟨rfl, rfl⟩
set_option maxRecDepth 100000 in
set_option maxHeartbeats 8000000 in
theorem walk_WalSure (a : Option Addr) (len cap : Nat) (ss : List ByteArray) (fa : Option Addr) (fl fc : Nat) (zs : List Int) (w : World) (h : IsStrs w a len ss) (hlen : len ≤ maxLen) (hf : ArgInts w fa fl zs) (hfl : fl ≤ fc) (hfc : fc ≤ maxLen) :
    Calls Try.prog 5 #[.slice a len cap, .slice fa fl fc] w fun e w' => e = .returned (.bool true) ∧ Below w.heap.size w w' := by
  obtain ⟨hl, hst, hmx⟩ := strs_of_arg h
  have hlen2 : (len : Int) ≤ 9223372036854775807 := by simp [maxLen] at hlen; omega
  have hT := Lib.hid hst; have HX := Lib.hid hmx; have HL := Lib.hid hl; have HF := Lib.hid hf
  have hfcI : (fc : Int) ≤ 9223372036854775807 := by simp [maxLen] at hfc; omega
  have CF := Lib.hid fixed6_true
  have CN := Lib.hid (dnew_ok w (fun _ => 0) 1 80 (by omega) (by omega))
  clear h hst hmx hl hlen hf hfc
  go_enter Try.func5, Try.ntmps5
  go_wp2_with fail
  refine CN.out.mono ?_; rintro e w1 ⟨p, o1, rfl, D1, S1⟩
  have C2 := ld_open (m := 40) D1 (by rw [List.length_replicate]) (by rw [List.length_replicate]; omega) (by rw [maxTag_new]; omega) (fun s hs => by rw [openS_new] at hs; cases hs) 2 0 (by decide) (by rw [openS_new]; exact Nat.le_refl _) (by rw [maxTag_new]; exact Nat.le_refl _)
  rw [openedL_new] at C2
  have HC2 := Lib.hid C2; have Z1 := Lib.hid ((Since.start w).step S1 (by decide))
  clear C2 D1 S1 CN
  go_wp2_with fail
  refine HC2.out.mono ?_; rintro e w2 ⟨g, rfl, L2, s2, b2⟩
  have Z2 := Lib.hid (Z1.out.step s2 (by decide)); have HL2 := Lib.hid L2
  clear L2 s2 b2 Z1 HC2
  generalize gives o1 w1.heap.size 2 = o2 at *
  have s3 := stp_new o2 3 w2 (.cells #[] 9)
  have Z3 := Lib.hid (Z2.out.step s3 (by decide)); have HL3 := Lib.hid (HL2.out.moves (Moves.of (X := fun i => i = 3) rfl s3) (by decide) (by decide))
  have R3 := Lib.hid (show RowS (w2.alloc (.cells #[] 9)) (gives o2 w2.heap.size 3) 3 (.slice (some ⟨w2.heap.size, 0, none⟩) 0 0) [] from Row.made w2 o2 3 9 1)
  clear s3 Z2 HL2
  go_upto_block 0 with fail
  go_cut [9] (fun x wx => ∃ (o : Nat → Nat) (S : List ByteArray) (Ws : Wrs) (L : LogP) (b : Option Addr) (q D : Nat), x = .slice b q D ∧ q = L.R.length ∧ RowS wx o 3 (.slice b q D) L.R ∧ Since w o wx ∧ LD wx o 1 p 2 g 40 S Ws L 36 ∧ L.tu = none ∧ S.length = 80)
  case first =>
    go_wp2_with fail
    go_loopw [9, 10] (fun x i wr => ∃ (t : Nat) (o : Nat → Nat) (S : List ByteArray) (Ws : Wrs) (L : LogP) (b : Option Addr) (q D : Nat), t ≤ len ∧ t ≤ 12 ∧ i = .int .i64 (t : Int) ∧ x = .slice b q D ∧ q = L.R.length ∧ RowS wr o 3 (.slice b q D) L.R ∧ Since w o wr ∧ LD wr o 1 p 2 g 40 S Ws L (3 * t) ∧ L.tu = none ∧ S.length = 80) (fun _ i _ => len - (intOf i).toNat)
    case atStart => exact ⟨0, _, _, _, _, _, _, _, by omega, by omega, rfl, rfl, rfl, R3.out, Z3.out, HL3.out, rfl, by rw [List.length_replicate]⟩
    case round =>
      obtain ⟨t, o, S, Ws, L, b, q, D, ht, ht2, rfl, rfl, hq, hR, hZ, hL, htu, hS8⟩ := hrel
      have HZ := Lib.hid hZ; have HD := Lib.hid hL; have HTu := Lib.hid htu; have HR := Lib.hid hR; have HQ := Lib.hid hq; have HS8 := Lib.hid hS8
      clear Z3 HL3 R3 hZ hL htu hR hq hS8
      by_cases hlt : t < len ∧ t < 12
      · obtain ⟨hlt1, hlt2⟩ := hlt
        have hlt' : (t : Int) < (len : Int) := by omega
        have hlt2' : (t : Int) < 12 := by omega
        have h0 : (0 : Int) ≤ (t : Int) := by omega
        obtain ⟨ab, off, e1, e2, e3⟩ := (hT.out.since HZ.out).at (k := t) (by rw [HL.out]; exact hlt1)
        have hxm : (ss.getD t ⟨#[]⟩).size ≤ maxLen := HX.out _ (List.mem_of_getElem? e3)
        generalize ss.getD t ⟨#[]⟩ = x at *
        subst e1
        obtain ⟨k, k1, k2, k3, k4⟩ := cut6 x 700
        have k1' : min (x.size : Int) 700 = (k : Int) := k1
        have k5 : (0 : Int) ≤ (k : Int) := by omega
        have k6 : (k : Int) ≤ (x.size : Int) := by omega
        have hxm2 : (x.size : Int) ≤ 9223372036854775807 := by simp [maxLen] at hxm; omega
        obtain ⟨s, hs⟩ : ∃ s, x.extract 0 k = s := ⟨_, rfl⟩
        have kt : ((k : Int)).toNat = k := by omega
        have q2 : wr.drew.cell? ⟨ab, off + t, none⟩ = some (.string x) := e2
        obtain ⟨r3, hr3⟩ : ∃ r3, t % 3 = r3 := ⟨_, rfl⟩
        have hr3I : Int.tmod (t : Int) 3 = (r3 : Int) := by rw [Int.tmod_eq_emod_of_nonneg (by omega)]; omega
        have hcR := HD.out.cR
        clear e3 hxm k1
        go_wp2_with fail
        go_quiet (fail)
        have hsI : x.extract 0 k = s := hs
        have B3 := Lib.hid (below_drew wr nq)
        generalize wr.drewN nq = W3 at *
        have Z4 := Lib.hid (HZ.out.reads B3.out); have L4 := Lib.hid (HD.out.reads B3.out); have R4 := Lib.hid (Row.reads HR.out B3.out)
        clear q2 e2 B3 HZ HD HR
        have CA := ld_append L4.out (by omega) s
        rcases appE_any 40 L s with ⟨eE, eL⟩ | ⟨eE, eL⟩
        · rw [eE, eL] at CA
          have hkw := appK_wf L4.out s
          generalize appK 40 L s = kk at *
          have HCA := Lib.hid CA
          clear CA
          go_wp2_with fail
          refine HCA.out.mono ?_; rintro e w6 ⟨rfl, o6, L6, M6⟩
          have Z6 := Lib.hid (Z4.out.moves M6 (duo_no (by decide) (by decide))); have HL6 := Lib.hid L6
          have R6 := Row.moves R4.out M6 (duo_no (by decide) (by decide))
          clear L6 M6 Z4 L4 HCA R4
          have R6' : RowS w6 o6 3 (.slice b q D) L.R := R6
          obtain ⟨g7, C7, w7, o7, hap, hr7, s7⟩ := strs_append R6' s (by omega)
          rw [← HQ.out] at hap hr7
          have HAP := Lib.hid hap; have HR7 := Lib.hid hr7
          have Z7 := Lib.hid (Z6.out.step s7 (by decide)); have HL7 := Lib.hid (HL6.out.moves (Moves.of (X := fun i => i = 3) rfl s7) (by decide) (by decide))
          clear R6 R6' hap hr7 s7 Z6 HL6 eE eL
          obtain ⟨L', hL'⟩ : ∃ L', ({ L with R := L.R ++ [s] } : LogP) = L' := ⟨_, rfl⟩
          rw [hL'] at HL7
          have htu' : L'.tu = none := by rw [← hL']; exact HTu.out
          have HRl := Lib.hid (show RowS w7 o7 3 (.slice (some ⟨g7, 0, none⟩) (q + 1) C7) L'.R by rw [← hL']; exact HR7.out)
          have hql : q + 1 = L'.R.length := by rw [← hL']; show q + 1 = (L.R ++ [s]).length; rw [List.length_append, ← HQ.out]; rfl
          have HQ' := Lib.hid hql; have HTu' := Lib.hid htu'
          clear hL' HR7 hql htu'
          by_cases h31 : r3 = 1
          · have h31' : ((r3 : Int) == 1) = true := by simp [h31]
            have CW := ld_write HL7.out (by omega)
            rw [(wrL_none HTu'.out).1, (wrL_none HTu'.out).2] at CW
            have HCW := Lib.hid CW
            clear CW h31
            go_wp2_with (at_builtin; refine wpList_append_run rfl (.tmp 70) (.tmp 72) _ _ rfl _ _ rfl rfl _ _ HAP.out ?_)
            refine HCW.out.mono ?_; rintro e w8 ⟨rfl, o8, L8, M8⟩
            have Z8 := Lib.hid (Z7.out.moves M8 (duo_no (by decide) (by decide))); have HL8 := Lib.hid L8.later
            have R8 := Lib.hid (Row.moves HRl.out M8 (duo_no (by decide) (by decide)))
            clear L8 M8 Z7 HL7 HCW HRl
            go_wp2_with fail
            exact ⟨⟨t + 1, o8, S, _, wroteL L', _, _, _, by omega, by omega, by go_num, rfl, HQ'.out, R8.out, Z8.out, HL8.out, HTu'.out, HS8.out⟩, by simp [intOf]; omega⟩
          · have h31' : ((r3 : Int) == 1) = false := by simp; omega
            clear h31
            go_wp2_with (at_builtin; refine wpList_append_run rfl (.tmp 70) (.tmp 72) _ _ rfl _ _ rfl rfl _ _ HAP.out ?_)
            exact ⟨⟨t + 1, o7, S, Ws, L', _, _, _, by omega, by omega, by go_num, rfl, HQ'.out, HRl.out, Z7.out, HL7.out.later.later, HTu'.out, HS8.out⟩, by simp [intOf]; omega⟩
        · rw [eL] at CA
          have hE1 : (appE 40 L s == 0) = false := by simp [eE]
          have hEw := appE_wf 40 L s
          have hkw := appK_wf L4.out s
          generalize appK 40 L s = kk at *
          generalize appE 40 L s = ee at *
          have HCA := Lib.hid CA
          clear CA eE eL
          go_wp2_with fail
          refine HCA.out.mono ?_; rintro e w6 ⟨rfl, o6, L6, M6⟩
          have Z6 := Lib.hid (Z4.out.moves M6 (duo_no (by decide) (by decide))); have HL6 := Lib.hid L6
          have R6 := Lib.hid (Row.moves R4.out M6 (duo_no (by decide) (by decide)))
          clear L6 M6 Z4 L4 HCA R4
          by_cases h31 : r3 = 1
          · have h31' : ((r3 : Int) == 1) = true := by simp [h31]
            have CW := ld_write HL6.out (by omega)
            rw [(wrL_none HTu.out).1, (wrL_none HTu.out).2] at CW
            have HCW := Lib.hid CW
            clear CW h31
            go_wp2_with fail
            refine HCW.out.mono ?_; rintro e w8 ⟨rfl, o8, L8, M8⟩
            have Z8 := Lib.hid (Z6.out.moves M8 (duo_no (by decide) (by decide))); have HL8 := Lib.hid L8.later
            have R8 := Lib.hid (Row.moves R6.out M8 (duo_no (by decide) (by decide)))
            clear L8 M8 Z6 HL6 HCW R6
            go_wp2_with fail
            exact ⟨⟨t + 1, o8, S, _, wroteL L, _, _, _, by omega, by omega, by go_num, rfl, HQ.out, R8.out, Z8.out, HL8.out, HTu.out, HS8.out⟩, by simp [intOf]; omega⟩
          · have h31' : ((r3 : Int) == 1) = false := by simp; omega
            clear h31
            go_wp2_with fail
            exact ⟨⟨t + 1, o6, S, Ws, L, _, _, _, by omega, by omega, by go_num, rfl, HQ.out, R6.out, Z6.out, HL6.out.later.later, HTu.out, HS8.out⟩, by simp [intOf]; omega⟩
      · go_wp2_with fail
        all_goals
          go_meet
          have hle : ∀ d, LD wr o 1 p 2 g 40 S Ws L (3 * t + d) := fun d => by
            induction d with
            | zero => exact HD.out
            | succ d ih => exact ih.later
          have := hle (36 - 3 * t)
          rw [show 3 * t + (36 - 3 * t) = 36 by omega] at this
          exact ⟨o, S, Ws, L, b, q, D, rfl, HQ.out, HR.out, HZ.out, this, HTu.out, HS8.out⟩
  case rest =>
    obtain ⟨o, S, Ws, L, b, q, D, rfl, hq, hR, hZ, hL, htu, hS8⟩ := hcut
    have HZ := Lib.hid hZ; have HR := Lib.hid hR; have HQ := Lib.hid hq; have HTu := Lib.hid htu; have HS8 := Lib.hid hS8
    have hqc : q ≤ 36 := by rw [hq]; exact hL.cR
    have CW := ld_write hL (by omega)
    rw [(wrL_none htu).1, (wrL_none htu).2] at CW
    have HCW := Lib.hid CW
    clear CW hZ hR hq htu hS8 hL Z3 HL3 R3 hT HX HL hlen2
    go_wp2_with fail
    refine HCW.out.mono ?_; rintro e w3 ⟨rfl, o3, L3, M3⟩
    have Z3 := Lib.hid (HZ.out.moves M3 (duo_no (by decide) (by decide))); have R3 := Lib.hid (Row.moves HR.out M3 (duo_no (by decide) (by decide))); have HL3 := Lib.hid L3
    clear L3 M3 HZ HR HCW
    generalize wrW 40 Ws L = W3 at *
    have CS := ld_sync HL3.out (by omega)
    have eS := syncL_none (L := wroteL L) HTu.out
    rw [eS] at CS
    obtain ⟨L2, hL2⟩ : ∃ L2, ({ wroteL L with su := (wroteL L).wr } : LogP) = L2 := ⟨_, rfl⟩
    rw [hL2] at CS
    have f1 : L2.R = L.R := by rw [← hL2]; rfl
    have f2 : L2.su = q := by rw [← hL2, HQ.out]; rfl
    have f3 : L2.wr = q := by rw [← hL2, HQ.out]; rfl
    have f4 : L2.tu = none := by rw [← hL2]; exact HTu.out
    have HCS := Lib.hid CS
    clear CS eS hL2
    go_wp2_with fail
    refine HCS.out.mono ?_; rintro e w4 ⟨rfl, o4, L4, M4⟩
    have Z4 := Lib.hid (Z3.out.moves M4 (duo_no (by decide) (by decide))); have R4 := Lib.hid (Row.moves R3.out M4 (duo_no (by decide) (by decide))); have HL4 := Lib.hid L4
    have hS9 : (syncOf S W3).length = 80 := by rw [syncOf_length]; exact HS8.out
    clear L4 M4 Z3 R3 HL3 HCS
    generalize syncOf S W3 = S4 at *
    have CA := ld_append HL4.out (by omega) sLost
    have g0 : ∃ x : List ByteArray, x.length ≤ 1 ∧ (appL 40 L2 sLost).R = L.R ++ x ∧ (appL 40 L2 sLost).su = q ∧ (appL 40 L2 sLost).tu = none := by
      rcases appE_any 40 L2 sLost with ⟨_, eL⟩ | ⟨_, eL⟩
      · rw [eL]; exact ⟨[sLost], by simp, by rw [f1], f2, f4⟩
      · rw [eL]; exact ⟨[], by simp, by rw [f1, List.append_nil], f2, f4⟩
    obtain ⟨ext, x1, x2, x3, x4⟩ := g0
    have hEw := appE_wf 40 L2 sLost
    have hkw := appK_wf HL4.out sLost
    generalize appK 40 L2 sLost = kk at *
    generalize appE 40 L2 sLost = ee at *
    generalize appL 40 L2 sLost = L5 at *
    have HCA := Lib.hid CA
    clear CA f1 f2 f3 f4
    go_wp2_with fail
    refine HCA.out.mono ?_; rintro e w5 ⟨rfl, o5, M5L, M5⟩
    have Z5 := Lib.hid (Z4.out.moves M5 (duo_no (by decide) (by decide))); have R5 := Lib.hid (Row.moves R4.out M5 (duo_no (by decide) (by decide))); have HL5 := Lib.hid M5L
    clear M5L M5 Z4 R4 HL4 HCA
    have CW6 := ld_write HL5.out (by omega)
    rw [(wrL_none x4).1, (wrL_none x4).2] at CW6
    obtain ⟨L6, hL6⟩ : ∃ L6, wroteL L5 = L6 := ⟨_, rfl⟩
    rw [hL6] at CW6
    have y1 : L6.R = L.R ++ ext := by rw [← hL6]; exact x2
    have y2 : L6.su = q := by rw [← hL6]; exact x3
    have y3 : L6.wr = L6.R.length := by rw [← hL6]; rfl
    have y4 : L6.tu = none := by rw [← hL6]; exact x4
    have HCW6 := Lib.hid CW6
    clear CW6 hL6 x2 x3 x4
    go_wp2_with fail
    refine HCW6.out.mono ?_; rintro e w6 ⟨rfl, o6, L6L, M6⟩
    have Z6 := Lib.hid (Z5.out.moves M6 (duo_no (by decide) (by decide))); have R6 := Lib.hid (Row.moves R5.out M6 (duo_no (by decide) (by decide))); have HL6 := Lib.hid L6L
    clear L6L M6 Z5 R5 HL5 HCW6
    generalize wrW 40 [] L5 = W6 at *
    obtain ⟨n, n1⟩ : ∃ n : Nat, min fl 60 = n := ⟨_, rfl⟩
    have n2 : min (fl : Int) 60 = (n : Int) := by omega
    have n3 : (0 : Int) ≤ (n : Int) := by omega
    have n4 : (n : Int) ≤ (fc : Int) := by omega
    have n5 : ((n : Int)).toNat = n := by omega
    have HFI := (fints_of_arg HF.out Z6.out (i := 1) (by decide)).take n
    rw [show min fl n = n by omega] at HFI
    have CC := Lib.hid (fun (fa' : Option Addr) (h : FInts w6 o6 1 fa' n (zs.take n)) (fc' : Nat) => ld_crash HL6.out (by omega) (by omega) fa' n fc' (zs.take n) h (by omega))
    have HFIh := Lib.hid HFI
    clear HFI n1
    go_wp2_with fail
    refine (CC.out _ (by first | exact HFIh.out | (have := HFIh.out; simpa using this)) _).mono ?_; rintro e w7 ⟨rfl, S7, D7, F7, s7⟩
    have Z7 := Lib.hid (Z6.out.step s7 (by decide)); have R7 := Lib.hid (Row.other R6.out s7 (by decide)); have HD7 := Lib.hid D7; have HF7 := Lib.hid F7
    have z1 := HL6.out.cR; have z2 := HL6.out.cA
    clear D7 F7 s7 Z6 R6 HL6 CC HFIh n2 n3 n4 n5 HF
    have CO := Lib.hid (ld_reopen HD7.out HF7.out z1 z2 (by omega) 4 (by decide))
    go_wp2_with fail
    refine CO.out.mono ?_; rintro e w8 ⟨ga, rfl, L8, F8, s8, b8⟩
    have Z8 := Lib.hid (Z7.out.step s8 (by decide)); have R8 := Lib.hid (Row.other R7.out s8 (by decide)); have HD8 := Lib.hid L8.D; have HL8 := Lib.hid L8; have HF8 := Lib.hid F8
    clear L8 F8 s8 b8 Z7 R7 HD7 CO
    generalize gives o6 w7.heap.size 4 = o8 at *
    have CO2 := Lib.hid (ld_reopen HD8.out HF7.out z1 z2 (by omega) 5 (by decide))
    go_wp2_with fail
    refine CO2.out.mono ?_; rintro e w9 ⟨gb, rfl, L9, F9, s9, b9⟩
    have Z9 := Lib.hid (Z8.out.step s9 (by decide)); have R9 := Lib.hid (Row.other R8.out s9 (by decide)); have HB9 := Lib.hid L9; have HA9 := Lib.hid (HL8.out.moves (Moves.of (X := fun i => i = 5) rfl s9) (by decide) (by decide))
    clear L9 F9 s9 b9 Z8 R8 HD8 HL8 CO2 z1 z2 HF7
    generalize gives o8 w8.heap.size 5 = o9 at *
    obtain ⟨LA, hLA⟩ : ∃ LA, openedL S7 = LA := ⟨_, rfl⟩
    rw [hLA] at HB9 HA9 HF8
    clear hLA
    obtain ⟨rA, hrA⟩ : ∃ r, LA.R = r := ⟨_, rfl⟩
    have hr1 : q ≤ rA.length ∧ rA.length ≤ q + 1 ∧ L.R = rA.take q := by
      have hql : L.R.length = q := HQ.out.symm
      rcases HF8.out.told with ⟨u, u1, u2, u3, _⟩ | ⟨s, hs, _⟩
      · rw [hrA, y1] at u3
        rw [y2] at u1
        rw [y3, y1, List.length_append] at u2
        have e1 : rA.length = u := by rw [u3, List.length_take, List.length_append]; omega
        refine ⟨by omega, by omega, ?_⟩
        rw [u3, List.take_take, Nat.min_eq_left (by omega), List.take_append_of_le_length (by omega), List.take_of_length_le (by omega)]
      · rw [y4] at hs; cases hs
    obtain ⟨hr1, hr2, hr3⟩ := hr1
    clear HF8 y1 y2 y3 y4 x1
    have CDi := Lib.hid (d_dirty HA9.out.D 6 (by simp))
    go_wp2_with fail
    refine CDi.out.mono ?_; rintro e w10 ⟨u10, o10, rfl, h10, s10, d10, b10⟩
    obtain ⟨a10, C10, rfl⟩ := h10.ints.len
    have Z10 := Lib.hid (Z9.out.reads b10); have R10 := Lib.hid (Row.reads R9.out b10); have HA10 := Lib.hid (HA9.out.reads b10); have HB10 := Lib.hid (HB9.out.reads b10)
    have e10 : (dirtyOf []).length = 0 := rfl
    rw [e10]
    clear h10 s10 d10 b10 Z9 R9 HA9 HB9 CDi e10
    go_wp2_with fail
    refine (ld_records HA10.out (by omega)).mono ?_; rintro e w11 ⟨v11, rfl, N11, b11⟩
    rw [hrA] at N11
    have s11 := (Stp.ofBelow b11 o9 6).gives w10.heap.size (Nat.le_refl _)
    have RA11 := Lib.hid (N11.own o9 6)
    have Z11 := Lib.hid (Z10.out.step s11 (by decide)); have R11 := Lib.hid (Row.other R10.out s11 (by decide)); have HA11 := Lib.hid (HA10.out.moves (Moves.of (X := fun i => i = 6) rfl s11) (by decide) (by decide)); have HB11 := Lib.hid (HB10.out.moves (Moves.of (X := fun i => i = 6) rfl s11) (by decide) (by decide))
    obtain ⟨a11, C11, rfl, hs11⟩ := N11.slice
    have hcap11 : rA.length ≤ C11 := by
      rcases RA11.out.row.2 with ⟨e, h0⟩ | ⟨g', cap', cur', e, _, _, h3, _⟩
      · omega
      · cases e; exact h3
    clear N11 b11 s11 Z10 R10 HA10 HB10
    generalize gives o9 w10.heap.size 6 = o11 at *
    have hsR : Strs w11 b L.R := by
      obtain ⟨a9, C9, e9, hs9⟩ := RowS.slice R11.out
      cases e9; exact hs9
    have CSt := lstarts w11 b a11 D C11 L.R rA hsR hs11 (by rw [← HQ.out]; omega) (by omega) hcap11 true (decide_eq_true ⟨by rw [← HQ.out]; exact hr1, by rw [← HQ.out]; exact hr3⟩)
    rw [← HQ.out] at CSt
    have HCSt := Lib.hid CSt; have HS11 := Lib.hid hs11
    obtain ⟨nA, hnA⟩ : ∃ n, rA.length = n := ⟨_, rfl⟩
    rw [hnA] at hr1 hr2 HCSt
    have i1 : (q : Int) ≤ (nA : Int) := by omega
    have i2 : (nA : Int) ≤ (q : Int) + 1 := by omega
    have HNA := Lib.hid hnA; have HRA := Lib.hid hrA
    rw [hnA] at hcap11 ⊢
    clear CSt hsR hs11 hnA hr3
    go_wp2_with fail
    refine HCSt.out.mono ?_; rintro e w12 ⟨rfl, b12⟩
    have Z12 := Lib.hid (Z11.out.reads b12); have HA12 := Lib.hid (HA11.out.reads b12); have HB12 := Lib.hid (HB11.out.reads b12); have HS12 := Lib.hid (HS11.out.below b12)
    clear b12 Z11 HA11 HB11 HS11 HCSt R11 RA11
    go_wp2_with fail
    refine (ld_records HB12.out (by omega)).mono ?_; rintro e w13 ⟨v13, rfl, N13, b13⟩
    rw [HRA.out] at N13
    obtain ⟨a13, C13, rfl, hs13⟩ := N13.slice
    have CSa := rsame w13 a13 a11 C13 C11 rA rA hs13 (HS12.out.below b13) (by have := HNA.out; omega) (by have := HNA.out; omega) true (by simp)
    rw [HNA.out] at CSa ⊢
    have HCSa := Lib.hid CSa
    have Z13 := Lib.hid (Z12.out.reads b13); have HA13 := Lib.hid (HA12.out.reads b13); have HB13 := Lib.hid (HB12.out.reads b13)
    clear CSa N13 b13 hs13 Z12 HA12 HB12 HS12
    go_wp2_with fail
    refine HCSa.out.mono ?_; rintro e w14 ⟨rfl, b14⟩
    have Z14 := Lib.hid (Z13.out.reads b14); have HA14 := Lib.hid (HA13.out.reads b14); have HB14 := Lib.hid (HB13.out.reads b14)
    clear b14 Z13 HA13 HB13 HCSa
    go_wp2_with fail
    refine (wage HA14.out.G).mono ?_; rintro e _ ⟨rfl, rfl⟩
    go_wp2_with fail
    refine (wage HB14.out.G).mono ?_; rintro e _ ⟨rfl, rfl⟩
    have HCF := Lib.hid (CF.out w14)
    clear CF
    go_wp2_with fail
    refine HCF.out.mono ?_; rintro e w15 ⟨rfl, b15⟩
    go_wp2_with fail
    go_ret
    exact ⟨rfl, Z14.out.bel.trans (b15.mono Z14.out.bel.size)⟩
end Go.Proofs.Ytncpldmnnipljaa
