/-
  WalTurns, walked.
-/
import Derived.Test.YtncpldmnnipljaaW06s
namespace Go.Proofs.Ytncpldmnnipljaa
open Go.RowKit
abbrev sBetween : ByteArray := ⟨#[98, 101, 116, 119, 101, 101, 110]⟩
theorem turn_page {m : Nat} {S : List ByteArray} {Ws : Wrs} {L : LogP} (H : LInv m S Ws L) (s : ByteArray) (ht : L.tu = some s) : ∃ r, (syncOf S Ws)[(1 - L.h) * m]? = some r ∧ tgA r = L.A := by
  have hlen := H.len
  obtain ⟨S0, B, p, ws, a, A0, H⟩ := H
  obtain ⟨h1, h2, h3, T, hW⟩ := H.som s ht
  have hE : EraS S (syncOf S Ws) 0 (1 - L.h) L.A [[bl s]] [[bl s]] := by rw [hW]; exact pend_synced T hlen
  obtain ⟨c, hc, _⟩ := laid_some [[bl s]] (by simp)
  have hj := (List.getElem?_eq_some_iff.1 hc).1
  have h1 := hE.sync 0 c hj hc
  rw [hlen] at h1
  exact ⟨_, h1, (leafPg_tags L.A (0 + 0) c.1 c.2 (laidAll_small _ c (List.mem_of_getElem? hc)) hE.top).1⟩
theorem top_kept {S : List ByteArray} {m h A f : Nat} {l : List UInt8} {r : ByteArray} {A1 : Nat} (fs : List Int) (hr : S[h * m]? = some r) (ht : tgA r = A1) (hf : 1 ≤ f) : A1 ≤ maxTag (crashOf S (layW m h A f l) fs) := by
  have hn : texts (layW m h A f l) (h * m) = [] := by
    cases hq : texts (layW m h A f l) (h * m) with
    | nil => rfl
    | cons x y =>
      have hmem : (h * m, x) ∈ layW m h A f l := texts_mem (by rw [hq]; exact List.mem_cons_self)
      obtain ⟨i, hi⟩ := List.getElem?_of_mem hmem
      unfold layW at hi
      rw [List.getElem?_mapIdx] at hi
      cases hc : (laid l)[i]? with
      | none => rw [hc] at hi; cases hi
      | some c =>
        rw [hc] at hi
        simp only [Option.map_some, Option.some.injEq, Prod.mk.injEq] at hi
        have := hi.1
        omega
  have e : (crashOf S (layW m h A f l) fs)[h * m]? = S[h * m]? := crN_same S _ fs _ hn _ (Nat.le_refl _)
  rw [hr] at e
  have := (maxTag_ge _ r (List.mem_of_getElem? e)).1
  omega
theorem LD.upto {w : World} {o : Nat → Nat} {q pd j g m : Nat} {S : List ByteArray} {Ws : Wrs} {L : LogP} {c c' : Nat} (h : LD w o q pd j g m S Ws L c) (hc : c ≤ c') : LD w o q pd j g m S Ws L c' := ⟨h.D, h.G, h.I, h.ne, h.m2, by have := h.cW; omega, by have := h.cR; omega, by have := h.cA; omega⟩
theorem duo_var {j : Nat} (hj : 2 ≤ j) : ¬ Duo6 j 1 0 := duo_no (by omega) (by decide)
theorem tuE_ok {m : Nat} {L : LogP} {s : ByteArray} (h1 : 1 ≤ s.size) (h2 : s.size ≤ 700) (hm : m = 40) (hsu : L.su = L.R.length) (ht : L.tu = none) : tuE m L s = 0 ∧ tuL m L s = turnL L s := by
  have e : tuE m L s = 0 := by
    unfold tuE
    rw [if_neg (by omega), if_neg (by rw [ht, hsu]; simp), if_pos (by omega)]
  exact ⟨e, by unfold tuL; rw [e, if_pos rfl]⟩
set_option maxRecDepth 100000 in
set_option maxHeartbeats 8000000 in
theorem walk_WalTurns (a : Option Addr) (len cap : Nat) (ss : List ByteArray) (fa : Option Addr) (fl fc : Nat) (zs : List Int) (w : World) (h : IsStrs w a len ss) (hlen : len ≤ maxLen) (hf : ArgInts w fa fl zs) (hfl : fl ≤ fc) (hfc : fc ≤ maxLen) :
    Calls Try.prog 6 #[.slice a len cap, .slice fa fl fc] w fun e w' => e = .returned (.bool true) ∧ Below w.heap.size w w' := by
  obtain ⟨hl, hst, hmx⟩ := strs_of_arg h
  have hlen2 : (len : Int) ≤ 9223372036854775807 := by simp [maxLen] at hlen; omega
  have hT := Lib.hid hst; have HX := Lib.hid hmx; have HL := Lib.hid hl; have HF := Lib.hid hf
  have hfcI : (fc : Int) ≤ 9223372036854775807 := by simp [maxLen] at hfc; omega
  have CF := Lib.hid fixed6_true
  have CN := Lib.hid (dnew_ok w (fun _ => 0) 1 80 (by omega) (by omega))
  clear h hst hmx hl hlen hf hfc
  go_enter Try.func6, Try.ntmps6
  go_wp2_with fail
  refine CN.out.mono ?_; rintro e w1 ⟨p, o1, rfl, D1, S1⟩
  have C2 := ld_open (m := 40) D1 (by rw [List.length_replicate]) (by rw [List.length_replicate]; omega) (by rw [maxTag_new]; omega) (fun s hs => by rw [openS_new] at hs; cases hs) 2 0 (by decide) (by rw [openS_new]; exact Nat.le_refl _) (by rw [maxTag_new]; exact Nat.le_refl _)
  rw [openedL_new] at C2
  have HC2 := Lib.hid C2; have Z1 := Lib.hid ((Since.start w).step S1 (by decide))
  clear C2 D1 S1 CN
  go_wp2_with fail
  refine HC2.out.mono ?_; rintro e w2 ⟨g, rfl, L2, s2, b2⟩
  have Z2 := Lib.hid (Z1.out.step s2 (by decide)); have HL2 := Lib.hid L2
  clear L2 s2 b2 Z1 HC2
  generalize gives o1 w1.heap.size 2 = o2 at *
  go_wp2_with fail
  go_loopw [7, 8, 9] (fun x f i wr => ∃ (t j g : Nat) (o : Nat → Nat) (S : List ByteArray) (L : LogP), t ≤ len ∧ t ≤ 10 ∧ i = .int .i64 (t : Int) ∧ x = .pointer (some ⟨g, 0, none⟩) ∧ f = .int .i64 0 ∧ 2 ≤ j ∧ Since w o wr ∧ LD wr o 1 p j g 40 S [] L (8 * t) ∧ L.tu = none ∧ S.length = 80) (fun _ _ i _ => len - (intOf i).toNat)
  case atStart => exact ⟨0, 2, g, _, _, _, by omega, by omega, rfl, rfl, rfl, Nat.le_refl _, Z2.out, HL2.out, rfl, by rw [List.length_replicate]⟩
  case round =>
    obtain ⟨t, j, g, o, S, L, ht, ht2, rfl, rfl, rfl, hj, hZ, hL, htu, hS8⟩ := hrel
    have HZ := Lib.hid hZ; have HD := Lib.hid hL; have HTu := Lib.hid htu; have HS8 := Lib.hid hS8; have HJ := Lib.hid (duo_var hj)
    clear Z2 HL2 hZ hL htu hS8
    by_cases hlt : t < len ∧ t < 10
    · obtain ⟨hlt1, hlt2⟩ := hlt
      have hlt' : (t : Int) < (len : Int) := by omega
      have hlt2' : (t : Int) < 10 := by omega
      have h0 : (0 : Int) ≤ (t : Int) := by omega
      obtain ⟨ab, off, e1, e2, e3⟩ := (hT.out.since HZ.out).at (k := t) (by rw [HL.out]; exact hlt1)
      have hxm : (ss.getD t ⟨#[]⟩).size ≤ maxLen := HX.out _ (List.mem_of_getElem? e3)
      generalize ss.getD t ⟨#[]⟩ = x at *
      subst e1
      obtain ⟨k, k1, k2, k3, k4⟩ := cut6 x 700
      have k1' : min (x.size : Int) 700 = (k : Int) := k1
      have k5 : (0 : Int) ≤ (k : Int) := by omega
      have k6 : (k : Int) ≤ (x.size : Int) := by omega
      have hxm2 : (x.size : Int) ≤ 9223372036854775807 := by simp [maxLen] at hxm; omega
      obtain ⟨s, hs⟩ : ∃ s, x.extract 0 k = s := ⟨_, rfl⟩
      have hsz : s.size = k := by rw [← hs, ByteArray.size_extract]; omega
      have HSz := Lib.hid hsz
      have kt : ((k : Int)).toNat = k := by omega
      have q2 : wr.drew.cell? ⟨ab, off + t, none⟩ = some (.string x) := e2
      clear e3 hxm k1 hsz
      go_wp2_with fail
      go_quiet (fail)
      have B3 := Lib.hid (below_drew wr nq)
      generalize wr.drewN nq = W3 at *
      have Z4 := Lib.hid (HZ.out.reads B3.out); have L4 := Lib.hid (HD.out.reads B3.out)
      clear q2 e2 B3 HZ HD
      have CA := ld_append L4.out (by omega) sBetween
      have hg1 : (appL 40 L sBetween).tu = none := by rcases appE_any 40 L sBetween with ⟨_, eL⟩ | ⟨_, eL⟩ <;> (rw [eL]; exact HTu.out)
      have hEw := appE_wf 40 L sBetween
      have hkw := appK_wf L4.out sBetween
      generalize appK 40 L sBetween = kk at *
      generalize appE 40 L sBetween = ee at *
      generalize appL 40 L sBetween = L5 at *
      have HCA := Lib.hid CA
      clear CA
      go_wp2_with fail
      refine HCA.out.mono ?_; rintro e w5 ⟨rfl, o5, L5L, M5⟩
      have Z5 := Lib.hid (Z4.out.moves M5 HJ.out); have HL5 := Lib.hid L5L
      clear L5L M5 Z4 L4 HCA
      have CW := ld_write HL5.out (by omega)
      rw [(wrL_none hg1).1, (wrL_none hg1).2] at CW
      have HCW := Lib.hid CW
      clear CW
      go_wp2_with fail
      refine HCW.out.mono ?_; rintro e w6 ⟨rfl, o6, L6L, M6⟩
      have Z6 := Lib.hid (Z5.out.moves M6 HJ.out); have HL6 := Lib.hid L6L
      clear L6L M6 Z5 HL5 HCW
      generalize wrW 40 [] L5 = W6 at *
      have CS := ld_sync HL6.out (by omega)
      rw [syncL_none (L := wroteL L5) hg1] at CS
      obtain ⟨L7, hL7⟩ : ∃ L7, ({ wroteL L5 with su := (wroteL L5).wr } : LogP) = L7 := ⟨_, rfl⟩
      rw [hL7] at CS
      have g1 : L7.su = L7.R.length := by rw [← hL7]; rfl
      have g2 : L7.tu = none := by rw [← hL7]; exact hg1
      have HCS := Lib.hid CS
      have hS9 : (syncOf S W6).length = 80 := by rw [syncOf_length]; exact HS8.out
      clear CS hL7 hg1
      go_wp2_with fail
      refine HCS.out.mono ?_; rintro e w7 ⟨rfl, o7, L7L, M7⟩
      have Z7 := Lib.hid (Z6.out.moves M7 HJ.out); have HL7 := Lib.hid L7L
      clear L7L M7 Z6 HL6 HCS
      generalize syncOf S W6 = S7 at *
      go_wp2_with fail
      refine (whalf HL7.out.G).mono ?_; rintro e _ ⟨rfl, rfl⟩
      go_wp2_with fail
      refine (wage HL7.out.G).mono ?_; rintro e _ ⟨rfl, rfl⟩
      have hA7 := HL7.out.cA; have hh7 := HL7.out.I.half
      by_cases hk0 : k = 0
      · have hsE : s.toList = [] := text_none s (by rw [HSz.out]; exact hk0)
        have hsE2 : s.toList.isEmpty = true := by rw [hsE]; rfl
        go_wp2_with fail
        exact ⟨⟨t + 1, j, g, o7, S7, L7, by omega, by omega, by go_num, rfl, rfl, hj, Z7.out, HL7.out.upto (by omega), g2, hS9⟩, by simp [intOf]; omega⟩
      · have hsE : ¬ s.toList = [] := text_some s (by rw [HSz.out]; exact hk0)
        have hsE2 : s.toList.isEmpty = false := text_some2 s (by rw [HSz.out]; exact hk0)
        have CT := ld_turn HL7.out (by omega) s
        have hTT := tuE_ok (m := 40) (L := L7) (s := s) (by rw [HSz.out]; omega) (by rw [HSz.out]; omega) rfl g1 g2
        rw [hTT.1, hTT.2] at CT
        have HCT := Lib.hid CT
        clear CT hTT
        go_wp2_with fail
        refine HCT.out.mono ?_; rintro e w8 ⟨rfl, o8, L8L, M8⟩
        have Z8 := Lib.hid (Z7.out.moves M8 HJ.out); have HL8 := Lib.hid L8L
        clear L8L M8 Z7 HL7 HCT
        generalize tuW 40 [] L7 s = W8 at *
        obtain ⟨A1, hA1⟩ : ∃ A, L7.A + 1 = A := ⟨_, rfl⟩
        have hA1I : (L7.A : Int) + 1 = (A1 : Int) := by omega
        have eA : (turnL L7 s).A = A1 := hA1
        have eH : (turnL L7 s).h = L7.h := rfl
        have CHa := whalf HL8.out.G
        have CAg := wage HL8.out.G
        rw [eH] at CHa
        rw [eA] at CAg
        have HCHa := Lib.hid CHa; have HCAg := Lib.hid CAg
        have HEA := Lib.hid eA; have HEH := Lib.hid eH; have HA1h := Lib.hid hA1
        clear CHa CAg eA eH hA1
        go_wp2_with fail
        refine HCHa.out.mono ?_; rintro e _ ⟨rfl, rfl⟩
        go_wp2_with fail
        refine HCAg.out.mono ?_; rintro e _ ⟨rfl, rfl⟩
        have eA := HEA.out; have eH := HEH.out; have hA1 := HA1h.out
        obtain ⟨pgr, hp1, hp2⟩ := turn_page HL8.out.I s rfl
        rw [eH] at hp1
        rw [eA] at hp2
        have CS := ld_sync HL8.out (by omega)
        have eS : syncL (turnL L7 s) = ⟨1 - L7.h, L7.A + 1, needOf (recsB [s]).length, [s], 1, 1, none⟩ := rfl
        rw [eS, hA1] at CS
        obtain ⟨h1, hh1⟩ : ∃ x, 1 - L7.h = x := ⟨_, rfl⟩
        have hh1I : (1 : Int) - (L7.h : Int) = (h1 : Int) := by omega
        have hwh : IntKind.i64.wrap (h1 : Int) = (h1 : Int) := IntWalk.i64_in _ (by omega)
        obtain ⟨nn, hnn⟩ : ∃ x, needOf (recsB [s]).length = x := ⟨_, rfl⟩
        have hnn1 : 1 ≤ nn := by rw [← hnn, recsB_one, List.length_append, Lib.leBytes_length]; unfold needOf; omega
        rw [hh1, hnn] at CS
        rw [hh1] at hp1
        have HCS := Lib.hid CS; have HP := Lib.hid (And.intro hp1 hp2)
        have hS10 : (syncOf S7 W8).length = 80 := by rw [syncOf_length]; exact hS9
        clear CS eS hh1 hnn hp1 hp2 eA eH hA1
        go_wp2_with fail
        refine HCS.out.mono ?_; rintro e w9 ⟨rfl, o9, L9L, M9⟩
        have Z9 := Lib.hid (Z8.out.moves M9 HJ.out); have HL9 := Lib.hid L9L
        clear L9L M9 Z8 HL8 HCS
        generalize syncOf S7 W8 = S9 at *
        have CA := ld_append HL9.out (by omega) sLost
        have g0 : ∃ x : List ByteArray, x.length ≤ 1 ∧ appL 40 ⟨h1, A1, nn, [s], 1, 1, none⟩ sLost = ⟨h1, A1, nn, s :: x, 1, 1, none⟩ := by
          rcases appE_any 40 ⟨h1, A1, nn, [s], 1, 1, none⟩ sLost with ⟨_, eL⟩ | ⟨_, eL⟩
          · exact ⟨[sLost], by simp, by rw [eL]; rfl⟩
          · exact ⟨[], by simp, eL⟩
        obtain ⟨ext, x1, x2⟩ := g0
        rw [x2] at CA
        have hEw2 := appE_wf 40 ⟨h1, A1, nn, [s], 1, 1, none⟩ sLost
        have hkw2 := appK_wf HL9.out sLost
        generalize appK 40 ⟨h1, A1, nn, [s], 1, 1, none⟩ sLost = kk2 at *
        generalize appE 40 ⟨h1, A1, nn, [s], 1, 1, none⟩ sLost = ee2 at *
        have HCA := Lib.hid CA
        clear CA x2
        go_wp2_with fail
        refine HCA.out.mono ?_; rintro e w10 ⟨rfl, o10, L10L, M10⟩
        have Z10 := Lib.hid (Z9.out.moves M10 HJ.out); have HL10 := Lib.hid L10L
        clear L10L M10 Z9 HL9 HCA
        have CW := ld_write HL10.out (by omega)
        have eW : wrW 40 [] ⟨h1, A1, nn, s :: ext, 1, 1, none⟩ = layW 40 h1 A1 nn (recsB ((s :: ext).drop 1)) := by unfold wrW; rw [if_neg (by simp), List.nil_append]
        rw [(wrL_none (L := ⟨h1, A1, nn, s :: ext, 1, 1, none⟩) rfl).1, (wrL_none (L := ⟨h1, A1, nn, s :: ext, 1, 1, none⟩) rfl).2, eW] at CW
        obtain ⟨L11, hL11⟩ : ∃ L6, wroteL ⟨h1, A1, nn, s :: ext, 1, 1, none⟩ = L6 := ⟨_, rfl⟩
        rw [hL11] at CW
        have y1 : L11.R = s :: ext := by rw [← hL11]; rfl
        have y2 : L11.su = 1 := by rw [← hL11]; rfl
        have y3 : L11.wr = L11.R.length := by rw [← hL11]; rfl
        have y4 : L11.tu = none := by rw [← hL11]; rfl
        have y5 : L11.h = h1 := by rw [← hL11]; rfl
        have HCW := Lib.hid CW
        clear CW hL11 eW
        go_wp2_with fail
        refine HCW.out.mono ?_; rintro e w11 ⟨rfl, o11, L11L, M11⟩
        have Z11 := Lib.hid (Z10.out.moves M11 HJ.out); have HL11 := Lib.hid L11L
        clear L11L M11 Z10 HL10 HCW
        obtain ⟨n, n1⟩ : ∃ n : Nat, min fl 60 = n := ⟨_, rfl⟩
        have n2 : min (fl : Int) 60 = (n : Int) := by omega
        have n3 : (0 : Int) ≤ (n : Int) := by omega
        have n4 : (n : Int) ≤ (fc : Int) := by omega
        have n5 : ((n : Int)).toNat = n := by omega
        have HFI := (fints_of_arg HF.out Z11.out (i := 1) (by decide)).take n
        rw [show min fl n = n by omega] at HFI
        have CC := Lib.hid (fun (fa' : Option Addr) (h : FInts w11 o11 1 fa' n (zs.take n)) (fc' : Nat) => d_crash HL11.out.D (by have := HL11.out.cW; omega) fa' n fc' (zs.take n) h (by omega))
        have HFIh := Lib.hid HFI
        have F12 := crash_f HL11.out.I (by omega) (zs.take n)
        have T12 := top_kept (A := A1) (f := nn) (l := recsB ((s :: ext).drop 1)) (zs.take n) HP.out.1 HP.out.2 hnn1
        have z1 := HL11.out.cR; have z2 := HL11.out.cA
        have hlen12 : (crashOf S9 (layW 40 h1 A1 nn (recsB ((s :: ext).drop 1))) (zs.take n)).length = 80 := by rw [crashOf_length]; exact hS10
        generalize crashOf S9 (layW 40 h1 A1 nn (recsB ((s :: ext).drop 1))) (zs.take n) = S12 at *
        have HF12 := Lib.hid F12; have HT12 := Lib.hid T12
        clear HFI n1 F12 T12 HP
        go_wp2_with fail
        refine (CC.out _ (by first | exact HFIh.out | (have := HFIh.out; simpa using this)) _).mono ?_; rintro e w12 ⟨rfl, D12, s12⟩
        have Z12 := Lib.hid (Z11.out.step s12 (by decide)); have HD12 := Lib.hid D12
        clear D12 s12 Z11 HL11 CC HFIh n2 n3 n4 n5
        have CO := Lib.hid (ld_reopen HD12.out HF12.out z1 z2 (by omega) (j + 1) (by omega))
        go_wp2_with fail
        refine CO.out.mono ?_; rintro e w13 ⟨ga, rfl, L13, F13, s13, b13⟩
        have Z13 := Lib.hid (Z12.out.step s13 (by omega)); have HL13 := Lib.hid L13; have HF13 := Lib.hid F13
        clear L13 F13 s13 b13 Z12 HD12 CO z1 z2 HF12
        generalize gives o11 w12.heap.size (j + 1) = o13 at *
        have hAA : A1 + 1 ≤ (openedL S12).A := by show A1 + 1 ≤ maxTag S12 + 1; have := HT12.out; omega
        have hA13 := HL13.out.cA
        obtain ⟨LA, hLA⟩ : ∃ LA, openedL S12 = LA := ⟨_, rfl⟩
        rw [hLA] at HL13 HF13 hAA hA13
        clear hLA HT12
        have hr0 : ∃ y : List ByteArray, y.length ≤ 1 ∧ LA.R = s :: y ∧ LA.h = h1 := by
          rcases HF13.out.told with ⟨u, u1, u2, u3, u4⟩ | ⟨s', hs', _⟩
          · rw [y1] at u3
            rw [y2] at u1
            obtain ⟨v, rfl⟩ : ∃ v, u = v + 1 := ⟨u - 1, by omega⟩
            exact ⟨ext.take v, by rw [List.length_take]; omega, by rw [u3, List.take_succ_cons], by rw [u4, y5]⟩
          · rw [y4] at hs'; cases hs'
        obtain ⟨y, yl, yR, yh⟩ := hr0
        have ytu := HF13.out.tu
        clear HF13 y1 y2 y3 y4 y5 x1
        go_wp2_with fail
        refine (ld_records HL13.out (by omega)).mono ?_; rintro e w14 ⟨v14, rfl, N14, b14⟩
        rw [yR] at N14
        obtain ⟨a14, C14, rfl, hs14⟩ := N14.slice
        obtain ⟨rb, ro, re, rc⟩ := hs14 0 s rfl
        subst re
        have rc' : w14.cell? ⟨rb, ro, none⟩ = some (.string s) := rc
        clear rc
        have Z14 := Lib.hid (Z13.out.reads b14); have HL14 := Lib.hid (HL13.out.reads b14)
        clear N14 b14 hs14 Z13 HL13
        obtain ⟨nr, hnr⟩ : ∃ n, (s :: y).length = n := ⟨_, rfl⟩
        have hnr1 : 1 ≤ nr ∧ nr ≤ 2 := by rw [← hnr, List.length_cons]; omega
        rw [hnr]
        have i1 : ¬ (nr : Int) < 1 := by omega
        have i2 : ¬ (2 : Int) < (nr : Int) := by omega
        have i3 : (0 : Int) < (nr : Int) := by omega
        have hss : (s.toList == s.toList) = true := by simp
        have hageI : ¬ (LA.A : Int) ≤ (A1 : Int) := by omega
        clear hnr
        have CHf := whalf HL14.out.G
        rw [yh] at CHf
        have HCHf := Lib.hid CHf
        clear CHf
        go_wp2_with fail
        refine HCHf.out.mono ?_; rintro e _ ⟨rfl, rfl⟩
        go_wp2_with fail
        refine (wage HL14.out.G).mono ?_; rintro e _ ⟨rfl, rfl⟩
        go_wp2_with fail
        exact ⟨⟨t + 1, j + 1, ga, o13, S12, LA, by omega, by omega, by go_num, rfl, rfl, by omega, Z14.out, HL14.out.upto (by omega), ytu, hlen12⟩, by simp [intOf]; omega⟩
    · have HCF := Lib.hid (CF.out wr)
      clear CF
      go_wp2_with fail
      all_goals
        refine HCF.out.mono ?_; rintro e w3 ⟨rfl, b3⟩
        go_wp2_with fail
        go_ret
        exact ⟨rfl, HZ.out.bel.trans (b3.mono HZ.out.bel.size)⟩
end Go.Proofs.Ytncpldmnnipljaa
