/-
  PoolDoes, walked.
-/
import Derived.Test.YthjlbfijfpfohaaGreatZ07q
namespace Go.Proofs.YthjlbfijfpfohaaGreat
open Go.RowKit Go.MapKept
theorem ArgOps7.got8 {w0 w : World} {o : Nat → Nat} {a : Option Addr} {len : Nat} {zs : List OpP} (h : ArgOps7 w0 a len zs) (hz : Since w0 o w) (t : Nat) (ht : t < len) :
    ∃ x b off, zs[t]? = some x ∧ a = some ⟨b, off, none⟩ ∧ w.cell? ⟨b, off + t * 4, none⟩ = some (.int .i64 x.k) ∧ w.cell? ⟨b, off + t * 4 + 1, none⟩ = some (.int .i64 x.pg) ∧ w.cell? ⟨b, off + t * 4 + 2, none⟩ = some (.string x.s) ∧ w.cell? ⟨b, off + t * 4 + 3, none⟩ = some (.int .i64 x.n) ∧ (Lit.int .i64 x.n).wf = true ∧ x.s.size ≤ maxLen := by
  have hl : t < zs.length := by rw [h.1]; exact ht
  obtain ⟨h1, h2, h3, h4, b, off, e, k0, k1, k2, k3⟩ := h.2 t zs[t] (List.getElem?_eq_getElem hl)
  exact ⟨zs[t], b, off, List.getElem?_eq_getElem hl, e, hz.cell k0, hz.cell k1, hz.cell k2, hz.cell k3, h4, h3⟩
section
variable {w0 w w' : World} {o o' : Nat → Nat} {pd g x h c : Nat} {S : List ByteArray} {Ws Ws' : Wrs} {p p' : PoolP}
theorem stp_below {r : Nat} (s : Stp o r w o' w') (hr : ∀ k, k < w.heap.size → o k ≠ r) : Below w.heap.size w w' := ⟨s.1, s.2, s.3, s.size, fun k hk => s.blk k hk (hr k hk)⟩
theorem both_pages (H : Both7 w0 w o pd g x h S Ws p c) (dt : Bool) :
    Calls Tryz.prog 13 #[.pointer (some ⟨h, 0, none⟩), .bool dt] w fun y w' => ∃ u, y = .returned u ∧ IsInts w' u (if dt then dirtyI p.L else pagesI p.L) ∧ Below w.heap.size w w' := by
  obtain ⟨r, h1, h2, h3⟩ := fresh_owner o w.heap.size 4 3
  refine (qd_pages H.Q r (fun e => h1 e.symm) (fun e => h2 e.symm) dt).mono ?_
  rintro y w' ⟨u, rfl, o', hi, s⟩
  exact ⟨u, rfl, hi, stp_below s h3⟩
theorem both_rdirty (H : Both7 w0 w o pd g x h S Ws p c) (hc : c ≤ 400) :
    Calls Tryz.prog 18 #[.pointer (some ⟨x, 0, none⟩)] w fun y w' => ∃ u, y = .returned u ∧ IsInts w' u (dirtyOf Ws) ∧ Below w.heap.size w w' := by
  obtain ⟨r, h1, h2, h3⟩ := fresh_owner o w.heap.size 4 3
  have := H.Q.cW
  refine (rdirty_any H.Q.D r h2 (by omega)).mono ?_
  rintro y w' ⟨u, o', rfl, hi, s⟩
  exact ⟨u, rfl, hi.ints, stp_below s h3⟩
theorem both_raw (H : Both7 w0 w o pd g x h S Ws p c) (hc : c ≤ 400) (k : Nat) (hk : k < S.length) : ∃ (s : ByteArray),
    (∀ W, Both7 w0 W o pd g x h S Ws p c → Calls Tryz.prog 19 #[.pointer (some ⟨pd, 0, none⟩), .int .i64 (k : Int)] W fun en w' => en = .returned (.string s) ∧ Below W.heap.size W w') ∧
    (∀ W, Both7 w0 W o pd g x h S Ws p c → Calls Tryz.prog 20 #[.pointer (some ⟨x, 0, none⟩), .int .i64 (k : Int)] W fun en w' => en = .returned (.string s) ∧ W = w') := by
  have := H.Q.cW
  obtain ⟨s, hs⟩ : ∃ s, S[k]? = some s := ⟨_, List.getElem?_eq_getElem hk⟩
  exact ⟨_, fun W H => d_raw H.P.D k s hs, fun W H => rraw_in H.Q.D k s hs (by omega)⟩
end
theorem dirtyI_small {L : List Pl} (h : L.length ≤ 64) : (dirtyI L).length ≤ 1000000 := Nat.le_trans (List.length_filter_le _ _) (by rw [pagesI_length]; omega)
set_option maxRecDepth 100000 in
set_option maxHeartbeats 16000000 in
theorem walk_PoolDoes (places : Int) (_h0 : (Lit.int .i64 places).wf = true) (a : Option Addr) (len cap : Nat) (zs : List OpP) (w : World) (hz : ArgOps7 w a len zs) (hlen : len ≤ maxLen) :
    Calls Tryz.prog 3 #[.int .i64 places, .slice a len cap] w fun e w' => e = .returned (.bool true) ∧ Below w.heap.size w w' := by
  have e7 := and7z places
  obtain ⟨r, hr⟩ : ∃ r, pg8z places = r := ⟨_, rfl⟩
  have hr8 := pg8z_lt places
  rw [hr] at e7 hr8
  obtain ⟨n, hn⟩ : ∃ n, 1 + r = n := ⟨_, rfl⟩
  have hnI : 1 + (r : Int) = (n : Int) := by omega
  have hn1 : 1 ≤ n := by omega
  have hn8 : n ≤ 8 := by omega
  have hlen2 : (len : Int) ≤ 9223372036854775807 := by simp [maxLen] at hlen; omega
  have CN := Lib.hid (dnew_ok w (fun _ => 0) 1 8 (by omega) (by omega))
  have CR := Lib.hid (fun (W : World) (o : Nat → Nat) => rnew_ok W o 3 8 (by omega) (by omega))
  have CP := Lib.hid fun (W : World) o p (D : IsD W o 1 p (List.replicate 8 blank) []) => pd_new D 2 n (by decide) hn1 (by omega)
  have CQ := Lib.hid fun (W : World) o p (D : IsR W o 3 p (List.replicate 8 blank) []) => qd_new D 4 n (by decide) hn1 (by omega)
  have hS : (List.replicate 8 blank).length = 8 := by simp
  have CF := Lib.hid fixed7
  have HSL := Lib.hid hS
  have HA := Lib.hid hz
  clear _h0 hr hn hS hr8 hz hlen
  generalize List.replicate 8 blank = S at *
  go_enter Tryz.func3, Tryz.ntmps3
  go_wp2_with fail
  refine CN.out.mono ?_; rintro e w1 ⟨pd, o1, rfl, h1, s1⟩
  have D1 := Lib.hid h1; have Z1 := Lib.hid ((Since.start w).step s1 (by decide)); clear h1 s1 CN
  go_wp2_with fail
  refine (CR.out _ o1).mono ?_; rintro e w2 ⟨x, o2, rfl, h2, s2⟩
  have R2 := Lib.hid h2; have D2 := Lib.hid (D1.out.other s2 (by decide)); have Z2 := Lib.hid (Z1.out.step s2 (by decide)); clear h2 s2 CR D1 Z1
  go_wp2_with fail
  refine (CP.out _ _ _ D2.out).mono ?_; rintro e w3 ⟨g, rfl, o3, h3, s3, _⟩
  have P3 := Lib.hid h3; have R3 := Lib.hid (R2.out.other s3 (by decide)); have Z3 := Lib.hid (Z2.out.step s3 (by decide)); clear h3 s3 CP D2 Z2 R2
  go_wp2_with fail
  refine (CQ.out _ _ _ R3.out).mono ?_; rintro e w4 ⟨h, rfl, o4, h4, s4, _⟩
  have B4 := Lib.hid (show Both7 w w4 o4 pd g x h S [] ⟨n, [], 0, 0⟩ 0 from ⟨Z3.out.step s4 (by decide), P3.out.moves (Moves.of (X := fun k => k = 4) rfl s4) (by decide) (by decide), h4⟩)
  clear h4 s4 CQ P3 R3 Z3
  go_wp2_with fail
  go_loopw [13] (fun u wr => ∃ (t : Nat) (o : Nat → Nat) (Ws : Wrs) (p : PoolP), t ≤ len ∧ t ≤ 80 ∧ u = .int .i64 (t : Int) ∧ Both7 w wr o pd g x h S Ws p t) (fun u _ => len - (intOf u).toNat)
  case atStart => exact ⟨0, _, _, _, by omega, by omega, rfl, B4.out⟩
  case round =>
    obtain ⟨t, o, Ws, p, ht, ht2, rfl, hB⟩ := hrel
    clear B4
    by_cases hc : t < len ∧ t < 80
    · obtain ⟨hc1, hc2⟩ := hc
      have c1 : (t : Int) < (len : Int) := by omega
      have c2 : (t : Int) < 80 := by omega
      have c3 : (0 : Int) ≤ (t : Int) := by omega
      obtain ⟨y, b, off, hx, rfl, k0, k1, k2, k3, y3, y4⟩ := HA.out.got8 hB.Z t hc1
      obtain ⟨yk, yp, ys, yn⟩ := y
      dsimp only at k0 k1 k2 k3 y3 y4
      have CPl := Lib.hid (play7 hB (by omega) yk yp ys yn y4 y3)
      have HZ := Lib.hid hB.Z
      clear hx y3 y4 hB
      go_wp2_with fail
      refine CPl.out.mono ?_; rintro e w5 ⟨o5, W5, p5, rfl, hB5⟩
      have HB5 := Lib.hid hB5
      have HK := Lib.hid (HA.out.got8 hB5.Z t hc1)
      clear hB5 CPl k0 k1 k2 k3 HZ
      have CL1 := Lib.hid (pd_least HB5.out.P)
      go_wp2_with fail
      refine CL1.out.mono ?_; rintro e w6 ⟨yl, rfl, hl, _, b6⟩
      have HB6 := Lib.hid (HB5.out.reads b6)
      have CL2 := Lib.hid (qd_least HB6.out.Q hl)
      have HL := Lib.hid hl
      clear hl b6 CL1 HB5
      go_wp2_with fail
      refine CL2.out.mono ?_; rintro e _ ⟨rfl, rfl⟩
      clear CL2
      obtain ⟨y, b', off', hx, eb, k0, k1, k2, k3, y3, y4⟩ := HA.out.got8 HB6.out.Z t hc1
      obtain ⟨rfl, rfl⟩ : b = b' ∧ off = off' := by simpa using eb
      obtain ⟨zk, zp, zs', zn⟩ := y
      dsimp only at k0 k1 k2 k3
      clear hx eb k0 k2 k3 y3 y4 HK HL
      have hyl : (yl == yl) = true := by simp
      generalize decide (0 < yl) = bb at *
      have hbb : (bb == bb) = true := by simp
      have hl64 := HB6.out.P.len
      have hWl := HB6.out.Q.cW
      have hpg : (pagesI p5.L).length ≤ 1000000 := by rw [pagesI_length]; omega
      have hdg : (dirtyI p5.L).length ≤ 1000000 := dirtyI_small hl64
      have hdw : (dirtyOf W5).length ≤ 1000000 := by simp [dirtyOf]; omega
      have hpn : (pinsN p5 zp : Int) = (pinsN p5 zp : Int) := rfl
      obtain ⟨pn, hpe⟩ : ∃ pn : Int, (pinsN p5 zp : Int) = pn := ⟨_, rfl⟩
      have hpp : (pn == pn) = true := by simp
      have CP1 := Lib.hid (fun (W : World) (H : Both7 w W o5 pd g x h S W5 p5 (t + 1)) => pd_pages H.P)
      have CD1 := Lib.hid (fun (W : World) (H : Both7 w W o5 pd g x h S W5 p5 (t + 1)) => pd_dirty H.P)
      have CQf := Lib.hid (fun (W : World) (H : Both7 w W o5 pd g x h S W5 p5 (t + 1)) => both_pages H false)
      have CQt := Lib.hid (fun (W : World) (H : Both7 w W o5 pd g x h S W5 p5 (t + 1)) => both_pages H true)
      have CN1 := Lib.hid (fun (W : World) (H : Both7 w W o5 pd g x h S W5 p5 (t + 1)) => (by have := pd_pins H.P zp; rw [hpe] at this; exact this : Calls Tryz.prog 15 #[.pointer (some ⟨g, 0, none⟩), .int .i64 zp] W fun e w' => e = .returned (.int .i64 pn) ∧ W = w'))
      have CN2 := Lib.hid (fun (W : World) (H : Both7 w W o5 pd g x h S W5 p5 (t + 1)) => (by have := qd_pins H.Q zp; rw [hpe] at this; exact this : Calls Tryz.prog 16 #[.pointer (some ⟨h, 0, none⟩), .int .i64 zp] W fun e w' => e = .returned (.int .i64 pn) ∧ W = w'))
      have CE1 := Lib.hid (fun (W : World) (H : Both7 w W o5 pd g x h S W5 p5 (t + 1)) => d_dirty H.P.D 9 (by omega))
      have CE2 := Lib.hid (fun (W : World) (H : Both7 w W o5 pd g x h S W5 p5 (t + 1)) => both_rdirty H (by omega))
      clear hpe hpn hl64
      go_wp2_with fail
      have kd : w6.drew.cell? ⟨b, off + t * 4 + 1, none⟩ = some (.int .i64 zp) := k1
      have G0 := Lib.hid (show Both7 w w6.drew o5 pd g x h S W5 p5 (t + 1) from HB6.out.reads (below_drew w6 1))
      have hbl : b < w6.drew.heap.size := World.block_lt_of_cell? w6.drew _ kd
      clear k1
      go_region_held3 (fun W => W.cell? ⟨b, off + t * 4 + 1, none⟩ = some (.int .i64 zp)) (first | exact kd | exact q1.2 | exact q2.2 | exact q3.2 | exact q4.2 | exact q5.2 | exact q6.2 | exact q9.2 | exact q10.2 | exact q11.2)
        (first
          | (go_at_call 12; ((with_reducible refine (CP1.out _ G0.out).mono ?_); rintro e v1 ⟨u1, rfl, i1, _, b1⟩; have q1 := And.intro (Nat.lt_of_lt_of_le hbl b1.size) ((b1.cell (p := ⟨b, off + t * 4 + 1, none⟩) hbl).trans kd); have G1 := Lib.hid (G0.out.reads b1); have I1 := Lib.hid i1))
          | (go_at_call 13; ((with_reducible refine (CQf.out _ G1.out).mono ?_); rintro e v2 ⟨u2, rfl, i2, b2⟩; have q2 := And.intro (Nat.lt_of_lt_of_le q1.1 b2.size) ((b2.cell (p := ⟨b, off + t * 4 + 1, none⟩) q1.1).trans q1.2); have G2 := Lib.hid (G1.out.reads b2); have I12 := Lib.hid (I1.out.below b2); have I2 := Lib.hid (show IsInts v2 u2 (pagesI p5.L) from i2)))
          | (go_at_call 11; ((with_reducible refine (ints_eq _ _ _ _ I12.out I2.out hpg).mono ?_); rintro e v3 ⟨rfl, b3⟩; have q3 := And.intro (Nat.lt_of_lt_of_le q2.1 b3.size) ((b3.cell (p := ⟨b, off + t * 4 + 1, none⟩) q2.1).trans q2.2); have G3 := Lib.hid (G2.out.reads b3)))
          | (go_at_call 14; ((with_reducible refine (CD1.out _ G3.out).mono ?_); rintro e v4 ⟨u4', rfl, i4, _, b4⟩; have q4 := And.intro (Nat.lt_of_lt_of_le q3.1 b4.size) ((b4.cell (p := ⟨b, off + t * 4 + 1, none⟩) q3.1).trans q3.2); have G4 := Lib.hid (G3.out.reads b4); have I4 := Lib.hid i4))
          | (go_at_call 13; ((with_reducible refine (CQt.out _ G4.out).mono ?_); rintro e v5 ⟨u5', rfl, i5, b5⟩; have q5 := And.intro (Nat.lt_of_lt_of_le q4.1 b5.size) ((b5.cell (p := ⟨b, off + t * 4 + 1, none⟩) q4.1).trans q4.2); have G5 := Lib.hid (G4.out.reads b5); have I45 := Lib.hid (I4.out.below b5); have I5 := Lib.hid (show IsInts v5 u5' (dirtyI p5.L) from i5)))
          | (go_at_call 11; ((with_reducible refine (ints_eq _ _ _ _ I45.out I5.out hdg).mono ?_); rintro e v6 ⟨rfl, b6⟩; have q6 := And.intro (Nat.lt_of_lt_of_le q5.1 b6.size) ((b6.cell (p := ⟨b, off + t * 4 + 1, none⟩) q5.1).trans q5.2); have G6 := Lib.hid (G5.out.reads b6)))
          | (go_at_call 15; ((with_reducible refine (CN1.out _ G6.out).mono ?_); rintro e v7 ⟨rfl, rfl⟩))
          | (go_at_call 16; ((with_reducible refine (CN2.out _ G6.out).mono ?_); rintro e v8 ⟨rfl, rfl⟩))
          | (go_at_call 17; ((with_reducible refine (CE1.out _ G6.out).mono ?_); rintro e v9 ⟨u9, o9, rfl, i9, _, _, b9⟩; have q9 := And.intro (Nat.lt_of_lt_of_le q6.1 b9.size) ((b9.cell (p := ⟨b, off + t * 4 + 1, none⟩) q6.1).trans q6.2); have G9 := Lib.hid (G6.out.reads b9); have I9 := Lib.hid i9.ints))
          | (go_at_call 18; ((with_reducible refine (CE2.out _ G9.out).mono ?_); rintro e v10 ⟨u10, rfl, i10, b10⟩; have q10 := And.intro (Nat.lt_of_lt_of_le q9.1 b10.size) ((b10.cell (p := ⟨b, off + t * 4 + 1, none⟩) q9.1).trans q9.2); have G10 := Lib.hid (G9.out.reads b10); have I910 := Lib.hid (I9.out.below b10); have I10 := Lib.hid i10))
          | (go_at_call 11; ((with_reducible refine (ints_eq _ _ _ _ I910.out I10.out hdw).mono ?_); rintro e v11 ⟨rfl, b11⟩; have q11 := And.intro (Nat.lt_of_lt_of_le q10.1 b11.size) ((b11.cell (p := ⟨b, off + t * 4 + 1, none⟩) q10.1).trans q10.2); have G11 := Lib.hid (G10.out.reads b11))))
      have HB11 := Lib.hid G11.out
      clear CP1 CD1 CQf CQt CN1 CN2 CE1 CE2 G0 G1 G2 G3 G4 G5 G6 G9 G10 G11 I1 I12 I2 I4 I45 I5 I9 I910 I10 q1 q2 q3 q4 q5 q6 q9 q10 q11 kd hbl hpg hdg hdw hyl hbb hpp HB6
      go_wp2_with fail
      go_loopw [18] (fun c wr => ∃ k : Nat, k ≤ 8 ∧ c = .int .i64 (k : Int) ∧ Both7 w wr o5 pd g x h S W5 p5 (t + 1)) (fun c _ => 8 - (intOf c).toNat)
      case atStart => exact ⟨0, by omega, rfl, HB11.out⟩
      case round =>
        obtain ⟨k, hk, rfl, hB12⟩ := hrel
        clear HB11
        by_cases hk8 : k < 8
        · have z1 : (k : Int) < 8 := by omega
          obtain ⟨R2, CC, CD⟩ := both_raw hB12 (by omega) k (by rw [HSL.out]; exact hk8)
          have HCC := Lib.hid CC; have HCD := Lib.hid CD; have HB12 := Lib.hid hB12
          clear CC CD hB12
          have xq : (R2.toList == R2.toList) = true := by simp
          go_wp2_with fail
          refine (HCC.out _ HB12.out).mono ?_; rintro e z3 ⟨rfl, d3⟩
          have HB13 := Lib.hid (HB12.out.reads d3); clear HB12 d3 HCC
          go_wp2_with fail
          refine (HCD.out _ HB13.out).mono ?_; rintro e z4 ⟨rfl, rfl⟩
          clear HCD
          go_wp2_with fail
          exact ⟨⟨k + 1, by omega, by go_num, HB13.out⟩, by simp [intOf]; omega⟩
        · have z1 : ¬ (k : Int) < 8 := by omega
          have HB12 := Lib.hid hB12
          clear hk8 hB12
          go_wp2_with fail
          first
            | exact ⟨⟨t + 1, o5, W5, p5, by omega, by omega, by go_num, HB12.out⟩, by simp [intOf]; omega⟩
            | (refine ⟨?_, by simp [intOf]; omega⟩; (repeat apply Exists.intro); exact ⟨⟨t + 1, o5, W5, p5, by omega, by omega, by go_num, HB12.out⟩, rfl⟩)
    · have HZ := Lib.hid hB.Z
      have HCF := Lib.hid (CF.out wr)
      clear CF hB
      by_cases hc1 : t < len
      · have c1 : (t : Int) < (len : Int) := by omega
        have c2 : decide ((t : Int) < 80) = false := by rw [decide_eq_false_iff_not]; omega
        clear hc
        go_wp2_with fail
        refine HCF.out.mono ?_; rintro e w3 ⟨rfl, b3⟩
        have HB3 := Lib.hid b3
        clear b3
        go_wp2_with fail
        go_ret
        exact ⟨rfl, HZ.out.bel.trans (HB3.out.mono HZ.out.bel.size)⟩
      · have c1 : ¬ (t : Int) < (len : Int) := by omega
        clear hc
        go_wp2_with fail
        refine HCF.out.mono ?_; rintro e w3 ⟨rfl, b3⟩
        have HB3 := Lib.hid b3
        clear b3
        go_wp2_with fail
        go_ret
        exact ⟨rfl, HZ.out.bel.trans (HB3.out.mono HZ.out.bel.size)⟩
end Go.Proofs.YthjlbfijfpfohaaGreat
