/-
  PoolFirst, walked.
-/
import Derived.Test.YtdbniiggbjmfoaaL07b
import Derived.Deep.CutBlock
namespace Go.Proofs.Ytdbniiggbjmfoaa
open Go.RowKit Go.MapKept

theorem i64_bounds {n : Int} (h : (Lit.int .i64 n).wf = true) : -9223372036854775808 ≤ n ∧ n ≤ 9223372036854775807 := by
  have e1 : IntKind.i64.min = -9223372036854775808 := by decide
  have e2 : IntKind.i64.max = 9223372036854775807 := by decide
  simpa only [Lit.wf, e1, e2, Bool.and_eq_true, decide_eq_true_eq] using h
theorem ArgOps7.got {w0 w : World} {o : Nat → Nat} {a : Option Addr} {len : Nat} {zs : List OpP} (h : ArgOps7 w0 a len zs) (hz : Since w0 o w) (t : Nat) (ht : t < len) :
    ∃ x b off, zs[t]? = some x ∧ a = some ⟨b, off, none⟩ ∧ w.cell? ⟨b, off + t * 4, none⟩ = some (.int .i64 x.k) ∧ w.cell? ⟨b, off + t * 4 + 1, none⟩ = some (.int .i64 x.pg) ∧ w.cell? ⟨b, off + t * 4 + 2, none⟩ = some (.string x.s) ∧ w.cell? ⟨b, off + t * 4 + 3, none⟩ = some (.int .i64 x.n) ∧ (Lit.int .i64 x.n).wf = true ∧ x.s.size ≤ maxLen := by
  have hl : t < zs.length := by rw [h.1]; exact ht
  obtain ⟨h1, h2, h3, h4, b, off, e, k0, k1, k2, k3⟩ := h.2 t zs[t] (List.getElem?_eq_getElem hl)
  exact ⟨zs[t], b, off, List.getElem?_eq_getElem hl, e, hz.cell k0, hz.cell k1, hz.cell k2, hz.cell k3, h4, h3⟩
theorem PD.box {w0 w : World} {o : Nat → Nat} {pd g c : Nat} {S : List ByteArray} {Ws : Wrs} {p : PoolP} (h : PD w o 1 pd 2 g S Ws p c) (hz : Since w0 o w) (x : Obj) :
    ∃ o', PD (w.alloc x) o' 1 pd 2 g S Ws p c ∧ Since w0 o' (w.alloc x) ∧ o' w.heap.size = 3 := by
  have b : Below w.heap.size w (w.alloc x) := (Below.refl _ w).alloc (Nat.le_refl _) _
  have st := stp_giveNew b o 3 3
  exact ⟨_, h.moves (Moves.of (X := fun i => i = 3) rfl st) (by decide) (by decide), hz.step st (by decide), gives_new (Nat.le_refl _)⟩
theorem two3 : ¬ Two 2 1 3 := by unfold Two; omega
theorem At.moves3 {w w' : World} {o o' : Nat → Nat} {B : Nat} {cs : Array Value} {T : TypeId} (h : At w B cs T) (ho : o B = 3) (M : Moves (Two 2 1) o w o' w') : At w' B cs T := (h.moves ho M two3).1
theorem numS_pad (n : Int) (h2 : n ≤ 9223372036854775807) : 1 ≤ n → (numB (padOf (numS n) 252) : Int) ≤ n := fun h1 => Int.le_of_eq (numS_num n h1 h2)
theorem fi_new (n : Nat) : FI (List.replicate 8 blank) [] ⟨n, [], 0, 0⟩ := by
  refine ⟨Int.le_refl _, by simp, fun k hk => ?_⟩
  have hk' : k < 8 := by simpa using hk
  have hs : (List.replicate 8 blank)[k]? = some blank := by rw [List.getElem?_replicate, if_pos hk']
  rw [bodyAt_of hs]
  show (numB (readOf blank) : Int) ≤ 0
  unfold blank
  rw [readOf_page _ (by decide), numB_blank]; decide
set_option maxRecDepth 100000 in
set_option maxHeartbeats 8000000 in
theorem walk_PoolFirst (places : Int) (_h0 : (Lit.int .i64 places).wf = true) (a : Option Addr) (len cap : Nat) (zs : List OpP) (w : World) (h : ArgOps7 w a len zs) (hlen : len ≤ maxLen) :
    Calls Try.prog 3 #[.int .i64 places, .slice a len cap] w fun e w' => e = .returned (.bool true) ∧ Below w.heap.size w w' := by
  have e7 := and7' places
  obtain ⟨r, hr⟩ : ∃ r, pg8 places = r := ⟨_, rfl⟩
  have hr8 := pg8_lt places
  rw [hr] at e7 hr8
  obtain ⟨n, hn⟩ : ∃ n, 1 + r = n := ⟨_, rfl⟩
  have hnI : 1 + (r : Int) = (n : Int) := by omega
  have hn1 : 1 ≤ n := by omega
  have hn8 : n ≤ 8 := by omega
  have hlen2 : (len : Int) ≤ 9223372036854775807 := by simp [maxLen] at hlen; omega
  have CN := Lib.hid fun (W : World) => dnew_ok W (fun _ => 0) 1 8 (by omega) (by omega)
  have hS : (List.replicate 8 blank).length = 8 := by simp
  have CP := Lib.hid fun (W : World) o p (D : IsD W o 1 p (List.replicate 8 blank) []) => pd_new D 2 n (by decide) hn1 (by omega)
  have HFN := Lib.hid (fi_new n)
  have CF := Lib.hid fixed7
  have HSL := Lib.hid hS
  have HA := Lib.hid h
  clear _h0 hr hn hS hr8 h hlen
  generalize List.replicate 8 blank = S at *
  go_enter Try.func3, Try.ntmps3
  go_wp2_with fail
  refine (CN.out _).mono ?_; rintro e w1 ⟨pd, o1, rfl, h1, s1⟩
  have D1 := Lib.hid h1; have Z1 := Lib.hid ((Since.start w).step s1 (by decide)); clear h1 s1 CN
  go_wp2_with fail
  refine (CP.out _ _ _ D1.out).mono ?_; rintro e w2 ⟨g, rfl, o2, h2, s2, _⟩
  have P2 := Lib.hid h2; have Z2 := Lib.hid (Z1.out.step s2 (by decide)); clear h2 s2 CP D1 Z1
  go_wp2_with fail
  go_loopw [9, 10] (fun us u wr => ∃ (t : Nat) (o : Nat → Nat) (Ws : Wrs) (p : PoolP), t ≤ len ∧ t ≤ 80 ∧ u = .int .i64 (t : Int) ∧ us = .int .i64 p.sure ∧ p.sure ≤ 9223372036854775807 ∧ Since w o wr ∧ PD wr o 1 pd 2 g S Ws p t ∧ FI S Ws p) (fun _ u _ => len - (intOf u).toNat)
  case atStart => exact ⟨0, _, _, _, by omega, by omega, rfl, rfl, (show (0 : Int) ≤ 9223372036854775807 by decide), Z2.out, P2.out, HFN.out⟩
  case round =>
    obtain ⟨t, o, Ws, p, ht, ht2, rfl, rfl, hsu, hZ, hP, hF⟩ := hrel
    have HZ := Lib.hid hZ; have HP := Lib.hid hP; have HF := Lib.hid hF
    clear Z2 P2 HFN hP hF
    by_cases hc : t < len ∧ t < 80
    · obtain ⟨hc1, hc2⟩ := hc
      have c1 : (t : Int) < (len : Int) := by omega
      have c2 : (t : Int) < 80 := by omega
      have c3 : (0 : Int) ≤ (t : Int) := by omega
      obtain ⟨x, b, off, hx, rfl, k0, k1, k2, k3, x3, x4⟩ := HA.out.got hZ t hc1
      obtain ⟨xk, xp, xs, xn⟩ := x
      dsimp only at k0 k1 k2 k3 x3 x4
      obtain ⟨xn1, xn2⟩ := i64_bounds x3
      clear hx hZ x3 x4
      go_upto_region 12 with fail
      obtain ⟨o0, hP0, hZ0, oB⟩ := HP.out.box HZ.out (.cells #[.int .i64 xk, .int .i64 xp, .string xs, .int .i64 xn] 31)
      have HP0 := Lib.hid hP0; have HZ0 := Lib.hid hZ0
      have A0 := At.new wr #[.int .i64 xk, .int .i64 xp, .string xs, .int .i64 xn] 31
      clear k0 k1 k2 k3 HP HZ hP0 hZ0
      generalize wr.alloc (.cells #[.int .i64 xk, .int .i64 xp, .string xs, .int .i64 xn] 31) = W0 at *
      generalize wr.heap.size = B at *
      have k0 : W0.cell? ⟨B, 0, none⟩ = some (.int .i64 xk) := A0.cell 0
      have k1 : W0.cell? ⟨B, 1, none⟩ = some (.int .i64 xp) := A0.cell 1
      have k3 : W0.cell? ⟨B, 3, none⟩ = some (.int .i64 xn) := A0.cell 3
      have HA0 := Lib.hid A0; have HOB := Lib.hid oB
      clear A0 oB
      have ep := and7' xp
      have hp8 := pg8_lt xp
      generalize pg8 xp = pg at *
      go_upto_block 2 with fail
      go_cut [9] (fun us wx => ∃ (o : Nat → Nat) (Ws : Wrs) (p : PoolP), us = .int .i64 p.sure ∧ p.sure ≤ 9223372036854775807 ∧ Since w o wx ∧ PD wx o 1 pd 2 g S Ws p (t + 1) ∧ FI S Ws p)
      case first =>
        clear k1 ep
        have hX : xk = 0 ∨ xk = 1 ∨ xk = 2 ∨ xk = 3 ∨ (¬ xk = 0 ∧ ¬ xk = 1 ∧ ¬ xk = 2 ∧ ¬ xk = 3) := by omega
        rcases hX with rfl | rfl | rfl | rfl | ⟨x0, x1, x2, x3⟩
        · have C := Lib.hid (pd_pin HP0.out (by omega) (pg : Int))
          clear k3
          have HF2 := Lib.hid (fi_pin HP0.out.I HF.out (pg : Int))
          have hsu2 : (pinL S Ws p (pg : Int)).sure = p.sure := by unfold pinL; split <;> (try split) <;> (try split) <;> (try split) <;> rfl
          have HS2 := Lib.hid hsu2
          clear hsu2
          generalize pinS S Ws p (pg : Int) = sx at *
          generalize pinE S p (pg : Int) = ex at *
          go_wp2_with fail
          refine C.out.mono ?_; rintro e w3 ⟨rfl, o3, h3, m3⟩
          have P3 := Lib.hid h3; have Z3 := Lib.hid (HZ0.out.moves m3 two0)
          clear h3 m3 C
          go_wp2_with fail
          go_meet
          exact ⟨_, _, _, by rw [HS2.out], by rw [HS2.out]; exact hsu, Z3.out, P3.out, HF2.out⟩
        · have C := Lib.hid (pd_unpin HP0.out (by omega) (pg : Int))
          clear k3
          have HF2 := Lib.hid (fi_un HF.out (pg : Int))
          have hsu2 : (unL p (pg : Int)).sure = p.sure := by unfold unL; split <;> rfl
          have HS2 := Lib.hid hsu2
          clear hsu2
          generalize unE p (pg : Int) = ex at *
          go_wp2_with fail
          refine C.out.mono ?_; rintro e w3 ⟨rfl, o3, h3, m3⟩
          have P3 := Lib.hid h3; have Z3 := Lib.hid (HZ0.out.moves m3 two0)
          clear h3 m3 C
          go_wp2_with fail
          go_meet
          exact ⟨_, _, _, by rw [HS2.out], by rw [HS2.out]; exact hsu, Z3.out, P3.out, HF2.out⟩
        · have CM := Lib.hid (fun W => num_any xn W)
          have C := Lib.hid (fun W (h : PD W o0 1 pd 2 g S Ws p t) => pd_put h (pg : Int) (numS xn) xn)
          have HF2 := Lib.hid (fi_put HF.out (pg : Int) (numS xn) xn (numS_pad xn xn2))
          have hsu2 : (putL p (pg : Int) (numS xn) xn).sure = p.sure := by unfold putL; split <;> rfl
          have HS2 := Lib.hid hsu2
          have kd : W0.drew.cell? ⟨B, 3, none⟩ = some (.int .i64 xn) := k3
          clear hsu2
          generalize putE p (pg : Int) (numS xn) xn = ex at *
          generalize putL p (pg : Int) (numS xn) xn = px at *
          generalize numS xn = sx at *
          go_wp2_with fail
          go_region_held3 (fun W => W.cell? ⟨B, 3, none⟩ = some (.int .i64 xn)) (first | exact k3 | exact kd | exact ke | exact kf)
            (first
              | (go_at_call 12; refine (CM.out _).mono ?_; rintro e w3 ⟨rfl, b3⟩; have P3 := Lib.hid ((HP0.out.reads (below_drew W0 1)).reads b3); have Z3 := Lib.hid ((HZ0.out.reads (below_drew W0 1)).reads b3); have A3 := Lib.hid (HA0.out.drew.reads b3); have ke := A3.out.cell 3; clear b3)
              | (go_at_call 11; refine (C.out _ P3.out).mono ?_; rintro e w4 ⟨rfl, o4, h4, m4⟩; have P4 := Lib.hid h4; have Z4 := Lib.hid (Z3.out.moves m4 two0); have kf := (A3.out.moves3 HOB.out m4).cell 3; clear h4 m4))
          all_goals
            go_wp2_with fail
            go_meet
            exact ⟨_, _, _, by rw [HS2.out], by rw [HS2.out]; exact hsu, Z4.out, P4.out, HF2.out⟩
        · have C := Lib.hid (pd_sure HP0.out xn)
          have HF2 := Lib.hid (fi_sure HF.out xn)
          go_wp2_with fail
          refine C.out.mono ?_; rintro e w3 ⟨rfl, o3, h3, m3⟩
          have P3 := Lib.hid h3; have Z3 := Lib.hid (HZ0.out.moves m3 two0)
          have ke : w3.cell? ⟨B, 3, none⟩ = some (.int .i64 xn) := (HA0.out.moves3 HOB.out m3).cell 3
          clear h3 m3 C k3
          by_cases hlt : p.sure < xn
          · go_wp2_with fail
            go_meet
            exact ⟨_, _, _, by show _ = Value.int .i64 (max p.sure xn); congr 1 <;> omega, by show max p.sure xn ≤ _; omega, Z3.out, P3.out, HF2.out⟩
          · go_wp2_with fail
            go_meet
            exact ⟨_, _, _, by show _ = Value.int .i64 (max p.sure xn); congr 1 <;> omega, by show max p.sure xn ≤ _; omega, Z3.out, P3.out, HF2.out⟩
        · have y0 : (xk == 0) = false := by rw [beq_eq_false_iff_ne]; exact x0
          have y1 : (xk == 1) = false := by rw [beq_eq_false_iff_ne]; exact x1
          have y2 : (xk == 2) = false := by rw [beq_eq_false_iff_ne]; exact x2
          have y3 : (xk == 3) = false := by rw [beq_eq_false_iff_ne]; exact x3
          have C := Lib.hid (pd_clean HP0.out (by omega))
          have HF2 := Lib.hid (fi_clean HP0.out.I HF.out)
          clear k3 x0 x1 x2 x3
          generalize ((cleanI p.L p.sure).length : Int) = cx at *
          go_wp2_with fail
          refine C.out.mono ?_; rintro e w3 ⟨rfl, o3, h3, m3⟩
          have P3 := Lib.hid h3; have Z3 := Lib.hid (HZ0.out.moves m3 two0)
          clear h3 m3 C
          go_wp2_with fail
          go_meet
          exact ⟨_, _, cleanL p, rfl, hsu, Z3.out, P3.out, HF2.out⟩
      case rest =>
        obtain ⟨o5, Ws5, p5, rfl, hsu5, hZ5, hP5, hF5⟩ := hcut
        have HZ5 := Lib.hid hZ5; have HP5 := Lib.hid hP5; have HF5 := Lib.hid hF5
        have hs0 := hF5.s0
        clear hZ5 hP5 hF5 HP0 HZ0 HF HA0 HOB k0 k1 k3 ep hp8 hsu
        go_wp2_with fail
        go_loopw [13] (fun u wr => ∃ (k : Nat) (o : Nat → Nat), k ≤ 8 ∧ u = .int .i64 (k : Int) ∧ Since w o wr ∧ PD wr o 1 pd 2 g S Ws5 p5 (t + 1)) (fun u _ => 8 - (intOf u).toNat)
        case atStart => exact ⟨0, _, by omega, rfl, HZ5.out, HP5.out⟩
        case round =>
          obtain ⟨k, o6, hk, rfl, hZ6, hP6⟩ := hrel
          have HZ6 := Lib.hid hZ6; have HP6 := Lib.hid hP6
          clear HZ5 HP5 hZ6 hP6
          by_cases hlt : k < 8
          · have hlt' : (k : Int) < 8 := by omega
            have hkS : k < S.length := by rw [HSL.out]; exact hlt
            have hs : S[k]? = some S[k] := List.getElem?_eq_getElem hkS
            have CR := d_read HP6.out.D k _ hs
            have hb := HP6.out.I.siz k hkS
            have hd := HF5.out.dsk k hkS
            rw [HP6.out.I.err k _ hs, ← bodyAt_of (Ws := Ws5) hs] at CR
            generalize bodyAt S Ws5 k = bk at *
            have HCR := Lib.hid CR
            have CG := Lib.hid (fun W => rget_ok bk 0 8 W (by omega) (by rw [hb]; decide))
            have en : (Lib.leNat ((bk.data.toList.drop (0 : Int).toNat).take (8 : Int).toNat)) = numB bk := rfl
            rw [en] at CG
            clear CR hs hb en
            have hnot : ¬ (p5.sure < (numB bk : Int)) := by omega
            have hcv : IntKind.u64.wrap p5.sure = p5.sure := by simp [IntKind.wrap, IntKind.bits, IntKind.signed]; omega
            generalize hnb : (numB bk : Int) = nb at *
            clear hd hnb
            go_wp2_with fail
            refine HCR.out.mono ?_; rintro e w7 ⟨rfl, b7⟩
            have P7 := Lib.hid (HP6.out.reads b7); have Z7 := Lib.hid (HZ6.out.reads b7)
            clear b7 HCR
            go_wp2_with fail
            refine (CG.out _).mono ?_; rintro e _ ⟨rfl, rfl⟩
            clear CG
            go_wp2_with fail
            exact ⟨⟨k + 1, _, by omega, by go_num, Z7.out, P7.out⟩, by simp [intOf]; omega⟩
          · have hge : (8 : Int) ≤ (k : Int) := by omega
            clear hlt hk
            go_wp2_with fail
            exact ⟨⟨t + 1, _, _, _, by omega, by omega, by go_num, rfl, hsu5, HZ6.out, HP6.out, HF5.out⟩, by simp [intOf]; omega⟩
    · have hc' : ¬ (t < len ∧ t < 80) := hc
      by_cases hc1 : t < len
      · have c1 : (t : Int) < (len : Int) := by omega
        have c2 : (80 : Int) ≤ (t : Int) := by omega
        have c4 : ¬ (t : Int) < 80 := by omega
        clear hc hc' hZ
        go_wp2_with fail
        refine (CF.out _).mono ?_; rintro e w6 ⟨rfl, b6⟩
        have Z6 := Lib.hid (HZ.out.reads b6)
        clear b6
        go_wp2_with fail
        go_ret
        exact ⟨rfl, Z6.out.bel⟩
      · have c1 : ¬ (t : Int) < (len : Int) := by omega
        clear hc hc' hZ
        go_wp2_with fail
        refine (CF.out _).mono ?_; rintro e w6 ⟨rfl, b6⟩
        have Z6 := Lib.hid (HZ.out.reads b6)
        clear b6
        go_wp2_with fail
        go_ret
        exact ⟨rfl, Z6.out.bel⟩
end Go.Proofs.Ytdbniiggbjmfoaa
