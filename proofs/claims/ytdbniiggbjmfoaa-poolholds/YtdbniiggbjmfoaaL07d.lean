/-
  PoolHolds, walked.
-/
import Derived.Test.YtdbniiggbjmfoaaH07
namespace Go.Proofs.Ytdbniiggbjmfoaa
open Go.RowKit Go.MapKept

theorem cut7 (x : ByteArray) : ∃ k : Nat, min (x.size : Int) 252 = (k : Int) ∧ k ≤ x.size ∧ k ≤ 252 ∧ (x.extract 0 k).size ≤ 252 := by
  by_cases h : x.size ≤ 252
  · exact ⟨x.size, by omega, by omega, by omega, by rw [ByteArray.size_extract]; omega⟩
  · exact ⟨252, by omega, by omega, by omega, by rw [ByteArray.size_extract]; omega⟩
section
variable {S : List ByteArray} {Ws : Wrs} {p : PoolP}
theorem pinL_n (x : Int) : (pinL S Ws p x).n = p.n := by unfold pinL; split <;> (try split) <;> (try split) <;> (try split) <;> rfl
theorem unL_n (x : Int) : (unL p x).n = p.n := by unfold unL; split <;> rfl
theorem putL_n (x : Int) (s : ByteArray) (l : Int) : (putL p x s l).n = p.n := by unfold putL; split <;> rfl
theorem content_new (N n k : Nat) (hk : k < N) : content (List.replicate N blank) [] ⟨n, [], 0, 0⟩ k = padOf ⟨#[]⟩ 252 := by
  have hs : (List.replicate N blank)[k]? = some blank := by rw [List.getElem?_replicate, if_pos hk]
  show bodyAt _ _ _ = _
  rw [bodyAt_of hs]
  show readOf blank = _
  exact readOf_page _ (by decide)
end
set_option maxRecDepth 100000 in
set_option maxHeartbeats 8000000 in
theorem walk_PoolHolds (places : Int) (_h0 : (Lit.int .i64 places).wf = true) (a : Option Addr) (len cap : Nat) (zs : List OpP) (w : World) (h : ArgOps7 w a len zs) (hlen : len ≤ maxLen) :
    Calls Try.prog 4 #[.int .i64 places, .slice a len cap] w fun e w' => e = .returned (.bool true) ∧ Below w.heap.size w w' := by
  have e7 := and7' places
  obtain ⟨r, hr⟩ : ∃ r, pg8 places = r := ⟨_, rfl⟩
  have hr8 := pg8_lt places
  rw [hr] at e7 hr8
  obtain ⟨n, hn⟩ : ∃ n, 1 + r = n := ⟨_, rfl⟩
  have hnI : 1 + (r : Int) = (n : Int) := by omega
  have hn1 : 1 ≤ n := by omega
  have hn8 : n ≤ 8 := by omega
  have hlen2 : (len : Int) ≤ 9223372036854775807 := by simp [maxLen] at hlen; omega
  have CN := Lib.hid fun (W : World) => dnew_ok W (fun _ => 0) 1 8 (by omega) (by omega)
  have hS : (List.replicate 8 blank).length = 8 := by simp
  have CP := Lib.hid fun (W : World) o p (D : IsD W o 1 p (List.replicate 8 blank) []) => pd_new D 2 n (by decide) hn1 (by omega)
  have CF := Lib.hid fixed7
  have HSL := Lib.hid hS
  have HA := Lib.hid h
  have HC0 := Lib.hid (fun k (hk : k < 8) => content_new 8 n k hk)
  have CE := Lib.hid (fun W => rpad252 ⟨#[]⟩ W (by decide))
  generalize padOf ⟨#[]⟩ 252 = B0 at *
  clear _h0 hr hn hS hr8 h hlen
  generalize List.replicate 8 blank = S at *
  go_enter Try.func4, Try.ntmps4
  go_wp2_with fail
  refine (CN.out _).mono ?_; rintro e w1 ⟨pd, o1, rfl, h1, s1⟩
  have D1 := Lib.hid h1; have Z1 := Lib.hid ((Since.start w).step s1 (by decide)); clear h1 s1 CN
  go_wp2_with fail
  refine (CP.out _ _ _ D1.out).mono ?_; rintro e w2 ⟨g, rfl, o2, h2, s2, _⟩
  have P2 := Lib.hid h2; have Z2 := Lib.hid (Z1.out.step s2 (by decide)); clear h2 s2 CP D1 Z1
  go_upto_region 8 with fail
  go_cut [10, 11] (fun hs ds wx => ∃ (hb db : Nat) (o : Nat → Nat), hs = .slice (some ⟨hb, 0, none⟩) 8 8 ∧ ds = .slice (some ⟨db, 0, none⟩) 8 8 ∧ HoldSt w wx o pd g hb db S [] ⟨n, [], 0, 0⟩ 0 (fun _ => ⟨#[]⟩) (fun _ => 0))
  case first =>
    have m1 := mk_has; have m2 := mk_held
    go_region
    · go_wp2_with fail
      go_meet
      have b1 : Below w2.heap.size w2 ((w2.alloc (.cells (hasV (fun _ => ⟨#[]⟩)) 9)).alloc (.cells (heldV (fun _ => 0)) 3)).drew := ((((Below.refl _ w2).alloc (Nat.le_refl _) _).alloc (by simp) _)).trans ((below_drew _ 1).mono (by simp; omega))
      have hH : At ((w2.alloc (.cells (hasV (fun _ => ⟨#[]⟩)) 9)).alloc (.cells (heldV (fun _ => 0)) 3)).drew w2.heap.size (hasV (fun _ => ⟨#[]⟩)) 9 := ((At.new w2 (hasV (fun _ => ⟨#[]⟩)) 9).reads ((Below.refl _ _).alloc (Nat.le_refl _) (.cells (heldV (fun _ => 0)) 3))).drew
      have hD := At.new (w2.alloc (.cells (hasV (fun _ => ⟨#[]⟩)) 9)) (heldV (fun _ => 0)) 3
      rw [show (w2.alloc (.cells (hasV (fun _ => ⟨#[]⟩)) 9)).heap.size = w2.heap.size + 1 by simp] at hD
      obtain ⟨o', hs'⟩ := HoldSt.made P2.out Z2.out b1 hH hD (Nat.le_refl _) (by omega)
      exact ⟨_, _, o', rfl, rfl, hs'⟩
    · go_wp2_with fail
      go_meet
      have b1 : Below w2.heap.size w2 ((w2.alloc (.cells (heldV (fun _ => 0)) 3)).alloc (.cells (hasV (fun _ => ⟨#[]⟩)) 9)).drew := ((((Below.refl _ w2).alloc (Nat.le_refl _) _).alloc (by simp) _)).trans ((below_drew _ 1).mono (by simp; omega))
      have hD : At ((w2.alloc (.cells (heldV (fun _ => 0)) 3)).alloc (.cells (hasV (fun _ => ⟨#[]⟩)) 9)).drew w2.heap.size (heldV (fun _ => 0)) 3 := ((At.new w2 (heldV (fun _ => 0)) 3).reads ((Below.refl _ _).alloc (Nat.le_refl _) (.cells (hasV (fun _ => ⟨#[]⟩)) 9))).drew
      have hH := At.new (w2.alloc (.cells (heldV (fun _ => 0)) 3)) (hasV (fun _ => ⟨#[]⟩)) 9
      rw [show (w2.alloc (.cells (heldV (fun _ => 0)) 3)).heap.size = w2.heap.size + 1 by simp] at hH
      obtain ⟨o', hs'⟩ := HoldSt.made P2.out Z2.out b1 hH hD (by omega) (Nat.le_refl _)
      exact ⟨_, _, o', rfl, rfl, hs'⟩
  case rest =>
    obtain ⟨hb, db, o3, rfl, rfl, h3⟩ := hcut
    have H3 := Lib.hid h3
    clear h3 P2 Z2
    go_wp2_with fail
    go_loopw [12] (fun u wr => ∃ (i : Nat) (o : Nat → Nat), i ≤ 8 ∧ u = .int .i64 (i : Int) ∧ HoldSt w wr o pd g hb db S [] ⟨n, [], 0, 0⟩ 0 (fun k => if k < i then B0 else ⟨#[]⟩) (fun _ => 0)) (fun u _ => 8 - (intOf u).toNat)
    case atStart => exact ⟨0, o3, by omega, rfl, H3.out.re (fun k _ => by rw [if_neg (by omega)]) (fun _ _ => rfl)⟩
    case round =>
      obtain ⟨i, o4, hi, rfl, h4⟩ := hrel
      have H4 := Lib.hid h4
      clear h4 H3
      by_cases hlt : i < 8
      · have hlt' : (i : Int) < 8 := by omega
        have hi0 : (0 : Int) ≤ (i : Int) := by omega
        go_wp2_with fail
        refine (CE.out _).mono ?_; rintro e w5 ⟨rfl, b5⟩
        have H5 := Lib.hid (H4.out.reads b5)
        have c5 := (H5.out.H.cell i).trans (hasV_get _ i hlt)
        have z5 := H5.out.H.fz i
        have H6 := Lib.hid ((H5.out.putH i B0).re (f' := fun k => if k < i + 1 then B0 else ⟨#[]⟩) (fun k _ => by
          by_cases e : k = i
          · rw [if_pos e, if_pos (by omega)]
          · rw [if_neg e]
            by_cases h : k < i
            · rw [if_pos h, if_pos (by omega)]
            · rw [if_neg h, if_neg (by omega)]) (fun _ _ => rfl))
        clear b5 H4 H5
        go_wp2_with fail
        exact ⟨⟨i + 1, _, by omega, by go_num, H6.out⟩, by simp [intOf]; omega⟩
      · have hge : (8 : Int) ≤ (i : Int) := by omega
        have H5 := Lib.hid (H4.out.re (f' := content S [] ⟨n, [], 0, 0⟩) (h' := fun k => pinsN ⟨n, [], 0, 0⟩ (k : Int)) (fun k hk => by rw [if_pos (by omega), HC0.out k hk]) (fun _ _ => rfl))
        clear H4 hlt hi HC0 CE
        go_wp2_with fail
        go_loopw [15] (fun u wr => ∃ (t : Nat) (o : Nat → Nat) (Ws : Wrs) (p : PoolP), t ≤ len ∧ t ≤ 80 ∧ u = .int .i64 (t : Int) ∧ p.n = n ∧ HoldSt w wr o pd g hb db S Ws p t (content S Ws p) (fun k => pinsN p (k : Int))) (fun u _ => len - (intOf u).toNat)
        case atStart => exact ⟨0, _, _, _, by omega, by omega, rfl, rfl, H5.out⟩
        case round =>
          obtain ⟨t, o, Ws, p, ht, ht2, rfl, hpn, hS⟩ := hrel
          have HS := Lib.hid hS; have HPN := Lib.hid hpn
          clear H5 hpn
          by_cases hc : t < len ∧ t < 80
          · obtain ⟨hc1, hc2⟩ := hc
            have c1 : (t : Int) < (len : Int) := by omega
            have c2 : (t : Int) < 80 := by omega
            have c3 : (0 : Int) ≤ (t : Int) := by omega
            obtain ⟨x, b, off, hx, rfl, k0, k1, k2, k3, x3, x4⟩ := HA.out.got hS.Z t hc1
            obtain ⟨xk, xp, xs, xn⟩ := x
            dsimp only at k0 k1 k2 k3 x3 x4
            have hxm2 : (xs.size : Int) ≤ 9223372036854775807 := by simp [maxLen] at x4; omega
            clear hx hS x3 x4
            go_upto_region 18 with fail
            obtain ⟨o0, hS0, oB⟩ := HS.out.box (.cells #[.int .i64 xk, .int .i64 xp, .string xs, .int .i64 xn] 31)
            have HS0 := Lib.hid hS0
            have A0 := At.new wr #[.int .i64 xk, .int .i64 xp, .string xs, .int .i64 xn] 31
            clear k0 k1 k2 k3 HS hS0
            generalize wr.alloc (.cells #[.int .i64 xk, .int .i64 xp, .string xs, .int .i64 xn] 31) = W0 at *
            generalize wr.heap.size = B at *
            have k0 : W0.cell? ⟨B, 0, none⟩ = some (.int .i64 xk) := A0.cell 0
            have k1 : W0.cell? ⟨B, 1, none⟩ = some (.int .i64 xp) := A0.cell 1
            have k2 : W0.cell? ⟨B, 2, none⟩ = some (.string xs) := A0.cell 2
            have k3 : W0.cell? ⟨B, 3, none⟩ = some (.int .i64 xn) := A0.cell 3
            have HA0 := Lib.hid A0; have HOB := Lib.hid oB
            clear A0 oB
            have ep := and7' xp
            have hp8 := pg8_lt xp
            generalize pg8 xp = pg at *
            go_upto_block 4 with fail
            go_cut [18] (fun _ wx => ∃ (o : Nat → Nat) (Ws : Wrs) (p : PoolP), p.n = n ∧ HoldSt w wx o pd g hb db S Ws p (t + 1) (content S Ws p) (fun k => pinsN p (k : Int)))
            case first =>
              have q0 : (0 : Int) ≤ (pg : Int) := by omega
              have q8 : (pg : Int) < 8 := by omega
              have hgS : pg < S.length := by rw [HSL.out]; exact hp8
              clear k1 ep
              have hX : xk = 0 ∨ xk = 1 ∨ xk = 2 ∨ xk = 3 ∨ (¬ xk = 0 ∧ ¬ xk = 1 ∧ ¬ xk = 2 ∧ ¬ xk = 3) := by omega
              rcases hX with rfl | rfl | rfl | rfl | ⟨x0, x1, x2, x3⟩
              · -- Pin
                clear k2 k3
                have C := pd_pin HS0.out.P (by omega) (pg : Int)
                rcases pinE_way HS0.out.P.I.I pg hgS with hE | ⟨hE, hpz⟩
                · rw [hE, pin_content HS0.out.P.I pg hE] at C
                  have HCC := Lib.hid C
                  have hcn := fun k => content_pin HS0.out.P.I (pg : Int) k
                  have hpp := fun k : Nat => pins_pin HS0.out.P.I (pg : Int) hE (k : Int)
                  have HCN := Lib.hid hcn; have HPP := Lib.hid hpp
                  have hb2 := HS0.out.P.I.I
                  have HPNN := Lib.hid ((pinL_n (S := S) (Ws := Ws) (p := p) (pg : Int)).trans HPN.out)
                  clear C hcn hpp hb2
                  generalize hsx : content S Ws p pg = sx at *
                  have hss : (sx.toList == sx.toList) = true := by simp
                  have hss2 : (sx.toList != sx.toList) = false := by simp
                  go_wp2_with fail
                  refine HCC.out.mono ?_; rintro e w5 ⟨rfl, o5, h5, m5⟩
                  have H5 := Lib.hid (HS0.out.call m5 h5)
                  have d1 : w5.cell? ⟨hb, pg, none⟩ = some (.string sx) := by rw [← hsx]; exact (H5.out.H.cell pg).trans (hasV_get _ pg hp8)
                  have d2 : w5.cell? ⟨db, pg, none⟩ = some (.int .i64 (pinsN p (pg : Int) : Int)) := (H5.out.D.cell pg).trans (heldV_get _ pg hp8)
                  have z2 := H5.out.D.fz pg
                  have hpl : pinsN p (pg : Int) ≤ 100 := by
                    unfold pinsN
                    cases hf : findP p.L (pg : Int) with
                    | none => exact Nat.zero_le 100
                    | some a => have := HS0.out.P.cp a (findP_some hf).1; simp only; omega
                  have H6 := Lib.hid ((H5.out.putD pg (pinsN p (pg : Int) + 1)).re (f' := content S (pinW S Ws p (pg : Int)) (pinL S Ws p (pg : Int))) (h' := fun k => pinsN (pinL S Ws p (pg : Int)) (k : Int)) (fun k _ => (HCN.out k).symm) (fun k _ => by
                    rw [HPP.out k]
                    by_cases e : k = pg
                    · subst e; rw [if_pos rfl, if_pos rfl]
                    · rw [if_neg e, if_neg (by omega)]))
                  have en : ((pinsN p (pg : Int) + 1 : Nat) : Int) = (pinsN p (pg : Int) : Int) + 1 := by omega
                  rw [en] at H6
                  have hn0 : (0 : Int) ≤ (pinsN p (pg : Int) : Int) := by omega
                  have hn9 : (pinsN p (pg : Int) : Int) ≤ 100 := by omega
                  generalize (pinsN p (pg : Int) : Int) = pz at *
                  clear h5 m5 HCC H5 en hpl hsx
                  go_wp2_with fail
                  go_meet
                  exact ⟨_, _, _, HPNN.out, H6.out⟩
                · have e1 : pinL S Ws p (pg : Int) = p := pinL_no (by rw [hE]; decide)
                  have e2 : pinW S Ws p (pg : Int) = Ws := by unfold pinW; rw [if_neg (by rw [hE]; decide)]
                  have e3 : pinS S Ws p (pg : Int) = ⟨#[]⟩ := by unfold pinS; rw [if_neg (by rw [hE]; decide)]
                  rw [hE, e1, e2, e3] at C
                  have HCC := Lib.hid C
                  clear C e1 e2 e3
                  go_wp2_with fail
                  refine HCC.out.mono ?_; rintro e w5 ⟨rfl, o5, h5, m5⟩
                  have H5 := Lib.hid (HS0.out.call m5 h5)
                  have d2 : w5.cell? ⟨db, pg, none⟩ = some (.int .i64 0) := ((H5.out.D.cell pg).trans (heldV_get _ pg hp8)).trans (by show some (Value.int .i64 ((pinsN p (pg : Int) : Nat) : Int)) = _; rw [hpz]; rfl)
                  clear h5 m5 HCC hE hpz
                  go_wp2_with fail
                  go_meet
                  exact ⟨_, _, _, HPN.out, H5.out⟩
              · -- Unpin
                clear k2 k3
                have C := Lib.hid (fun W (h : PD W o0 1 pd 2 g S Ws p t) => pd_unpin h (by omega) (pg : Int))
                have hiff := unE_iff (p := p) (pg : Int)
                have d2 : W0.cell? ⟨db, pg, none⟩ = some (.int .i64 (pinsN p (pg : Int) : Int)) := (HS0.out.D.cell pg).trans (heldV_get _ pg hp8)
                have d3 : W0.drew.cell? ⟨db, pg, none⟩ = some (.int .i64 (pinsN p (pg : Int) : Int)) := d2
                have HSD := Lib.hid (HS0.out.reads (below_drew W0 1))
                have hpl : pinsN p (pg : Int) ≤ 100 := by
                  unfold pinsN
                  cases hf : findP p.L (pg : Int) with
                  | none => exact Nat.zero_le 100
                  | some a => have := HS0.out.P.cp a (findP_some hf).1; simp only; omega
                have HPNN := Lib.hid ((unL_n (p := p) (pg : Int)).trans HPN.out)
                have HCN := Lib.hid (fun k => content_un (S := S) (Ws := Ws) (p := p) (pg : Int) k)
                obtain ⟨pz, hpz⟩ : ∃ z, pinsN p (pg : Int) = z := ⟨_, rfl⟩
                rw [hpz] at hiff d2 d3 hpl
                by_cases hz0 : 0 < pz
                · have hE := hiff.2 hz0
                  have hpp := fun k : Nat => pins_un (p := p) (pg : Int) hE (k : Int)
                  rw [hE] at C
                  have HPP := Lib.hid hpp
                  have p0 : (0 : Int) < (pz : Int) := by omega
                  have p9 : (pz : Int) ≤ 100 := by omega
                  clear hpp hiff hE
                  go_wp2_with fail
                  go_region_held3 (fun W => W.cell? ⟨db, pg, none⟩ = some (.int .i64 (pz : Int))) (first | exact d2 | exact d3 | exact d5)
                    ((go_at_call 10; refine (C.out _ HSD.out.P).mono ?_; rintro e w5 ⟨rfl, o5, h5, m5⟩; have H5 := Lib.hid (HSD.out.call m5 h5); have d5 : w5.cell? ⟨db, pg, none⟩ = some (.int .i64 (pz : Int)) := ((H5.out.D.cell pg).trans (heldV_get _ pg hp8)).trans (by show some (Value.int .i64 ((pinsN p (pg : Int) : Nat) : Int)) = _; rw [hpz]); clear h5 m5))
                  all_goals
                    have z5 := H5.out.D.fz pg
                    have H6 := Lib.hid ((H5.out.putD pg (pz - 1)).re (f' := content S Ws (unL p (pg : Int))) (h' := fun k => pinsN (unL p (pg : Int)) (k : Int)) (fun k _ => (HCN.out k).symm) (fun k _ => by
                      rw [HPP.out k, hpz]
                      by_cases e : k = pg
                      · subst e; rw [if_pos rfl, if_pos rfl]
                      · rw [if_neg e, if_neg (by omega)]))
                    have en : ((pz - 1 : Nat) : Int) = max 0 ((pz : Int) - 1) := by omega
                    rw [en] at H6
                    clear d2 d3 HSD HCN HPP
                    go_wp2_with fail
                    go_meet
                    exact ⟨_, _, _, HPNN.out, H6.out⟩
                · have hE : unE p (pg : Int) ≠ 0 := fun e => hz0 (hiff.1 e)
                  have e1 : unL p (pg : Int) = p := unL_no hE
                  rw [e1] at C
                  obtain rfl : pz = 0 := by omega
                  generalize unE p (pg : Int) = ex at *
                  have hx1 : (ex == 0) = false := by rw [beq_eq_false_iff_ne]; exact hE
                  clear hiff e1 hE
                  go_wp2_with fail
                  go_region_held3 (fun W => W.cell? ⟨db, pg, none⟩ = some (.int .i64 ((0 : Nat) : Int))) (first | exact d2 | exact d3 | exact d5)
                    ((go_at_call 10; refine (C.out _ HSD.out.P).mono ?_; rintro e w5 ⟨rfl, o5, h5, m5⟩; have H5 := Lib.hid (HSD.out.call m5 h5); have d5 : w5.cell? ⟨db, pg, none⟩ = some (.int .i64 ((0 : Nat) : Int)) := ((H5.out.D.cell pg).trans (heldV_get _ pg hp8)).trans (by show some (Value.int .i64 ((pinsN p (pg : Int) : Nat) : Int)) = _; rw [hpz]); clear h5 m5))
                  all_goals
                    have z5 := H5.out.D.fz pg
                    have H6 := Lib.hid ((H5.out.putD pg 0).re (f' := content S Ws p) (h' := fun k => pinsN p (k : Int)) (fun _ _ => rfl) (fun k _ => by
                      by_cases e : k = pg
                      · subst e; rw [if_pos rfl, hpz]
                      · rw [if_neg e]))
                    go_wp2_with fail
                    go_meet
                    exact ⟨_, _, _, HPN.out, H6.out⟩
              · -- Put
                obtain ⟨ck, ck1, ck2, ck3, ck4⟩ := cut7 xs
                have ck5 : (0 : Int) ≤ (ck : Int) := by omega
                have ck6 : (ck : Int) ≤ (xs.size : Int) := by omega
                obtain ⟨sc, hsc⟩ : ∃ s, xs.extract 0 ck = s := ⟨_, rfl⟩
                rw [hsc] at ck4
                have CA := Lib.hid (fun W => rpad252 sc W ck4)
                have hsz := padOf_size sc 252 ck4
                generalize padOf sc 252 = sp at *
                have C := Lib.hid (fun W (h : PD W o0 1 pd 2 g S Ws p t) => pd_put h (pg : Int) sp xn)
                have HPNN := Lib.hid ((putL_n (p := p) (pg : Int) sp xn).trans HPN.out)
                clear ck4
                go_wp2_with fail
                refine (CA.out _).mono ?_; rintro e w4 ⟨rfl, b4⟩
                have H4 := Lib.hid (HS0.out.reads b4)
                have k4 : w4.cell? ⟨B, 3, none⟩ = some (.int .i64 xn) := (HA0.out.reads b4).cell 3
                clear b4 CA k2 k3
                by_cases hE : putE p (pg : Int) sp xn = 0
                · rw [hE] at C
                  have HCN := Lib.hid (fun k => content_put (S := S) (Ws := Ws) (p := p) pg sp xn hE k)
                  rw [pad_full sp hsz] at HCN
                  clear hE
                  go_wp2_with fail
                  refine (C.out _ H4.out.P).mono ?_; rintro e w5 ⟨rfl, o5, h5, m5⟩
                  have H5 := Lib.hid (H4.out.call m5 h5)
                  have d5 := (H5.out.H.cell pg).trans (hasV_get _ pg hp8)
                  have z5 := H5.out.H.fz pg
                  have H6 := Lib.hid ((H5.out.putH pg sp).re (f' := content S Ws (putL p (pg : Int) sp xn)) (h' := fun k => pinsN (putL p (pg : Int) sp xn) (k : Int)) (fun k _ => (HCN.out k).symm) (fun k _ => (pins_put (pg : Int) sp xn (k : Int)).symm))
                  clear h5 m5 C
                  go_wp2_with fail
                  go_meet
                  exact ⟨_, _, _, HPNN.out, H6.out⟩
                · have e1 : putL p (pg : Int) sp xn = p := putL_no hE
                  rw [e1] at C
                  generalize putE p (pg : Int) sp xn = ex at *
                  have hx1 : (ex == 0) = false := by rw [beq_eq_false_iff_ne]; exact hE
                  clear e1 hE
                  go_wp2_with fail
                  refine (C.out _ H4.out.P).mono ?_; rintro e w5 ⟨rfl, o5, h5, m5⟩
                  have H5 := Lib.hid (H4.out.call m5 h5)
                  clear h5 m5 C
                  go_wp2_with fail
                  go_meet
                  exact ⟨_, _, _, HPN.out, H5.out⟩
              · -- Sure
                have C := Lib.hid (pd_sure HS0.out.P xn)
                clear k2
                go_wp2_with fail
                refine C.out.mono ?_; rintro e w5 ⟨rfl, o5, h5, m5⟩
                have H5 := Lib.hid (HS0.out.call m5 h5)
                clear h5 m5 C
                go_wp2_with fail
                go_meet
                exact ⟨_, _, sureL p xn, HPN.out, H5.out⟩
              · have y0 : (xk == 0) = false := by rw [beq_eq_false_iff_ne]; exact x0
                have y1 : (xk == 1) = false := by rw [beq_eq_false_iff_ne]; exact x1
                have y2 : (xk == 2) = false := by rw [beq_eq_false_iff_ne]; exact x2
                have y3 : (xk == 3) = false := by rw [beq_eq_false_iff_ne]; exact x3
                have C := Lib.hid (pd_clean HS0.out.P (by omega))
                have HCN := Lib.hid (fun k => content_clean HS0.out.P.I k)
                clear k2 k3 x0 x1 x2 x3
                generalize ((cleanI p.L p.sure).length : Int) = cx at *
                go_wp2_with fail
                refine C.out.mono ?_; rintro e w5 ⟨rfl, o5, h5, m5⟩
                have H5 := Lib.hid ((HS0.out.call m5 h5).re (f' := content S (cleanW Ws p) (cleanL p)) (h' := fun k => pinsN (cleanL p) (k : Int)) (fun k _ => (HCN.out k).symm) (fun k _ => (pins_clean (k : Int)).symm))
                clear h5 m5 C
                go_wp2_with fail
                go_meet
                exact ⟨_, _, cleanL p, HPN.out, H5.out⟩
            case rest =>
              obtain ⟨o5, Ws5, p5, hpn5, hS5⟩ := hcut
              have HS5 := Lib.hid hS5
              have hln : p5.L.length ≤ n := by rw [← hpn5]; exact hS5.P.I.I.len
              have CG := Lib.hid (pd_pages hS5.P)
              clear HS0 HA0 HOB k0 k1 k2 k3 ep hp8 hS5 HPN
              go_wp2_with fail
              refine CG.out.mono ?_; rintro e w6 ⟨v6, rfl, i6, _, b6⟩
              obtain ⟨va, vC, rfl⟩ := i6.len
              rw [pagesI_length]
              obtain ⟨pl, hpl⟩ : ∃ x, p5.L.length = x := ⟨_, rfl⟩
              rw [hpl] at hln ⊢
              have hln' : ¬ (n : Int) < (pl : Int) := by omega
              have H6 := Lib.hid (HS5.out.reads b6)
              have HP5 := Lib.hid hpn5
              clear i6 b6 CG hln hpn5 hpl
              go_wp2_with fail
              go_loopw [22] (fun u wr => ∃ (k : Nat) (o : Nat → Nat), k ≤ 8 ∧ u = .int .i64 (k : Int) ∧ HoldSt w wr o pd g hb db S Ws5 p5 (t + 1) (content S Ws5 p5) (fun k => pinsN p5 (k : Int))) (fun u _ => 8 - (intOf u).toNat)
              case atStart => exact ⟨0, _, by omega, rfl, H6.out⟩
              case round =>
                obtain ⟨k, o7, hk, rfl, h7⟩ := hrel
                have H7 := Lib.hid h7
                clear h7 H6 HS5
                by_cases hlt : k < 8
                · have hlt' : (k : Int) < 8 := by omega
                  have hk0 : (0 : Int) ≤ (k : Int) := by omega
                  have d2 : ∀ q, (wr.drewN q).cell? ⟨db, k, none⟩ = some (.int .i64 (pinsN p5 (k : Int) : Int)) := fun q => (H7.out.D.cell k).trans (heldV_get _ k hlt)
                  have CQ := Lib.hid (fun q => pd_pins (H7.out.P.reads (below_drew wr q)) (k : Int))
                  generalize (pinsN p5 (k : Int) : Int) = pz at *
                  have hzz : (pz != pz) = false := by simp
                  have hzz2 : (pz == pz) = true := by simp
                  go_wp2_with fail
                  go_quiet ((go_at_call 20; exact Calls.quiet_of_same ((CQ.out _).mono (fun e w' h => ⟨h.1, h.2.symm⟩))))
                  have H8 := Lib.hid (H7.out.reads (below_drew wr nq))
                  clear d2 CQ H7
                  generalize wr.drewN nq = W8 at *
                  go_wp2_with fail
                  exact ⟨⟨k + 1, _, by omega, by go_num, H8.out⟩, by simp [intOf]; omega⟩
                · have hge8 : (8 : Int) ≤ (k : Int) := by omega
                  clear hlt hk
                  go_wp2_with fail
                  exact ⟨⟨t + 1, _, _, _, by omega, by omega, by go_num, HP5.out, H7.out⟩, by simp [intOf]; omega⟩
          · by_cases hc1 : t < len
            · have c1 : (t : Int) < (len : Int) := by omega
              have c4 : ¬ (t : Int) < 80 := by omega
              clear hc hS
              go_wp2_with fail
              refine (CF.out _).mono ?_; rintro e w6 ⟨rfl, b6⟩
              have Z6 := Lib.hid (HS.out.Z.reads b6)
              clear b6
              go_wp2_with fail
              go_ret
              exact ⟨rfl, Z6.out.bel⟩
            · have c1 : ¬ (t : Int) < (len : Int) := by omega
              clear hc hS
              go_wp2_with fail
              refine (CF.out _).mono ?_; rintro e w6 ⟨rfl, b6⟩
              have Z6 := Lib.hid (HS.out.Z.reads b6)
              clear b6
              go_wp2_with fail
              go_ret
              exact ⟨rfl, Z6.out.bel⟩
end Go.Proofs.Ytdbniiggbjmfoaa
