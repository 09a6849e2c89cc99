/-
  WalParts, walked.
-/
import Derived.Test.YtncpldmnnipljaaA06
namespace Go.Proofs.Ytncpldmnnipljaa
open Go.RowKit
theorem ArgU8s.raw {w0 : World} {a : Option Addr} {len : Nat} {zs : List Int} (h : ArgU8s w0 a len zs) (t : Nat) (ht : t < len) : ∃ b off x, a = some ⟨b, off, none⟩ ∧ w0.cell? ⟨b, off + t, none⟩ = some (.int .u8 x) ∧ 0 ≤ x ∧ x < 256 := by
  have ht' : t < zs.length := by rw [h.1]; exact ht
  obtain ⟨b, off, e1, e2, e3, e4⟩ := h.2 t _ (List.getElem?_eq_getElem ht')
  exact ⟨b, off, _, e1, e2, e3, e4⟩
theorem syncL_R {L : LogP} (h : L.tu = none) : (syncL L).R = L.R := by rw [syncL_none h]
set_option maxRecDepth 100000 in
set_option maxHeartbeats 8000000 in
theorem walk_WalParts (a : Option Addr) (len cap : Nat) (ss : List ByteArray) (fa : Option Addr) (fl fc : Nat) (zs : List Int) (w : World) (h : IsStrs w a len ss) (hlen : len ≤ maxLen) (hf : ArgU8s w fa fl zs) (hfl : fl ≤ maxLen) :
    Calls Try.prog 7 #[.slice a len cap, .slice fa fl fc] w fun e w' => e = .returned (.bool true) ∧ Below w.heap.size w w' := by
  obtain ⟨hl, hst, hmx⟩ := strs_of_arg h
  have hlen2 : (len : Int) ≤ 9223372036854775807 := by simp [maxLen] at hlen; omega
  have hfl2 : (fl : Int) ≤ 9223372036854775807 := by simp [maxLen] at hfl; omega
  have hT := Lib.hid hst; have HX := Lib.hid hmx; have HL := Lib.hid hl; have HF := Lib.hid hf
  have CF := Lib.hid fixed6_true
  have CN := Lib.hid (fun W o i => dnew_ok W o i 400 (by omega) (by omega))
  clear h hst hmx hl hlen hf hfl
  go_enter Try.func7, Try.ntmps7
  go_wp2_with fail
  refine (CN.out w (fun _ => 0) 1).mono ?_; rintro e w1 ⟨pa, o1, rfl, D1, S1⟩
  have Z1 := Lib.hid ((Since.start w).step S1 (by decide)); have HD1 := Lib.hid D1
  clear D1 S1
  go_wp2_with fail
  refine (CN.out w1 o1 2).mono ?_; rintro e w2 ⟨pb, o2, rfl, D2, S2⟩
  have Z2 := Lib.hid (Z1.out.step S2 (by decide)); have HA2 := Lib.hid (HD1.out.other S2 (by decide)); have HB2 := Lib.hid D2
  clear D2 S2 Z1 HD1 CN
  have C3 := ld_open (m := 200) HA2.out (by rw [List.length_replicate]) (by rw [List.length_replicate]; omega) (by rw [maxTag_new]; omega) (fun s hs => by rw [openS_new] at hs; cases hs) 3 0 (by decide) (by rw [openS_new]; exact Nat.le_refl _) (by rw [maxTag_new]; exact Nat.le_refl _)
  rw [openedL_new] at C3
  have HC3 := Lib.hid C3
  clear C3
  go_wp2_with fail
  refine HC3.out.mono ?_; rintro e w3 ⟨gx, rfl, L3, s3, b3⟩
  have Z3 := Lib.hid (Z2.out.step s3 (by decide)); have HX3 := Lib.hid L3; have HB3 := Lib.hid (HB2.out.other s3 (by decide))
  clear L3 s3 b3 Z2 HA2 HB2 HC3
  generalize gives o2 w2.heap.size 3 = o3 at *
  have C4 := ld_open (m := 200) HB3.out (by rw [List.length_replicate]) (by rw [List.length_replicate]; omega) (by rw [maxTag_new]; omega) (fun s hs => by rw [openS_new] at hs; cases hs) 4 0 (by decide) (by rw [openS_new]; exact Nat.le_refl _) (by rw [maxTag_new]; exact Nat.le_refl _)
  rw [openedL_new] at C4
  have HC4 := Lib.hid C4
  clear C4
  go_wp2_with fail
  refine HC4.out.mono ?_; rintro e w4 ⟨gy, rfl, L4, s4, b4⟩
  have Z4 := Lib.hid (Z3.out.step s4 (by decide)); have HY4 := Lib.hid L4; have HX4 := Lib.hid (HX3.out.moves (Moves.of (X := fun i => i = 4) rfl s4) (by decide) (by decide))
  clear L4 s4 b4 Z3 HX3 HB3 HC4
  generalize gives o3 w3.heap.size 4 = o4 at *
  have P0 : PartY ⟨0, 1, 0, [], 0, 0, none⟩ 0 := ⟨rfl, Nat.le_refl _, by decide, by decide⟩
  have HP0 := Lib.hid P0
  clear P0
  go_upto_block 0 with fail
  go_cut [13] (fun x wx => ∃ (n : Nat) (o : Nat → Nat) (Sx Sy : List ByteArray) (Wx Wy : Wrs) (X Y : LogP), x = .int .i64 (n : Int) ∧ Since w o wx ∧ LD wx o 1 pa 3 gx 200 Sx Wx X 40 ∧ LD wx o 2 pb 4 gy 200 Sy Wy Y 40 ∧ Sx.length = 400 ∧ Sy.length = 400 ∧ PartY X 7000 ∧ PartY Y 7000 ∧ X.R = Y.R ∧ X.wr = 0 ∧ X.n = 0 ∧ n = X.R.length)
  case first =>
    go_wp2_with fail
    go_loopw [13, 14] (fun x i wr => ∃ (t n : Nat) (o : Nat → Nat) (Sx Sy : List ByteArray) (Wx Wy : Wrs) (X Y : LogP), t ≤ len ∧ t ≤ 12 ∧ i = .int .i64 (t : Int) ∧ x = .int .i64 (n : Int) ∧ Since w o wr ∧ LD wr o 1 pa 3 gx 200 Sx Wx X (3 * t) ∧ LD wr o 2 pb 4 gy 200 Sy Wy Y (3 * t) ∧ Sx.length = 400 ∧ Sy.length = 400 ∧ PartY X (540 * t) ∧ PartY Y (540 * t) ∧ X.R = Y.R ∧ X.wr = 0 ∧ X.n = 0 ∧ n = X.R.length) (fun _ i _ => len - (intOf i).toNat)
    case atStart => exact ⟨0, 0, _, _, _, _, _, _, _, by omega, by omega, rfl, rfl, Z4.out, HX4.out, HY4.out, by rw [List.length_replicate], by rw [List.length_replicate], HP0.out, HP0.out, rfl, rfl, rfl, rfl⟩
    case round =>
      obtain ⟨t, n, o, Sx, Sy, Wx, Wy, X, Y, ht, ht2, rfl, rfl, hZ, hX, hY, hx4, hy4, pX, pY, hXY, hw0, hn0, hn⟩ := hrel
      have HZ := Lib.hid hZ; have HDx := Lib.hid hX; have HDy := Lib.hid hY; have HPx := Lib.hid pX; have HPy := Lib.hid pY; have HXY := Lib.hid hXY; have HW0 := Lib.hid hw0; have HN0 := Lib.hid hn0; have HN := Lib.hid hn
      have hnb : n ≤ 36 := by rw [hn]; have := hX.cR; omega
      have H4 := Lib.hid (And.intro hx4 hy4)
      clear Z4 HX4 HY4 hZ hX hY pX pY hXY hw0 hn0 hn HP0 hx4 hy4
      by_cases hlt : t < len ∧ t < 12
      · obtain ⟨hlt1, hlt2⟩ := hlt
        have hlt' : (t : Int) < (len : Int) := by omega
        have hlt2' : (t : Int) < 12 := by omega
        have h0 : (0 : Int) ≤ (t : Int) := by omega
        obtain ⟨ab, off, e1, e2, e3⟩ := (hT.out.since HZ.out).at (k := t) (by rw [HL.out]; exact hlt1)
        have hxm : (ss.getD t ⟨#[]⟩).size ≤ maxLen := HX.out _ (List.mem_of_getElem? e3)
        generalize ss.getD t ⟨#[]⟩ = x at *
        subst e1
        obtain ⟨k, k1, k2, k3, k4⟩ := cut6 x 300
        have k1' : min (x.size : Int) 300 = (k : Int) := k1
        have k5 : (0 : Int) ≤ (k : Int) := by omega
        have k6 : (k : Int) ≤ (x.size : Int) := by omega
        have hxm2 : (x.size : Int) ≤ 9223372036854775807 := by simp [maxLen] at hxm; omega
        obtain ⟨s, hs⟩ : ∃ s, x.extract 0 k = s := ⟨_, rfl⟩
        have hsz : s.size = k := by rw [← hs, ByteArray.size_extract]; omega
        have HSz := Lib.hid hsz
        have kt : ((k : Int)).toNat = k := by omega
        have q2 : wr.drew.cell? ⟨ab, off + t, none⟩ = some (.string x) := e2
        clear e3 hxm k1 hsz
        go_wp2_with fail
        go_quiet (fail)
        have B3 := Lib.hid (below_drew wr nq)
        generalize wr.drewN nq = W3 at *
        have Z5 := Lib.hid (HZ.out.reads B3.out); have X5 := Lib.hid (HDx.out.reads B3.out); have Y5 := Lib.hid (HDy.out.reads B3.out)
        clear q2 e2 B3 HZ HDx HDy
        have CX := ld_append X5.out (by omega) s
        by_cases hk0 : k = 0
        · have ea := app_none X s (by rw [HSz.out]; exact hk0)
          have eb := app_none Y s (by rw [HSz.out]; exact hk0)
          rw [ea.1, ea.2.1, ea.2.2] at CX
          have hsE : s.toList = [] := text_none s (by rw [HSz.out]; exact hk0)
          have hsE2 : s.toList.isEmpty = true := by rw [hsE]; rfl
          have HCX := Lib.hid CX
          clear CX ea
          go_wp2_with fail
          refine HCX.out.mono ?_; rintro e w6 ⟨rfl, o6, X6, M6⟩
          have Z6 := Lib.hid (Z5.out.moves M6 (duo_no (by decide) (by decide))); have HX6 := Lib.hid X6; have HY6 := Lib.hid (Y5.out.moves M6 (duo_no (by decide) (by decide)) (duo_no (by decide) (by decide)))
          clear X6 M6 Z5 X5 Y5 HCX
          have CY := ld_append HY6.out (by omega) s
          rw [eb.1, eb.2.1, eb.2.2] at CY
          have HCY := Lib.hid CY
          clear CY eb
          go_wp2_with fail
          refine HCY.out.mono ?_; rintro e w7 ⟨rfl, o7, Y7, M7⟩
          have Z7 := Lib.hid (Z6.out.moves M7 (duo_no (by decide) (by decide))); have HY7 := Lib.hid Y7; have HX7 := Lib.hid (HX6.out.moves M7 (duo_no (by decide) (by decide)) (duo_no (by decide) (by decide)))
          clear Y7 M7 Z6 HX6 HY6 HCY
          have PX7 := HPx; have PY7 := HPy; have XY7 := HXY; have W07 := HW0; have N07 := HN0; have NN7 := HN
          by_cases hpt : t < fl
          · have hpt' : (t : Int) < (fl : Int) := by omega
            obtain ⟨fb, fo, z, fe, fc0, z0, z1⟩ := HF.out.raw t hpt
            have fcell := Z7.out.cell fc0
            have HFc := Lib.hid fc0
            subst fe
            clear fc0
            obtain ⟨zn, rfl⟩ := Int.eq_ofNat_of_zero_le z0
            obtain ⟨r2, hr2⟩ : ∃ r, zn % 2 = r := ⟨_, rfl⟩
            obtain ⟨r3, hr3⟩ : ∃ r, zn % 3 = r := ⟨_, rfl⟩
            have hr2I : Int.tmod (zn : Int) 2 = (r2 : Int) := by rw [Int.tmod_eq_emod_of_nonneg (by omega)]; omega
            have hr3I : Int.tmod (zn : Int) 3 = (r3 : Int) := by rw [Int.tmod_eq_emod_of_nonneg (by omega)]; omega
            by_cases h2 : r2 = 0
            · have h2' : ((r2 : Int) == 0) = true := by simp [h2]
              have CW := ld_write HY7.out (by omega)
              rw [(wrL_none PY7.out.1).1, (wrL_none PY7.out.1).2] at CW
              have HCW := Lib.hid CW
              clear CW h2
              go_wp2_with fail
              refine HCW.out.mono ?_; rintro e w8 ⟨rfl, o8, Y8, M8⟩
              have Z8 := Lib.hid (Z7.out.moves M8 (duo_no (by decide) (by decide))); have HX8 := Lib.hid (HX7.out.moves M8 (duo_no (by decide) (by decide)) (duo_no (by decide) (by decide))); have HY8 := Lib.hid Y8
              have PY8 := Lib.hid (PY7.out.write)
              clear Y8 M8 Z7 HX7 HY7 HCW fcell
              have fcell := Z8.out.cell HFc.out
              by_cases h3 : r3 = 0
              · have h3' : ((r3 : Int) == 0) = true := by simp [h3]
                have HCS := Lib.hid (ld_sync HY8.out (by omega))
                clear h3
                go_wp2_with fail
                refine HCS.out.mono ?_; rintro e w9 ⟨rfl, o9, Y9, M9⟩
                have Z9 := Lib.hid (Z8.out.moves M9 (duo_no (by decide) (by decide))); have HX9 := Lib.hid (HX8.out.moves M9 (duo_no (by decide) (by decide)) (duo_no (by decide) (by decide))); have HY9 := Lib.hid Y9
                have PY9 := Lib.hid (PY8.out.sync)
                have XY9 := Lib.hid ((XY7.out).trans (syncL_R PY8.out.1).symm)
                clear Y9 M9 HCS fcell
                go_wp2_with fail
                exact ⟨⟨t + 1, n, o9, Sx, _, Wx, [], _, _, by omega, by omega, by go_num, by go_num, Z9.out, HX9.out.upto (by omega), HY9.out.upto (by omega), H4.out.1, (by rw [syncOf_length]; exact H4.out.2), PX7.out.mono (by omega), PY9.out.mono (by omega), XY9.out, W07.out, N07.out, NN7.out⟩, by simp [intOf]; omega⟩
              · have h3' : ((r3 : Int) == 0) = false := by simp; omega
                clear h3
                go_wp2_with fail
                exact ⟨⟨t + 1, n, o8, Sx, Sy, Wx, _, _, _, by omega, by omega, by go_num, by go_num, Z8.out, HX8.out.upto (by omega), HY8.out.upto (by omega), H4.out.1, H4.out.2, PX7.out.mono (by omega), PY8.out.mono (by omega), XY7.out, W07.out, N07.out, NN7.out⟩, by simp [intOf]; omega⟩
            · have h2' : ((r2 : Int) == 0) = false := by simp; omega
              clear h2
              by_cases h3 : r3 = 0
              · have h3' : ((r3 : Int) == 0) = true := by simp [h3]
                have HCS := Lib.hid (ld_sync HY7.out (by omega))
                clear h3
                go_wp2_with fail
                refine HCS.out.mono ?_; rintro e w9 ⟨rfl, o9, Y9, M9⟩
                have Z9 := Lib.hid (Z7.out.moves M9 (duo_no (by decide) (by decide))); have HX9 := Lib.hid (HX7.out.moves M9 (duo_no (by decide) (by decide)) (duo_no (by decide) (by decide))); have HY9 := Lib.hid Y9
                have PY9 := Lib.hid (PY7.out.sync)
                have XY9 := Lib.hid ((XY7.out).trans (syncL_R PY7.out.1).symm)
                clear Y9 M9 HCS fcell
                go_wp2_with fail
                exact ⟨⟨t + 1, n, o9, Sx, _, Wx, [], _, _, by omega, by omega, by go_num, by go_num, Z9.out, HX9.out.upto (by omega), HY9.out.upto (by omega), H4.out.1, (by rw [syncOf_length]; exact H4.out.2), PX7.out.mono (by omega), PY9.out.mono (by omega), XY9.out, W07.out, N07.out, NN7.out⟩, by simp [intOf]; omega⟩
              · have h3' : ((r3 : Int) == 0) = false := by simp; omega
                clear h3
                go_wp2_with fail
                exact ⟨⟨t + 1, n, o7, Sx, Sy, Wx, Wy, _, _, by omega, by omega, by go_num, by go_num, Z7.out, HX7.out.upto (by omega), HY7.out.upto (by omega), H4.out.1, H4.out.2, PX7.out.mono (by omega), PY7.out.mono (by omega), XY7.out, W07.out, N07.out, NN7.out⟩, by simp [intOf]; omega⟩
          · have hpt' : ¬ (t : Int) < (fl : Int) := by omega
            go_wp2_with fail
            exact ⟨⟨t + 1, n, o7, Sx, Sy, Wx, Wy, _, _, by omega, by omega, by go_num, by go_num, Z7.out, HX7.out.upto (by omega), HY7.out.upto (by omega), H4.out.1, H4.out.2, PX7.out.mono (by omega), PY7.out.mono (by omega), XY7.out, W07.out, N07.out, NN7.out⟩, by simp [intOf]; omega⟩
        · have hk1 : 1 ≤ s.size := by rw [HSz.out]; omega
          have hk3 : s.size ≤ 300 := by rw [HSz.out]; omega
          have ea := HPx.out.app s (by omega) hk3 hk1
          have eb := HPy.out.app s (by omega) hk3 hk1
          have hny : Y.R.length = n := by rw [← HXY.out]; exact HN.out.symm
          rw [ea.1, ea.2.1, ea.2.2, ← HN.out] at CX
          have hsE : ¬ s.toList = [] := text_some s (by omega)
          have hsE2 : s.toList.isEmpty = false := text_some2 s (by omega)
          have HCX := Lib.hid CX
          clear CX ea
          go_wp2_with fail
          refine HCX.out.mono ?_; rintro e w6 ⟨rfl, o6, X6, M6⟩
          have Z6 := Lib.hid (Z5.out.moves M6 (duo_no (by decide) (by decide))); have HX6 := Lib.hid X6; have HY6 := Lib.hid (Y5.out.moves M6 (duo_no (by decide) (by decide)) (duo_no (by decide) (by decide)))
          clear X6 M6 Z5 X5 Y5 HCX
          have CY := ld_append HY6.out (by omega) s
          rw [eb.1, eb.2.1, eb.2.2, hny] at CY
          have HCY := Lib.hid CY
          clear CY eb
          go_wp2_with fail
          refine HCY.out.mono ?_; rintro e w7 ⟨rfl, o7, Y7, M7⟩
          have Z7 := Lib.hid (Z6.out.moves M7 (duo_no (by decide) (by decide))); have HY7 := Lib.hid Y7; have HX7 := Lib.hid (HX6.out.moves M7 (duo_no (by decide) (by decide)) (duo_no (by decide) (by decide)))
          clear Y7 M7 Z6 HX6 HY6 HCY
          have PX7 := Lib.hid (HPx.out.append s hk3); have PY7 := Lib.hid (HPy.out.append s hk3)
          have XY7 := Lib.hid (show ({ X with R := X.R ++ [s] } : LogP).R = ({ Y with R := Y.R ++ [s] } : LogP).R by show X.R ++ [s] = Y.R ++ [s]; rw [HXY.out])
          have W07 := Lib.hid (show ({ X with R := X.R ++ [s] } : LogP).wr = 0 from HW0.out)
          have N07 := Lib.hid (show ({ X with R := X.R ++ [s] } : LogP).n = 0 from HN0.out)
          have NN7 := Lib.hid (show n + 1 = ({ X with R := X.R ++ [s] } : LogP).R.length by show n + 1 = (X.R ++ [s]).length; rw [List.length_append, ← HN.out]; rfl)
          by_cases hpt : t < fl
          · have hpt' : (t : Int) < (fl : Int) := by omega
            obtain ⟨fb, fo, z, fe, fc0, z0, z1⟩ := HF.out.raw t hpt
            have fcell := Z7.out.cell fc0
            have HFc := Lib.hid fc0
            subst fe
            clear fc0
            obtain ⟨zn, rfl⟩ := Int.eq_ofNat_of_zero_le z0
            obtain ⟨r2, hr2⟩ : ∃ r, zn % 2 = r := ⟨_, rfl⟩
            obtain ⟨r3, hr3⟩ : ∃ r, zn % 3 = r := ⟨_, rfl⟩
            have hr2I : Int.tmod (zn : Int) 2 = (r2 : Int) := by rw [Int.tmod_eq_emod_of_nonneg (by omega)]; omega
            have hr3I : Int.tmod (zn : Int) 3 = (r3 : Int) := by rw [Int.tmod_eq_emod_of_nonneg (by omega)]; omega
            by_cases h2 : r2 = 0
            · have h2' : ((r2 : Int) == 0) = true := by simp [h2]
              have CW := ld_write HY7.out (by omega)
              rw [(wrL_none PY7.out.1).1, (wrL_none PY7.out.1).2] at CW
              have HCW := Lib.hid CW
              clear CW h2
              go_wp2_with fail
              refine HCW.out.mono ?_; rintro e w8 ⟨rfl, o8, Y8, M8⟩
              have Z8 := Lib.hid (Z7.out.moves M8 (duo_no (by decide) (by decide))); have HX8 := Lib.hid (HX7.out.moves M8 (duo_no (by decide) (by decide)) (duo_no (by decide) (by decide))); have HY8 := Lib.hid Y8
              have PY8 := Lib.hid (PY7.out.write)
              clear Y8 M8 Z7 HX7 HY7 HCW fcell
              have fcell := Z8.out.cell HFc.out
              by_cases h3 : r3 = 0
              · have h3' : ((r3 : Int) == 0) = true := by simp [h3]
                have HCS := Lib.hid (ld_sync HY8.out (by omega))
                clear h3
                go_wp2_with fail
                refine HCS.out.mono ?_; rintro e w9 ⟨rfl, o9, Y9, M9⟩
                have Z9 := Lib.hid (Z8.out.moves M9 (duo_no (by decide) (by decide))); have HX9 := Lib.hid (HX8.out.moves M9 (duo_no (by decide) (by decide)) (duo_no (by decide) (by decide))); have HY9 := Lib.hid Y9
                have PY9 := Lib.hid (PY8.out.sync)
                have XY9 := Lib.hid ((XY7.out).trans (syncL_R PY8.out.1).symm)
                clear Y9 M9 HCS fcell
                go_wp2_with fail
                exact ⟨⟨t + 1, n + 1, o9, Sx, _, Wx, [], _, _, by omega, by omega, by go_num, by go_num, Z9.out, HX9.out.upto (by omega), HY9.out.upto (by omega), H4.out.1, (by rw [syncOf_length]; exact H4.out.2), PX7.out.mono (by omega), PY9.out.mono (by omega), XY9.out, W07.out, N07.out, NN7.out⟩, by simp [intOf]; omega⟩
              · have h3' : ((r3 : Int) == 0) = false := by simp; omega
                clear h3
                go_wp2_with fail
                exact ⟨⟨t + 1, n + 1, o8, Sx, Sy, Wx, _, _, _, by omega, by omega, by go_num, by go_num, Z8.out, HX8.out.upto (by omega), HY8.out.upto (by omega), H4.out.1, H4.out.2, PX7.out.mono (by omega), PY8.out.mono (by omega), XY7.out, W07.out, N07.out, NN7.out⟩, by simp [intOf]; omega⟩
            · have h2' : ((r2 : Int) == 0) = false := by simp; omega
              clear h2
              by_cases h3 : r3 = 0
              · have h3' : ((r3 : Int) == 0) = true := by simp [h3]
                have HCS := Lib.hid (ld_sync HY7.out (by omega))
                clear h3
                go_wp2_with fail
                refine HCS.out.mono ?_; rintro e w9 ⟨rfl, o9, Y9, M9⟩
                have Z9 := Lib.hid (Z7.out.moves M9 (duo_no (by decide) (by decide))); have HX9 := Lib.hid (HX7.out.moves M9 (duo_no (by decide) (by decide)) (duo_no (by decide) (by decide))); have HY9 := Lib.hid Y9
                have PY9 := Lib.hid (PY7.out.sync)
                have XY9 := Lib.hid ((XY7.out).trans (syncL_R PY7.out.1).symm)
                clear Y9 M9 HCS fcell
                go_wp2_with fail
                exact ⟨⟨t + 1, n + 1, o9, Sx, _, Wx, [], _, _, by omega, by omega, by go_num, by go_num, Z9.out, HX9.out.upto (by omega), HY9.out.upto (by omega), H4.out.1, (by rw [syncOf_length]; exact H4.out.2), PX7.out.mono (by omega), PY9.out.mono (by omega), XY9.out, W07.out, N07.out, NN7.out⟩, by simp [intOf]; omega⟩
              · have h3' : ((r3 : Int) == 0) = false := by simp; omega
                clear h3
                go_wp2_with fail
                exact ⟨⟨t + 1, n + 1, o7, Sx, Sy, Wx, Wy, _, _, by omega, by omega, by go_num, by go_num, Z7.out, HX7.out.upto (by omega), HY7.out.upto (by omega), H4.out.1, H4.out.2, PX7.out.mono (by omega), PY7.out.mono (by omega), XY7.out, W07.out, N07.out, NN7.out⟩, by simp [intOf]; omega⟩
          · have hpt' : ¬ (t : Int) < (fl : Int) := by omega
            go_wp2_with fail
            exact ⟨⟨t + 1, n + 1, o7, Sx, Sy, Wx, Wy, _, _, by omega, by omega, by go_num, by go_num, Z7.out, HX7.out.upto (by omega), HY7.out.upto (by omega), H4.out.1, H4.out.2, PX7.out.mono (by omega), PY7.out.mono (by omega), XY7.out, W07.out, N07.out, NN7.out⟩, by simp [intOf]; omega⟩
      · go_wp2_with fail
        all_goals
          go_meet
          exact ⟨n, o, Sx, Sy, Wx, Wy, X, Y, rfl, HZ.out, HDx.out.upto (by omega), HDy.out.upto (by omega), H4.out.1, H4.out.2, HPx.out.mono (by omega), HPy.out.mono (by omega), HXY.out, HW0.out, HN0.out, HN.out⟩
  case rest =>
    obtain ⟨n, o, Sx, Sy, Wx, Wy, X, Y, rfl, hZ, hX, hY, hx4, hy4, pX, pY, hXY, hw0, hn0, hn⟩ := hcut
    have HZ := Lib.hid hZ; have HDx := Lib.hid hX; have HDy := Lib.hid hY
    have hnb : n ≤ 40 := by rw [hn]; exact hX.cR
    have HN := Lib.hid hn
    clear hn
    have hpgs : (wroteL X).n ≤ (wroteL Y).n := by
      have h1 := pY.write.2.2.2
      show X.n + needOf (waitL X) ≤ _
      have e1 : (recsB ((wroteL Y).R.take (wroteL Y).wr)).length = waitL X := by
        show (recsB (Y.R.take Y.R.length)).length = (recsB (X.R.drop X.wr)).length
        rw [List.take_length, hw0, List.drop_zero, hXY]
      rw [e1] at h1
      rw [hn0]; unfold needOf; omega
    have tX : (wroteL X).tu = none := pX.1
    have tY : (wroteL Y).tu = none := pY.1
    have CW := ld_write hX (by omega)
    rw [(wrL_none pX.1).1, (wrL_none pX.1).2] at CW
    have HCW := Lib.hid CW
    have CWy := fun (w' : World) (o' : Nat → Nat) (h : LD w' o' 2 pb 4 gy 200 Sy Wy Y 40) => ld_write h (by omega)
    rw [(wrL_none pY.1).1, (wrL_none pY.1).2] at CWy
    have HCWy := Lib.hid CWy
    clear CW CWy hZ hX hY Z4 HX4 HY4 hT HX HL HF HP0 hlen2 hfl2
    obtain ⟨X1, hX1⟩ : ∃ X1, wroteL X = X1 := ⟨_, rfl⟩
    obtain ⟨Y1, hY1⟩ : ∃ Y1, wroteL Y = Y1 := ⟨_, rfl⟩
    have a1 : X1.R = X.R := by rw [← hX1]; rfl
    have a2 : X1.wr = X1.R.length := by rw [← hX1]; rfl
    have a3 : Y1.R = X.R := by rw [← hY1, hXY]; rfl
    have a4 : Y1.wr = Y1.R.length := by rw [← hY1]; rfl
    rw [hX1] at HCW tX hpgs
    rw [hY1] at HCWy tY hpgs
    clear hX1 hY1 pX pY hXY hw0 hn0
    go_wp2_with fail
    refine HCW.out.mono ?_; rintro e w1' ⟨rfl, o1', X1L, M1⟩
    have Z5 := Lib.hid (HZ.out.moves M1 (duo_no (by decide) (by decide))); have HX5 := Lib.hid X1L; have HY5 := Lib.hid (HDy.out.moves M1 (duo_no (by decide) (by decide)) (duo_no (by decide) (by decide)))
    clear X1L M1 HZ HDx HDy HCW
    have HCW2 := Lib.hid (HCWy.out _ _ HY5.out)
    clear HCWy
    go_wp2_with fail
    refine HCW2.out.mono ?_; rintro e w6 ⟨rfl, o6, Y6, M6⟩
    have Z6 := Lib.hid (Z5.out.moves M6 (duo_no (by decide) (by decide))); have HY6 := Lib.hid Y6; have HX6 := Lib.hid (HX5.out.moves M6 (duo_no (by decide) (by decide)) (duo_no (by decide) (by decide)))
    clear Y6 M6 Z5 HX5 HY5 HCW2
    generalize wrW 200 Wx X = Wx2 at *
    generalize wrW 200 Wy Y = Wy2 at *
    have CS := ld_sync HX6.out (by omega)
    rw [syncL_none tX] at CS
    have HCS := Lib.hid CS
    clear CS
    go_wp2_with fail
    refine HCS.out.mono ?_; rintro e w7 ⟨rfl, o7, X7, M7⟩
    have Z7 := Lib.hid (Z6.out.moves M7 (duo_no (by decide) (by decide))); have HX7 := Lib.hid X7; have HY7 := Lib.hid (HY6.out.moves M7 (duo_no (by decide) (by decide)) (duo_no (by decide) (by decide)))
    have hx5 : (syncOf Sx Wx2).length = 400 := by rw [syncOf_length]; exact hx4
    clear X7 M7 Z6 HX6 HY6 HCS
    generalize syncOf Sx Wx2 = Sx2 at *
    have CS2 := ld_sync HY7.out (by omega)
    rw [syncL_none tY] at CS2
    have HCS2 := Lib.hid CS2
    clear CS2
    go_wp2_with fail
    refine HCS2.out.mono ?_; rintro e w8 ⟨rfl, o8, Y8, M8⟩
    have Z8 := Lib.hid (Z7.out.moves M8 (duo_no (by decide) (by decide))); have HY8 := Lib.hid Y8; have HX8 := Lib.hid (HX7.out.moves M8 (duo_no (by decide) (by decide)) (duo_no (by decide) (by decide)))
    have hy5 : (syncOf Sy Wy2).length = 400 := by rw [syncOf_length]; exact hy4
    clear Y8 M8 Z7 HX7 HY7 HCS2
    generalize syncOf Sy Wy2 = Sy2 at *
    obtain ⟨X2, hX2⟩ : ∃ L, ({ X1 with su := X1.wr } : LogP) = L := ⟨_, rfl⟩
    obtain ⟨Y2, hY2⟩ : ∃ L, ({ Y1 with su := Y1.wr } : LogP) = L := ⟨_, rfl⟩
    rw [hX2] at HX8
    rw [hY2] at HY8
    have b1 : X2.R = X.R := by rw [← hX2]; exact a1
    have b2 : X2.tu = none ∧ X2.su = X2.wr ∧ X2.wr = X2.R.length ∧ X2.n = X1.n := by rw [← hX2]; exact ⟨tX, rfl, a2, rfl⟩
    have b3 : Y2.R = X.R := by rw [← hY2]; exact a3
    have b4 : Y2.tu = none ∧ Y2.su = Y2.wr ∧ Y2.wr = Y2.R.length ∧ Y2.n = Y1.n := by rw [← hY2]; exact ⟨tY, rfl, a4, rfl⟩
    clear hX2 hY2 a1 a2 a3 a4 tX tY hx4 hy4
    have FX := Lib.hid (told_f HX8.out.I (by omega)); have FY := Lib.hid (told_f HY8.out.I (by omega))
    have CO := Lib.hid (ld_reopen HX8.out.D FX.out HX8.out.cR HX8.out.cA (by omega) 5 (by decide))
    go_wp2_with fail
    refine CO.out.mono ?_; rintro e w9 ⟨gu, rfl, U9, RU, s9, b9⟩
    have Z9 := Lib.hid (Z8.out.step s9 (by decide)); have HU9 := Lib.hid U9; have M9 := Moves.of (X := fun i => i = 5) rfl s9
    have HX9 := Lib.hid (HX8.out.moves M9 (by decide) (by decide)); have HY9 := Lib.hid (HY8.out.moves M9 (by decide) (by decide))
    have hU := read_all RU b2.1 b2.2.1 b2.2.2.1
    rw [b1] at hU
    clear U9 RU s9 b9 M9 Z8 HX8 HY8 CO FX
    generalize gives o8 w8.heap.size 5 = o9 at *
    obtain ⟨U, hUU⟩ : ∃ U, openedL Sx2 = U := ⟨_, rfl⟩
    rw [hUU] at HU9 hU
    clear hUU
    have CO2 := Lib.hid (ld_reopen HY9.out.D FY.out HY9.out.cR HY9.out.cA (by omega) 6 (by decide))
    go_wp2_with fail
    refine CO2.out.mono ?_; rintro e w10 ⟨gv, rfl, V10, RV, s10, b10⟩
    have Z10 := Lib.hid (Z9.out.step s10 (by decide)); have HV10 := Lib.hid V10; have M10 := Moves.of (X := fun i => i = 6) rfl s10
    have HX10 := Lib.hid (HX9.out.moves M10 (by decide) (by decide)); have HY10 := Lib.hid (HY9.out.moves M10 (by decide) (by decide)); have HU10 := Lib.hid (HU9.out.moves M10 (by decide) (by decide))
    have hV := read_all RV b4.1 b4.2.1 b4.2.2.1
    rw [b3] at hV
    clear V10 RV s10 b10 M10 Z9 HX9 HY9 HU9 CO2 FY
    generalize gives o9 w9.heap.size 6 = o10 at *
    obtain ⟨V, hVV⟩ : ∃ V, openedL Sy2 = V := ⟨_, rfl⟩
    rw [hVV] at HV10 hV
    clear hVV
    obtain ⟨R, hR⟩ : ∃ R, X.R = R := ⟨_, rfl⟩
    rw [hR] at hU hV b1 b3
    have hRl : R.length = n := by rw [← hR]; exact HN.out.symm
    have hRn : R.length ≤ 1000000 := by omega
    have HRl := Lib.hid hRl
    clear hR hRl HN
    go_wp2_with fail
    refine (ld_records HU10.out (by omega)).mono ?_; rintro e w11 ⟨v11, rfl, N11, b11⟩
    rw [hU] at N11
    obtain ⟨a11, C11, rfl, hs11⟩ := N11.slice
    have HS11 := Lib.hid hs11; have HV11 := Lib.hid (HV10.out.reads b11); have HU11 := Lib.hid (HU10.out.reads b11); have HX11 := Lib.hid (HX10.out.reads b11); have HY11 := Lib.hid (HY10.out.reads b11); have Z11 := Lib.hid (Z10.out.reads b11)
    clear N11 hs11 b11 HV10 HU10 HX10 HY10 Z10
    go_wp2_with fail
    refine (ld_records HV11.out (by omega)).mono ?_; rintro e w12 ⟨v12, rfl, N12, b12⟩
    rw [hV] at N12
    obtain ⟨a12, C12, rfl, hs12⟩ := N12.slice
    have HC12 := Lib.hid (rsame w12 a11 a12 C11 C12 R R (HS11.out.below b12) hs12 hRn hRn true (by simp))
    have HU12 := Lib.hid (HU11.out.reads b12); have HX12 := Lib.hid (HX11.out.reads b12); have HY12 := Lib.hid (HY11.out.reads b12); have Z12 := Lib.hid (Z11.out.reads b12)
    clear N12 hs12 b12 HV11 HU11 HX11 HY11 Z11 HS11
    go_wp2_with fail
    refine HC12.out.mono ?_; rintro e w13 ⟨rfl, b13⟩
    have HU13 := Lib.hid (HU12.out.reads b13); have HX13 := Lib.hid (HX12.out.reads b13); have HY13 := Lib.hid (HY12.out.reads b13); have Z13 := Lib.hid (Z12.out.reads b13)
    clear b13 HU12 HX12 HY12 Z12 HC12
    go_wp2_with fail
    refine (ld_records HU13.out (by omega)).mono ?_; rintro e w14 ⟨v14, rfl, N14, b14⟩
    rw [hU] at N14
    obtain ⟨a14, C14, rfl, hs14⟩ := N14.slice
    have HS14 := Lib.hid hs14; have HU14 := Lib.hid (HU13.out.reads b14); have HX14 := Lib.hid (HX13.out.reads b14); have HY14 := Lib.hid (HY13.out.reads b14); have Z14 := Lib.hid (Z13.out.reads b14)
    clear N14 hs14 b14 HU13 HX13 HY13 Z13
    go_wp2_with fail
    refine (ld_records HX14.out (by omega)).mono ?_; rintro e w15 ⟨v15, rfl, N15, b15⟩
    rw [b1] at N15
    obtain ⟨a15, C15, rfl, hs15⟩ := N15.slice
    have HC15 := Lib.hid (rsame w15 a14 a15 C14 C15 R R (HS14.out.below b15) hs15 hRn hRn true (by simp))
    have HU15 := Lib.hid (HU14.out.reads b15); have HX15 := Lib.hid (HX14.out.reads b15); have HY15 := Lib.hid (HY14.out.reads b15); have Z15 := Lib.hid (Z14.out.reads b15)
    clear N15 hs15 b15 HU14 HX14 HY14 Z14 HS14
    go_wp2_with fail
    refine HC15.out.mono ?_; rintro e w16 ⟨rfl, b16⟩
    have HU16 := Lib.hid (HU15.out.reads b16); have HX16 := Lib.hid (HX15.out.reads b16); have HY16 := Lib.hid (HY15.out.reads b16); have Z16 := Lib.hid (Z15.out.reads b16)
    clear b16 HU15 HX15 HY15 Z15 HC15
    go_wp2_with fail
    refine (ld_records HU16.out (by omega)).mono ?_; rintro e w17 ⟨v17, rfl, N17, b17⟩
    rw [hU] at N17
    obtain ⟨a17, C17, rfl, _⟩ := N17.slice
    have HX17 := Lib.hid (HX16.out.reads b17); have HY17 := Lib.hid (HY16.out.reads b17); have Z17 := Lib.hid (Z16.out.reads b17)
    clear N17 b17 HU16 HX16 HY16 Z16
    rw [HRl.out]
    have CPx := wpages HX17.out.G
    have CPy := wpages HY17.out.G
    rw [b2.2.2.2] at CPx
    rw [b4.2.2.2] at CPy
    have HCPx := Lib.hid CPx; have HCPy := Lib.hid CPy
    obtain ⟨px, hpx⟩ : ∃ x, X1.n = x := ⟨_, rfl⟩
    obtain ⟨py, hpy⟩ : ∃ x, Y1.n = x := ⟨_, rfl⟩
    rw [hpx] at HCPx hpgs
    rw [hpy] at HCPy hpgs
    have hpI : (px : Int) ≤ (py : Int) := by omega
    clear CPx CPy hpx hpy
    go_wp2_with fail
    refine HCPx.out.mono ?_; rintro e _ ⟨rfl, rfl⟩
    go_wp2_with fail
    refine HCPy.out.mono ?_; rintro e _ ⟨rfl, rfl⟩
    have HCF := Lib.hid (CF.out w17)
    clear CF
    go_wp2_with fail
    refine HCF.out.mono ?_; rintro e w18 ⟨rfl, b18⟩
    go_wp2_with fail
    go_ret
    exact ⟨rfl, Z17.out.bel.trans (b18.mono Z17.out.bel.size)⟩
end Go.Proofs.Ytncpldmnnipljaa
