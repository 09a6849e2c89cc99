/-
  WalDoes: the walk.
-/
import Derived.Test.YthjlbfijfpfohaaV06n
namespace Go.Proofs.Ythjlbfijfpfohaa
open Go.RowKit Go.ChangeMaps
theorem FInts.other7 {w w' : World} {o o' : Nat → Nat} {i k : Nat} {a : Option Addr} {len : Nat} {fs : List Int} (h1 : FInts w o i a len fs) (h2 : FInts w o k a len fs) (s : Stp o i w o' w') : FInts w' o' k a len fs := ⟨h1.1, fun t x hx => by
  obtain ⟨b, off, e, hc, ho⟩ := h2.2 t x hx
  obtain ⟨b', off', e', hc', ho'⟩ := (h1.stp s).2 t x hx
  rw [e] at e'
  cases e'
  exact ⟨b, off, e, hc', by rw [s.own b (World.block_lt_of_cell? w _ hc)]; exact ho⟩⟩
set_option maxRecDepth 100000 in
set_option maxHeartbeats 16000000 in
theorem walk_WalDoes (pages : Int) (_hpg : (Lit.int .i64 pages).wf = true) (a : Option Addr) (len cap : Nat) (zs : List OpC) (w : World) (h : ArgOps6 w a len zs) (hlen : len ≤ maxLen) :
    Calls Try.prog 3 #[.int .i64 pages, .slice a len cap] w fun e w' => e = .returned (.bool true) ∧ Below w.heap.size w w' := by
  obtain ⟨r, hr⟩ : ∃ r : Nat, bits .and .i64 pages 15 = (r : Int) := ⟨(pages % 16).toNat, by rw [i64_and15]; omega⟩
  have hr2 : r < 16 := by rw [i64_and15] at hr; omega
  obtain ⟨n, hn⟩ : ∃ n, 4 + r = n := ⟨_, rfl⟩
  have hnI : 4 + (r : Int) = (n : Int) := by omega
  obtain ⟨m, hm⟩ : ∃ m, n / 2 = m := ⟨_, rfl⟩
  have hn3 : 4 ≤ n ∧ n ≤ 19 := by omega
  have HM := Lib.hid hm
  have CC0 := Lib.hid (lcut w a len cap zs h hlen)
  have hCl : ((zs.take 40).map cutC).length ≤ 40 := by rw [List.length_map, List.length_take]; omega
  have CAT := Lib.hid (fun (wx : World) (ox : Nat → Nat) (v : Value) (Z : Since w ox wx) (R : RowO wx ox 5 v ((zs.take 40).map cutC)) t ht => cutC_at h Z R t ht)
  have CF := Lib.hid fixed6_true
  clear h hlen hm hn _hpg
  generalize (zs.take 40).map cutC = CC at *
  go_enter Try.func3, Try.ntmps3
  go_wp2_with fail
  refine CC0.out.mono ?_; rintro e w0 ⟨vC, rfl, o0, K0, Z0⟩
  have HK0 := Lib.hid K0; have HZ0 := Lib.hid Z0
  have CN := Lib.hid (dnew_ok w0 o0 1 n (by omega) (by omega))
  clear K0 Z0 CC0
  go_wp2_with fail
  refine CN.out.mono ?_; rintro e w1 ⟨p, o1, rfl, D1, S1⟩
  have CM := Lib.hid (rnew_ok w1 o1 2 n (by omega) (by omega))
  have HD1 := Lib.hid D1; have Z1 := Lib.hid (HZ0.out.step S1 (by decide)); have K1 := Lib.hid (Row.other HK0.out S1 (by decide))
  clear D1 S1 CN HZ0 HK0
  go_wp2_with fail
  refine CM.out.mono ?_; rintro e w2 ⟨x, o2, rfl, R2, S2⟩
  have C2 := ld_open (m := m) (HD1.out.other S2 (by decide)) (by rw [List.length_replicate]; exact HM.out) (by rw [List.length_replicate]; omega) (by rw [maxTag_new]; omega) (fun s hs => by rw [openS_new] at hs; cases hs) 10 0 (by decide) (by rw [openS_new]; exact Nat.le_refl _) (by rw [maxTag_new]; exact Nat.le_refl _)
  rw [openedL_new] at C2
  have HC2 := Lib.hid C2; have Z2 := Lib.hid (Z1.out.step S2 (by decide)); have K2 := Lib.hid (Row.other K1.out S2 (by decide)); have HR2 := Lib.hid R2
  clear C2 S2 CM Z1 K1 HD1 R2
  go_wp2_with fail
  refine HC2.out.mono ?_; rintro e w3 ⟨ga, rfl, L3, s3, b3⟩
  have C3 := vd_open (HR2.out.other s3 (by decide)) (by rw [List.length_replicate]; omega) (by rw [maxTag_new]; omega) 11 (by decide)
  rw [openedL_new] at C3
  have HC3 := Lib.hid C3; have Z3 := Lib.hid (Z2.out.step s3 (by decide)); have K3 := Lib.hid (Row.other K2.out s3 (by decide)); have HL3 := Lib.hid L3
  clear C3 s3 b3 HC2 Z2 K2 HR2 L3
  go_wp2_with fail
  refine HC3.out.mono ?_; rintro e w4 ⟨gb, rfl, V4, s4, b4⟩
  have B4 := Lib.hid (show DoSt w w4 _ p x 10 ga gb m n (List.replicate n blank) [] ⟨0, 1, 0, [], 0, 0, none⟩ 0 vC CC from ⟨Z3.out.step s4 (by decide), Row.other K3.out s4 (by decide), HL3.out.moves (Moves.of (X := fun k => k = 11) rfl s4) (by decide) (by decide), V4, by omega, by rw [List.length_replicate]⟩)
  clear V4 s4 b4 HC3 Z3 K3 HL3
  obtain ⟨aC, dC, hvC⟩ : ∃ aC dC, vC = .slice aC CC.length dC := by
    rcases (B4.out.K).val with ⟨e, h0, _⟩ | ⟨gC, dC, e, _⟩
    · exact ⟨none, 0, by rw [e, h0]⟩
    · exact ⟨_, _, e⟩
  subst hvC
  obtain ⟨NC, hNC⟩ : ∃ NC, CC.length = NC := ⟨_, rfl⟩
  rw [hNC] at hCl
  have HNC := Lib.hid hNC
  rw [hNC] at B4 ⊢
  clear hNC
  go_wp2_with fail
  go_loopw [11, 12, 13, 14, 15] (fun lv gv rv hv iv wr => ∃ (t j ga gb : Nat) (o : Nat → Nat) (S : List ByteArray) (Ws : Wrs) (L : LogP), t ≤ NC ∧ iv = .int .i64 (t : Int) ∧ lv = .pointer (some ⟨ga, 0, none⟩) ∧ gv = .int .i64 0 ∧ rv = .pointer (some ⟨gb, 0, none⟩) ∧ hv = .int .i64 0 ∧ DoSt w wr o p x j ga gb m n S Ws L t (.slice aC NC dC) CC) (fun _ _ _ _ iv _ => NC - (intOf iv).toNat)
  case atStart => exact ⟨0, _, _, _, _, _, _, _, by omega, rfl, rfl, rfl, rfl, rfl, B4.out⟩
  case round =>
    obtain ⟨t, j, ga, gb, o, S, Ws, L, ht, rfl, rfl, rfl, rfl, rfl, hS⟩ := hrel
    have HS := Lib.hid hS
    clear B4 hS
    by_cases hlt : t < NC
    · have hlt' : (t : Int) < (NC : Int) := by omega
      have h0 : (0 : Int) ≤ (t : Int) := by omega
      obtain ⟨gC, dC', xk, xs, fa, fl, fc, fs, ev, c0, c1, c2, x1, x2, x3⟩ := CAT.out wr o _ HS.out.Z HS.out.K t (by rw [HNC.out]; exact hlt)
      cases ev
      have sB := stp_new2 o 6 6 wr (.cells #[.int .i64 xk, .string xs, .slice fa fl fc] opT)
      have S1 := HS.out.other sB (by decide) (by decide)
      have AB := At.new wr #[.int .i64 xk, .string xs, .slice fa fl fc] opT
      have oB : gives o wr.heap.size 6 wr.heap.size = 6 := gives_new (Nat.le_refl _)
      have F1 := (x3 1 (by decide)).stp (stp_new2 o 1 6 wr (.cells #[.int .i64 xk, .string xs, .slice fa fl fc] opT))
      have F2 := (x3 2 (by decide)).stp (stp_new2 o 2 6 wr (.cells #[.int .i64 xk, .string xs, .slice fa fl fc] opT))
      go_upto_region 14 with fail
      have HS1 := Lib.hid S1; have HAB := Lib.hid AB; have HOB := Lib.hid oB; have HF1 := Lib.hid F1; have HF2 := Lib.hid F2
      clear c0 c1 c2 x3 sB HS S1 AB oB F1 F2 h0 hlt'
      generalize wr.alloc (.cells #[.int .i64 xk, .string xs, .slice fa fl fc] opT) = W1 at *
      generalize wr.heap.size = B at *
      generalize gives o B 6 = o1 at *
      have k0 : W1.cell? ⟨B, 0, none⟩ = some (.int .i64 xk) := HAB.out.cell 0
      have k1 : W1.cell? ⟨B, 1, none⟩ = some (.string xs) := HAB.out.cell 1
      have k2 : W1.cell? ⟨B, 2, none⟩ = some (.slice fa fl fc) := HAB.out.cell 2
      have ht100 : t ≤ 100 := by omega
      go_upto_block 2 with fail
      go_cut [11, 12, 13, 14, 17] (fun lv gv rv hv ok wx => ∃ (j' ga' gb' : Nat) (o' : Nat → Nat) (S' : List ByteArray) (Ws' : Wrs) (L' : LogP), lv = .pointer (some ⟨ga', 0, none⟩) ∧ gv = .int .i64 0 ∧ rv = .pointer (some ⟨gb', 0, none⟩) ∧ hv = .int .i64 0 ∧ ok = .bool true ∧ DoSt w wx o' p x j' ga' gb' m n S' Ws' L' (t + 1) (.slice (some ⟨gC, 0, none⟩) CC.length dC) CC)
      case first =>
        have hj := HS1.out.j10
        have hX : xk = 0 ∨ xk = 1 ∨ xk = 2 ∨ xk = 3 ∨ (¬ xk = 0 ∧ ¬ xk = 1 ∧ ¬ xk = 2 ∧ ¬ xk = 3) := by omega
        rcases hX with rfl | rfl | rfl | rfl | ⟨y0, y1, y2, y3⟩
        · -- Append
          have CA := Lib.hid (ld_append HS1.out.G ht100 xs)
          clear k2 HF1 HF2
          obtain ⟨LL, hLL⟩ : ∃ LL, appL m L xs = LL := ⟨_, rfl⟩
          obtain ⟨kk, hkk⟩ : ∃ kk, appK m L xs = kk := ⟨_, rfl⟩
          obtain ⟨ee, hee⟩ : ∃ ee, appE m L xs = ee := ⟨_, rfl⟩
          have e1 : (kk == kk) = true := by simp
          have e2 : (ee == ee) = true := by simp
          have HLL := Lib.hid hLL; have HKK := Lib.hid hkk; have HEE := Lib.hid hee
          rw [hLL, hkk, hee] at CA
          clear hLL hkk hee
          go_wp2_with fail
          refine CA.out.mono ?_; rintro e w5 ⟨rfl, o5, L5, M5⟩
          obtain ⟨Z5, K5, V5⟩ := HS1.out.prog M5
          have A5 := (at_moves HAB.out HOB.out M5 (duo_no (by omega) (by decide))).1
          have k5 : w5.cell? ⟨B, 1, none⟩ = some (.string xs) := A5.cell 1
          have CB := Lib.hid (vd_append V5 HS1.out.G ht100 xs)
          rw [HLL.out, HKK.out, HEE.out] at CB
          have HZ5 := Lib.hid Z5; have HK5 := Lib.hid K5; have HL5 := Lib.hid L5
          clear Z5 K5 V5 A5 L5 M5 CA k0 k1
          go_wp2_with fail
          refine CB.out.mono ?_; rintro e w6 ⟨rfl, o6, V6, M6⟩
          have HS6 := Lib.hid (HS1.out.doc HZ5.out HK5.out HL5.out M6 V6 HS1.out.len)
          clear V6 M6 CB k5 HZ5 HK5 HL5
          go_wp2_with fail
          go_meet
          exact ⟨j, ga, gb, o6, S, Ws, LL, rfl, rfl, rfl, rfl, rfl, HS6.out⟩
        · -- Write
          have CA := Lib.hid (ld_write HS1.out.G ht100)
          clear k1 k2 HF1 HF2
          obtain ⟨LL, hLL⟩ : ∃ LL, wrL L = LL := ⟨_, rfl⟩
          obtain ⟨WW, hWW⟩ : ∃ WW, wrW m Ws L = WW := ⟨_, rfl⟩
          obtain ⟨ee, hee⟩ : ∃ ee, wrE L = ee := ⟨_, rfl⟩
          have e2 : (ee == ee) = true := by simp
          have HLL := Lib.hid hLL; have HWW := Lib.hid hWW; have HEE := Lib.hid hee
          rw [hLL, hWW, hee] at CA
          clear hLL hWW hee
          go_wp2_with fail
          refine CA.out.mono ?_; rintro e w5 ⟨rfl, o5, L5, M5⟩
          obtain ⟨Z5, K5, V5⟩ := HS1.out.prog M5
          have CB := Lib.hid (vd_write V5 HS1.out.G ht100)
          rw [HLL.out, HWW.out, HEE.out] at CB
          have HZ5 := Lib.hid Z5; have HK5 := Lib.hid K5; have HL5 := Lib.hid L5
          clear Z5 K5 V5 L5 M5 CA k0
          go_wp2_with fail
          refine CB.out.mono ?_; rintro e w6 ⟨rfl, o6, V6, M6⟩
          have HS6 := Lib.hid (HS1.out.doc HZ5.out HK5.out HL5.out M6 V6 HS1.out.len)
          clear V6 M6 CB HZ5 HK5 HL5
          go_wp2_with fail
          go_meet
          exact ⟨j, ga, gb, o6, S, WW, LL, rfl, rfl, rfl, rfl, rfl, HS6.out⟩
        · -- Sync
          have CA := Lib.hid (ld_sync HS1.out.G ht100)
          clear k1 k2 HF1 HF2
          go_wp2_with fail
          refine CA.out.mono ?_; rintro e w5 ⟨rfl, o5, L5, M5⟩
          obtain ⟨Z5, K5, V5⟩ := HS1.out.prog M5
          have CB := Lib.hid (vd_sync V5 HS1.out.G ht100)
          have HZ5 := Lib.hid Z5; have HK5 := Lib.hid K5; have HL5 := Lib.hid L5
          clear Z5 K5 V5 L5 M5 CA k0
          go_wp2_with fail
          refine CB.out.mono ?_; rintro e w6 ⟨rfl, o6, V6, M6⟩
          have HS6 := Lib.hid (HS1.out.doc HZ5.out HK5.out HL5.out M6 V6 (by rw [syncOf_length]; exact HS1.out.len))
          clear V6 M6 CB HZ5 HK5 HL5
          go_wp2_with fail
          go_meet
          exact ⟨j, ga, gb, o6, _, _, _, rfl, rfl, rfl, rfl, rfl, HS6.out⟩
        · -- Turn
          have HSd := Lib.hid (show DoSt w W1.drew o1 p x j ga gb m n S Ws L t (.slice (some ⟨gC, 0, none⟩) CC.length dC) CC from HS1.out.reads (below_drew W1 1))
          have HABd := Lib.hid (show At W1.drew B _ _ from HAB.out.drew)
          have CA := Lib.hid (ld_turn HSd.out.G ht100 xs)
          have CBs := Lib.hid (fun W o (V : VD W o 2 x (j + 1) gb S Ws L) => vd_turn V HSd.out.G ht100 xs)
          clear k2 HF1 HF2
          obtain ⟨LL, hLL⟩ : ∃ LL, tuL m L xs = LL := ⟨_, rfl⟩
          obtain ⟨WW, hWW⟩ : ∃ WW, tuW m Ws L xs = WW := ⟨_, rfl⟩
          obtain ⟨ee, hee⟩ : ∃ ee, tuE m L xs = ee := ⟨_, rfl⟩
          have e2 : (ee == ee) = true := by simp
          rw [hLL, hWW, hee] at CA CBs
          clear hLL hWW hee
          have k1d : W1.drew.cell? ⟨B, 1, none⟩ = some (.string xs) := HABd.out.cell 1
          go_wp2_with fail
          go_region_held3 (fun W => W.cell? ⟨B, 1, none⟩ = some (.string xs)) (first | exact k1d | exact q6 | exact q5 | trivial)
            (first
              | (go_at_call 16; ((with_reducible refine CA.out.mono ?_); rintro e w5 ⟨rfl, o5, L5, M5⟩; have T5 := Lib.hid (HSd.out.prog M5); have A5 := Lib.hid (at_moves HABd.out HOB.out M5 (duo_no (by omega) (by decide))); have q5 : w5.cell? ⟨B, 1, none⟩ = some (.string xs) := A5.out.1.cell 1; have CB := Lib.hid (CBs.out _ _ T5.out.2.2); have HL5 := Lib.hid L5; clear L5 M5))
              | (go_at_call 17; ((with_reducible refine CB.out.mono ?_); rintro e w6 ⟨rfl, o6, V6, M6⟩; have q6 : w6.cell? ⟨B, 1, none⟩ = some (.string xs) := (at_moves A5.out.1 A5.out.2 M6 (duo_no (by omega) (by decide))).1.cell 1; have HS6 := Lib.hid (HSd.out.doc T5.out.1 T5.out.2.1 HL5.out M6 V6 HS1.out.len); clear V6 M6)))
          clear CA CBs CB T5 A5 q5 q6 HL5 k0 k1 k1d HSd HABd
          go_wp2_with fail
          go_meet
          exact ⟨j, ga, gb, o6, S, WW, LL, rfl, rfl, rfl, rfl, rfl, HS6.out⟩
        · -- a crash
          have xk0 : (xk == 0) = false := by simp [y0]
          have xk1 : (xk == 1) = false := by simp [y1]
          have xk2 : (xk == 2) = false := by simp [y2]
          have xk3 : (xk == 3) = false := by simp [y3]
          have CC1 := Lib.hid (ld_crash2 HS1.out.G ht100 (by rw [HS1.out.len]; omega) fa fl fc fs HF1.out (by omega))
          have CC2 := Lib.hid (fun W o (V : VD W o 2 x (j + 1) gb S Ws L) (F : FInts W o 2 fa fl fs) => vd_crash V HS1.out.G ht100 fa fl fc fs F (by omega))
          have hcl : (crashOf S Ws fs).length = n := by rw [crashOf_length]; exact HS1.out.len
          obtain ⟨S3, hS3⟩ : ∃ S3, crashOf S Ws fs = S3 := ⟨_, rfl⟩
          rw [hS3] at CC1 CC2 hcl
          clear k1 y0 y1 y2 y3 hS3
          go_wp2_with fail
          refine CC1.out.mono ?_; rintro e w5 ⟨rfl, D5, F5, s5⟩
          have V5 := HS1.out.V.step s5 (by decide) (by omega)
          have k5 : w5.cell? ⟨B, 2, none⟩ = some (.slice fa fl fc) := (at_other HAB.out s5 (by rw [HOB.out]; decide)).cell 2
          have CC3 := Lib.hid (CC2.out _ _ V5 (HF1.out.other7 HF2.out s5))
          have HZ5 := Lib.hid (HS1.out.Z.step s5 (by decide)); have HK5 := Lib.hid (Row.other HS1.out.K s5 (by decide)); have HD5 := Lib.hid D5; have HF5 := Lib.hid F5
          clear CC1 CC2 V5 s5 D5 F5 k0 k2 HF1 HF2 xk0 xk1 xk2 xk3
          go_wp2_with fail
          refine CC3.out.mono ?_; rintro e w6 ⟨rfl, R6, s6⟩
          have CO := Lib.hid (ld_reopen (HD5.out.other s6 (by decide)) HF5.out HS1.out.G.cR HS1.out.G.cA ht100 (j + 2) (by omega))
          have HZ6 := Lib.hid (HZ5.out.step s6 (by decide)); have HK6 := Lib.hid (Row.other HK5.out s6 (by decide)); have HR6 := Lib.hid R6
          clear CC3 s6 R6 HZ5 HK5 HD5 k5
          go_wp2_with fail
          refine CO.out.mono ?_; rintro e w7 ⟨g7, rfl, L7, _, s7, b7⟩
          have CP := Lib.hid (vd_open (HR6.out.other s7 (by omega)) HF5.out.len4 (by have := HF5.out.tag; have := HS1.out.G.cA; omega) (j + 2 + 1) (by omega))
          have HZ7 := Lib.hid (HZ6.out.step s7 (by omega)); have HK7 := Lib.hid (Row.other HK6.out s7 (by omega)); have HL7 := Lib.hid L7
          clear CO s7 b7 L7 HR6 HZ6 HK6
          go_wp2_with fail
          refine CP.out.mono ?_; rintro e w8 ⟨g8, rfl, V8, s8, b8⟩
          have HS8 := Lib.hid (show DoSt w w8 _ p x (j + 2) g7 g8 m n S3 [] (openedL S3) (t + 1) (.slice (some ⟨gC, 0, none⟩) CC.length dC) CC from ⟨HZ7.out.step s8 (by omega), Row.other HK7.out s8 (by omega), HL7.out.moves (Moves.of (X := fun k => k = j + 2 + 1) rfl s8) (by omega) (by omega), V8, by omega, hcl⟩)
          clear CP V8 s8 b8 HZ7 HK7 HL7
          go_wp2_with fail
          go_meet
          exact ⟨j + 2, g7, g8, _, _, _, _, rfl, rfl, rfl, rfl, rfl, HS8.out⟩
      case rest =>
        obtain ⟨j', ga', gb', o', S', Ws', L', rfl, rfl, rfl, rfl, rfl, hS'⟩ := hcut
        have CSame := Lib.hid (vsame hS'.G hS'.V (by omega))
        have HS' := Lib.hid hS'
        clear hS' HS1 HAB HOB HF1 HF2 k0 k1 k2
        go_wp2_with fail
        refine CSame.out.mono ?_; rintro e w7 ⟨rfl, b7⟩
        have HS7 := Lib.hid (HS'.out.reads b7)
        clear b7 CSame HS'
        go_wp2_with fail
        go_loopw [22] (fun kv wr => ∃ k : Nat, k ≤ n ∧ kv = .int .i64 (k : Int) ∧ DoSt w wr o' p x j' ga' gb' m n S' Ws' L' (t + 1) (.slice (some ⟨gC, 0, none⟩) CC.length dC) CC) (fun kv _ => n - (intOf kv).toNat)
        case atStart => exact ⟨0, by omega, rfl, HS7.out⟩
        case round =>
          obtain ⟨k, hk, rfl, hK⟩ := hrel
          clear HS7
          have HK := Lib.hid hK
          by_cases hkn : k < n
          · have hk' : (k : Int) < (n : Int) := by omega
            obtain ⟨r0, CX, CY⟩ := both_raw hK.G.D hK.V.D k (by rw [hK.len]; exact hkn) (by have := hK.G.cW; omega)
            have HX := Lib.hid CX; have HY := Lib.hid CY
            have rb : (r0.toList == r0.toList) = true := by simp
            have rn : (r0.toList != r0.toList) = false := by simp
            clear hK CX CY
            go_wp2_with fail
            refine (HX.out _ (Below.refl _ _)).mono ?_; rintro e w8 ⟨rfl, b8⟩
            have HB8 := Lib.hid b8
            clear b8
            go_wp2_with fail
            refine (HY.out _ HB8.out).mono ?_; rintro e _ ⟨rfl, rfl⟩
            go_wp2_with fail
            exact ⟨⟨k + 1, by omega, by go_num, HK.out.reads HB8.out⟩, by simp [intOf]; omega⟩
          · obtain rfl : k = n := by omega
            have hk' : ¬ (k : Int) < (k : Int) := by omega
            clear hK
            go_wp2_with fail
            exact ⟨⟨t + 1, j', ga', gb', o', S', Ws', L', by omega, by go_num, rfl, rfl, rfl, rfl, HK.out⟩, by simp [intOf]; omega⟩
    · obtain rfl : t = NC := by omega
      have hlt' : ¬ (t : Int) < (t : Int) := by omega
      have HZ := Lib.hid HS.out.Z
      clear HS CAT
      go_wp2_with fail
      refine (CF.out _).mono ?_; rintro e w7 ⟨rfl, b7⟩
      have HB7 := Lib.hid (HZ.out.bel.trans (b7.mono HZ.out.bel.size))
      clear b7 HZ
      go_wp2_with fail
      go_ret
      exact ⟨rfl, HB7.out⟩
end Go.Proofs.Ythjlbfijfpfohaa
