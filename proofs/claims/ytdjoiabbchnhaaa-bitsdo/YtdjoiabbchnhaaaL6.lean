/-
  BitsDo: the walk.
-/
import Derived.Test.YtdjoiabbchnhaaaS3
import Derived.Deep.DeepCutAuto
import Derived.Deep.CutBlock
import Derived.Deep.RegionHeld3
import Derived.Outline
import Derived.OpenShut
namespace Go.Proofs.Ytdjoiabbchnhaaa
open Go.RowKit Go.Shelf
open Go.ChangeShapes Go.WideShapes Go.ChangeAt

/-- the program's pages (p, b), the document's (q, g), and the call at hand (ob) -/
structure Duo (w0 W : World) (p b q g ob : Nat) (N : Int) (L M : List Bool) : Prop where
  S : St w0 W p b L
  R : StR w0 W q g M
  n1 : p ≠ g
  n2 : b ≠ g
  n3 : q ≠ b
  n4 : ob ≠ b
  n5 : ob ≠ g
  co : W.cell? ⟨ob, 1, none⟩ = some (.int .i64 N)
section
variable {w0 W W' : World} {p b q g ob : Nat} {N : Int} {L M L' M' : List Bool}
theorem cell_grown {c : Nat} {v : Value} {j : Nat} (h : W.cell? ⟨ob, j, none⟩ = some v) (hg : W.grownBy W' (some c)) (hne : ob ≠ c) : W'.cell? ⟨ob, j, none⟩ = some v :=
  (World.cell?_of_block (w := W) (hg.block ob (block_lt_of_cell' h) (by simp [hne]))).trans h
theorem Duo.prog (D : Duo w0 W p b q g ob N L M) (S : St w0 W' p b L') (hg : W.grownBy W' (some b)) : Duo w0 W' p b q g ob N L' M :=
  ⟨S, D.R.other hg D.n3 (fun e => D.n2 e.symm) D.S.hb, D.n1, D.n2, D.n3, D.n4, D.n5, cell_grown D.co hg D.n4⟩
theorem Duo.doc (D : Duo w0 W p b q g ob N L M) (R : StR w0 W' q g M') (hg : W.grownBy W' (some g)) : Duo w0 W' p b q g ob N L M' :=
  ⟨D.S.other hg D.n1 D.n2 D.R.hb, R, D.n1, D.n2, D.n3, D.n4, D.n5, cell_grown D.co hg D.n5⟩
theorem Duo.reads (D : Duo w0 W p b q g ob N L M) (h : Below W.heap.size W W') : Duo w0 W' p b q g ob N L M :=
  ⟨D.S.reads h, D.R.reads h, D.n1, D.n2, D.n3, D.n4, D.n5, (h.cell (p := ⟨ob, 1, none⟩) (block_lt_of_cell' D.co)).trans D.co⟩
theorem Duo.drew (D : Duo w0 W p b q g ob N L M) : Duo w0 W.drew p b q g ob N L M := D.reads ⟨rfl, rfl, rfl, Nat.le_refl _, fun _ _ => rfl⟩
end

set_option maxRecDepth 100000 in
set_option maxHeartbeats 2000000 in
theorem walk_BitsDo (a0 : Int) (h0 : (Lit.int .i64 a0).wf = true) (a : Option Addr) (len cap : Nat) (zs : List (Int × Int)) (w : World) (ha : ArgPairs w a len zs) (hl : len ≤ maxLen) :
    Calls Try.prog 3 #[.int .i64 a0, .slice a len cap] w fun e w' => e = .returned (.bool true) ∧ Below w.heap.size w w' := by
  obtain ⟨m, e1, m0, m1⟩ : ∃ m, bits .and .i64 a0 63 = m ∧ 0 ≤ m ∧ m < 64 := ⟨_, i64_and63 a0, by omega, by omega⟩
  obtain ⟨K, e3⟩ : ∃ K : Nat, 1 + m = (K : Int) := ⟨(1 + m).toNat, by omega⟩
  have k1 : 1 ≤ K := by omega
  have k2 : K ≤ 64 := by omega
  have hmx : (len : Int) ≤ 9223372036854775807 := by simp [maxLen] at hl; omega
  have HA := Lib.hid ha; clear ha h0
  go_enter Try.func3, Try.ntmps3
  go_wp2_with fail
  refine (st_new (w0 := w) K k1 (by omega) (Below.refl _ _)).mono ?_; rintro e w1 ⟨p0, b0, rfl, S1, _, _, _⟩
  have T1 := Lib.hid S1; clear S1
  go_wp2_with fail
  refine (str_new (w0 := w) K k1 (by omega) T1.out.bel).mono ?_; rintro e w2 ⟨q, g, rfl, R2, hq2, hg2, hb2⟩
  have S2 := T1.out.reads hb2
  have hne1 : p0 ≠ g := by have := T1.out.isB.ltp; omega
  have hne2 : b0 ≠ g := by have := T1.out.isB.ltb; omega
  have hne3 : q ≠ b0 := by have := T1.out.isB.ltb; omega
  clear hq2 hg2 hb2 T1
  have T2 := Lib.hid S2
  have V2 := Lib.hid R2
  clear S2 R2
  go_wp2_with fail
  go_loopw [6, 10] (fun bp i wr => ∃ (t p b : Nat) (L : List Bool), t ≤ len ∧ i = .int .i64 (t : Int) ∧ bp = .pointer (some ⟨p, 0, none⟩) ∧ L.length = K ∧ St w wr p b L ∧ StR w wr q g L ∧ p ≠ g ∧ b ≠ g ∧ q ≠ b) (fun _ i _ => len - (intOf i).toNat)
  case atStart => exact ⟨0, p0, b0, _, by omega, rfl, rfl, by simp, T2.out, V2.out, hne1, hne2, hne3⟩
  case round =>
    obtain ⟨t, p, b, L, ht, rfl, rfl, hLK, hS, hR, d1, d2, d3⟩ := hrel
    clear T2 V2 e1 e3 hne1 hne2 hne3
    by_cases hlt : t < len ∧ t < 80
    · obtain ⟨hlt, hlt2⟩ := hlt
      have hlt' : (t : Int) < (len : Int) := by omega
      have hlt2' : (t : Int) < 80 := by omega
      obtain ⟨hzl, hz⟩ := HA.out
      obtain ⟨⟨X, N⟩, hz1⟩ : ∃ z, zs[t]? = some z := ⟨_, List.getElem?_eq_getElem (by omega)⟩
      obtain ⟨wx, wn, ab, ao, rfl, hc0, hc1⟩ := hz t _ hz1
      have hN : N ≤ 9223372036854775807 := by exact (bounds_i64 wn).2
      have hbl := block_lt_of_cell' hc0
      have c0 := (hS.bel.cell (p := ⟨ab, ao + t * 2, none⟩) hbl).trans hc0
      have c1 := (hS.bel.cell (p := ⟨ab, ao + t * 2 + 1, none⟩) hbl).trans hc1
      have t0 : (0 : Int) ≤ (t : Int) := by omega
      clear hz hzl hz1 hc0 hc1 wx wn
      have HS := Lib.hid hS
      have HR := Lib.hid hR
      clear hS hR
      go_upto_region 10 with fail
      have D0 : Duo w (wr.alloc (.cells #[.int .i64 X, .int .i64 N] 31)) p b q g wr.heap.size N L L := by
        have hal : Below wr.heap.size wr (wr.alloc (.cells #[.int .i64 X, .int .i64 N] 31)) := (Below.refl _ wr).alloc (Nat.le_refl _) _
        have l1 := HS.out.isB.ltb
        have l2 := HR.out.isR.ltb
        exact ⟨HS.out.reads hal, HR.out.reads hal, d1, d2, d3, by omega, by omega, by rw [World.cell?_alloc_at _ _ _ _ rfl]; rfl⟩
      have cX : (wr.alloc (.cells #[.int .i64 X, .int .i64 N] 31)).cell? ⟨wr.heap.size, 0, none⟩ = some (.int .i64 X) := by rw [World.cell?_alloc_at _ _ _ _ rfl]; rfl
      clear HS HR c0 c1 d1 d2 d3
      generalize wr.alloc (.cells #[.int .i64 X, .int .i64 N] 31) = W0 at *
      generalize wr.heap.size = ob at *
      have HD := Lib.hid D0
      have co0 := D0.co
      clear D0
      go_upto_block 2 with fail
      go_cut [6] (fun s6 wx => ∃ (p' b' : Nat) (M : List Bool), s6 = .pointer (some ⟨p', 0, none⟩) ∧ M.length = K ∧ Duo w wx p' b' q g ob N M M)
      case first =>
        have hX : X = 0 ∨ X = 1 ∨ X = 2 ∨ X = 3 ∨ (¬ X = 0 ∧ ¬ X = 1 ∧ ¬ X = 2 ∧ ¬ X = 3) := by omega
        rcases hX with rfl | rfl | rfl | rfl | ⟨x0, x1, x2, x3⟩
        · -- Take
          obtain ⟨x, y, M, hM, cP, cR⟩ := take_both L (by omega) N
          have CP := Lib.hid cP
          have CR := Lib.hid cR
          clear cP cR
          go_wp2_with fail
          refine (CP.out _ _ _ _ HD.out.S).mono ?_; rintro e w3 ⟨rfl, S3, hg3⟩
          have D3 := Lib.hid (HD.out.prog S3 hg3)
          have co3 := D3.out.co
          clear S3 hg3
          go_wp2_with fail
          refine (CR.out _ _ _ _ D3.out.R).mono ?_; rintro e w4 ⟨rfl, R4, hg4⟩
          have D4 := Lib.hid (D3.out.doc R4 hg4)
          clear R4 hg4
          go_wp2_with fail
          go_meet
          exact ⟨p, b, M, rfl, hM.trans hLK, D4.out⟩
        · -- TakeAt
          obtain ⟨x, M, hM, cP, cR⟩ := takeAt_both L N
          have CP := Lib.hid cP
          have CR := Lib.hid cR
          clear cP cR
          go_wp2_with fail
          go_region_held3 (fun W => W.cell? ⟨ob, 1, none⟩ = some (.int .i64 N)) (first | exact co0 | exact co3 | exact co4)
            (first | (go_at_call 13; refine (CP.out _ _ _ _ HD.out.drew.S).mono ?_; rintro e w3 ⟨rfl, S3, hg3⟩; have D3 := Lib.hid (HD.out.drew.prog S3 hg3); have co3 := D3.out.co; clear S3 hg3) | (go_at_call 14; refine (CR.out _ _ _ _ D3.out.R).mono ?_; rintro e w4 ⟨rfl, R4, hg4⟩; have D4 := Lib.hid (D3.out.doc R4 hg4); have co4 := D4.out.co; clear R4 hg4))
          all_goals
            go_wp2_with fail
            go_meet
            exact ⟨p, b, M, rfl, hM.trans hLK, D4.out⟩
        · -- Give
          obtain ⟨x, M, hM, cP, cR⟩ := give_both L N
          have CP := Lib.hid cP
          have CR := Lib.hid cR
          clear cP cR
          go_wp2_with fail
          go_region_held3 (fun W => W.cell? ⟨ob, 1, none⟩ = some (.int .i64 N)) (first | exact co0 | exact co3 | exact co4)
            (first | (go_at_call 15; refine (CP.out _ _ _ _ HD.out.drew.S).mono ?_; rintro e w3 ⟨rfl, S3, hg3⟩; have D3 := Lib.hid (HD.out.drew.prog S3 hg3); have co3 := D3.out.co; clear S3 hg3) | (go_at_call 16; refine (CR.out _ _ _ _ D3.out.R).mono ?_; rintro e w4 ⟨rfl, R4, hg4⟩; have D4 := Lib.hid (D3.out.doc R4 hg4); have co4 := D4.out.co; clear R4 hg4))
          all_goals
            go_wp2_with fail
            go_meet
            exact ⟨p, b, M, rfl, hM.trans hLK, D4.out⟩
        · -- Load
          have hok : okS (pack L) K := by
            show pack (bitsOf (pack L) K) = pack L
            rw [← hLK, bitsOf_pack]
          have hbo : bitsOf (pack L) K = L := by rw [← hLK, bitsOf_pack]
          go_wp2_with fail
          refine (st_save HD.out.S).mono ?_; rintro e w3 ⟨rfl, S3, hb3⟩
          have D3 := Lib.hid (HD.out.reads hb3)
          have HOK := Lib.hid hok
          have HBO := Lib.hid hbo
          clear S3 hb3 hok hbo
          go_wp2_with fail
          refine (st_load (w0 := w) ⟨(pack L).toArray⟩ K k1 (by omega) HOK.out D3.out.S.bel).mono ?_; rintro e w4 ⟨p', b', rfl, S4, l1, l2, hb4⟩
          have S4' : St w w4 p' b' L := by rw [show (⟨(pack L).toArray⟩ : ByteArray).data.toList = pack L from rfl, HBO.out] at S4; exact S4
          have D4 := D3.out.reads hb4
          have lg := D3.out.R.isR.ltb
          have lq := D3.out.R.isR.ltp
          have lo := block_lt_of_cell' D3.out.co
          have D5 := Lib.hid (show Duo w w4 p' b' q g ob N L L from ⟨S4', D4.R, by omega, by omega, by omega, by have : ob < w3.heap.size := lo; omega, D4.n5, D4.co⟩)
          clear S4 S4' D4 lg lq lo hb4 l1 l2
          go_wp2_with fail
          go_meet
          exact ⟨p', b', L, rfl, hLK, D5.out⟩
        · -- Copy
          have b0' : (X == 0) = false := by rw [beq_eq_false_iff_ne]; exact x0
          have b1' : (X == 1) = false := by rw [beq_eq_false_iff_ne]; exact x1
          have b2' : (X == 2) = false := by rw [beq_eq_false_iff_ne]; exact x2
          have b3' : (X == 3) = false := by rw [beq_eq_false_iff_ne]; exact x3
          clear x0 x1 x2 x3
          obtain ⟨x, y, M, hM, cP, _⟩ := take_both L (by omega) 0
          obtain ⟨x', M', hM', cP', _⟩ := give_both M N
          have CP := Lib.hid cP
          have CG := Lib.hid cP'
          clear cP cP'
          go_wp2_with fail
          refine (st_copy HD.out.S).mono ?_; rintro e w3 ⟨p', b', rfl, U3, S3, n1, n2, n3, l1, l2, hb3⟩
          have D3 := HD.out.reads hb3
          have lg := HD.out.R.isR.ltb
          have lq := HD.out.R.isR.ltp
          have lo := block_lt_of_cell' HD.out.co
          have E3 := Lib.hid (show Duo w w3 p' b' q g ob N L L from ⟨U3, D3.R, by omega, by omega, by omega, by have : ob < W0.heap.size := lo; omega, D3.n5, D3.co⟩)
          have F3 := Lib.hid D3
          have n4 : b' ≠ b := fun e => n2 e.symm
          clear U3 S3 D3 lg lq lo hb3 l1 l2 n2
          go_wp2_with fail
          refine (CP.out _ _ _ _ F3.out.S).mono ?_; rintro e w4 ⟨rfl, S4, hg4⟩
          have F4 := Lib.hid (F3.out.prog S4 hg4)
          have E4 := Lib.hid (show Duo w w4 p' b' q g ob N L L from ⟨E3.out.S.other hg4 n3 n4 F3.out.S.hb, F4.out.R, E3.out.n1, E3.out.n2, E3.out.n3, E3.out.n4, E3.out.n5, F4.out.co⟩)
          have co4 := F4.out.co
          clear S4 hg4
          go_wp2_with fail
          refine (CG.out _ _ _ _ F4.out.S).mono ?_; rintro e w5 ⟨rfl, S5, hg5⟩
          have F5 := Lib.hid (F4.out.prog S5 hg5)
          have E5 := Lib.hid (show Duo w w5 p' b' q g ob N L L from ⟨E4.out.S.other hg5 n3 n4 F4.out.S.hb, F5.out.R, E4.out.n1, E4.out.n2, E4.out.n3, E4.out.n4, E4.out.n5, F5.out.co⟩)
          clear S5 hg5
          go_wp2_with fail
          go_meet
          exact ⟨p', b', L, rfl, hLK, E5.out⟩
      case rest =>
        obtain ⟨p', b', M, rfl, hMK, D⟩ := hcut
        clear HD co0 hLK cX
        have co0 := D.co
        obtain ⟨x, cP, cR⟩ := is_both M N
        obtain ⟨y, z, rP, rR⟩ := run_both M N hN
        have CP := Lib.hid cP
        have CR := Lib.hid cR
        have RP := Lib.hid rP
        have RR := Lib.hid rR
        have hcl := cnt_le M
        obtain ⟨F, hF⟩ : ∃ F : Nat, (K : Int) - (cnt M : Int) = (F : Int) := ⟨K - cnt M, by omega⟩
        have hw : IntKind.i64.wrap ((K : Int) - (cnt M : Int)) = (F : Int) := by rw [IntWalk.i64_in _ (by omega)]; exact hF
        have hil : ((takenOf M).map (fun i : Nat => (i : Int))).length ≤ 1000000 := by rw [List.length_map]; show cnt M ≤ _; omega
        have hcn : ((takenOf M).map (fun i : Nat => (i : Int))).length = cnt M := by rw [List.length_map]; rfl
        obtain ⟨P, HP⟩ : ∃ P : ByteArray, Hid ((⟨(pack M).toArray⟩ : ByteArray) = P) := ⟨_, rfl⟩
        have HDD := Lib.hid D.drew
        have HIL := Lib.hid hil
        have HCN := Lib.hid hcn
        have HFF := Lib.hid hF
        clear cP cR rP rR D hil hcn hF hcl
        go_upto_region 31 with fail
        go_cut [176] (fun s176 wx => s176 = .bool false ∧ Duo w wx p' b' q g ob N M M)
        case first =>
          go_region_held3 (fun W => W.cell? ⟨ob, 1, none⟩ = some (.int .i64 N)) (first | exact co0 | exact co1 | exact co2 | exact co3 | exact co4 | exact co5 | exact co6 | exact co7 | exact co8 | exact co9 | exact co10)
            (first
              | (go_at_call 21; refine (st_taken HDD.out.S).mono ?_; rintro e w1' ⟨v1, rfl, hv1, _, hb1⟩; have D1 := Lib.hid (HDD.out.reads hb1); have co1 := D1.out.co; have V1 := Lib.hid hv1; clear hv1 hb1)
              | (go_at_call 22; ((with_reducible refine (str_taken D1.out.R).mono ?_); rintro e w2' ⟨v2, rfl, hv2, _, hb2⟩; have D2 := Lib.hid (D1.out.reads hb2); have co2 := D2.out.co; have V1b := Lib.hid (V1.out.below hb2); have V2 := Lib.hid hv2; clear hv2 hb2))
              | (go_at_call 20; refine (ints_eq _ _ _ _ V1b.out V2.out HIL.out).mono ?_; rintro e w3' ⟨rfl, hb3⟩; have D3 := Lib.hid (D2.out.reads hb3); have co3 := D3.out.co; clear hb3)
              | (go_at_call 18; refine (st_save D3.out.S).mono ?_; rintro e w4' ⟨rfl, _, hb4⟩; have D4 := Lib.hid (D3.out.reads hb4); have co4 := D4.out.co; clear hb4; rw [HP.out])
              | (go_at_call 23; refine (str_save D4.out.R).mono ?_; rintro e w5' ⟨rfl, _, hb5⟩; have D5 := Lib.hid (D4.out.reads hb5); have co5 := D5.out.co; clear hb5; rw [HP.out])
              | (go_at_call 24; refine (st_free D5.out.S).mono ?_; rintro e w6' ⟨rfl, _, hb6⟩; have D6 := Lib.hid (D5.out.reads hb6); have co6 := D6.out.co; clear hb6; rw [hMK, HFF.out])
              | (go_at_call 22; ((with_reducible refine (str_taken D6.out.R).mono ?_); rintro e w7' ⟨v7, rfl, hv7, _, hb7⟩; have D7 := Lib.hid (D6.out.reads hb7); have co7 := D7.out.co; obtain ⟨va, vc, rfl⟩ := hv7.slice; rw [HCN.out]; clear hv7 hb7))
              | (go_at_call 25; refine (CP.out _ _ _ _ D7.out.S).mono ?_; rintro e w8' ⟨rfl, _, hb8⟩; have D8 := Lib.hid (D7.out.reads hb8); have co8 := D8.out.co; clear hb8)
              | (go_at_call 26; refine (CR.out _ _ _ _ D8.out.R).mono ?_; rintro e w9' ⟨rfl, _, hb9⟩; have D9 := Lib.hid (D8.out.reads hb9); have co9 := D9.out.co; clear hb9)
              | (go_at_call 27; refine (st_len D9.out.S).mono ?_; rintro e w10' ⟨rfl, _, hb10⟩; have D10 := Lib.hid (D9.out.reads hb10); have co10 := D10.out.co; clear hb10; rw [hMK]))
          all_goals
            go_wp2_with fail
            go_meet
            exact ⟨rfl, D10.out⟩
        case rest =>
          obtain ⟨rfl, D⟩ := hcut
          have co1 := D.co
          have HD1 := Lib.hid D
          clear HDD co0 D
          go_wp2_with fail
          refine (RP.out _ _ _ _ HD1.out.S).mono ?_; rintro e w3 ⟨rfl, _, hb3⟩
          have D3 := Lib.hid (HD1.out.reads hb3)
          have co3 := D3.out.co
          clear hb3
          go_wp2_with fail
          refine (RR.out _ _ _ _ D3.out.R).mono ?_; rintro e w4 ⟨rfl, _, hb4⟩
          have D4 := D3.out.reads hb4
          clear hb4
          go_wp2_with fail
          go_roundw
          case rel => exact ⟨t + 1, p', b', M, by omega, by go_num, rfl, hMK, D4.S, D4.R, D4.n1, D4.n2, D4.n3⟩
          case measure => simp [intOf]; omega
    · go_wp2_with fail
      all_goals
        refine (fixed_true _).mono ?_; rintro e w3 ⟨rfl, hb3⟩
        go_wp2_with fail
        go_ret
        exact ⟨rfl, hS.bel.trans (hb3.mono hS.bel.size)⟩
end Go.Proofs.Ytdjoiabbchnhaaa
