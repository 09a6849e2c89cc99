/-
  LockFits, walked.
-/
import Derived.Test.YtainnhcmhgloaaaGreatDoorH09
import Derived.Test.YtainnhcmhgloaaaGreatDoorC09a
namespace Go.Proofs.YtainnhcmhgloaaaGreatDoor
open Go.RowKit Go.Shelf Go.MapKept Go.Maps Go.Sort Go.Lib

theorem mem_queueI {W : Hs} {n : ByteArray} {b : Int} (h : b ∈ queueI W n) : ∃ y ∈ W, y.name = n ∧ y.owner = b := by
  unfold queueI at h
  obtain ⟨y, hy, rfl⟩ := List.mem_map.1 h
  obtain ⟨h1, h2⟩ := mem_nameL.1 hy
  exact ⟨y, h1, h2, rfl⟩
theorem queueI_len (W : Hs) (n : ByteArray) : (queueI W n).length ≤ W.length := by unfold queueI; rw [List.length_map]; exact List.length_filter_le _ _
theorem holders_nodup {H W : Hs} (ok : Ok9 H W) (n : ByteArray) : (holdersI H n).Nodup := by
  unfold holdersI
  rw [(List.mergeSort_perm _ _).nodup_iff]
  have := ok.hn.filter (fun h => decide (h.name = n))
  unfold nameL
  refine List.Pairwise.map _ (fun a b hab => hab) (R := fun a b => a.owner ≠ b.owner) ?_
  refine List.Pairwise.imp_of_mem (fun {a b} ha hb hab e => ?_) this
  have h1 := List.mem_filter.1 ha; have h2 := List.mem_filter.1 hb
  simp at h1 h2
  exact hab ⟨e, h1.2.trans h2.2.symm⟩
theorem lk_BehindB {w w0 : World} {o : Nat → Nat} {g B : Nat} {H W : Hs} (S : Lk w0 g w o H W B) (hB : B ≤ 800) (x : Int) : Calls Tryz.prog 16 #[ptr9 g, .int .i64 x] w fun r w' => ∃ a C, r = .returned (.slice a (behI H W x).length C) ∧ Below w.heap.size w w' := by
  refine (c_Behind S.T S.laid (by have := S.B; omega) x).mono ?_
  rintro r w' ⟨v, rfl, hr, b⟩
  rcases hr.2 with ⟨rfl, h0⟩ | ⟨gb, cap, cur, rfl, _⟩
  · exact ⟨_, _, by rw [h0], b⟩
  · exact ⟨_, _, rfl, b⟩
set_option maxRecDepth 100000 in
set_option maxHeartbeats 8000000 in
theorem walk_LockFits (a : Option Addr) (len cap : Nat) (zs : List OpK9) (w : World) (h : ArgOps9 w a len zs) (_hlen : len ≤ maxLen) (hL : Laid9 w) :
    Calls Tryz.prog 4 #[.slice a len cap] w fun e w' => e = .returned (.bool true) ∧ Below w.heap.size w w' := by
  have CN := Lib.hid (lk_New w hL)
  have CF := Lib.hid c_fixed
  have HH := Lib.hid h
  have h9 : (len : Int) ≤ 9223372036854775807 := by simp [maxLen] at _hlen; omega
  clear h hL _hlen
  unfold ptr9 at *
  go_enter Tryz.func4, Tryz.ntmps4
  go_wp2_with fail
  refine CN.out.mono ?_; rintro r w1 ⟨g, o1, rfl, S1⟩
  have HS1 := Lib.hid S1
  clear CN S1
  go_wp2_with fail
  go_loopw [4] (fun u wr => ∃ (k : Nat) (o : Nat → Nat) (H W : Hs), k ≤ len ∧ k ≤ 60 ∧ u = .int .i64 (k : Int) ∧ Lk w g wr o H W k ∧ Own8 H W) (fun u _ => 60 - (intOf u).toNat)
  case atStart => exact ⟨0, _, _, _, by omega, by omega, rfl, HS1.out, ⟨fun _ h => (by cases h), fun _ h => (by cases h)⟩⟩
  case round =>
    obtain ⟨k, o, H, W, hk, hk2, rfl, hS, hO⟩ := hrel
    have HS := Lib.hid hS; have HO := Lib.hid hO
    clear HS1 hS hO
    by_cases hlt : k < len ∧ k < 60
    · obtain ⟨hl1, hl2⟩ := hlt
      have c1 : (k : Int) < (len : Int) := by omega
      have c2 : (k : Int) < 60 := by omega
      have c3 : (0 : Int) ≤ (k : Int) := by omega
      obtain ⟨x, b, off, rfl, hxs, _, hc⟩ := HH.out.get hl1
      have HC := Lib.hid hc
      obtain ⟨d0, d1, d2, d3⟩ := hc o wr HS.out.Z
      have CP := Lib.hid (c_Play HS.out HO.out (by omega) x.k x.pg x.n x.s hxs)
      clear hc
      unfold ptr9 at *
      go_wp2_with fail
      refine CP.out.mono ?_; rintro r w2 ⟨rfl, H2, W2, o2, S2, O2, _⟩
      have HS2 := Lib.hid S2; have HO2 := Lib.hid O2
      clear HS HO CP d0 d1 d2 d3 S2 O2
      go_wp2_with fail
      obtain ⟨_, _, q2, _⟩ := HC.out o2 w2 HS2.out.Z
      obtain ⟨n, n1, n2, n3, n4, n5, n6, n7⟩ := cut9 x.s hxs 2 (by omega)
      have n1' : min (x.s.size : Int) 2 = (n : Int) := n1
      clear n1
      obtain ⟨T, hT⟩ : ∃ T, x.s.extract 0 n = T := ⟨_, rfl⟩
      go_quiet (fail)
      have HS3 := Lib.hid (HS2.out.reads (below_drewN w2 nq))
      generalize w2.drewN nq = w3 at *
      clear q2 HS2 n1' n2 n3 n4 n5 n6 n7 hT
      have CHo := Lib.hid (lk_Holders HS3.out (by omega) T)
      go_wp2_with fail
      refine CHo.out.mono ?_; rintro r w4 ⟨v4, rfl, o4, S4, st4, K4⟩
      obtain ⟨ha, hC, rfl⟩ := K4.sl
      have HS4 := Lib.hid S4; have HK4 := Lib.hid K4
      clear CHo S4 st4 K4 HS3
      have CQ := Lib.hid (lk_Queue HS4.out (by omega) T)
      go_wp2_with fail
      refine CQ.out.mono ?_; rintro r w5 ⟨v5, rfl, o5, S5, st5, K5⟩
      obtain ⟨qa, qC, rfl⟩ := K5.sl
      have HS5 := Lib.hid S5; have HK5 := Lib.hid (HK4.out.step st5); have HQ5 := Lib.hid K5
      have hhl : (holdersI H2 T).length ≤ 62 := by have := holdersI_len H2 T; have := S5.B; omega
      have hql : (queueI W2 T).length ≤ 62 := by have := queueI_len W2 T; have := S5.B; omega
      have HFT := Lib.hid (show ∀ (i j : Nat) (x y : Int), (holdersI H2 T)[i]? = some x → (holdersI H2 T)[j]? = some y → i ≠ j → fitN (modeP H2 x T) (modeP H2 y T) = true from fun i j x y hx hy hij => by
        obtain ⟨h1, hh1, e1, e2⟩ := mem_holdersI.1 (List.mem_of_getElem? hx)
        obtain ⟨h2, hh2, e3, e4⟩ := mem_holdersI.1 (List.mem_of_getElem? hy)
        have m1 := modeP_mem S5.I.ok.hn hh1; have m2 := modeP_mem S5.I.ok.hn hh2
        rw [e1, e2] at m1
        rw [e3, e4] at m2
        rw [m1, m2]
        refine S5.I.fits h1 hh1 h2 hh2 (e1.trans e3.symm) (fun e => hij ?_)
        have hnd := holders_nodup S5.I.ok T
        have hi := (List.getElem?_eq_some_iff.1 hx).1
        refine (List.getElem?_inj hi hnd).1 ?_
        rw [hx, hy, ← e2, ← e4, e])
      have HQT := Lib.hid (show ∀ x ∈ queueI W2 T, ∃ m : Nat, forV W2 x = (.agg #[.string T, .int .i64 (m : Int)], true) ∧ modeP H2 x T ≠ m ∧ behI H2 W2 x ≠ [] from fun x hx => by
        obtain ⟨y, hy, rfl, rfl⟩ := mem_queueI hx
        refine ⟨y.mode, forV_some S5.I.ok hy, S5.I.more y hy, fun e => ?_⟩
        obtain ⟨b, hb⟩ := waits_behind S5.I.ok S5.F hy
        have := (behI_bh S5.I.ok).2 hb
        rw [e] at this; cases this)
      clear CQ S5 st5 K5 HS4 HK4
      generalize holdersI H2 T = hs at *
      generalize queueI W2 T = qs at *
      go_wp2_with fail
      go_loopw [8] (fun u wr => ∃ (i : Nat) (o : Nat → Nat), i ≤ hs.length ∧ u = .int .i64 (i : Int) ∧ Lk w g wr o H2 W2 (k + 1) ∧ KI wr o (.slice ha hs.length hC) hs ∧ KI wr o (.slice qa qs.length qC) qs) (fun u _ => hs.length - (intOf u).toNat)
      case atStart => exact ⟨0, _, by omega, rfl, HS5.out, HK5.out, HQ5.out⟩
      case round =>
        obtain ⟨i, oi, hi, rfl, hS, hK, hQ⟩ := hrel
        have HSi := Lib.hid hS; have HKi := Lib.hid hK; have HQi := Lib.hid hQ
        clear HS5 HK5 HQ5 hS hK hQ
        have i0 : (0 : Int) ≤ (i : Int) := by omega
        by_cases hlt : i < hs.length
        · have i1 : (i : Int) < (hs.length : Int) := by omega
          go_wp2_with fail
          go_loopw [9] (fun u wr => ∃ (j : Nat) (o : Nat → Nat), j ≤ i ∧ u = .int .i64 (j : Int) ∧ Lk w g wr o H2 W2 (k + 1) ∧ KI wr o (.slice ha hs.length hC) hs ∧ KI wr o (.slice qa qs.length qC) qs) (fun u _ => i - (intOf u).toNat)
          case atStart => exact ⟨0, _, by omega, rfl, HSi.out, HKi.out, HQi.out⟩
          case round =>
            obtain ⟨j, oj, hj, rfl, hS, hK, hQ⟩ := hrel
            have HSj := Lib.hid hS; have HKj := Lib.hid hK; have HQj := Lib.hid hQ
            clear HSi HKi HQi hS hK hQ
            have j0 : (0 : Int) ≤ (j : Int) := by omega
            by_cases hltj : j < i
            · have j1 : (j : Int) < (i : Int) := by omega
              have j2 : (j : Int) < (hs.length : Int) := by omega
              obtain ⟨y, hy⟩ : ∃ y, hs[i]? = some y := ⟨_, List.getElem?_eq_getElem hlt⟩
              obtain ⟨z, hz⟩ : ∃ z, hs[j]? = some z := ⟨_, List.getElem?_eq_getElem (by omega)⟩
              have hf := HFT.out i j y z hy hz (by omega)
              have m1 := modeP_lt HSj.out.I.ok y T
              have m2 := modeP_lt HSj.out.I.ok z T
              obtain ⟨hb, rfl, d0⟩ := HKj.out.cell hy
              obtain ⟨hb', e, d1⟩ := HKj.out.cell hz
              cases e
              have HD := Lib.hid (And.intro d0 d1)
              have CM1 := Lib.hid (fun (W' : World) (S : Lk w g W' oj H2 W2 (k + 1)) => lk_Mode S y T)
              have CM2 := Lib.hid (fun (W' : World) (S : Lk w g W' oj H2 W2 (k + 1)) => lk_Mode S z T)
              have CR := rfits_any ((modeP H2 y T : Nat) : Int) ((modeP H2 z T : Nat) : Int)
              rw [fitB_nat _ _ m1 m2, hf] at CR
              have HCR := Lib.hid CR
              clear CR hf m1 m2 hy hz d0 d1
              generalize modeP H2 y T = my at *
              generalize modeP H2 z T = mz at *
              have HS0 := Lib.hid (HSj.out.reads ((Below.refl wr.heap.size wr).drew)); have HK0 := Lib.hid (HKj.out.reads ((Below.refl wr.heap.size wr).drew)); have HQ0 := Lib.hid (HQj.out.reads ((Below.refl wr.heap.size wr).drew))
              have q0 : wr.drew.cell? ⟨hb, i, none⟩ = some (.int .i64 y) ∧ wr.drew.cell? ⟨hb, j, none⟩ = some (.int .i64 z) := HD.out
              have hbl := World.block_lt_of_cell? _ _ q0.1
              have HBL := Lib.hid hbl
              clear hbl HSj HKj HQj HD
              unfold ptr9 at *
              go_wp2_with fail
              go_region_held3 (fun W => W.cell? ⟨hb, i, none⟩ = some (.int .i64 y) ∧ W.cell? ⟨hb, j, none⟩ = some (.int .i64 z)) (first | exact q0 | exact q1)
                (first
                | (go_at_call 14; ((with_reducible refine (CM1.out _ HS0.out).mono ?_); rintro e1 _ ⟨rfl, rfl⟩))
                | (go_at_call 14; ((with_reducible refine (CM2.out _ HS0.out).mono ?_); rintro e1 _ ⟨rfl, rfl⟩))
                | (go_at_call 13; ((with_reducible refine (HCR.out _).mono ?_); rintro e1 v1 ⟨rfl, b1⟩; have q1 := And.intro ((b1.cell (p := ⟨hb, i, none⟩) HBL.out).trans q0.1) ((b1.cell (p := ⟨hb, j, none⟩) HBL.out).trans q0.2); have HS1 := Lib.hid (HS0.out.reads b1); have HK1 := Lib.hid (HK0.out.reads b1); have HQ1 := Lib.hid (HQ0.out.reads b1); clear b1)))
              all_goals (try go_wp2_with fail)
              all_goals exact ⟨⟨j + 1, _, by omega, by go_num, HS1.out, HK1.out, HQ1.out⟩, by simp [intOf]; omega⟩
            · have j1 : ¬ (j : Int) < (i : Int) := by omega
              go_wp2_with fail
              exact ⟨⟨i + 1, _, by omega, by go_num, HSj.out, HKj.out, HQj.out⟩, by simp [intOf]; omega⟩
        · have i1 : ¬ (i : Int) < (hs.length : Int) := by omega
          clear HKi
          go_wp2_with fail
          go_loopw [10] (fun u wr => ∃ (i : Nat) (o : Nat → Nat), i ≤ qs.length ∧ u = .int .i64 (i : Int) ∧ Lk w g wr o H2 W2 (k + 1) ∧ KI wr o (.slice qa qs.length qC) qs) (fun u _ => qs.length - (intOf u).toNat)
          case atStart => exact ⟨0, _, by omega, rfl, HSi.out, HQi.out⟩
          case round =>
            obtain ⟨j, oj, hj, rfl, hS, hQ⟩ := hrel
            have HSj := Lib.hid hS; have HQj := Lib.hid hQ
            clear HSi HQi hS hQ
            have j0 : (0 : Int) ≤ (j : Int) := by omega
            by_cases hltj : j < qs.length
            · have j1 : (j : Int) < (qs.length : Int) := by omega
              obtain ⟨y, hy⟩ : ∃ y, qs[j]? = some y := ⟨_, List.getElem?_eq_getElem hltj⟩
              obtain ⟨m, e1, e2, e3⟩ := HQT.out y (List.mem_of_getElem? hy)
              obtain ⟨hb, rfl, d0⟩ := HQj.out.cell hy
              have CW := lk_Waits HSj.out y
              rw [e1] at CW
              have HW := Lib.hid CW
              have HY := Lib.hid hy
              clear CW e1 hy
              go_wp2_with fail
              refine HW.out.mono ?_; rintro r w6 ⟨rfl, b6⟩
              have b7 : Below w6.heap.size w6 (w6.alloc (.cells #[.string T, .int .i64 (m : Int)] 41)) := (Below.refl _ w6).alloc (Nat.le_refl _) _
              have HS7 := Lib.hid (HSj.out.reads (b6.trans (b7.mono b6.size))); have HQ7 := Lib.hid (HQj.out.reads (b6.trans (b7.mono b6.size)))
              have HA7 := Lib.hid (At.new w6 #[.string T, .int .i64 (m : Int)] 41)
              clear HSj HQj HW b6 b7 d0
              go_upto_region 22 with fail
              generalize w6.alloc (.cells #[.string T, .int .i64 (m : Int)] 41) = w7 at *
              generalize w6.heap.size = bx at *
              obtain ⟨hb', e, d0⟩ := HQ7.out.cell HY.out
              cases e
              have hTT : (T.toList != T.toList) = false := by simp
              have CM1 := Lib.hid (fun (W' : World) (S : Lk w g W' oj H2 W2 (k + 1)) => lk_Mode S y T)
              have CB1 := Lib.hid (fun (W' : World) (S : Lk w g W' oj H2 W2 (k + 1)) => lk_BehindB S (by omega) y)
              have e2' : (((modeP H2 y T : Nat) : Int) == (m : Int)) = false := by rw [beq_eq_false_iff_ne]; omega
              have e3' : (((behI H2 W2 y).length : Int) == 0) = false := by
                rw [beq_eq_false_iff_ne]
                have := List.length_pos_iff.2 e3
                omega
              have HS0 := Lib.hid (HS7.out.reads ((Below.refl w7.heap.size w7).drew)); have HQ0 := Lib.hid (HQ7.out.reads ((Below.refl w7.heap.size w7).drew))
              have q0 : w7.drew.cell? ⟨hb, j, none⟩ = some (.int .i64 y) ∧ w7.drew.cell? ⟨bx, 0, none⟩ = some (.string T) ∧ w7.drew.cell? ⟨bx, 1, none⟩ = some (.int .i64 (m : Int)) := ⟨d0, HA7.out.cell 0, HA7.out.cell 1⟩
              have HBL := Lib.hid (And.intro (World.block_lt_of_cell? _ _ q0.1) (World.block_lt_of_cell? _ _ q0.2.1))
              clear HS7 HQ7 HA7 d0 e2 e3
              generalize modeP H2 y T = my at *
              generalize behI H2 W2 y = lb at *
              unfold ptr9 at *
              go_wp2_with fail
              go_region_held3 (fun W => W.cell? ⟨hb, j, none⟩ = some (.int .i64 y) ∧ W.cell? ⟨bx, 0, none⟩ = some (.string T) ∧ W.cell? ⟨bx, 1, none⟩ = some (.int .i64 (m : Int))) (first | exact q0 | exact q1)
                (first
                | (go_at_call 14; ((with_reducible refine (CM1.out _ HS0.out).mono ?_); rintro e1 _ ⟨rfl, rfl⟩))
                | (go_at_call 16; ((with_reducible refine (CB1.out _ HS0.out).mono ?_); rintro e1 v1 ⟨ba, bC, rfl, b1⟩; have q1 := And.intro ((b1.cell (p := ⟨hb, j, none⟩) HBL.out.1).trans q0.1) (And.intro ((b1.cell (p := ⟨bx, 0, none⟩) HBL.out.2).trans q0.2.1) ((b1.cell (p := ⟨bx, 1, none⟩) HBL.out.2).trans q0.2.2)); have HS1 := Lib.hid (HS0.out.reads b1); have HQ1 := Lib.hid (HQ0.out.reads b1); clear b1)))
              all_goals (try go_wp2_with fail)
              all_goals exact ⟨⟨j + 1, _, by omega, by go_num, HS1.out, HQ1.out⟩, by simp [intOf]; omega⟩
            · have j1 : ¬ (j : Int) < (qs.length : Int) := by omega
              go_wp2_with fail
              exact ⟨⟨k + 1, _, _, _, by omega, by omega, by go_num, HSj.out, HO2.out⟩, by simp [intOf]; omega⟩
    · have hgo : ¬ (k : Int) < (len : Int) ∨ ((k : Int) < (len : Int) ∧ ¬ (k : Int) < 60) := by omega
      have HF := Lib.hid (CF.out wr HS.out.laid)
      have HZ := Lib.hid HS.out.Z.bel
      clear CF HS HO hlt
      rcases hgo with g1 | ⟨g1, g2⟩
      all_goals
        go_wp2_with fail
        refine HF.out.mono ?_; rintro r w3 ⟨rfl, b3⟩
        have HB := Lib.hid (HZ.out.trans (b3.mono HZ.out.size))
        clear b3
        go_wp2_with fail
        go_ret
        exact ⟨rfl, HB.out⟩
end Go.Proofs.YtainnhcmhgloaaaGreatDoor
