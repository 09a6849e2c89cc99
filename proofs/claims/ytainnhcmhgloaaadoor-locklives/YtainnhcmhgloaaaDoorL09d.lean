/-
  LockLives, walked.
-/
import Derived.Test.YtainnhcmhgloaaaDoorH09
import Derived.Laws.MakeOwn
namespace Go.Proofs.YtainnhcmhgloaaaDoor
open Go.RowKit Go.Shelf Go.MapKept Go.Maps Go.Sort Go.Lib

def seenV (f : Nat → Bool) : Array Value := ((List.range 8).map (fun k => Value.bool (f k))).toArray
theorem seenV_get (f : Nat → Bool) (k : Nat) (hk : k < 8) : (seenV f)[k]? = some (.bool (f k)) := by
  unfold seenV; rw [List.getElem?_toArray, List.getElem?_map, List.getElem?_range hk]; rfl
theorem seenV_set (f : Nat → Bool) (k : Nat) (v : Bool) : (seenV f).setIfInBounds k (.bool v) = seenV (fun i => if i = k then v else f i) := by
  apply Array.ext_getElem?
  intro i
  rw [Array.getElem?_setIfInBounds]
  unfold seenV
  simp only [List.getElem?_toArray, List.getElem?_map, List.size_toArray, List.length_map, List.length_range]
  by_cases hi : i < 8
  · rw [List.getElem?_range hi]
    by_cases e : k = i
    · subst e; simp [hi]
    · simp [e, Ne.symm e]
  · rw [List.getElem?_eq_none (by simpa using hi)]
    by_cases e : k = i
    · subst e; simp [hi]
    · simp [e]
theorem info_bool9 : (Tryd.prog.info? 4).map (fun i => (i.zero, i.size, i.bytes)) = some (some (.bool false), 1, 1) := by kernel_rfl
theorem mk_seen (W : World) : (Instr.makeSlice 28 (.int .i64 8) (.int .i64 8)).run Tryd.prog W = .ok (.slice (some ⟨W.heap.size, 0, none⟩) 8 8) (W.alloc (.cells (seenV (fun _ => false)) 4)) := by
  obtain ⟨i0, hi, hz0, hz1, hz2⟩ := info_parts info_bool9
  have h := run_make (P := Tryd.prog) W 28 4 i0 (.bool false) Tryd.underlying28 hi hz0 .i64 .i64 (8 : Int) (8 : Int) (by omega) (by omega) (by rw [hz2]; omega) (by omega)
  rw [hz1, show madeCells (Value.bool false).cells ((8 : Int).toNat * 1) = seenV (fun _ => false) by kernel_rfl] at h
  exact h
section
variable {w w' w0 : World} {o o' : Nat → Nat} {i g B : Nat} {H W : Hs} {v : Value} {l : List Int}
theorem lk_Behind3 (S : Lk w0 g w o H W B) (hB : B ≤ 800) (x : Int) : Calls Tryd.prog 9 #[ptr9 g, .int .i64 x] w fun r w' => ∃ v, r = .returned v ∧ ∃ o', Lk w0 g w' o' H W B ∧ Stp o 1 w o' w' ∧ Row w' o' 3 3 1 v (behI H W x).length ((behI H W x).map encI9) := by
  refine (c_Behind S.T S.laid (by have := S.B; omega) x).mono ?_
  rintro r w' ⟨v, rfl, hr, b⟩
  exact ⟨v, rfl, gives o w.heap.size 3, S.fresh b 3, stp_new b 3, row_new hr 3⟩
theorem beh_own {a b : Int} (I : Inv9 H W) (O : Own8 H W) (h : Beh H W a b) : b ≠ a ∧ 0 ≤ b ∧ b < 8 := by
  have hq := (beh_bqs I.ok).1 h
  refine ⟨fun e => I.loop a (by rw [e] at hq; exact hq), ?_⟩
  obtain ⟨c, hc⟩ := hq.last
  rcases List.mem_append.1 hc.univ with h1 | h1
  · obtain ⟨y, hy, rfl⟩ := List.mem_map.1 h1; exact O.1 y hy
  · obtain ⟨y, hy, rfl⟩ := List.mem_map.1 h1; exact O.2 y hy
theorem row_sl {z n : Nat} {t : TypeId} {xs : List Value} (h : Row w o z t 1 v n xs) : ∃ a C, v = .slice a n C := by
  rcases h.val with ⟨rfl, h0, _⟩ | ⟨gq, C, rfl, _⟩
  · exact ⟨_, _, by rw [h0]⟩
  · exact ⟨_, _, rfl⟩
end
set_option maxRecDepth 100000 in
set_option maxHeartbeats 8000000 in
theorem walk_LockLives (a : Option Addr) (len cap : Nat) (zs : List OpK9) (w : World) (h : ArgOps9 w a len zs) (_hlen : len ≤ maxLen) (hL : Laid9 w) :
    Calls Tryd.prog 3 #[.slice a len cap] w fun e w' => e = .returned (.bool true) ∧ Below w.heap.size w w' := by
  have CN := Lib.hid (lk_New w hL)
  have CF := Lib.hid c_fixed
  have HH := Lib.hid h
  have HMK := Lib.hid mk_seen
  have h9 : (len : Int) ≤ 9223372036854775807 := by simp [maxLen] at _hlen; omega
  clear h hL _hlen
  unfold ptr9 at *
  go_enter Tryd.func3, Tryd.ntmps3
  go_wp2_with fail
  refine CN.out.mono ?_; rintro r w1 ⟨g, o1, rfl, S1⟩
  have HS1 := Lib.hid S1
  clear CN S1
  go_wp2_with fail
  go_loopw [4] (fun u wr => ∃ (k : Nat) (o : Nat → Nat) (H W : Hs), k ≤ len ∧ k ≤ 60 ∧ u = .int .i64 (k : Int) ∧ Lk w g wr o H W k ∧ Own8 H W) (fun u _ => 60 - (intOf u).toNat)
  case atStart => exact ⟨0, _, _, _, by omega, by omega, rfl, HS1.out, ⟨fun _ h => (by cases h), fun _ h => (by cases h)⟩⟩
  case round =>
    obtain ⟨k, o, H, W, hk, hk2, rfl, hS, hO⟩ := hrel
    have HS := Lib.hid hS; have HO := Lib.hid hO
    clear HS1 hS hO
    by_cases hlt : k < len ∧ k < 60
    · obtain ⟨hl1, hl2⟩ := hlt
      have c1 : (k : Int) < (len : Int) := by omega
      have c2 : (k : Int) < 60 := by omega
      have c3 : (0 : Int) ≤ (k : Int) := by omega
      obtain ⟨x, b, off, rfl, hxs, _, hc⟩ := HH.out.get hl1
      obtain ⟨d0, d1, d2, d3⟩ := hc o wr HS.out.Z
      have CP := Lib.hid (c_Play HS.out HO.out (by omega) x.k x.pg x.n x.s hxs)
      clear hc
      unfold ptr9 at *
      go_wp2_with fail
      refine CP.out.mono ?_; rintro r w2 ⟨rfl, H2, W2, o2, S2, O2, _⟩
      have HS2 := Lib.hid S2; have HO2 := Lib.hid O2
      clear HS HO CP d0 d1 d2 d3 S2 O2
      go_wp2_with fail
      go_loopw [5] (fun u wr => ∃ (p : Nat) (o : Nat → Nat), p ≤ 8 ∧ u = .int .i64 (p : Int) ∧ Lk w g wr o H2 W2 (k + 1)) (fun u _ => 8 - (intOf u).toNat)
      case atStart => exact ⟨0, _, by omega, rfl, HS2.out⟩
      case round =>
        obtain ⟨p, o3, hp, rfl, hS⟩ := hrel
        have HS3 := Lib.hid hS
        clear HS2 hS
        have p0 : (0 : Int) ≤ (p : Int) := by omega
        by_cases hlt : p < 8
        · have p1 : (p : Int) < 8 := by omega
          have mk := HMK.out wr
          have b4 : Below wr.heap.size wr (wr.alloc (.cells (seenV (fun _ => false)) 4)) := (Below.refl _ wr).alloc (Nat.le_refl _) _
          have HS4 := Lib.hid (HS3.out.fresh b4 5)
          have HV4 := Lib.hid (show At (wr.alloc (.cells (seenV (fun _ => false)) 4)) wr.heap.size (seenV (fun _ => false)) 4 ∧ gives o3 wr.heap.size 5 wr.heap.size = 5 from ⟨At.new _ _ _, gives_new (Nat.le_refl _)⟩)
          clear b4 HS3
          go_upto_region 12 with fail
          generalize wr.alloc (.cells (seenV (fun _ => false)) 4) = w4 at *
          generalize gives o3 wr.heap.size 5 = o4 at *
          generalize wr.heap.size = sb at *
          clear mk
          have CB := Lib.hid (lk_Behind3 HS4.out (by omega) (p : Int))
          go_wp2_with fail
          refine CB.out.mono ?_; rintro r w5 ⟨v5, rfl, o5, S5, st5, R5⟩
          obtain ⟨va5, vC5, rfl⟩ := row_sl R5
          have HS5 := Lib.hid S5; have HR5 := Lib.hid R5
          have HV5 := Lib.hid (show At w5 sb (seenV (fun _ => false)) 4 ∧ o5 sb = 5 from ⟨HV4.out.1.same (st5.blk sb HV4.out.1.lt (by rw [HV4.out.2]; decide)), by rw [st5.own sb HV4.out.1.lt]; exact HV4.out.2⟩)
          have HX5 := Lib.hid (show ∀ b ∈ behI H2 W2 (p : Int), Beh H2 W2 (p : Int) b from fun b hb => .one ((behI_bh S5.I.ok).1 hb))
          have hl5 : (behI H2 W2 (p : Int)).length ≤ 100 := by have := behI_len H2 W2 (p : Int); have := S5.B; omega
          clear CB S5 R5 st5 HS4 HV4
          generalize behI H2 W2 (p : Int) = l5 at *
          go_wp2_with fail
          go_loopw [7, 8] (fun v u wr => ∃ (j : Nat) (o : Nat → Nat) (l : List Int) (va : Option Addr) (vC : Nat) (f : Nat → Bool), j ≤ 200 ∧ j ≤ l.length ∧ l.length ≤ 100 * (j + 1) ∧ v = .slice va l.length vC ∧ u = .int .i64 (j : Int) ∧ Lk w g wr o H2 W2 (k + 1) ∧ Row wr o 3 3 1 (.slice va l.length vC) l.length (l.map encI9) ∧ At wr sb (seenV f) 4 ∧ o sb = 5 ∧ ∀ b ∈ l, Beh H2 W2 (p : Int) b) (fun _ u _ => 200 - (intOf u).toNat)
          case atStart => exact ⟨0, _, _, _, _, _, by omega, by omega, by omega, rfl, rfl, HS5.out, HR5.out, HV5.out.1, HV5.out.2, HX5.out⟩
          case round =>
            obtain ⟨j, o6, l6, va6, vC6, f6, hj, hjl, hl6, rfl, rfl, hS, hR, hV, hV2, hX⟩ := hrel
            have HS6 := Lib.hid hS; have HR6 := Lib.hid hR; have HV6 := Lib.hid hV; have HV7 := Lib.hid hV2; have HX6 := Lib.hid hX
            clear HS5 HR5 HV5 HX5 hS hR hV hV2 hX
            have j0 : (0 : Int) ≤ (j : Int) := by omega
            have j9 : (l6.length : Int) ≤ 100000 := by omega
            by_cases hlt3 : j < l6.length ∧ j < 200
            · obtain ⟨hl1, hl2⟩ := hlt3
              have j1 : (j : Int) < (l6.length : Int) := by omega
              have j2 : (j : Int) < 200 := by omega
              obtain ⟨y, hy⟩ : ∃ y, l6[j]? = some y := ⟨_, List.getElem?_eq_getElem hl1⟩
              have hyb := HX6.out y (List.mem_of_getElem? hy)
              obtain ⟨y1, y2, y3⟩ := beh_own HS6.out.I HO2.out hyb
              obtain ⟨hb, rfl, d0⟩ := (KI.of HR6.out (by decide)).cell hy
              obtain ⟨q, rfl⟩ : ∃ q : Nat, y = (q : Int) := ⟨y.toNat, by omega⟩
              have hq : q < 8 := by omega
              have y1' : ((q : Int) == (p : Int)) = false := by rw [beq_eq_false_iff_ne]; exact y1
              have d1 : wr.cell? ⟨sb, q, none⟩ = some (.bool (f6 q)) := by rw [HV6.out.cell q, seenV_get f6 q hq]
              have d2 : wr.frozen? ⟨sb, q, none⟩ = false := HV6.out.fz q
              have y4 : (q : Int) < 8 := by omega
              have y5 : ¬ (q : Int) > 7 := by omega
              have y6 : ¬ (q : Int) < 0 := by omega
              have HYB := Lib.hid hyb
              clear hy hyb y1
              cases hf : f6 q with
              | true =>
                rw [hf] at d1
                go_wp2_with fail
                exact ⟨⟨j + 1, _, _, _, _, _, by omega, by omega, by omega, rfl, by go_num, HS6.out, HR6.out, HV6.out, HV7.out, HX6.out⟩, by simp [intOf]; omega⟩
              | false =>
                rw [hf] at d1
                have st : Stp o6 5 wr o6 (wr.setCell ⟨sb, q, none⟩ (.bool true)) := Stp.setCell o6 5 wr sb q (.bool true) HV7.out
                have HS7 := Lib.hid (HS6.out.other st (by decide) (by decide)); have HR7 := Lib.hid (HR6.out.other st (by decide))
                have hV8 := HV6.out.set q (.bool true)
                rw [seenV_set] at hV8
                have HV8 := Lib.hid hV8
                clear st hV8 HS6 HR6 HV6 hf
                go_upto_region 21 with fail
                generalize wr.setCell ⟨sb, q, none⟩ (.bool true) = w7 at *
                clear d0 d1 d2
                have CB := Lib.hid (lk_Behind3 HS7.out (by omega) (q : Int))
                go_wp2_with fail
                refine CB.out.mono ?_; rintro r w8 ⟨v8, rfl, o8, S8, st8, R8⟩
                have hl8 : (behI H2 W2 (q : Int)).length ≤ 100 := by have := behI_len H2 W2 (q : Int); have := S8.B; omega
                have HX8 := Lib.hid (show ∀ b ∈ l6 ++ behI H2 W2 (q : Int), Beh H2 W2 (p : Int) b from fun b hb => by
                  rcases List.mem_append.1 hb with hb | hb
                  · exact HX6.out b hb
                  · exact HYB.out.trans (.one ((behI_bh S8.I.ok).1 hb)))
                obtain ⟨v9, w9, hap, R9, s9⟩ := append3 (ty := 29) (HR7.out.other st8 (by decide)) R8 (by omega)
                obtain ⟨va9, vC9, rfl⟩ := row_sl R9
                have hV9 : At w8 sb (seenV (fun i => if i = q then true else f6 i)) 4 ∧ o8 sb = 5 := ⟨HV8.out.same (st8.blk sb HV8.out.lt (by rw [HV7.out]; decide)), by rw [st8.own sb HV8.out.lt]; exact HV7.out⟩
                have HAP := Lib.hid hap
                have HS9 := Lib.hid (S8.other s9 (by decide) (by decide)); have HR9 := Lib.hid R9
                have HV9 := Lib.hid (show At w9 sb (seenV (fun i => if i = q then true else f6 i)) 4 ∧ gives o8 w8.heap.size 3 sb = 5 from ⟨hV9.1.same (s9.blk sb hV9.1.lt (by rw [hV9.2]; decide)), by rw [s9.own sb hV9.1.lt]; exact hV9.2⟩)
                clear CB HS7 HR7 HV8 HV7 S8 st8 R8 hap R9 s9 hV9 HX6 HYB
                generalize behI H2 W2 (q : Int) = l8 at *
                go_wp2_with (at_builtin; refine wpList_append_run rfl (.tmp 77) (.tmp 80) _ _ rfl _ _ rfl rfl _ _ HAP.out ?_)
                exact ⟨⟨j + 1, _, _, _, _, _, by omega, by rw [List.length_append]; omega, by rw [List.length_append]; omega, by rw [List.length_append], by go_num, HS9.out, by rw [List.length_append] at HR9 ⊢; exact HR9.out, HV9.out.1, HV9.out.2, HX8.out⟩, by simp [intOf]; omega⟩
            · have hgo : ¬ (j : Int) < (l6.length : Int) ∨ ((j : Int) < (l6.length : Int) ∧ ¬ (j : Int) < 200) := by omega
              clear HR6 HV6 HV7 HX6
              rcases hgo with g1 | ⟨g1, g2⟩
              all_goals
                go_wp2_with fail
                exact ⟨⟨p + 1, _, by omega, by go_num, HS6.out⟩, by simp [intOf]; omega⟩
        · have p1 : ¬ (p : Int) < 8 := by omega
          go_wp2_with fail
          exact ⟨⟨k + 1, _, _, _, by omega, by omega, by go_num, HS3.out, HO2.out⟩, by simp [intOf]; omega⟩
    · have hgo : ¬ (k : Int) < (len : Int) ∨ ((k : Int) < (len : Int) ∧ ¬ (k : Int) < 60) := by omega
      have HS0 := Lib.hid (HS.out.more (show k ≤ 60 by omega))
      have HLv := Lib.hid (Lv.start HS0.out.I HS0.out.F HO.out)
      clear HS HO hlt
      rcases hgo with g1 | ⟨g1, g2⟩
      all_goals
        go_wp2_with fail
        go_loopw [10] (fun u wr => ∃ (n : Nat) (o : Nat → Nat) (H W : Hs), n ≤ 8 ∧ u = .int .i64 (n : Int) ∧ Lk w g wr o H W 60 ∧ Lv n H W) (fun u _ => 8 - (intOf u).toNat)
        case atStart => exact ⟨0, _, _, _, by omega, rfl, HS0.out, HLv.out⟩
        case round =>
          obtain ⟨n, o3, H3, W3, hn, rfl, hS, hLv⟩ := hrel
          have HS3 := Lib.hid hS; have HL3 := Lib.hid hLv
          clear HS0 HLv hS hLv
          have n0 : (0 : Int) ≤ (n : Int) := by omega
          by_cases hlt : n < 8
          · have n1 : (n : Int) < 8 := by omega
            go_wp2_with fail
            go_loopw [11] (fun u wr => ∃ (p : Nat) (o : Nat → Nat) (H W : Hs), p ≤ 8 ∧ u = .int .i64 (p : Int) ∧ Lk w g wr o H W 60 ∧ Rnd W3 (p : Int) H W) (fun u _ => 8 - (intOf u).toNat)
            case atStart => exact ⟨0, _, _, _, by omega, rfl, HS3.out, Rnd.start HL3.out.I HL3.out.F HL3.out.own⟩
            case round =>
              obtain ⟨p, o4, H4, W4, hp, rfl, hS, hR⟩ := hrel
              have HS4 := Lib.hid hS; have HR4 := Lib.hid hR
              clear HS3 hS hR
              have p0 : (0 : Int) ≤ (p : Int) := by omega
              by_cases hlt4 : p < 8
              · have p1 : (p : Int) < 8 := by omega
                obtain ⟨vn, vm, hv⟩ := forV_form W4 (p : Int)
                cases his : (forV W4 (p : Int)).2 with
                | true =>
                  have CW := lk_Waits HS4.out (p : Int)
                  rw [hv, his] at CW
                  have HW := Lib.hid CW
                  have HR5 := Lib.hid (show Rnd W3 ((p + 1 : Nat) : Int) H4 W4 from HR4.out.waits (forV_is.1 his))
                  clear CW his hv HR4
                  go_wp2_with fail
                  refine HW.out.mono ?_; rintro r w5 ⟨rfl, b5⟩
                  have b6 := b5.trans (((Below.refl _ w5).alloc (Nat.le_refl _) (.cells #[.string vn, .int .i64 vm] 32)).mono b5.size)
                  have HS6 := Lib.hid (HS4.out.reads b6)
                  clear HS4 HW b5 b6
                  go_wp2_with fail
                  exact ⟨⟨p + 1, _, _, _, by omega, by go_num, HS6.out, HR5.out⟩, by simp [intOf]; omega⟩
                | false =>
                  have CW := lk_Waits HS4.out (p : Int)
                  rw [hv, his] at CW
                  have HW := Lib.hid CW
                  have HR5 := Lib.hid (show Rnd W3 ((p + 1 : Nat) : Int) (dropH H4 W4 (p : Int)) (dropW H4 W4 (p : Int)) from HR4.out.drop (forV_not.1 his))
                  clear CW his hv HR4
                  go_wp2_with fail
                  refine HW.out.mono ?_; rintro r w5 ⟨rfl, b5⟩
                  have b6 := b5.trans (((Below.refl _ w5).alloc (Nat.le_refl _) (.cells #[.string vn, .int .i64 vm] 32)).mono b5.size)
                  have HS6 := Lib.hid (HS4.out.reads b6)
                  clear HS4 HW b5 b6
                  go_wp2_with fail
                  refine (lk_Drop HS6.out (by omega) (p : Int)).mono ?_; rintro r w7 ⟨v7, rfl, o7, S7, _, _⟩
                  have HS7 := Lib.hid S7
                  clear HS6 S7
                  go_wp2_with fail
                  exact ⟨⟨p + 1, _, _, _, by omega, by go_num, HS7.out, HR5.out⟩, by simp [intOf]; omega⟩
              · obtain rfl : p = 8 := by omega
                have HL5 := Lib.hid (HL3.out.next hlt HR4.out)
                clear HR4 HL3
                go_wp2_with fail
                exact ⟨⟨n + 1, _, _, _, by omega, by go_num, HS4.out, HL5.out⟩, by simp [intOf]; omega⟩
          · have n8 : n = 8 := by omega
            obtain ⟨rfl, rfl⟩ := HL3.out.none n8
            have n1 : ¬ (n : Int) < 8 := by omega
            clear HL3 n8
            go_wp2_with fail
            go_loopw [14] (fun u wr => ∃ (p : Nat) (o : Nat → Nat), p ≤ 8 ∧ u = .int .i64 (p : Int) ∧ Lk w g wr o [] [] 60) (fun u _ => 8 - (intOf u).toNat)
            case atStart => exact ⟨0, _, by omega, rfl, HS3.out⟩
            case round =>
              obtain ⟨p, o4, hp, rfl, hS⟩ := hrel
              have HS4 := Lib.hid hS
              clear HS3 hS
              have p0 : (0 : Int) ≤ (p : Int) := by omega
              by_cases hlt4 : p < 8
              · have p1 : (p : Int) < 8 := by omega
                have CW := lk_Waits HS4.out (p : Int)
                rw [forV_none (fun y hy => (by cases hy))] at CW
                have HW := Lib.hid CW
                clear CW
                go_wp2_with fail
                refine HW.out.mono ?_; rintro r w5 ⟨rfl, b5⟩
                have b6 := b5.trans (((Below.refl _ w5).alloc (Nat.le_refl _) (.cells #[.string ⟨#[]⟩, .int .i64 0] 32)).mono b5.size)
                have HS6 := Lib.hid (HS4.out.reads b6)
                clear HS4 HW b5 b6
                have CH := lk_HeldK HS6.out (by omega) (p : Int)
                rw [show (ownL [] (p : Int)).length = 0 from rfl] at CH
                have HCH := Lib.hid CH
                clear CH
                go_wp2_with fail
                refine HCH.out.mono ?_; rintro r w7 ⟨xa, xC, rfl, o7, S7, _, _⟩
                have HS7 := Lib.hid S7
                clear HS6 HCH S7
                go_wp2_with fail
                exact ⟨⟨p + 1, _, by omega, by go_num, HS7.out⟩, by simp [intOf]; omega⟩
              · have p1 : ¬ (p : Int) < 8 := by omega
                have HF := Lib.hid (CF.out wr HS4.out.laid); have HZ := Lib.hid HS4.out.Z.bel
                clear CF HS4
                go_wp2_with fail
                refine HF.out.mono ?_; rintro r w6 ⟨rfl, b6⟩
                have HB := Lib.hid (HZ.out.trans (b6.mono HZ.out.size))
                clear b6
                go_wp2_with fail
                go_ret
                exact ⟨rfl, HB.out⟩
end Go.Proofs.YtainnhcmhgloaaaDoor
