/-
  LockTurn, walked.
-/
import Derived.Test.YtainnhcmhgloaaaDoorH09
namespace Go.Proofs.YtainnhcmhgloaaaDoor
open Go.RowKit Go.Shelf Go.MapKept Go.Maps Go.Sort Go.Lib

def nN9 : ByteArray := ⟨#[110]⟩
/-- 1, 2, .. -/
def ups (n : Nat) : List Int := (List.range n).map (fun k => ((k + 1 : Nat) : Int))
theorem ups_at {n k : Nat} (h : k < n) : (ups n)[k]? = some ((k : Int) + 1) := by
  unfold ups; rw [List.getElem?_map, List.getElem?_range h]; simp
theorem ups_len (n : Nat) : (ups n).length = n := by unfold ups; simp
set_option maxRecDepth 100000 in
set_option maxHeartbeats 8000000 in
theorem walk_LockTurn (a : Option Addr) (len cap : Nat) (zs : List Int) (w : World) (h : ArgInts w a len zs) (_h1 : len ≤ cap) (_hlen : cap ≤ maxLen) (hL : Laid9 w) :
    Calls Tryd.prog 4 #[.slice a len cap] w fun e w' => e = .returned (.bool true) ∧ Below w.heap.size w w' := by
  have CN := Lib.hid (lk_New w hL)
  have CF := Lib.hid c_fixed
  have HH := Lib.hid h
  have h9 : (len : Int) ≤ 9223372036854775807 := by simp [maxLen] at _hlen; omega
  have hnN : nN9.size ≤ 300 := by decide
  clear h hL _hlen _h1
  unfold ptr9 at *
  go_enter Tryd.func4, Tryd.ntmps4
  go_wp2_with fail
  refine CN.out.mono ?_; rintro r w1 ⟨g, o1, rfl, S1⟩
  have HS1 := Lib.hid S1
  clear CN S1
  go_wp2_with fail
  refine (lk_Ask HS1.out (by omega) 0 6 (by omega) nN9 hnN).mono ?_; rintro r w2 ⟨e, rfl, H2, W2, o2, hs, S2, _⟩
  obtain ⟨rfl, T2⟩ := Ta.start hnN hs
  have HS2 := Lib.hid S2; have HT2 := Lib.hid T2
  clear HS1 hs S2 T2
  go_wp2_with fail
  go_loopw [4, 5] (fun n i wr => ∃ (k : Nat) (o : Nat → Nat) (H W : Hs), k ≤ len ∧ k ≤ 20 ∧ n = .int .i64 (k : Int) ∧ i = .int .i64 (k : Int) ∧ Lk w g wr o H W (k + 1) ∧ Ta nN9 k H W) (fun _ i _ => 20 - (intOf i).toNat)
  case atStart => exact ⟨0, _, _, _, by omega, by omega, rfl, rfl, HS2.out, HT2.out⟩
  case round =>
    obtain ⟨k, o, H, W, hk, hk2, rfl, rfl, hS, hT⟩ := hrel
    have HS := Lib.hid hS; have HT := Lib.hid hT
    clear HS2 HT2 hS hT
    have k0 : (0 : Int) ≤ (k : Int) := by omega
    by_cases hlt : k < len ∧ k < 20
    · obtain ⟨hl1, hl2⟩ := hlt
      have c1 : (k : Int) < (len : Int) := by omega
      have c2 : (k : Int) < 20 := by omega
      obtain ⟨x, hx⟩ : ∃ x, zs[k]? = some x := ⟨_, List.getElem?_eq_getElem (by have := HH.out.1; omega)⟩
      obtain ⟨b, off, rfl, dx⟩ := HH.out.2 k x hx
      have d0 := HS.out.Z.cell dx
      obtain ⟨y, hy, hy2⟩ := and_255 x
      obtain ⟨z, hz⟩ : ∃ z, y % 6 = z := ⟨_, rfl⟩
      have hz6 : z < 6 := by omega
      have hzI : Int.tmod (y : Int) 6 = (z : Int) := by rw [Int.tmod_eq_emod_of_nonneg (by omega)]; omega
      have y0 : (0 : Int) ≤ (y : Int) := by omega
      have z0 : (0 : Int) ≤ (z : Int) := by omega
      have z1 : (z : Int) < 6 := by omega
      have CA := Lib.hid (lk_Ask HS.out (by omega) ((k : Int) + 1) (1 + (z : Int)) (by omega) nN9 hnN)
      have hk' : ∀ (e : Nat) (H' W' : Hs), AskS H W ((k : Int) + 1) nN9 (1 + (z : Int)) e H' W' → e = 10 ∧ Ta nN9 (k + 1) H' W' := fun e H' W' hs => HT.out.ask hnN (by omega) (by omega) (show AskS H W ((k + 1 : Nat) : Int) nN9 (1 + (z : Int)) e H' W' from by rw [show ((k + 1 : Nat) : Int) = (k : Int) + 1 by omega]; exact hs)
      have HK := Lib.hid hk'
      clear hx dx hz hk'
      go_wp2_with fail
      try rw [hzI]
      go_wp2_with fail
      refine CA.out.mono ?_; rintro r w3 ⟨e, rfl, H3, W3, o3, hs, S3, _⟩
      obtain ⟨rfl, T3⟩ := HK.out _ _ _ hs
      have HS3 := Lib.hid S3; have HT3 := Lib.hid T3
      clear HS HT CA HK hs S3 T3 d0
      go_wp2_with fail
      exact ⟨⟨k + 1, _, _, _, by omega, by omega, by go_num, by go_num, HS3.out, HT3.out⟩, by simp [intOf]; omega⟩
    · have hgo : ¬ (k : Int) < (len : Int) ∨ ((k : Int) < (len : Int) ∧ ¬ (k : Int) < 20) := by omega
      have k20 : (k : Int) ≤ 20 := by omega
      have HTn := Lib.hid HT.out.tn
      have hno : ∀ y ∈ W, y.owner ≠ 0 := fun y hy e => by
        have : y.owner ∈ W.map (·.owner) := List.mem_map.2 ⟨y, hy, rfl⟩
        rw [HT.out.ow] at this
        obtain ⟨q, _, e2⟩ := List.mem_map.1 this
        omega
      have D1 := (Td.start HTn.out (hl := [0]) (fun h hh => by rw [HT.out.hh] at hh; obtain rfl := List.mem_singleton.1 hh; simp)).drop (x := 0) rfl hno
      have HD := Lib.hid (show Tn nN9 (dropH H W 0) (dropW H W 0) ∧ dropI H W 0 ++ (dropW H W 0).map (·.owner) = ups k ∧ (0 < k → dropI H W 0 ≠ []) from
        ⟨D1.T, by have := D1.ord; rw [HT.out.ow] at this; exact this, fun hk0 => by
          have hne : W ≠ [] := fun e => by have := HT.out.ow; rw [e] at this; have := congrArg List.length this; simp at this; omega
          exact D1.stop hne⟩)
      have CD := Lib.hid (lk_Drop HS.out (by omega) 0)
      generalize dropH H W 0 = H3 at *
      generalize dropW H W 0 = W3 at *
      generalize dropI H W 0 = l3 at *
      clear hno D1 HTn HT HS hlt
      have HX : ∃ q : Nat, q = k := ⟨k, rfl⟩
      rcases hgo with g1 | ⟨g1, g2⟩
      all_goals
        go_wp2_with fail
        refine CD.out.mono ?_; rintro r w3 ⟨v3, rfl, o3, S3, _, K3⟩
        obtain ⟨va, vC, rfl⟩ := K3.sl
        have HS3 := Lib.hid S3; have HK3 := Lib.hid K3
        clear CD S3 K3
        go_wp2_with fail
        go_loopw [6, 7] (fun u v wr => ∃ (p : Nat) (o : Nat → Nat) (H W : Hs) (l : List Int) (va : Option Addr) (vC : Nat), p ≤ k ∧ u = .int .i64 ((p : Int) + 1) ∧ v = .slice va l.length vC ∧ Lk w g wr o H W (k + 1) ∧ KI wr o (.slice va l.length vC) l ∧ Tn nN9 H W ∧ l ++ W.map (·.owner) = (ups k).drop p ∧ (p < k → l ≠ [])) (fun u _ _ => k + 1 - (intOf u).toNat)
        case atStart => exact ⟨0, _, _, _, _, _, _, by omega, rfl, rfl, HS3.out, HK3.out, HD.out.1, HD.out.2.1, HD.out.2.2⟩
        case round =>
          obtain ⟨p, o4, H4, W4, l4, va4, vC4, hp, rfl, rfl, hS, hK, hT, hO, hN⟩ := hrel
          have HS4 := Lib.hid hS; have HK4 := Lib.hid hK; have HT4 := Lib.hid hT; have HO4 := Lib.hid hO
          clear HS3 HK3 HD hS hK hT hO
          have p0 : (0 : Int) ≤ (p : Int) := by omega
          by_cases hlt : p < k
          · have p1 : (p : Int) + 1 ≤ (k : Int) := by omega
            have hl0 : l4 ≠ [] := hN hlt
            have hlen := congrArg List.length HO4.out
            rw [List.length_append, List.length_map, List.length_drop, ups_len] at hlen
            have hl1 : 0 < l4.length := List.length_pos_iff.2 hl0
            have hl2 : ((l4.length : Int) == 0) = false := by rw [beq_eq_false_iff_ne]; omega
            have hl3 : (l4.length : Int) ≤ 20 := by omega
            clear hN hl0
            go_wp2_with fail
            go_loopw [6, 8] (fun u i wx => ∃ j : Nat, j ≤ l4.length ∧ u = .int .i64 (((p + j : Nat) : Int) + 1) ∧ i = .int .i64 (j : Int) ∧ wx = wr) (fun _ i _ => l4.length - (intOf i).toNat)
            case atStart => exact ⟨0, by omega, rfl, rfl, by first | rfl | trivial⟩
            case round =>
              obtain ⟨j, hj, rfl, rfl, rfl⟩ := hrel
              have j0 : (0 : Int) ≤ (j : Int) := by omega
              by_cases hlt2 : j < l4.length
              · have j1 : (j : Int) < (l4.length : Int) := by omega
                have hat : l4[j]? = some (((p + j : Nat) : Int) + 1) := by
                  have h1 := congrArg (·[j]?) HO4.out
                  rw [List.getElem?_append_left hlt2, List.getElem?_drop, ups_at (by omega)] at h1
                  exact h1
                obtain ⟨gb, rfl, d0⟩ := HK4.out.cell hat
                have e0 : ((p + j : Nat) : Int) + 1 ≤ 22 := by omega
                have e1 : (0 : Int) ≤ ((p + j : Nat) : Int) := by omega
                have e2 : p + (j + 1) = p + j + 1 := by omega
                have HE := Lib.hid e2
                generalize p + j = t at *
                have e3 : (((t : Int) + 1) != ((t : Int) + 1)) = false := by simp
                clear hat e2
                go_wp2_with fail
                exact ⟨⟨j + 1, by omega, by rw [HE.out]; go_num, by go_num, by first | rfl | trivial⟩, by simp [intOf]; omega⟩
              · obtain rfl : j = l4.length := by omega
                have HW4 := Lib.hid (show W4.map (·.owner) = (ups k).drop (p + l4.length) from by
                  have h1 := congrArg (List.drop l4.length) HO4.out
                  rw [List.drop_left, List.drop_drop] at h1
                  exact h1)
                have hwl := congrArg List.length HW4.out
                rw [List.length_map, List.length_drop, ups_len] at hwl
                obtain ⟨t, ht⟩ : ∃ t, p + l4.length = t := ⟨_, rfl⟩
                rw [ht] at hwl
                have HPT := Lib.hid ht
                have HW5 := Lib.hid (show W4.map (·.owner) = (ups k).drop t from by rw [← ht]; exact HW4.out)
                rw [ht]
                have t1 : t ≤ k := by omega
                have t2 : p < t := by omega
                have j1 : ¬ (l4.length : Int) < (l4.length : Int) := by omega
                clear hlen HO4 HW4 ht hj hl1 hl2 hl3 p1
                generalize hN4 : l4.length = N4 at *
                go_wp2_with fail
                have bE : Below wr.heap.size wr (wr.alloc (.cells #[] 3)) := (Below.refl _ wr).alloc (Nat.le_refl _) _
                have SE := HS4.out.fresh bE 3
                have HRE := Lib.hid (row_empty wr o4)
                have hlB : (holdersI H4 nN9).length ≤ 22 := by have := holdersI_len H4 nN9; have := SE.B; omega
                have CHo := Lib.hid (lk_Holders2 SE (by omega) nN9)
                have HIN := Lib.hid (show ∀ h ∈ H4, h.owner ∈ holdersI H4 nN9 from fun h hh => mem_holdersI.2 ⟨h, hh, HT4.out.hn h hh, rfl⟩)
                have HNO := Lib.hid (show ∀ x ∈ holdersI H4 nN9, ∀ y ∈ W4, y.owner ≠ x from fun x hx y hy e => by
                  obtain ⟨h, hh, _, ho⟩ := mem_holdersI.1 hx
                  exact HT4.out.dis h hh y hy (ho.trans e.symm))
                have HWL := Lib.hid (show W4.length ≤ 22 by have := SE.B; omega)
                have HWN := Lib.hid (show t < k → W4 ≠ [] from fun h e => by rw [e] at hwl; simp at hwl; omega)
                clear SE bE HS4 HK4 hwl
                generalize holdersI H4 nN9 = hl at *
                refine CHo.out.mono ?_; rintro r w5 ⟨v5, rfl, o5, S5, st5, R5⟩
                obtain ⟨ha, hC, rfl⟩ := (KI.of R5 (by decide)).sl
                have HS5 := Lib.hid S5; have HR5 := Lib.hid R5; have HE5 := Lib.hid (HRE.out.other st5 (by decide))
                clear CHo S5 R5 st5 HRE
                go_wp2_with fail
                go_loopw [7, 10] (fun v i wx => ∃ (j : Nat) (o : Nat → Nat) (H W : Hs) (lo : List Int) (va : Option Addr) (vC : Nat), j ≤ hl.length ∧ v = .slice va lo.length vC ∧ i = .int .i64 (j : Int) ∧ Lk w g wx o H W (k + 1) ∧ Row wx o 3 3 1 (.slice va lo.length vC) lo.length (lo.map encI9) ∧ Row wx o 2 3 1 (.slice ha hl.length hC) hl.length (hl.map encI9) ∧ Td nN9 W4 hl j lo H W) (fun _ i _ => hl.length - (intOf i).toNat)
                case atStart => exact ⟨0, _, _, _, [], _, _, by omega, rfl, rfl, HS5.out, HE5.out, HR5.out, Td.start HT4.out HIN.out⟩
                case round =>
                  obtain ⟨j, o6, H6, W6, lo, va6, vC6, hj, rfl, rfl, hS, hR3, hR2, hD⟩ := hrel
                  have HS6 := Lib.hid hS; have HR3 := Lib.hid hR3; have HR2 := Lib.hid hR2; have HD6 := Lib.hid hD
                  clear HS5 HR5 HE5 hS hR3 hR2 hD
                  have j0 : (0 : Int) ≤ (j : Int) := by omega
                  by_cases hlt3 : j < hl.length
                  · have j1 : (j : Int) < (hl.length : Int) := by omega
                    obtain ⟨x, hx⟩ : ∃ x, hl[j]? = some x := ⟨_, List.getElem?_eq_getElem hlt3⟩
                    obtain ⟨hb, rfl, d0⟩ := (KI.of HR2.out (by decide)).cell hx
                    have CDx := Lib.hid (lk_Drop HS6.out (by omega) x)
                    have D7 := HD6.out.drop hx (HNO.out x (List.mem_of_getElem? hx))
                    have HD7 := Lib.hid (show Td nN9 W4 hl (j + 1) (lo ++ dropI H6 W6 x) (dropH H6 W6 x) (dropW H6 W6 x) from D7)
                    have b1 := congrArg List.length HD6.out.ord
                    rw [List.length_append, List.length_map, List.length_map] at b1
                    have b2 := dropI_len H6 W6 x
                    have b3 := HWL.out
                    have HLL := Lib.hid (show lo.length + (dropI H6 W6 x).length ≤ 100 by omega)
                    clear D7 hx b1 b2 b3 HD6
                    go_wp2_with fail
                    refine CDx.out.mono ?_; rintro r w7 ⟨v7, rfl, o7, S7, st7, z7, _, K7⟩
                    obtain ⟨v8, w8, hap, R8, s8⟩ := append3 (ty := 29) (HR3.out.other st7 (by decide)) K7 (by have := HLL.out; omega)
                    obtain ⟨va8, vC8, rfl⟩ := (KI.of R8 (by decide)).sl
                    have HAP := Lib.hid hap
                    have HS8 := Lib.hid (S7.other s8 (by decide) (by decide)); have HR8 := Lib.hid R8; have HR9 := Lib.hid ((HR2.out.other st7 (by decide)).other s8 (by decide))
                    clear CDx HS6 HR3 HR2 S7 st7 K7 hap R8 s8 d0
                    generalize dropI H6 W6 x = dl at *
                    generalize dropH H6 W6 x = dH at *
                    generalize dropW H6 W6 x = dW at *
                    go_wp2_with (at_builtin; refine wpList_append_run rfl (.tmp 73) (.tmp 79) _ _ rfl _ _ rfl rfl _ _ HAP.out ?_)
                    exact ⟨⟨j + 1, _, _, _, _, _, _, by omega, by rw [List.length_append], by go_num, HS8.out, HR8.out, HR9.out, HD7.out⟩, by simp [intOf]; omega⟩
                  · obtain rfl : j = hl.length := by omega
                    have HKI := Lib.hid (KI.of HR3.out (by decide))
                    have HFI := Lib.hid (show Tn nN9 H6 W6 ∧ lo ++ W6.map (·.owner) = (ups k).drop t ∧ (t < k → lo ≠ []) from ⟨HD6.out.T, HD6.out.ord.trans HW5.out, fun h => HD6.out.stop (HWN.out h)⟩)
                    have j1 : ¬ (hl.length : Int) < (hl.length : Int) := by omega
                    clear HR3 HR2 HD6
                    go_wp2_with fail
                    exact ⟨⟨t, _, _, _, _, _, _, t1, rfl, rfl, HS6.out, HKI.out, HFI.out.1, HFI.out.2.1, HFI.out.2.2⟩, by simp [intOf]; omega⟩
          · have p1 : ¬ (p : Int) + 1 ≤ (k : Int) := by omega
            obtain rfl : p = k := by omega
            have hq : queueI W4 nN9 = [] := by
              have h1 := HO4.out
              rw [List.drop_eq_nil_of_le (by rw [ups_len]; omega)] at h1
              have h2 := (List.append_eq_nil_iff.1 h1).2
              rw [List.map_eq_nil_iff] at h2
              rw [h2]; rfl
            have CQ := lk_Queue HS4.out (by omega) nN9
            rw [hq] at CQ
            have HCQ := Lib.hid CQ
            clear CQ hq hN HO4 HK4 HT4 HS4
            go_wp2_with fail
            refine HCQ.out.mono ?_; rintro r w5 ⟨v5, rfl, o5, S5, _, K5⟩
            obtain ⟨qa, qC, rfl⟩ := K5.sl
            have HF := Lib.hid (CF.out w5 S5.laid); have HZ := Lib.hid S5.Z.bel
            clear HCQ S5 K5 CF
            simp only [List.length_nil]
            go_wp2_with fail
            refine HF.out.mono ?_; rintro r w6 ⟨rfl, b6⟩
            have HB := Lib.hid (HZ.out.trans (b6.mono HZ.out.size))
            clear b6
            go_wp2_with fail
            go_ret
            exact ⟨rfl, HB.out⟩
end Go.Proofs.YtainnhcmhgloaaaDoor
