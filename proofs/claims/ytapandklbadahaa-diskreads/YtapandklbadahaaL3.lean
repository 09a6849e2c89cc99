/-
  DiskReads: the walk.
-/
import Derived.Test.YtapandklbadahaaL2
import Derived.Deep.RegionHeld3
namespace Go.Proofs.Ytapandklbadahaa
open Go.RowKit Go.ChangeMaps

/-- a disk (1), and the texts that its pages have, in a row (2) -/
structure Has (w0 w : World) (o : Nat → Nat) (p g : Nat) (S : List ByteArray) (Ws : Wrs) (l : List ByteArray) : Prop where
  d : IsD w o 1 p S Ws
  r : Row w o 2 9 1 (.slice (some ⟨g, 0, none⟩) 8 8) 8 (l.map Value.string)
  z : Since w0 o w
  s8 : S.length = 8
  l8 : l.length = 8
  link : ∀ k s, S[k]? = some s → ∃ u, u.size ≤ 252 ∧ rawAt Ws k s = pageOf u ∧ l[k]? = some (padOf u 252)
section
variable {w0 w w' : World} {o o' : Nat → Nat} {p g : Nat} {S : List ByteArray} {Ws : Wrs} {l : List ByteArray}
theorem row_at {e : TypeId} {n C : Nat} {xs : List Value} {i : Nat} (h : Row w o i e 1 (.slice (some ⟨g, 0, none⟩) n C) n xs) (k : Nat) (u : Value) (hk : xs[k]? = some u) : w.cell? ⟨g, k, none⟩ = some u ∧ w.frozen? ⟨g, k, none⟩ = false := by
  rcases h.val with ⟨h, _⟩ | ⟨g', C', hv, _, _, hc, hf⟩
  · cases h
  · cases hv; exact ⟨hc k u hk, hf k⟩
theorem Has.cell (h : Has w0 w o p g S Ws l) (k : Nat) (u : ByteArray) (hk : l[k]? = some u) : w.cell? ⟨g, k, none⟩ = some (.string u) := (row_at h.r k _ (by rw [List.getElem?_map, hk]; rfl)).1
theorem Has.reads (h : Has w0 w o p g S Ws l) (b : Below w.heap.size w w') : Has w0 w' o p g S Ws l := ⟨h.d.reads b, h.r.reads b, h.z.reads b, h.s8, h.l8, h.link⟩
theorem Has.sync (h : Has w0 w o p g S Ws l) (hd : IsD w' o 1 p (syncOf S Ws) []) (s : Stp o 1 w o w') : Has w0 w' o p g (syncOf S Ws) [] l := by
  refine ⟨hd, h.r.other s (by decide), h.z.step s (by decide), by rw [syncOf_length]; exact h.s8, h.l8, ?_⟩
  intro k s' hs'
  have hk : k < S.length := by rw [← syncOf_length S Ws]; exact (List.getElem?_eq_some_iff.1 hs').1
  have h1 := sync_raw S Ws k _ (List.getElem?_eq_getElem hk)
  rw [hs'] at h1
  cases h1
  exact h.link k _ (List.getElem?_eq_getElem hk)
theorem Has.write (h : Has w0 w o p g S Ws l) (k : Nat) (u : ByteArray) (hu : u.size = 252) (hk : k < 8) (hd : IsD w' o' 1 p S (Ws ++ [(k, pageOf u)])) (s : Stp o 1 w o' w') : Has w0 (w'.setCell ⟨g, k, none⟩ (.string u)) o' p g S (Ws ++ [(k, pageOf u)]) (l.set k u) := by
  have r1 := h.r.other s (by decide)
  have og : o' g = 2 := r1.own g rfl
  have st := Stp.setCell o' 2 w' g k (.string u) og
  refine ⟨hd.other st (by decide), ?_, (h.z.step s (by decide)).step st (by decide), h.s8, by rw [List.length_set]; exact h.l8, ?_⟩
  · have := r1.set k (.string u) hk
    rwa [← List.map_set] at this
  · intro j s' hs'
    rw [rawAt_snoc, List.getElem?_set]
    by_cases e : k = j
    · subst e
      refine ⟨u, by omega, by simp, ?_⟩
      rw [if_pos rfl, if_pos (by rw [h.l8]; exact hk), padOf_full u 252 hu]
    · simp only [if_neg e]
      exact h.link j s' hs'
end
theorem info_str : (Try.prog.info? 9).map (fun i => (i.zero, i.size, i.bytes)) = some (some (.string ⟨#[]⟩), 1, 16) := by kernel_rfl
theorem madeCells_strs (n : Nat) : madeCells (Value.string ⟨#[]⟩).cells n = ((List.replicate n (⟨#[]⟩ : ByteArray)).map Value.string).toArray := by
  apply Array.ext
  · rw [size_madeCells]; simp
  · intro i h1 h2
    simp [madeCells, Value.cells, Nat.mod_one]

set_option maxRecDepth 100000 in
set_option maxHeartbeats 4000000 in
theorem walk_DiskReads (a1 : Option Addr) (len1 cap1 : Nat) (zs1 : List OpA) (w : World) (ha1 : ArgOps w a1 len1 zs1) (hl1 : len1 ≤ maxLen) :
    Calls Try.prog 7 #[.slice a1 len1 cap1] w fun e w' => e = .returned (.bool true) ∧ Below w.heap.size w w' := by
  have CF := Lib.hid fixed_true
  have HA1 := Lib.hid ha1; clear ha1
  have hm1 : (len1 : Int) ≤ 9223372036854775807 := by simp [maxLen] at hl1; omega
  have CN := Lib.hid (dnew_ok w (fun _ => 0) 1 8 (by omega) (by omega))
  have Q0 := Lib.hid fun W => rpad252 ⟨#[]⟩ W (by decide)
  have e8 : (List.replicate 8 blank).length = 8 := by simp
  have hbl := Lib.hid (show ∀ k s, (List.replicate 8 blank)[k]? = some s → s = pageOf ⟨#[]⟩ from fun k s h => by rw [List.getElem?_replicate] at h; split at h <;> cases h; rfl)
  generalize List.replicate 8 blank = S0 at *
  obtain ⟨i0, hi, hz0, hz1, hz2⟩ := info_parts info_str
  have hmk := fun W => run_make (P := Try.prog) W 48 9 i0 (.string ⟨#[]⟩) Try.underlying48 hi hz0 .i64 .i64 8 8 (by omega) (by omega) (by rw [hz2]; decide) (by omega)
  rw [hz1, show (Int.toNat 8) = 8 from rfl, Nat.mul_one, madeCells_strs] at hmk
  clear hi hz0 hz1 hz2
  obtain ⟨L0, hL0⟩ : ∃ L0, List.replicate 8 (⟨#[]⟩ : ByteArray) = L0 := ⟨_, rfl⟩
  rw [hL0] at hmk
  have hL8 : L0.length = 8 := by rw [← hL0]; simp
  clear hL0
  go_enter Try.func7, Try.ntmps7
  go_wp2_with fail
  refine CN.out.mono ?_; rintro e w1 ⟨p, o1, rfl, h1, s1⟩
  have D1 := Lib.hid h1; have Z1 := Lib.hid ((Since.start w).step s1 (by decide)); clear h1 s1 CN
  go_wp2_with fail
  have s2 := stp_new o1 2 w1 (.cells (L0.map Value.string).toArray 9)
  have r2 : Row (w1.alloc (.cells (L0.map Value.string).toArray 9)) (gives o1 w1.heap.size 2) 2 9 1 (.slice (some ⟨w1.heap.size, 0, none⟩) 8 8) 8 (L0.map Value.string) :=
    ⟨⟨by simp [hL8], .inr ⟨w1.heap.size, 8, _, rfl, Nat.zero_le _, heap_alloc_new w1 _, Nat.le_refl _, by decide, by simp [hL8], by simp [List.take_of_length_le, hL8]⟩⟩, fun g hg => by cases hg; exact gives_new (Nat.le_refl _)⟩
  have D2 := Lib.hid (D1.out.other s2 (by decide)); have Z2 := Lib.hid (Z1.out.step s2 (by decide)); have R2 := Lib.hid r2
  clear D1 Z1 s2 r2 hmk
  generalize w1.alloc (.cells (L0.map Value.string).toArray 9) = w2 at *
  generalize gives o1 w1.heap.size 2 = o2 at *
  generalize w1.heap.size = g at *
  go_loopw [6] (fun i wr => ∃ (t : Nat) (l : List ByteArray), t ≤ 8 ∧ i = .int .i64 (t : Int) ∧ l.length = 8 ∧ (∀ j, j < t → l[j]? = some (padOf ⟨#[]⟩ 252)) ∧ IsD wr o2 1 p S0 [] ∧ Row wr o2 2 9 1 (.slice (some ⟨g, 0, none⟩) 8 8) 8 (l.map Value.string) ∧ Since w o2 wr) (fun i _ => 8 - (intOf i).toNat)
  case atStart => exact ⟨0, L0, by omega, rfl, hL8, fun j hj => by omega, D2.out, R2.out, Z2.out⟩
  case round =>
    obtain ⟨t, l, ht, rfl, hl8, hlj, hD, hR, hZ⟩ := hrel
    have HD := Lib.hid hD; have HR := Lib.hid hR; have HZ := Lib.hid hZ; have HJ := Lib.hid hlj
    clear hD hR hZ hlj D2 R2 Z2
    by_cases hc : t < 8
    · have c1 : (t : Int) < 8 := by omega
      have c0 : (0 : Int) ≤ (t : Int) := by omega
      go_wp2_with fail
      refine (Q0.out _).mono ?_; rintro e w3 ⟨rfl, b3⟩
      have D3 := Lib.hid (HD.out.reads b3); have R3 := Lib.hid (HR.out.reads b3); have Z3 := Lib.hid (HZ.out.reads b3)
      clear HD HR HZ b3
      obtain ⟨B0, HB0⟩ : ∃ B0, Hid (padOf ⟨#[]⟩ 252 = B0) := ⟨_, rfl⟩
      rw [HB0.out] at HJ ⊢
      obtain ⟨x, hx⟩ : ∃ x, l[t]? = some x := ⟨_, List.getElem?_eq_getElem (by omega)⟩
      obtain ⟨k0, k1⟩ := row_at R3.out t _ (by rw [List.getElem?_map, hx]; rfl)
      have st := Stp.setCell o2 2 w3 g t (.string B0) (R3.out.own g rfl)
      have r4 := R3.out.set t (.string B0) hc
      rw [← List.map_set] at r4
      have D4 := Lib.hid (D3.out.other st (by decide)); have R4 := Lib.hid r4; have Z4 := Lib.hid (Z3.out.step st (by decide))
      clear st r4 D3 R3 Z3 hx
      go_wp2
      refine ⟨⟨t + 1, l.set t B0, by omega, by go_num, by simpa using hl8, ?_, D4.out, R4.out, Z4.out⟩, by simp [intOf]; omega⟩
      intro j hj
      rw [HB0.out, List.getElem?_set]
      by_cases e : t = j
      · subst e; rw [if_pos rfl, if_pos (by omega)]
      · rw [if_neg e]; exact HJ.out j (by omega)
    · have c8 : (8 : Int) ≤ (t : Int) := by omega
      have HN := Lib.hid (show Has w wr o2 p g S0 [] l from ⟨HD.out, HR.out, HZ.out, e8, hl8, fun k s hs => ⟨⟨#[]⟩, by decide, by rw [hbl.out k s hs]; rfl, HJ.out k (by have := (List.getElem?_eq_some_iff.1 hs).1; omega)⟩⟩)
      clear HD HR HZ HJ hbl hc
      go_wp2_with fail
      go_loopw [9] (fun i wr => ∃ (t : Nat) (o : Nat → Nat) (S : List ByteArray) (Ws : Wrs) (l : List ByteArray), t ≤ len1 ∧ t ≤ 40 ∧ i = .int .i64 (t : Int) ∧ Ws.length ≤ t ∧ Has w wr o p g S Ws l) (fun i _ => len1 - (intOf i).toNat)
      case atStart => exact ⟨0, o2, S0, [], l, by omega, by omega, rfl, by simp, HN.out⟩
      case round =>
        clear HN hl8
        obtain ⟨t, o, S, Ws, l, ht, ht2, rfl, hWl, hH⟩ := hrel
        by_cases hc : t < len1 ∧ t < 40
        · obtain ⟨hc1, hc2⟩ := hc
          have c1 : (t : Int) < (len1 : Int) := by omega
          have c2 : (t : Int) < 40 := by omega
          have c3 : (0 : Int) ≤ (t : Int) := by omega
          obtain ⟨x, b, off, _, rfl, k0, k1, k2, k3, x1, x2, x3, xf⟩ := HA1.out.at hH.z t hc1
          obtain ⟨xk, xp, xs, xfa, xfl, xfc, xfs⟩ := x
          dsimp only at k0 k1 k2 k3 x1 x2 x3
          clear xf HA1 k3 x2 x3
          have HH := Lib.hid hH
          clear hH
          have hp := pg8_lt xp
          have e7 := and7 xp
          by_cases hk : xk = 1
          · subst hk
            go_wp2_with fail
            refine (d_sync HH.out.d (by omega)).mono ?_; rintro e w2 ⟨rfl, h2, s2⟩
            obtain ⟨oN, SN, WN, lN, hWN, HN⟩ : ∃ oN SN WN lN, List.length WN ≤ t + 1 ∧ Hid (Has w w2 oN p g SN WN lN) := ⟨_, _, [], _, by simp, HH.out.sync h2 s2⟩
            clear h2 s2 HH
            go_wp2_with fail
            go_loopw [13] (fun i wr => ∃ k : Nat, k ≤ 8 ∧ i = .int .i64 (k : Int) ∧ Has w wr oN p g SN WN lN) (fun i _ => 8 - (intOf i).toNat)
            case atStart => exact ⟨0, by omega, rfl, HN.out⟩
            case round =>
              obtain ⟨k, hk, rfl, hH⟩ := hrel
              have H3 := Lib.hid hH
              clear HN hH
              by_cases hc : k < 8
              · have c1 : (k : Int) < 8 := by omega
                have c0 : (0 : Int) ≤ (k : Int) := by omega
                obtain ⟨q, hq⟩ : ∃ q, SN[k]? = some q := ⟨_, List.getElem?_eq_getElem (by have := H3.out.s8; omega)⟩
                obtain ⟨u, hu1, hu2, hu3⟩ := H3.out.link k q hq
                have CR := Lib.hid (d_read H3.out.d k q hq)
                rw [hu2, readOf_page u hu1, errOf_page u hu1] at CR
                have cl := fun (W : World) (hW : Has w W oN p g SN WN lN) => hW.cell k _ hu3
                generalize padOf u 252 = R at *
                have CL := Lib.hid cl
                have xr : (R.toList == R.toList) = true := by simp
                clear hq hu1 hu2 hu3 cl
                go_wp2_with fail
                refine CR.out.mono ?_; rintro e y1 ⟨rfl, b1⟩
                have H4 := Lib.hid (H3.out.reads b1)
                have c4 := CL.out _ H4.out
                clear CR b1 H3 CL
                go_wp2
                exact ⟨⟨k + 1, by omega, by go_num, H4.out⟩, by simp [intOf]; omega⟩
              · have c1 : (8 : Int) ≤ (k : Int) := by omega
                go_wp2
                exact ⟨⟨t + 1, oN, SN, WN, lN, by omega, by omega, by go_num, hWN, H3.out⟩, by simp [intOf]; omega⟩
          · obtain ⟨n, hn1, hn2, hn3, hn4⟩ := cut_at xs 252
            have hcs : (xs.extract 0 n).size ≤ 252 := by rw [hn4]; exact cutOf_size _ _
            have hps := padOf_size (xs.extract 0 n) 252 hcs
            have CP := Lib.hid (rpad252 (xs.extract 0 n) wr.drew hcs)
            simp only [Int.cast_ofNat_Int] at hn1
            have hbk : b < wr.heap.size := World.block_lt_of_cell? wr _ k2
            clear hn4 hcs
            generalize padOf (xs.extract 0 n) 252 = U at *
            go_upto_region 16 with fail
            go_region_held3 (fun W => W.cell? ⟨b, off + t * 4 + 2, none⟩ = some (.string xs)) (first | exact k2 | exact k2')
              ((go_at_call 25; refine CP.out.mono ?_; rintro e w2 ⟨rfl, b2⟩; have k2' := (b2.cell (p := ⟨b, off + t * 4 + 2, none⟩) hbk).trans k2))
            have bU : Below wr.heap.size wr w2 := ⟨b2.os, b2.tape, b2.output, b2.size, b2.block⟩
            have H2 := Lib.hid (HH.out.reads bU)
            clear bU b2 HH CP k2' k0 k1 k2
            have CW := Lib.hid (d_write H2.out.d (pg8 xp) (by rw [H2.out.s8]; exact hp) U (by omega) (by omega))
            go_wp2_with fail
            refine CW.out.mono ?_; rintro e w4 ⟨o4, rfl, h4, s4⟩
            obtain ⟨y, hy⟩ : ∃ y, l[pg8 xp]? = some y := ⟨_, List.getElem?_eq_getElem (by rw [H2.out.l8]; exact hp)⟩
            obtain ⟨q0, q1⟩ := row_at (H2.out.r.other s4 (by decide)) (pg8 xp) _ (by rw [List.getElem?_map, hy]; rfl)
            have HNW := Lib.hid (H2.out.write (pg8 xp) U hps hp h4 s4)
            have hp0 : (0 : Int) ≤ (pg8 xp : Int) := by omega
            have hp1 : (pg8 xp : Int) < 8 := by omega
            clear h4 s4 H2 CW hy e7
            generalize pg8 xp = K at *
            obtain ⟨oN, SN, WN, lN, hWN, HN⟩ : ∃ oN SN WN lN, List.length WN ≤ t + 1 ∧ Hid (Has w (w4.setCell ⟨g, K, none⟩ (.string U)) oN p g SN WN lN) := ⟨_, _, Ws ++ [(K, pageOf U)], _, by simp; omega, HNW.out⟩
            clear HNW
            go_wp2_with fail
            go_loopw [13] (fun i wr => ∃ k : Nat, k ≤ 8 ∧ i = .int .i64 (k : Int) ∧ Has w wr oN p g SN WN lN) (fun i _ => 8 - (intOf i).toNat)
            case atStart => exact ⟨0, by omega, rfl, HN.out⟩
            case round =>
              obtain ⟨k, hk, rfl, hH⟩ := hrel
              have H3 := Lib.hid hH
              clear HN hH
              by_cases hc : k < 8
              · have c1 : (k : Int) < 8 := by omega
                have c0 : (0 : Int) ≤ (k : Int) := by omega
                obtain ⟨q, hq⟩ : ∃ q, SN[k]? = some q := ⟨_, List.getElem?_eq_getElem (by have := H3.out.s8; omega)⟩
                obtain ⟨u, hu1, hu2, hu3⟩ := H3.out.link k q hq
                have CR := Lib.hid (d_read H3.out.d k q hq)
                rw [hu2, readOf_page u hu1, errOf_page u hu1] at CR
                have cl := fun (W : World) (hW : Has w W oN p g SN WN lN) => hW.cell k _ hu3
                generalize padOf u 252 = R at *
                have CL := Lib.hid cl
                have xr : (R.toList == R.toList) = true := by simp
                clear hq hu1 hu2 hu3 cl
                go_wp2_with fail
                refine CR.out.mono ?_; rintro e y1 ⟨rfl, b1⟩
                have H4 := Lib.hid (H3.out.reads b1)
                have c4 := CL.out _ H4.out
                clear CR b1 H3 CL
                go_wp2
                exact ⟨⟨k + 1, by omega, by go_num, H4.out⟩, by simp [intOf]; omega⟩
              · have c1 : (8 : Int) ≤ (k : Int) := by omega
                go_wp2
                exact ⟨⟨t + 1, oN, SN, WN, lN, by omega, by omega, by go_num, hWN, H3.out⟩, by simp [intOf]; omega⟩
        · have HZ := Lib.hid hH.z
          by_cases hc1 : t < len1
          · have c1 : (t : Int) < (len1 : Int) := by omega
            have c2 : (40 : Int) ≤ (t : Int) := by omega
            clear hc hH
            go_wp2_with fail
            refine (CF.out _).mono ?_; rintro e w16 ⟨rfl, b16⟩
            have Z16 := Lib.hid (HZ.out.reads b16); clear b16
            go_wp2
            go_ret
            exact ⟨rfl, Z16.out.bel⟩
          · have c1 : (len1 : Int) ≤ (t : Int) := by omega
            clear hc hH
            go_wp2_with fail
            refine (CF.out _).mono ?_; rintro e w16 ⟨rfl, b16⟩
            have Z16 := Lib.hid (HZ.out.reads b16); clear b16
            go_wp2
            go_ret
            exact ⟨rfl, Z16.out.bel⟩
end Go.Proofs.Ytapandklbadahaa
