/-
  DiskStays: the walk.
-/
import Derived.Test.YtbenaagooankbaaH1
import Derived.Test.YtbenaagooankbaaK5
namespace Go.Proofs.Ytbenaagooankbaa
open Go.RowKit Go.ChangeMaps

/-- two disks (1, 2), and rows of texts (10 and so on) in a row (3), those from n on -/
structure Mays (w0 w : World) (o : Nat → Nat) (p q g : Nat) (D : List ByteArray × Wrs) (S : List ByteArray) (T : Nat → List ByteArray) (vs : List Value) (n : Nat) : Prop where
  d : IsD w o 1 p D.1 D.2
  c : IsD w o 2 q S []
  r : Row w o 3 47 1 (.slice (some ⟨g, 0, none⟩) 8 8) 8 vs
  m : ∀ k, n ≤ k → k < 8 → ∃ v, vs[k]? = some v ∧ Row w o (10 + k) 9 1 v (T k).length ((T k).map Value.string)
  z : Since w0 o w
section
variable {w0 w w' : World} {o o' : Nat → Nat} {p q g n : Nat} {D : List ByteArray × Wrs} {S : List ByteArray} {T : Nat → List ByteArray} {vs : List Value}
theorem Mays.reads (h : Mays w0 w o p q g D S T vs n) (b : Below w.heap.size w w') : Mays w0 w' o p q g D S T vs n :=
  ⟨h.d.reads b, h.c.reads b, h.r.reads b, fun k h1 h2 => by obtain ⟨v, a, c⟩ := h.m k h1 h2; exact ⟨v, a, c.reads b⟩, h.z.reads b⟩
theorem Mays.disk (h : Mays w0 w o p q g D S T vs n) {D' : List ByteArray × Wrs} (hd : IsD w' o' 1 p D'.1 D'.2) (s : Stp o 1 w o' w') : Mays w0 w' o' p q g D' S T vs n :=
  ⟨hd, h.c.other s (by decide), h.r.other s (by decide), fun k h1 h2 => by obtain ⟨v, a, c⟩ := h.m k h1 h2; exact ⟨v, a, c.other s (by omega)⟩, h.z.step s (by decide)⟩
/-- where row k is -/
theorem Mays.at (h : Mays w0 w o p q g D S T vs n) (k : Nat) (h1 : n ≤ k) (h2 : k < 8) : ∃ a C, w.cell? ⟨g, k, none⟩ = some (.slice a (T k).length C) ∧ w.frozen? ⟨g, k, none⟩ = false ∧ vs[k]? = some (.slice a (T k).length C) ∧ Row w o (10 + k) 9 1 (.slice a (T k).length C) (T k).length ((T k).map Value.string) := by
  obtain ⟨v, hv, hr⟩ := h.m k h1 h2
  obtain ⟨c1, c2⟩ := row_at h.r k v hv
  have : ∃ a C, v = .slice a (T k).length C := by
    rcases hr.val with ⟨rfl, h0, _⟩ | ⟨g', C, rfl, _⟩
    · exact ⟨none, 0, by rw [h0]⟩
    · exact ⟨_, _, rfl⟩
  obtain ⟨a, C, rfl⟩ := this
  exact ⟨a, C, c1, c2, hv, hr⟩
/-- may[k] = append(may[k], s) -/
theorem Mays.push (h : Mays w0 w o p q g D S T vs n) (k : Nat) (h1 : n ≤ k) (h2 : k < 8) (s : ByteArray) (g' C' : Nat) (hr : Row w' o' (10 + k) 9 1 (.slice (some ⟨g', 0, none⟩) ((T k).length + 1) C') (T k ++ [s]).length ((T k ++ [s]).map Value.string)) (st : Stp o (10 + k) w o' w') :
    Mays w0 (w'.setCell ⟨g, k, none⟩ (.slice (some ⟨g', 0, none⟩) ((T k).length + 1) C')) o' p q g D S (fun j => if j = k then T k ++ [s] else T j) (vs.set k (.slice (some ⟨g', 0, none⟩) ((T k).length + 1) C')) n := by
  have r1 := h.r.other st (by omega)
  have og : o' g = 3 := r1.own g rfl
  have s2 := Stp.setCell o' 3 w' g k (.slice (some ⟨g', 0, none⟩) ((T k).length + 1) C') og
  have hlen : vs.length = 8 := by have := h.r.len; omega
  refine ⟨(h.d.other st (by omega)).other s2 (by decide), (h.c.other st (by omega)).other s2 (by decide), r1.set k _ h2, ?_, (h.z.step st (by omega)).step s2 (by decide)⟩
  intro j h3 h4
  by_cases e : j = k
  · subst e
    refine ⟨_, by rw [List.getElem?_set_self (by omega)], ?_⟩
    simp only [if_true]
    exact hr.other s2 (by omega)
  · obtain ⟨v, hv, hj⟩ := h.m j h3 h4
    refine ⟨v, by rw [List.getElem?_set_ne (fun h => e h.symm)]; exact hv, ?_⟩
    simp only [if_neg e]
    exact (hj.other st (by omega)).other s2 (by omega)
theorem Mays.texts (h : Mays w0 w o p q g D S T vs n) (T' : Nat → List ByteArray) (n' : Nat) (hn : n ≤ n') (ht : ∀ k, n' ≤ k → k < 8 → T k = T' k) : Mays w0 w o p q g D S T' vs n' :=
  ⟨h.d, h.c, h.r, fun k h1 h2 => by obtain ⟨v, hv, hr⟩ := h.m k (by omega) h2; exact ⟨v, hv, by rw [← ht k h1 h2]; exact hr⟩, h.z⟩
end

set_option maxRecDepth 100000 in
set_option maxHeartbeats 4000000 in
theorem walk_DiskStays (a1 : Option Addr) (len1 cap1 : Nat) (zs1 : List OpA) (a2 : Option Addr) (len2 cap2 : Nat) (zs2 : List OpA) (a3 : Option Addr) (len3 cap3 : Nat) (zs3 : List Int) (w : World) (ha1 : ArgOps w a1 len1 zs1) (hl1 : len1 ≤ maxLen) (ha2 : ArgOps w a2 len2 zs2) (hl2 : len2 ≤ maxLen) (ha3 : ArgInts w a3 len3 zs3) (hl3 : len3 ≤ cap3) (hc3 : cap3 ≤ maxLen) :
    Calls Try.prog 4 #[.slice a1 len1 cap1, .slice a2 len2 cap2, .slice a3 len3 cap3] w fun e w' => e = .returned (.bool true) ∧ Below w.heap.size w w' := by
  have CF := Lib.hid fixed_true
  have HA1 := Lib.hid ha1; have HA2 := Lib.hid ha2; have HA3 := Lib.hid ha3; clear ha1 ha2 ha3
  have hm1 : (len1 : Int) ≤ 9223372036854775807 := by simp [maxLen] at hl1; omega
  have hm2 : (len2 : Int) ≤ 9223372036854775807 := by simp [maxLen] at hl2; omega
  have hm3 : (cap3 : Int) ≤ 9223372036854775807 := by simp [maxLen] at hc3; omega
  have CN := Lib.hid (dnew_ok w (fun _ => 0) 1 8 (by omega) (by omega))
  have e8 : (List.replicate 8 blank).length = 8 := by simp
  have hg0 : Good (List.replicate 8 blank) := fun s hs => ⟨⟨#[]⟩, by decide, (List.mem_replicate.1 hs).2⟩
  generalize List.replicate 8 blank = S0 at *
  have HG0 := Lib.hid hg0; clear hg0
  obtain ⟨i0, hi, hz0, hz1, hz2⟩ := info_parts info_strs
  have hmk := fun W => run_make (P := Try.prog) W 45 47 i0 (.slice none 0 0) Try.underlying45 hi hz0 .i64 .i64 8 8 (by omega) (by omega) (by rw [hz2]; decide) (by omega)
  rw [hz1, show (Int.toNat 8) = 8 from rfl, Nat.mul_one, madeCells_nils] at hmk
  clear hi hz0 hz1 hz2
  obtain ⟨L0, hL0⟩ : ∃ L0, List.replicate 8 (Value.slice none 0 0) = L0 := ⟨_, rfl⟩
  rw [hL0] at hmk
  have hL8 : L0.length = 8 := by rw [← hL0]; simp
  have HLz := Lib.hid (show ∀ k, k < 8 → L0[k]? = some (.slice none 0 0) from fun k hk => by rw [← hL0, List.getElem?_replicate, if_pos hk])
  clear hL0
  have HMK := Lib.hid hmk; clear hmk
  go_enter Try.func4, Try.ntmps4
  go_wp2_with fail
  refine CN.out.mono ?_; rintro e w1 ⟨p, o1, rfl, h1, s1⟩
  have D1 := Lib.hid h1; have Z1 := Lib.hid ((Since.start w).step s1 (by decide)); clear h1 s1 CN
  go_upto_block 0 with fail
  go_cut [9] (fun _ wx => ∃ (o : Nat → Nat) (S : List ByteArray) (Ws : Wrs), S.length = 8 ∧ Ws.length ≤ 40 ∧ Good S ∧ GoodW Ws ∧ IsD wx o 1 p S Ws ∧ Since w o wx)
  case first =>
    go_wp2_with fail
    go_loopw [9] (fun i wr => ∃ (t : Nat) (o : Nat → Nat) (S : List ByteArray) (Ws : Wrs), t ≤ len1 ∧ t ≤ 40 ∧ i = .int .i64 (t : Int) ∧ S.length = 8 ∧ Ws.length ≤ t ∧ Good S ∧ GoodW Ws ∧ IsD wr o 1 p S Ws ∧ Since w o wr) (fun i _ => len1 - (intOf i).toNat)
    case atStart => exact ⟨0, o1, S0, [], by omega, by omega, rfl, e8, by simp, HG0.out, fun x hx => by simp at hx, D1.out, Z1.out⟩
    case round =>
      obtain ⟨t, o, S, Ws, ht, ht2, rfl, hS8, hWl, hG, hGW, hD, hZ⟩ := hrel
      have HG := Lib.hid hG; have HGW := Lib.hid hGW
      clear D1 Z1 hG hGW HMK HLz HA2 HA3
      by_cases hc : t < len1 ∧ t < 40
      · obtain ⟨hc1, hc2⟩ := hc
        have c1 : (t : Int) < (len1 : Int) := by omega
        have c2 : (t : Int) < 40 := by omega
        have c3 : (0 : Int) ≤ (t : Int) := by omega
        obtain ⟨x, b, off, _, rfl, k0, k1, k2, k3, x1, x2, x3, xf⟩ := HA1.out.at hZ t hc1
        obtain ⟨xk, xp, xs, xfa, xfl, xfc, xfs⟩ := x
        dsimp only at k0 k1 k2 k3 x1 x2 x3
        clear xf HA1 k3 x2 x3 k0
        have HZ := Lib.hid hZ; have HD := Lib.hid hD
        clear hD hZ
        have hp := pg8_lt xp
        have e7 := and7 xp
        obtain ⟨n, hn1, hn2, hn3, hn4⟩ := cut_at xs 252
        have hcs : (xs.extract 0 n).size ≤ 252 := by rw [hn4]; exact cutOf_size _ _
        have CW := Lib.hid (d_write HD.out.drew (pg8 xp) (by omega) (xs.extract 0 n) hcs (by omega))
        have HZd := Lib.hid (HZ.out.step (Stp.drew o 1 wr) (by decide))
        have HGN := Lib.hid (goodW_snoc HGW.out (pg8 xp) _ hcs)
        simp only [Int.cast_ofNat_Int] at hn1
        clear hn4 HD HZ hcs HGW
        go_wp2_with fail
        go_still_tail 20, (by kernel_rfl)
        change wpList _ _ _ _ _ wr.drew
        go_wp2_with fail
        refine CW.out.mono ?_; rintro e w2 ⟨o2, rfl, h2, s2⟩
        have D2 := Lib.hid h2; have Z2 := Lib.hid (HZd.out.step s2 (by decide))
        clear h2 s2
        go_wp2
        exact ⟨⟨t + 1, o2, _, _, by omega, by omega, by go_num, hS8, by simp; omega, HG.out, HGN.out, D2.out, Z2.out⟩, by simp [intOf]; omega⟩
      · have HR := Lib.hid (show ∃ (o : Nat → Nat) (S : List ByteArray) (Ws : Wrs), S.length = 8 ∧ Ws.length ≤ 40 ∧ Good S ∧ GoodW Ws ∧ IsD wr o 1 p S Ws ∧ Since w o wr from ⟨o, S, Ws, hS8, by omega, HG.out, HGW.out, hD, hZ⟩)
        by_cases hc1 : t < len1
        · have c1 : (t : Int) < (len1 : Int) := by omega
          have c2 : (40 : Int) ≤ (t : Int) := by omega
          clear hc hD hZ HG HGW
          go_wp2
          go_meet
          exact HR.out
        · have c1 : (len1 : Int) ≤ (t : Int) := by omega
          clear hc hD hZ HG HGW
          go_wp2
          go_meet
          exact HR.out
  case rest =>
    obtain ⟨o2, S, Ws, hS8, hWl, hG, hGW, hD, hZ⟩ := hcut
    have D2 := Lib.hid hD; have Z2 := Lib.hid hZ; have HGS := Lib.hid (good_sync S Ws hG hGW)
    have hS1 : (syncOf S Ws).length = 8 := by rw [syncOf_length]; exact hS8
    clear D1 Z1 hD hZ HA1 hG hGW HG0
    go_wp2_with fail
    refine (d_sync D2.out (by omega)).mono ?_; rintro e w3 ⟨rfl, h3, s3⟩
    have D3 := Lib.hid h3; have Z3 := Lib.hid (Z2.out.step s3 (by decide)); clear h3 s3 D2 Z2
    clear hS8 hWl
    generalize syncOf S Ws = S1 at *
    go_wp2_with fail
    refine (d_copy D3.out 2 (by simp)).mono ?_; rintro e w4 ⟨q, o4, rfl, hb4, hd4, s4, _⟩
    have C4 := Lib.hid hb4; have D4 := Lib.hid hd4; have Z4 := Lib.hid (Z3.out.step s4 (by decide))
    clear hb4 hd4 s4 D3 Z3
    go_wp2_with fail
    refine (d_dirty D4.out 8 (by simp)).mono ?_; rintro e w5 ⟨u5, _, rfl, h5, _, _, b5⟩
    have D5 := Lib.hid (D4.out.reads b5); have C5 := Lib.hid (C4.out.reads b5); have Z5 := Lib.hid (Z4.out.reads b5)
    obtain ⟨d5, X5, rfl⟩ := h5.ints.len
    rw [show (dirtyOf []).length = 0 from rfl]
    clear h5 b5 D4 C4 Z4
    have hmk := HMK.out
    go_upto_block 2 with fail
    clear hmk HMK
    have s6 := stp_new o4 3 w5 (.cells L0.toArray 47)
    have r6 : Row (w5.alloc (.cells L0.toArray 47)) (gives o4 w5.heap.size 3) 3 47 1 (.slice (some ⟨w5.heap.size, 0, none⟩) 8 8) 8 L0 :=
      ⟨⟨by simp [hL8], .inr ⟨w5.heap.size, 8, _, rfl, Nat.zero_le _, heap_alloc_new w5 _, Nat.le_refl _, by decide, by simp [hL8], by simp [List.take_of_length_le, hL8]⟩⟩, fun g hg => by cases hg; exact gives_new (Nat.le_refl _)⟩
    have M6 := Lib.hid (show Mays w (w5.alloc (.cells L0.toArray 47)) (gives o4 w5.heap.size 3) p q w5.heap.size (S1, seals []) S1 (texts []) L0 0 from
      ⟨D5.out.other s6 (by decide), C5.out.other s6 (by decide), r6, fun k _ hk => ⟨_, HLz.out k hk, Row.nil _ _ _ _ _⟩, Z5.out.step s6 (by decide)⟩)
    clear s6 r6 D5 C5 Z5 HLz hL8
    generalize w5.alloc (.cells L0.toArray 47) = w6 at *
    generalize gives o4 w5.heap.size 3 = o6 at *
    generalize w5.heap.size = g at *
    go_cut [12] (fun _ wx => ∃ (o : Nat → Nat) (Wr : Wrs) (vs : List Value), Wr.length ≤ 40 ∧ (∀ x ∈ Wr, x.2.size = 252) ∧ Mays w wx o p q g (S1, seals Wr) S1 (texts Wr) vs 0)
    case first =>
      go_wp2_with fail
      go_loopw [12] (fun i wr => ∃ (t : Nat) (o : Nat → Nat) (Wr : Wrs) (vs : List Value), t ≤ len2 ∧ t ≤ 40 ∧ i = .int .i64 (t : Int) ∧ Wr.length ≤ t ∧ (∀ x ∈ Wr, x.2.size = 252) ∧ Mays w wr o p q g (S1, seals Wr) S1 (texts Wr) vs 0) (fun i _ => len2 - (intOf i).toNat)
      case atStart => exact ⟨0, o6, [], L0, by omega, by omega, rfl, by simp, fun x hx => by simp at hx, M6.out⟩
      case round =>
        obtain ⟨t, o, Wr, vs, ht, ht2, rfl, hWl, hWs, hM⟩ := hrel
        have HW := Lib.hid hWs; have HM := Lib.hid hM
        clear M6 hWs HA3
        by_cases hc : t < len2 ∧ t < 40
        · obtain ⟨hc1, hc2⟩ := hc
          have c1 : (t : Int) < (len2 : Int) := by omega
          have c2 : (t : Int) < 40 := by omega
          have c3 : (0 : Int) ≤ (t : Int) := by omega
          obtain ⟨x, b, off, _, rfl, k0, k1, k2, k3, x1, x2, x3, xf⟩ := HA2.out.at hM.z t hc1
          obtain ⟨xk, xp, xs, xfa, xfl, xfc, xfs⟩ := x
          dsimp only at k0 k1 k2 k3 x1 x2 x3
          clear xf HA2 k3 x2 x3 k0 hM
          have hp := pg8_lt xp
          have e7 := and7 xp
          obtain ⟨n, hn1, hn2, hn3, hn4⟩ := cut_at xs 252
          have hcs : (xs.extract 0 n).size ≤ 252 := by rw [hn4]; exact cutOf_size _ _
          have hps := padOf_size (xs.extract 0 n) 252 hcs
          have CP := Lib.hid (rpad252 (xs.extract 0 n) wr.drew hcs)
          simp only [Int.cast_ofNat_Int] at hn1
          have hbk : b < wr.heap.size := World.block_lt_of_cell? wr _ k2
          clear hn4 hcs
          generalize padOf (xs.extract 0 n) 252 = U at *
          go_upto_region 17 with fail
          go_region_held3 (fun W => W.cell? ⟨b, off + t * 4 + 2, none⟩ = some (.string xs)) (first | exact k2 | exact k2')
            ((go_at_call 21; refine CP.out.mono ?_; rintro e w2 ⟨rfl, b2⟩; have k2' := (b2.cell (p := ⟨b, off + t * 4 + 2, none⟩) hbk).trans k2))
          have bU : Below wr.heap.size wr w2 := ⟨b2.os, b2.tape, b2.output, b2.size, b2.block⟩
          have H2 := Lib.hid (HM.out.reads bU)
          clear bU b2 HM CP k2' k1 k2
          have CW := Lib.hid (d_write H2.out.d (pg8 xp) (by rw [hS1]; exact hp) U (by omega) (by simp only [seals_length]; omega))
          go_wp2_with fail
          refine CW.out.mono ?_; rintro e w4 ⟨o4', rfl, h4, s4⟩
          have H4 := Lib.hid (H2.out.disk (D' := (S1, seals Wr ++ [(pg8 xp, pageOf U)])) h4 s4)
          clear h4 s4 H2 CW
          have hp0 : (0 : Int) ≤ (pg8 xp : Int) := by omega
          have hp1 : (pg8 xp : Int) < 8 := by omega
          clear e7
          generalize pg8 xp = K at *
          obtain ⟨av, Cv, q0, q1, q2, q3⟩ := H4.out.at K (by omega) hp
          obtain ⟨g5, C5, w5', o5, hap, hr5, s5⟩ := strs_append q3 U (by have := texts_length Wr K; omega)
          have HNW := Lib.hid (H4.out.push K (by omega) hp U g5 C5 hr5 s5)
          obtain ⟨q0', q1'⟩ := row_at (H4.out.r.other s5 (by omega)) K _ q2
          have HAP := Lib.hid hap
          have HNN := Lib.hid (show Mays w (w5'.setCell ⟨g, K, none⟩ (.slice (some ⟨g5, 0, none⟩) ((texts Wr K).length + 1) C5)) o5 p q g (S1, seals (Wr ++ [(K, U)])) S1 (texts (Wr ++ [(K, U)])) _ 0 by
            rw [seals_snoc]
            refine HNW.out.texts _ 0 (Nat.le_refl _) (fun k _ _ => ?_)
            rw [texts_snoc]
            by_cases e : k = K
            · subst e; simp
            · rw [if_neg e, if_neg (fun h => e h.symm)])
          have hWN := Lib.hid (show ∀ x ∈ Wr ++ [(K, U)], x.2.size = 252 by
            intro x hx
            rcases List.mem_append.1 hx with h | h
            · exact HW.out x h
            · simp at h; subst h; exact hps)
          clear hap hr5 s5 q2 q3 HNW H4 HW
          go_wp2_with (at_builtin; refine wpList_append_run rfl (.tmp 118) (.tmp 120) _ _ rfl _ _ rfl rfl _ _ HAP.out ?_)
          exact ⟨⟨t + 1, o5, Wr ++ [(K, U)], _, by omega, by omega, by go_num, by simp; omega, hWN.out, HNN.out⟩, by simp [intOf]; omega⟩
        · have HR := Lib.hid (show ∃ (o : Nat → Nat) (Wr : Wrs) (vs : List Value), Wr.length ≤ 40 ∧ (∀ x ∈ Wr, x.2.size = 252) ∧ Mays w wr o p q g (S1, seals Wr) S1 (texts Wr) vs 0 from ⟨o, Wr, vs, by omega, HW.out, hM⟩)
          by_cases hc1 : t < len2
          · have c1 : (t : Int) < (len2 : Int) := by omega
            have c2 : (40 : Int) ≤ (t : Int) := by omega
            clear hc hM HW HM
            go_wp2
            go_meet
            exact HR.out
          · have c1 : (len2 : Int) ≤ (t : Int) := by omega
            clear hc hM HW HM
            go_wp2
            go_meet
            exact HR.out
    case rest =>
      obtain ⟨o7, Wr, vs7, hWl, hWs, hM⟩ := hcut
      have HW := Lib.hid hWs; have M7 := Lib.hid hM
      have hF := fints_of_arg HA3.out hM.z (i := 1) (by decide)
      clear hWs hM M6 HA2 HA3
      obtain ⟨n, hn1, hn2, hn3⟩ := min_at len3 60
      have CW := Lib.hid (fun fc' => d_crash M7.out.d (by simp only [seals_length]; omega) a3 n fc' (zs3.take 60) (by rw [hn3]; exact hF.take 60) (by omega))
      have hn4 : (n : Int) ≤ (cap3 : Int) := by omega
      simp only [Int.cast_ofNat_Int] at hn1
      clear hn3 hF
      go_wp2_with fail
      refine (CW.out _).mono ?_; rintro e w8 ⟨rfl, h8, s8⟩
      have M8 := Lib.hid (M7.out.disk (D' := (crashOf S1 (seals Wr) (zs3.take 60), [])) h8 s8)
      have hw256 : ∀ x ∈ seals Wr, x.2.size = 256 := by
        intro x hx
        obtain ⟨y, hy, rfl⟩ := List.mem_map.1 hx
        exact pageOf_size _ (by have := HW.out y hy; omega)
      have HH := Lib.hid (fun k s hs => crN_halved S1 (seals Wr) (zs3.take 60) k s hs hw256 (seals Wr).length (Nat.le_refl _))
      have HE := Lib.hid (fun k h => crN_same S1 (seals Wr) (zs3.take 60) k h (seals Wr).length (Nat.le_refl _))
      clear h8 s8 M7 CW hw256
      change Hid (∀ k s, S1[k]? = some s → ∃ r, (crashOf S1 (seals Wr) (zs3.take 60))[k]? = some r ∧ Halved r (s :: texts (seals Wr) k)) at HH
      change Hid (∀ k, texts (seals Wr) k = [] → (crashOf S1 (seals Wr) (zs3.take 60))[k]? = S1[k]?) at HE
      generalize crashOf S1 (seals Wr) (zs3.take 60) = S2 at *
      go_wp2_with fail
      go_loopw [16] (fun i wr => ∃ (t : Nat) (o : Nat → Nat) (vs : List Value), t ≤ 8 ∧ i = .int .i64 (t : Int) ∧ Mays w wr o p q g (S2, []) S1 (texts Wr) vs t) (fun i _ => 8 - (intOf i).toNat)
      case atStart => exact ⟨0, o7, vs7, by omega, rfl, M8.out⟩
      case round =>
        obtain ⟨t, o, vs, ht, rfl, hM⟩ := hrel
        have M9 := Lib.hid hM
        clear hM M8
        by_cases hc : t < 8
        · have c1 : (t : Int) < 8 := by omega
          have c0 : (0 : Int) ≤ (t : Int) := by omega
          obtain ⟨s, hs⟩ : ∃ s, S1[t]? = some s := ⟨_, List.getElem?_eq_getElem (by omega)⟩
          obtain ⟨u0, hu0, hsu⟩ := HGS.out s (List.mem_of_getElem? hs)
          obtain ⟨r, hr, hhv⟩ := HH.out t s hs
          have hr256 := M9.out.d.sz r (List.mem_of_getElem? hr)
          have CD := Lib.hid (fun W o (H : IsD W o 1 p S2 []) => d_read H t r hr)
          have CC := Lib.hid (fun W o (H : IsD W o 2 q S1 []) => d_read H t s hs)
          rw [show rawAt [] t r = r from rfl] at CD
          rw [show rawAt [] t s = s from rfl, hsu, readOf_page u0 hu0, errOf_page u0 hu0] at CC
          have hold := padOf_size u0 252 hu0
          rw [hsu, ← pageOf_padOf u0 hu0, texts_seals] at hhv
          have hE := HE.out t
          rw [texts_seals, hr, hs, hsu, ← pageOf_padOf u0 hu0] at hE
          generalize padOf u0 252 = old at *
          clear hsu hu0 hs hr
          have hTl := texts_length Wr t
          have hT252 : ∀ u ∈ texts Wr t, u.size = 252 := fun u hu => HW.out _ (texts_mem hu)
          -- what is read
          have key : (errOf r = 0 ∧ (readOf r).size = 252 ∧ preB (readOf r) (texts Wr t ++ [old]) = true ∧ sufB (readOf r) (texts Wr t ++ [old]) = true ∧ (texts Wr t = [] → readOf r = old)) ∨ (errOf r = 5 ∧ texts Wr t ≠ []) := by
            cases hok : okPage r with
            | true =>
              obtain ⟨y1, y2, y3⟩ := page_halves r old (texts Wr t) hr256 hok hold hT252 hhv
              refine .inl ⟨by unfold errOf; rw [hok]; rfl, y1, y2, y3, fun he => ?_⟩
              have := hE (by rw [he]; rfl)
              cases this
              rw [readOf_page old (by omega), padOf_full old 252 hold]
            | false =>
              refine .inr ⟨by unfold errOf; rw [hok]; rfl, fun he => ?_⟩
              have := hE (by rw [he]; rfl)
              cases this
              rw [okPage_pageOf old (by omega)] at hok; cases hok
          have KEY := Lib.hid key
          have HT := Lib.hid hT252
          clear key hE hhv hr256 hT252
          generalize readOf r = R at *
          generalize errOf r = E at *
          go_wp2_with fail
          refine (CD.out _ _ M9.out.d).mono ?_; rintro e w10 ⟨rfl, b10⟩
          have M10 := Lib.hid (M9.out.reads b10); clear b10 M9
          go_wp2_with fail
          refine (CC.out _ _ M10.out.c).mono ?_; rintro e w11 ⟨rfl, b11⟩
          have M11 := Lib.hid (M10.out.reads b11); clear b11 M10 CD CC
          obtain ⟨av, Cv, q0, q1, q2, q3⟩ := M11.out.at t (by omega) hc
          obtain ⟨g5, C5, w5', o5, hap, hr5, s5⟩ := strs_append q3 old (by omega)
          have HNW := M11.out.push t (by omega) hc old g5 C5 hr5 s5
          obtain ⟨q0', q1'⟩ := row_at (M11.out.r.other s5 (by omega)) t _ q2
          have HAP := Lib.hid hap
          have MT := Lib.hid (HNW.texts (texts Wr) (t + 1) (by omega) (fun k h1 h2 => by rw [if_neg (by omega)]))
          have hvs : vs.length = 8 := by have := M11.out.r.len; omega
          obtain ⟨q0'', _⟩ := row_at HNW.r t (.slice (some ⟨g5, 0, none⟩) ((texts Wr t).length + 1) C5) (by rw [List.getElem?_set_self (by omega)])
          have hcells : ∀ k u, (texts Wr t ++ [old])[k]? = some u → (w5'.setCell ⟨g, t, none⟩ (.slice (some ⟨g5, 0, none⟩) ((texts Wr t).length + 1) C5)).cell? ⟨g5, k, none⟩ = some (.string u) := by
            intro k u hu
            obtain ⟨v, hv1, hv2⟩ := HNW.m t (by omega) hc
            rw [List.getElem?_set_self (by omega)] at hv1
            cases hv1
            simp only [if_true] at hv2
            rw [show (texts Wr t ++ [old]).length = (texts Wr t).length + 1 by simp] at hv2
            exact (row_at hv2 k _ (by rw [List.getElem?_map, hu]; rfl)).1
          have hcl := Lib.hid hcells
          clear hcells hap hr5 s5 q2 q3 M11 HNW
          have hold1 : ((old.size : Int) != 252) = false := by rw [bne_eq_false_iff_eq]; omega
          have HL := Lib.hid (show (texts Wr t ++ [old]).length = (texts Wr t).length + 1 by simp)
          have hTi : ((texts Wr t).length : Int) ≤ 40 := by omega
          rcases KEY.out with ⟨hE0, hR, hp1, hp2, hR0⟩ | ⟨hE5, hne⟩
          · have HV := Lib.hid (fun W hW => halves_any W g5 C5 R (texts Wr t ++ [old]) hR (fun u hu => by
              rcases List.mem_append.1 hu with h | h
              · exact HT.out u h
              · simp at h; subst h; exact hold) (by rw [HL.out]; omega) hW hp1 hp2)
            rw [HL.out] at HV
            have hR1 : ((R.size : Int) != 252) = false := by rw [bne_eq_false_iff_eq]; omega
            subst hE0
            clear KEY hR hp1 hp2 HL HT
            by_cases hn : texts Wr t = []
            · have hRo := hR0 hn
              have hl0 : (texts Wr t).length = 0 := by rw [hn]; rfl
              rw [hl0] at q0 q0' q0'' HAP hcl HV MT
              clear hR0 hn hl0
              subst hRo
              have xo : (R.toList == R.toList) = true := by simp
              have xo' : (R.toList != R.toList) = false := by simp
              clear hTi hTl
              go_wp2_with (first | (at_builtin; refine wpList_append_run rfl (.tmp 179) (.tmp 181) _ _ rfl _ _ rfl rfl _ _ HAP.out ?_) | (go_at_call 23; refine (HV.out _ hcl.out).mono ?_; rintro e w12 ⟨rfl, b12⟩))
              exact ⟨⟨t + 1, o5, _, by omega, by go_num, MT.out.reads b12⟩, by simp [intOf]; omega⟩
            · have hl1 : (((texts Wr t).length : Int) == 0) = false := by
                rw [beq_eq_false_iff_ne]
                intro h
                exact hn (List.eq_nil_of_length_eq_zero (by omega))
              clear hR0 hn
              generalize (texts Wr t).length = nn at *
              go_wp2_with (first | (at_builtin; refine wpList_append_run rfl (.tmp 179) (.tmp 181) _ _ rfl _ _ rfl rfl _ _ HAP.out ?_) | (go_at_call 23; refine (HV.out _ hcl.out).mono ?_; rintro e w12 ⟨rfl, b12⟩))
              exact ⟨⟨t + 1, o5, _, by omega, by go_num, MT.out.reads b12⟩, by simp [intOf]; omega⟩
          · have hl1 : (((texts Wr t).length : Int) == 0) = false := by
              rw [beq_eq_false_iff_ne]
              intro h
              exact hne (List.eq_nil_of_length_eq_zero (by omega))
            subst hE5
            clear hne KEY HL HT
            generalize (texts Wr t).length = nn at *
            go_wp2_with (at_builtin; refine wpList_append_run rfl (.tmp 179) (.tmp 181) _ _ rfl _ _ rfl rfl _ _ HAP.out ?_)
            exact ⟨⟨t + 1, o5, _, by omega, by go_num, MT.out⟩, by simp [intOf]; omega⟩
        · have c2 : (8 : Int) ≤ (t : Int) := by omega
          go_wp2_with fail
          refine (d_dirty M9.out.d 9 (by simp)).mono ?_; rintro e w20 ⟨u20, _, rfl, h20, _, _, b20⟩
          obtain ⟨d20, X20, rfl⟩ := h20.ints.len
          rw [show (dirtyOf []).length = 0 from rfl]
          have Z20 := Lib.hid (M9.out.z.reads b20)
          clear h20 b20 M9
          go_wp2_with fail
          refine (CF.out _).mono ?_; rintro e w16 ⟨rfl, b16⟩
          have Z16 := Lib.hid (Z20.out.reads b16); clear b16
          go_wp2
          go_ret
          exact ⟨rfl, Z16.out.bel⟩
end Go.Proofs.Ytbenaagooankbaa
