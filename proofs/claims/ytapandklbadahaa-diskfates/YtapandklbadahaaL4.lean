/-
  DiskFates: the walk.
-/
import Derived.Test.YtapandklbadahaaL2
namespace Go.Proofs.Ytapandklbadahaa
open Go.RowKit Go.ChangeMaps

/-- five disks: 1 to 5 -/
structure Quin (w0 w : World) (o : Nat → Nat) (p qa qb qc qx : Nat) (D A B C X : List ByteArray × Wrs) : Prop where
  d : IsD w o 1 p D.1 D.2
  a : IsD w o 2 qa A.1 A.2
  b : IsD w o 3 qb B.1 B.2
  c : IsD w o 4 qc C.1 C.2
  x : IsD w o 5 qx X.1 X.2
  z : Since w0 o w
section
variable {w0 w w' : World} {o o' : Nat → Nat} {p qa qb qc qx i : Nat} {D A B C X : List ByteArray × Wrs}
theorem Quin.reads (h : Quin w0 w o p qa qb qc qx D A B C X) (b : Below w.heap.size w w') : Quin w0 w' o p qa qb qc qx D A B C X := ⟨h.d.reads b, h.a.reads b, h.b.reads b, h.c.reads b, h.x.reads b, h.z.reads b⟩
theorem Quin.other (h : Quin w0 w o p qa qb qc qx D A B C X) (s : Stp o i w o' w') (hi : 5 < i) : Quin w0 w' o' p qa qb qc qx D A B C X :=
  ⟨h.d.other s (by omega), h.a.other s (by omega), h.b.other s (by omega), h.c.other s (by omega), h.x.other s (by omega), h.z.step s (by omega)⟩
theorem OInts.fints {u : Value} {l : List Int} {j : Nat} (h : OInts w o j u l) (hne : j ≠ i) : ∃ a C, u = .slice a l.length C ∧ FInts w o i a l.length l := by
  rcases Row.val h with ⟨rfl, h0, h1⟩ | ⟨g, C, rfl, hg, _, hc, _⟩
  · have : l = [] := List.eq_nil_of_length_eq_zero h0
    subst this
    exact ⟨none, 0, rfl, rfl, fun t x hx => by simp at hx⟩
  · refine ⟨_, _, rfl, rfl, fun t x hx => ⟨g, 0, rfl, ?_, by rw [hg]; exact hne⟩⟩
    rw [Nat.zero_add]
    exact hc t _ (by rw [List.getElem?_map, hx]; rfl)
theorem ints_one (k : Int) : ∀ u ∈ [Value.int .i64 k], u.oneCell' = true := by intro u hu; simp at hu; subst hu; rfl
theorem cell_new_one (w : World) (v : Value) (t : TypeId) : ∀ (j : Nat) (u : Value), [v][j]? = some u → (w.alloc (.cells #[v] t)).cell? (Addr.add ⟨w.heap.size, 0, none⟩ j) = some u := by
  intro j u h
  rw [add_zero', World.cell?_alloc_at _ _ _ _ rfl]
  match j with
  | 0 => simpa using h
  | j + 1 => simp at h
/-- u = append(u, k), of the owner j -/
theorem OInts.append {u : Value} {l : List Int} {j : Nat} (h : OInts w o j u l) (k : Int) (hl : l.length ≤ 100000) :
    ∃ v' w' o', (Builtin.append_ #[30, 30] 30 #[u, .slice (some ⟨w.heap.size, 0, none⟩) 1 1]).run Try.prog (w.alloc (.cells #[.int .i64 k] 3)) = .ok v' w' ∧ OInts w' o' j v' (l ++ [k]) ∧ Stp o j w o' w' := by
  obtain ⟨i0, hi, hz0, hz1, hz2⟩ := info_parts info_int
  have hal := Row.reads h ((Below.refl _ w).alloc (Nat.le_refl _) (.cells #[.int .i64 k] 3))
  obtain ⟨v', w', hap, hR, hS, _, _⟩ := Row.append (ty := 30) hal Try.underlying30 hi hz0 hz1 hz2 rfl (by decide) ⟨w.heap.size, 0, none⟩ 1 1 [.int .i64 k] rfl (cell_new_one w _ _) (ints_one k) (by simp [maxLen]; omega) (by omega)
  refine ⟨v', w', _, hap, ?_, (Stp.alloc o j w _).trans hS⟩
  show Row w' _ j 3 1 v' (l ++ [k]).length ((l ++ [k]).map (Value.int .i64))
  rw [List.length_append, List.map_append]; exact hR
end
def ones (t : Nat) : List Int := List.replicate t 1
def odds (t : Nat) : List Int := (List.range t).map (fun i : Nat => (3 : Int) + (i : Int))
theorem ones_succ (t : Nat) : ones (t + 1) = ones t ++ [1] := by simp [ones, List.replicate_succ']
theorem odds_succ (t : Nat) : odds (t + 1) = odds t ++ [(3 : Int) + (t : Int)] := by simp [odds, List.range_succ]
theorem odds_none (t j : Nat) : (odds t).getD j 0 ≠ 1 ∧ (odds t).getD j 0 ≠ 2 := by
  rw [List.getD_eq_getElem?_getD, odds, List.getElem?_map]
  cases h : (List.range t)[j]? with
  | none => simp
  | some k => simp; omega
theorem crash_odds (S : List ByteArray) (Ws : Wrs) (t : Nat) : crashOf S Ws (odds t) = S := crN_all_lost S Ws _ (odds_none t) _
theorem crash_nil (S : List ByteArray) (Ws : Wrs) : crashOf S Ws [] = S := crN_all_lost S Ws _ (fun j => by simp) _

set_option maxRecDepth 100000 in
set_option maxHeartbeats 4000000 in
theorem walk_DiskFates (a1 : Option Addr) (len1 cap1 : Nat) (zs1 : List OpA) (w : World) (ha1 : ArgOps w a1 len1 zs1) (hl1 : len1 ≤ maxLen) :
    Calls Try.prog 6 #[.slice a1 len1 cap1] w fun e w' => e = .returned (.bool true) ∧ Below w.heap.size w w' := by
  have CF := Lib.hid fixed_true
  have HA1 := Lib.hid ha1; clear ha1
  have hm1 : (len1 : Int) ≤ 9223372036854775807 := by simp [maxLen] at hl1; omega
  have CN := Lib.hid (dnew_ok w (fun _ => 0) 1 8 (by omega) (by omega))
  have e8 : (List.replicate 8 blank).length = 8 := by simp
  generalize List.replicate 8 blank = S0 at *
  go_enter Try.func6, Try.ntmps6
  go_wp2_with fail
  refine CN.out.mono ?_; rintro e w1 ⟨p, o1, rfl, h1, s1⟩
  have D1 := Lib.hid h1; have Z1 := Lib.hid ((Since.start w).step s1 (by decide)); clear h1 s1 CN
  go_upto_block 0 with fail
  go_cut [5] (fun _ wx => ∃ (o : Nat → Nat) (S : List ByteArray) (Ws : Wrs), S.length = 8 ∧ Ws.length ≤ 40 ∧ IsD wx o 1 p S Ws ∧ Since w o wx)
  case first =>
    go_wp2_with fail
    go_loopw [5] (fun i wr => ∃ (t : Nat) (o : Nat → Nat) (S : List ByteArray) (Ws : Wrs), t ≤ len1 ∧ t ≤ 40 ∧ i = .int .i64 (t : Int) ∧ S.length = 8 ∧ Ws.length ≤ t ∧ IsD wr o 1 p S Ws ∧ Since w o wr) (fun i _ => len1 - (intOf i).toNat)
    case atStart => exact ⟨0, o1, S0, [], by omega, by omega, rfl, e8, by simp, D1.out, Z1.out⟩
    case round =>
      obtain ⟨t, o, S, Ws, ht, ht2, rfl, hS8, hWl, hD, hZ⟩ := hrel
      clear D1 Z1
      by_cases hc : t < len1 ∧ t < 40
      · obtain ⟨hc1, hc2⟩ := hc
        have c1 : (t : Int) < (len1 : Int) := by omega
        have c2 : (t : Int) < 40 := by omega
        have c3 : (0 : Int) ≤ (t : Int) := by omega
        obtain ⟨x, b, off, _, rfl, k0, k1, k2, k3, x1, x2, x3, xf⟩ := HA1.out.at hZ t hc1
        obtain ⟨xk, xp, xs, xfa, xfl, xfc, xfs⟩ := x
        dsimp only at k0 k1 k2 k3 x1 x2 x3
        clear xf HA1 k3 x2 x3
        have HZ := Lib.hid hZ; have HD := Lib.hid hD
        clear hD hZ
        by_cases hk : xk = 1
        · subst hk
          go_wp2_with fail
          refine (d_sync HD.out (by omega)).mono ?_; rintro e w2 ⟨rfl, h2, s2⟩
          have D2 := Lib.hid h2; have Z2 := Lib.hid (HZ.out.step s2 (by decide))
          clear h2 s2 HD HZ
          go_wp2
          exact ⟨⟨t + 1, o, _, _, by omega, by omega, by go_num, by rw [syncOf_length]; exact hS8, by simp, D2.out, Z2.out⟩, by simp [intOf]; omega⟩
        · have hp := pg8_lt xp
          have e7 := and7 xp
          obtain ⟨n, hn1, hn2, hn3, hn4⟩ := cut_at xs 252
          have CW := Lib.hid (d_write HD.out.drew (pg8 xp) (by omega) (xs.extract 0 n) (by rw [hn4]; exact cutOf_size _ _) (by omega))
          have HZd := Lib.hid (HZ.out.step (Stp.drew o 1 wr) (by decide))
          simp only [Int.cast_ofNat_Int] at hn1
          clear hn4 HD HZ
          go_wp2_with fail
          go_still_tail 20, (by kernel_rfl)
          change wpList _ _ _ _ _ wr.drew
          go_wp2_with fail
          refine CW.out.mono ?_; rintro e w2 ⟨o2, rfl, h2, s2⟩
          have D2 := Lib.hid h2; have Z2 := Lib.hid (HZd.out.step s2 (by decide))
          clear h2 s2
          go_wp2
          exact ⟨⟨t + 1, o2, _, _, by omega, by omega, by go_num, hS8, by simp; omega, D2.out, Z2.out⟩, by simp [intOf]; omega⟩
      · have HR := Lib.hid (show ∃ (o : Nat → Nat) (S : List ByteArray) (Ws : Wrs), S.length = 8 ∧ Ws.length ≤ 40 ∧ IsD wr o 1 p S Ws ∧ Since w o wr from ⟨o, S, Ws, hS8, by omega, hD, hZ⟩)
        by_cases hc1 : t < len1
        · have c1 : (t : Int) < (len1 : Int) := by omega
          have c2 : (40 : Int) ≤ (t : Int) := by omega
          clear hc hD hZ
          go_wp2
          go_meet
          exact HR.out
        · have c1 : (len1 : Int) ≤ (t : Int) := by omega
          clear hc hD hZ
          go_wp2
          go_meet
          exact HR.out
  case rest =>
    obtain ⟨o2, S, Ws, hS8, hWl, hD, hZ⟩ := hcut
    have D2 := Lib.hid hD; have Z2 := Lib.hid hZ
    clear D1 Z1 hD hZ HA1
    go_wp2_with fail
    refine (d_copy D2.out 2 (by omega)).mono ?_; rintro e w3 ⟨qa, o3, rfl, ha3, hd3, s3, _⟩
    have A3 := Lib.hid ha3; have D3 := Lib.hid hd3; have Z3 := Lib.hid (Z2.out.step s3 (by decide))
    clear ha3 hd3 s3 D2 Z2
    go_wp2_with fail
    refine (d_copy D3.out 3 (by omega)).mono ?_; rintro e w4 ⟨qb, o4, rfl, hb4, hd4, s4, _⟩
    have B4 := Lib.hid hb4; have D4 := Lib.hid hd4; have A4 := Lib.hid (A3.out.other s4 (by decide)); have Z4 := Lib.hid (Z3.out.step s4 (by decide))
    clear hb4 hd4 s4 A3 D3 Z3
    go_wp2_with fail
    refine (d_copy D4.out 4 (by omega)).mono ?_; rintro e w5 ⟨qc, o5, rfl, hb5, hd5, s5, _⟩
    have C5 := Lib.hid hb5; have D5 := Lib.hid hd5; have A5 := Lib.hid (A4.out.other s5 (by decide)); have B5 := Lib.hid (B4.out.other s5 (by decide)); have Z5 := Lib.hid (Z4.out.step s5 (by decide))
    clear hb5 hd5 s5 A4 B4 D4 Z4
    go_wp2_with fail
    refine (d_copy D5.out 5 (by omega)).mono ?_; rintro e w6 ⟨qx, o6, rfl, hb6, hd6, s6, _⟩
    have Q6 := Lib.hid (show Quin w w6 o6 p qa qb qc qx (S, Ws) (S, Ws) (S, Ws) (S, Ws) (S, Ws) from ⟨hd6, A5.out.other s6 (by decide), B5.out.other s6 (by decide), C5.out.other s6 (by decide), hb6, Z5.out.step s6 (by decide)⟩)
    clear hb6 hd6 s6 A5 B5 C5 D5 Z5
    go_wp2_with fail
    have s7 := stp_new o6 6 w6 (.cells #[] 3)
    have r7 := Row.made w6 o6 6 3 1
    have Q7 := Q6.out.other s7 (by decide)
    have hw7 : (w6.alloc (.cells #[] 3)).heap.size = w6.heap.size + 1 := by simp
    clear s7 Q6
    generalize w6.alloc (.cells #[] 3) = w7 at *
    generalize gives o6 w6.heap.size 6 = o7 at *
    have s8 := stp_new o7 7 w7 (.cells #[] 3)
    have r8 := Row.made w7 o7 7 3 1
    have U8 := Lib.hid (show OInts _ _ 6 _ (ones 0) from r7.other s8 (by decide))
    have V8 := Lib.hid (show OInts _ _ 7 _ (odds 0) from r8)
    have Q8 := Lib.hid (Q7.other s8 (by decide))
    rw [hw7] at V8 Q8 U8
    clear s8 r7 r8 Q7 hw7
    generalize w7.alloc (.cells #[] 3) = w8 at *
    generalize gives o7 (w6.heap.size + 1) 7 = o8 at *
    have hdl : (dirtyOf Ws).length = Ws.length := by simp [dirtyOf]
    have i40 : (Ws.length : Int) ≤ 40 := by omega
    go_loopw [10, 11, 12] (fun u v i wr => ∃ (t : Nat) (o : Nat → Nat), t ≤ Ws.length ∧ i = .int .i64 (t : Int) ∧ OInts wr o 6 u (ones t) ∧ OInts wr o 7 v (odds t) ∧ Quin w wr o p qa qb qc qx (S, Ws) (S, Ws) (S, Ws) (S, Ws) (S, Ws)) (fun _ _ i _ => Ws.length - (intOf i).toNat)
    case atStart => exact ⟨0, o8, by omega, rfl, U8.out, V8.out, Q8.out⟩
    case round =>
      obtain ⟨t, o, ht, rfl, hU, hV, hQ⟩ := hrel
      have HU := Lib.hid hU; have HV := Lib.hid hV; have HQ := Lib.hid hQ
      clear hU hV hQ U8 V8 Q8
      go_wp2_with fail
      refine (d_dirty HQ.out.d 8 (by simp only; omega)).mono ?_; rintro e w9 ⟨u9, _, rfl, h9, _, _, b9⟩
      have U9 := Row.reads HU.out b9; have V9 := Row.reads HV.out b9; have Q9 := HQ.out.reads b9
      obtain ⟨d9, C9, rfl⟩ := h9.ints.len
      rw [hdl]
      clear h9 b9 HU HV HQ
      by_cases hc : t < Ws.length
      · have c1 : (t : Int) < (Ws.length : Int) := by omega
        obtain ⟨v1, w10, o10, hap1, hR1, hS1⟩ := OInts.append U9 1 (by simp [ones]; omega)
        have V10 : OInts w10 o10 7 _ _ := Row.other V9 hS1 (by decide)
        have Q10 := Q9.other hS1 (by decide)
        obtain ⟨v2, w11, o11, hap2, hR2, hS2⟩ := OInts.append V10 ((3 : Int) + (t : Int)) (by simp [odds]; omega)
        have U11 := Lib.hid (show OInts w11 o11 6 v1 (ones (t + 1)) by rw [ones_succ]; exact Row.other hR1 hS2 (by decide))
        have V11 := Lib.hid (show OInts w11 o11 7 v2 (odds (t + 1)) by rw [odds_succ]; exact hR2)
        have Q11 := Lib.hid (Q10.other hS2 (by decide))
        have H1 := Lib.hid hap1; have H2 := Lib.hid hap2
        clear hap1 hap2 hR1 hS1 hR2 hS2 V10 Q10 U9 V9 Q9
        go_wp2_with (first | (at_builtin; refine wpList_append_run rfl (.tmp 94) (.tmp 95) _ _ rfl _ _ rfl rfl _ _ H1.out ?_) | (at_builtin; refine wpList_append_run rfl (.tmp 97) (.tmp 100) _ _ rfl _ _ rfl rfl _ _ H2.out ?_))
        exact ⟨⟨t + 1, o11, by omega, by go_num, U11.out, V11.out, Q11.out⟩, by simp [intOf]; omega⟩
      · have c1 : (Ws.length : Int) ≤ (t : Int) := by omega
        obtain rfl : t = Ws.length := by omega
        have hol : (ones Ws.length).length = Ws.length := by simp [ones]
        have hdl2 : (odds Ws.length).length = Ws.length := by simp [odds]
        have U := Lib.hid (show OInts w9 o 6 _ (ones Ws.length) from U9); have V := Lib.hid (show OInts w9 o 7 _ (odds Ws.length) from V9); have Q := Lib.hid Q9
        clear U9 V9 Q9
        go_wp2_with fail
        -- a.Sync
        refine (d_sync Q.out.a (by simp only; omega)).mono ?_; rintro e w12 ⟨rfl, h12, s12⟩
        have Q12 := Lib.hid (show Quin w w12 o p qa qb qc qx (S, Ws) (syncOf S Ws, []) (S, Ws) (S, Ws) (S, Ws) from ⟨Q.out.d.other s12 (by decide), h12, Q.out.b.other s12 (by decide), Q.out.c.other s12 (by decide), Q.out.x.other s12 (by decide), Q.out.z.step s12 (by decide)⟩)
        have U12 := Lib.hid (show OInts w12 o 6 _ (ones Ws.length) from Row.other U.out s12 (by decide)); have V12 := Lib.hid (show OInts w12 o 7 _ (odds Ws.length) from Row.other V.out s12 (by decide))
        clear h12 s12 Q U V
        -- b.Crash(all)
        obtain ⟨fa, fc, eu, hF⟩ := U12.out.fints (i := 3) (by decide)
        have hF1 := Lib.hid hF
        rw [hol] at eu hF1
        subst eu
        clear hF
        go_wp2_with fail
        refine (d_crash Q12.out.b (by simp only; omega) fa _ fc (ones Ws.length) hF1.out (by omega)).mono ?_; rintro e w13 ⟨rfl, h13, s13⟩
        have Q13 := Lib.hid (show Quin w w13 o p qa qb qc qx (S, Ws) (syncOf S Ws, []) (syncOf S Ws, []) (S, Ws) (S, Ws) from ⟨Q12.out.d.other s13 (by decide), Q12.out.a.other s13 (by decide), h13, Q12.out.c.other s13 (by decide), Q12.out.x.other s13 (by decide), Q12.out.z.step s13 (by decide)⟩)
        have V13 := Lib.hid (show OInts w13 o 7 _ (odds Ws.length) from Row.other V12.out s13 (by decide))
        clear h13 s13 Q12 U12 V12 hF1
        -- c.Crash(nil)
        go_wp2_with fail
        refine (d_crash Q13.out.c (by simp only; omega) none 0 _ [] (fints_nil _ _ _) (by simp)).mono ?_; rintro e w14 ⟨rfl, h14, s14⟩
        rw [crash_nil] at h14
        have Q14 := Lib.hid (show Quin w w14 o p qa qb qc qx (S, Ws) (syncOf S Ws, []) (syncOf S Ws, []) (S, []) (S, Ws) from ⟨Q13.out.d.other s14 (by decide), Q13.out.a.other s14 (by decide), Q13.out.b.other s14 (by decide), h14, Q13.out.x.other s14 (by decide), Q13.out.z.step s14 (by decide)⟩)
        have V14 := Lib.hid (show OInts w14 o 7 _ (odds Ws.length) from Row.other V13.out s14 (by decide))
        clear h14 s14 Q13 V13
        -- x.Crash(odd)
        obtain ⟨ga, gc, eu, hF⟩ := V14.out.fints (i := 5) (by decide)
        have hF1 := Lib.hid hF
        rw [hdl2] at eu hF1
        subst eu
        clear hF
        go_wp2_with fail
        refine (d_crash Q14.out.x (by simp only; omega) ga _ gc (odds Ws.length) hF1.out (by omega)).mono ?_; rintro e w15 ⟨rfl, h15, s15⟩
        rw [crash_odds] at h15
        have Q15 := Lib.hid (show Quin w w15 o p qa qb qc qx (S, Ws) (syncOf S Ws, []) (syncOf S Ws, []) (S, []) (S, []) from ⟨Q14.out.d.other s15 (by decide), Q14.out.a.other s15 (by decide), Q14.out.b.other s15 (by decide), Q14.out.c.other s15 (by decide), h15, Q14.out.z.step s15 (by decide)⟩)
        clear h15 s15 Q14 V14 hF1
        go_wp2_with fail
        go_loopw [13] (fun i wr => ∃ t : Nat, t ≤ 8 ∧ i = .int .i64 (t : Int) ∧ Quin w wr o p qa qb qc qx (S, Ws) (syncOf S Ws, []) (syncOf S Ws, []) (S, []) (S, [])) (fun i _ => 8 - (intOf i).toNat)
        case atStart => exact ⟨0, by omega, rfl, Q15.out⟩
        case round =>
          obtain ⟨t, ht, rfl, hQ⟩ := hrel
          have R0 := Lib.hid hQ
          clear Q15 hQ
          by_cases hc : t < 8
          · have c1 : (t : Int) < 8 := by omega
            obtain ⟨q, hq⟩ : ∃ q, S[t]? = some q := ⟨_, List.getElem?_eq_getElem (by omega)⟩
            have hsy := sync_raw S Ws t q hq
            have CA := Lib.hid (fun W o i p H => d_raw (w := W) (o := o) (i := i) (p := p) (Ws := []) (S := syncOf S Ws) H t _ hsy)
            have CD := Lib.hid (fun W o i p H => d_raw (w := W) (o := o) (i := i) (p := p) (Ws := Ws) (S := S) H t q hq)
            have CC := Lib.hid (fun W o i p H => d_raw (w := W) (o := o) (i := i) (p := p) (Ws := []) (S := S) H t q hq)
            rw [show rawAt [] t (rawAt Ws t q) = rawAt Ws t q from rfl] at CA
            rw [show rawAt [] t q = q from rfl] at CC
            clear hsy hq
            generalize rawAt Ws t q = R at *
            have xr : (R.toList == R.toList) = true := by simp
            have xq : (q.toList == q.toList) = true := by simp
            go_wp2_with fail
            refine (CA.out _ _ _ _ R0.out.a).mono ?_; rintro e y1 ⟨rfl, b1⟩
            have R1 := Lib.hid (R0.out.reads b1); clear R0 b1
            go_wp2_with fail
            refine (CA.out _ _ _ _ R1.out.b).mono ?_; rintro e y2 ⟨rfl, b2⟩
            have R2 := Lib.hid (R1.out.reads b2); clear R1 b2
            go_wp2_with fail
            refine (CA.out _ _ _ _ R2.out.a).mono ?_; rintro e y3 ⟨rfl, b3⟩
            have R3 := Lib.hid (R2.out.reads b3); clear R2 b3
            go_wp2_with fail
            refine (CD.out _ _ _ _ R3.out.d).mono ?_; rintro e y4 ⟨rfl, b4⟩
            have R4 := Lib.hid (R3.out.reads b4); clear R3 b4
            go_wp2_with fail
            refine (CC.out _ _ _ _ R4.out.c).mono ?_; rintro e y5 ⟨rfl, b5⟩
            have R5 := Lib.hid (R4.out.reads b5); clear R4 b5
            go_wp2_with fail
            refine (CC.out _ _ _ _ R5.out.x).mono ?_; rintro e y6 ⟨rfl, b6⟩
            have R6 := Lib.hid (R5.out.reads b6); clear R5 b6
            go_wp2
            exact ⟨⟨t + 1, by omega, by go_num, R6.out⟩, by simp [intOf]; omega⟩
          · have c2 : (8 : Int) ≤ (t : Int) := by omega
            go_wp2_with fail
            refine (CF.out _).mono ?_; rintro e w16 ⟨rfl, b16⟩
            have Z16 := Lib.hid (R0.out.z.reads b16); clear b16
            go_wp2
            go_ret
            exact ⟨rfl, Z16.out.bel⟩
end Go.Proofs.Ytapandklbadahaa
