/-
  DiskTwins: the walk.
-/
import Derived.Test.YtapandklbadahaaG1
import Derived.Deep.DeepCutAuto
import Derived.Deep.CutBlock
namespace Go.Proofs.Ytapandklbadahaa
open Go.RowKit Go.ChangeMaps

/-- what a walk needs of the t-th call, in a world since -/
theorem ArgOps.at {w0 w : World} {o : Nat → Nat} {a : Option Addr} {len : Nat} {zs : List OpA} (h : ArgOps w0 a len zs) (Z : Since w0 o w) (t : Nat) (ht : t < len) :
    ∃ (x : OpA) (b off : Nat), zs[t]? = some x ∧ a = some ⟨b, off, none⟩ ∧ w.cell? ⟨b, off + t * 4, none⟩ = some (.int .i64 x.k) ∧ w.cell? ⟨b, off + t * 4 + 1, none⟩ = some (.int .i64 x.p) ∧ w.cell? ⟨b, off + t * 4 + 2, none⟩ = some (.string x.s) ∧ w.cell? ⟨b, off + t * 4 + 3, none⟩ = some (.slice x.fa x.fl x.fc) ∧
      x.s.size ≤ maxLen ∧ x.fl ≤ x.fc ∧ x.fc ≤ maxLen ∧ ∀ i, i ≠ 0 → FInts w o i x.fa x.fl x.fs := by
  obtain ⟨hl, hz⟩ := h
  have hx : zs[t]? = some zs[t] := List.getElem?_eq_getElem (by omega)
  obtain ⟨_, _, s3, s4, s5, s6, b, off, e, c0, c1, c2, c3⟩ := hz t _ hx
  exact ⟨_, b, off, hx, e, Z.cell c0, Z.cell c1, Z.cell c2, Z.cell c3, s3, s4, s5, fun i hi => fints_of_arg s6 Z hi⟩
/-- the state behind the first t calls -/
def runN (zs : List OpA) (D : List ByteArray × Wrs) : Nat → List ByteArray × Wrs
  | 0 => D
  | t + 1 => match zs[t]? with
    | some x => actOf x (runN zs D t)
    | none => runN zs D t
theorem runN_succ (zs : List OpA) (D : List ByteArray × Wrs) (t : Nat) (x : OpA) (h : zs[t]? = some x) : runN zs D (t + 1) = actOf x (runN zs D t) := by simp [runN, h]
theorem runN_len (zs : List OpA) (D : List ByteArray × Wrs) : ∀ t, (runN zs D t).1.length = D.1.length
  | 0 => rfl
  | t + 1 => by
    simp only [runN]; split
    · rw [actOf_length]; exact runN_len zs D t
    · exact runN_len zs D t
theorem runN_wr (zs : List OpA) (D : List ByteArray × Wrs) : ∀ t, (runN zs D t).2.length ≤ D.2.length + t
  | 0 => Nat.le_refl _
  | t + 1 => by
    have := runN_wr zs D t
    simp only [runN]; split
    · rename_i x _; have := actOf_writes x (runN zs D t); omega
    · omega

/-- three disks: 1, 2, 3 -/
structure Tri (w0 w : World) (o : Nat → Nat) (p qa qb : Nat) (D A B : List ByteArray × Wrs) : Prop where
  d : IsD w o 1 p D.1 D.2
  a : IsD w o 2 qa A.1 A.2
  b : IsD w o 3 qb B.1 B.2
  z : Since w0 o w
theorem Tri.reads {w0 w w' : World} {o : Nat → Nat} {p qa qb : Nat} {D A B : List ByteArray × Wrs} (h : Tri w0 w o p qa qb D A B) (b : Below w.heap.size w w') : Tri w0 w' o p qa qb D A B := ⟨h.d.reads b, h.a.reads b, h.b.reads b, h.z.reads b⟩

set_option maxRecDepth 100000 in
set_option maxHeartbeats 4000000 in
theorem walk_DiskTwins (a1 : Option Addr) (len1 cap1 : Nat) (zs1 : List OpA) (a2 : Option Addr) (len2 cap2 : Nat) (zs2 : List OpA) (w : World) (ha1 : ArgOps w a1 len1 zs1) (hl1 : len1 ≤ maxLen) (ha2 : ArgOps w a2 len2 zs2) (hl2 : len2 ≤ maxLen) :
    Calls Try.prog 8 #[.slice a1 len1 cap1, .slice a2 len2 cap2] w fun e w' => e = .returned (.bool true) ∧ Below w.heap.size w w' := by
  have CF := Lib.hid fixed_true
  have HA1 := Lib.hid ha1; have HA2 := Lib.hid ha2; clear ha1 ha2
  have hm1 : (len1 : Int) ≤ 9223372036854775807 := by simp [maxLen] at hl1; omega
  have hm2 : (len2 : Int) ≤ 9223372036854775807 := by simp [maxLen] at hl2; omega
  have CN := Lib.hid (dnew_ok w (fun _ => 0) 1 8 (by omega) (by omega))
  have e8 : (List.replicate 8 blank).length = 8 := by simp
  generalize List.replicate 8 blank = S0 at *
  go_enter Try.func8, Try.ntmps8
  go_wp2_with fail
  refine CN.out.mono ?_; rintro e w1 ⟨p, o1, rfl, h1, s1⟩
  have D1 := Lib.hid h1; have Z1 := Lib.hid ((Since.start w).step s1 (by decide)); clear h1 s1 CN
  go_upto_block 0 with fail
  go_cut [7] (fun _ wx => ∃ (o : Nat → Nat) (S : List ByteArray) (Ws : Wrs), S.length = 8 ∧ Ws.length ≤ 40 ∧ IsD wx o 1 p S Ws ∧ Since w o wx)
  case first =>
    go_wp2_with fail
    go_loopw [7] (fun i wr => ∃ (t : Nat) (o : Nat → Nat) (S : List ByteArray) (Ws : Wrs), t ≤ len1 ∧ t ≤ 40 ∧ i = .int .i64 (t : Int) ∧ S.length = 8 ∧ Ws.length ≤ t ∧ IsD wr o 1 p S Ws ∧ Since w o wr) (fun i _ => len1 - (intOf i).toNat)
    case atStart => exact ⟨0, o1, S0, [], by omega, by omega, rfl, e8, by simp, D1.out, Z1.out⟩
    case round =>
      obtain ⟨t, o, S, Ws, ht, ht2, rfl, hS8, hWl, hD, hZ⟩ := hrel
      clear D1 Z1
      by_cases hc : t < len1 ∧ t < 40
      · obtain ⟨hc1, hc2⟩ := hc
        have c1 : (t : Int) < (len1 : Int) := by omega
        have c2 : (t : Int) < 40 := by omega
        have c3 : (0 : Int) ≤ (t : Int) := by omega
        obtain ⟨x, b, off, _, rfl, k0, k1, k2, k3, x1, x2, x3, xf⟩ := HA1.out.at hZ t hc1
        have CA := Lib.hid (act_any hD hS8 (by omega) x x1 x2 x3 (xf 1 (by decide)))
        have HZ := Lib.hid hZ
        clear hD hZ xf HA1
        go_wp2_with fail
        refine CA.out.mono ?_; rintro e w2 ⟨o2, rfl, h2, s2⟩
        have D2 := Lib.hid h2; have Z2 := Lib.hid (HZ.out.step s2 (by decide))
        clear h2 s2
        go_wp2
        exact ⟨⟨t + 1, o2, _, _, by omega, by omega, by go_num, by rw [actOf_length]; exact hS8, by have := actOf_writes x (S, Ws); simp only at this; omega, D2.out, Z2.out⟩, by simp [intOf]; omega⟩
      · by_cases hc1 : t < len1
        · have c1 : (t : Int) < (len1 : Int) := by omega
          have c2 : (40 : Int) ≤ (t : Int) := by omega
          have HR := Lib.hid (show ∃ (o : Nat → Nat) (S : List ByteArray) (Ws : Wrs), S.length = 8 ∧ Ws.length ≤ 40 ∧ IsD wr o 1 p S Ws ∧ Since w o wr from ⟨o, S, Ws, hS8, by omega, hD, hZ⟩)
          clear hc hD hZ
          go_wp2
          go_meet
          exact HR.out
        · have c1 : (len1 : Int) ≤ (t : Int) := by omega
          have HR := Lib.hid (show ∃ (o : Nat → Nat) (S : List ByteArray) (Ws : Wrs), S.length = 8 ∧ Ws.length ≤ 40 ∧ IsD wr o 1 p S Ws ∧ Since w o wr from ⟨o, S, Ws, hS8, by omega, hD, hZ⟩)
          clear hc hD hZ
          go_wp2
          go_meet
          exact HR.out
  case rest =>
    obtain ⟨o2, S, Ws, hS8, hWl, hD, hZ⟩ := hcut
    have D2 := Lib.hid hD; have Z2 := Lib.hid hZ
    clear D1 Z1 hD hZ HA1
    go_wp2_with fail
    refine (d_copy D2.out 2 (by omega)).mono ?_; rintro e w3 ⟨qa, o3, rfl, ha3, hd3, s3, _⟩
    have A3 := Lib.hid ha3; have D3 := Lib.hid hd3; have Z3 := Lib.hid (Z2.out.step s3 (by decide))
    clear ha3 hd3 s3 D2 Z2
    go_wp2_with fail
    refine (d_copy D3.out 3 (by omega)).mono ?_; rintro e w4 ⟨qb, o4, rfl, hb4, hd4, s4, _⟩
    have B4 := Lib.hid hb4; have D4 := Lib.hid hd4; have A4 := Lib.hid (A3.out.other s4 (by decide)); have Z4 := Lib.hid (Z3.out.step s4 (by decide))
    clear hb4 hd4 s4 A3 D3 Z3
    have T4 := Lib.hid (show Tri w w4 o4 p qa qb (S, Ws) (runN zs2 (S, Ws) 0) (S, Ws) from ⟨D4.out, A4.out, B4.out, Z4.out⟩)
    clear D4 A4 B4 Z4
    obtain ⟨N, hN1, hN2, hN3⟩ : ∃ N : Nat, N = min len2 40 ∧ N ≤ len2 ∧ N ≤ 40 := ⟨min len2 40, rfl, by omega, by omega⟩
    go_upto_block 2 with fail
    go_cut [10] (fun _ wx => ∃ o : Nat → Nat, Tri w wx o p qa qb (S, Ws) (runN zs2 (S, Ws) N) (S, Ws))
    case first =>
      go_wp2_with fail
      go_loopw [10] (fun i wr => ∃ (t : Nat) (o : Nat → Nat), t ≤ len2 ∧ t ≤ 40 ∧ i = .int .i64 (t : Int) ∧ Tri w wr o p qa qb (S, Ws) (runN zs2 (S, Ws) t) (S, Ws)) (fun i _ => len2 - (intOf i).toNat)
      case atStart => exact ⟨0, o4, by omega, by omega, rfl, T4.out⟩
      case round =>
        obtain ⟨t, o, ht, ht2, rfl, hT⟩ := hrel
        clear T4
        by_cases hc : t < len2 ∧ t < 40
        · obtain ⟨hc1, hc2⟩ := hc
          have c1 : (t : Int) < (len2 : Int) := by omega
          have c2 : (t : Int) < 40 := by omega
          have c3 : (0 : Int) ≤ (t : Int) := by omega
          obtain ⟨x, b, off, hx, rfl, k0, k1, k2, k3, x1, x2, x3, xf⟩ := HA2.out.at hT.z t hc1
          have hwr := runN_wr zs2 (S, Ws) t
          have CA := Lib.hid (act_any hT.a ((runN_len zs2 (S, Ws) t).trans hS8) (by simp only at hwr; omega) x x1 x2 x3 (xf 2 (by decide)))
          have HX := Lib.hid (runN_succ zs2 (S, Ws) t x hx)
          have HT := Lib.hid hT
          clear hT xf HA2 hwr hx
          go_wp2_with fail
          refine CA.out.mono ?_; rintro e w5 ⟨o5, rfl, h5, s5⟩
          have T5 := Lib.hid (show Tri w w5 o5 p qa qb (S, Ws) (runN zs2 (S, Ws) (t + 1)) (S, Ws) from ⟨HT.out.d.other s5 (by decide), by rw [HX.out]; exact h5, HT.out.b.other s5 (by decide), HT.out.z.step s5 (by decide)⟩)
          clear h5 s5
          go_wp2
          exact ⟨⟨t + 1, o5, by omega, by omega, by go_num, T5.out⟩, by simp [intOf]; omega⟩
        · have HR := Lib.hid (show ∃ o : Nat → Nat, Tri w wr o p qa qb (S, Ws) (runN zs2 (S, Ws) N) (S, Ws) from ⟨o, by rw [show N = t by omega]; exact hT⟩)
          by_cases hc1 : t < len2
          · have c1 : (t : Int) < (len2 : Int) := by omega
            have c2 : (40 : Int) ≤ (t : Int) := by omega
            clear hc hT hN1
            go_wp2
            go_meet
            exact HR.out
          · have c1 : (len2 : Int) ≤ (t : Int) := by omega
            clear hc hT hN1
            go_wp2
            go_meet
            exact HR.out
    case rest =>
      obtain ⟨o5, hT⟩ := hcut
      have T5 := Lib.hid hT
      clear T4 hT
      go_wp2_with fail
      go_loopw [11] (fun i wr => ∃ t : Nat, t ≤ 8 ∧ i = .int .i64 (t : Int) ∧ Tri w wr o5 p qa qb (S, Ws) (runN zs2 (S, Ws) N) (S, Ws)) (fun i _ => 8 - (intOf i).toNat)
      case atStart => exact ⟨0, by omega, rfl, T5.out⟩
      case round =>
        obtain ⟨t, ht, rfl, hT⟩ := hrel
        have T6 := Lib.hid hT
        clear T5 hT
        by_cases hc : t < 8
        · have c1 : (t : Int) < 8 := by omega
          obtain ⟨q, hq⟩ : ∃ q, S[t]? = some q := ⟨_, List.getElem?_eq_getElem (by omega)⟩
          have CB := Lib.hid (d_raw T6.out.b t q hq)
          have CD := Lib.hid (fun W H => d_raw (w := W) (o := o5) (i := 1) (p := p) (Ws := Ws) (S := S) H t q hq)
          simp only at CB
          generalize rawAt Ws t q = R at *
          have xr : (R.toList == R.toList) = true := by simp
          clear hq
          go_wp2_with fail
          refine CB.out.mono ?_; rintro e w7 ⟨rfl, b7⟩
          have T7 := Lib.hid (T6.out.reads b7); clear T6 b7 CB
          go_wp2_with fail
          refine (CD.out _ T7.out.d).mono ?_; rintro e w8 ⟨rfl, b8⟩
          have T8 := Lib.hid (T7.out.reads b8); clear T7 b8
          go_wp2
          exact ⟨⟨t + 1, by omega, by go_num, T8.out⟩, by simp [intOf]; omega⟩
        · have c1 : (8 : Int) ≤ (t : Int) := by omega
          have T9 := Lib.hid (show Tri w wr o5 p qa qb (S, Ws) (runN zs2 (S, Ws) N) (runN zs2 (S, Ws) 0) from T6.out)
          clear T6
          go_upto_block 6 with fail
          go_cut [12] (fun _ wx => ∃ o : Nat → Nat, Tri w wx o p qa qb (S, Ws) (runN zs2 (S, Ws) N) (runN zs2 (S, Ws) N))
          case first =>
            go_wp2_with fail
            go_loopw [12] (fun i wr => ∃ (t : Nat) (o : Nat → Nat), t ≤ len2 ∧ t ≤ 40 ∧ i = .int .i64 (t : Int) ∧ Tri w wr o p qa qb (S, Ws) (runN zs2 (S, Ws) N) (runN zs2 (S, Ws) t)) (fun i _ => len2 - (intOf i).toNat)
            case atStart => exact ⟨0, o5, by omega, by omega, rfl, T9.out⟩
            case round =>
              obtain ⟨t, o, ht, ht2, rfl, hT⟩ := hrel
              clear T9
              by_cases hc : t < len2 ∧ t < 40
              · obtain ⟨hc1, hc2⟩ := hc
                have c1 : (t : Int) < (len2 : Int) := by omega
                have c2 : (t : Int) < 40 := by omega
                have c3 : (0 : Int) ≤ (t : Int) := by omega
                obtain ⟨x, b, off, hx, rfl, k0, k1, k2, k3, x1, x2, x3, xf⟩ := HA2.out.at hT.z t hc1
                have hwr := runN_wr zs2 (S, Ws) t
                have CA := Lib.hid (act_any hT.b ((runN_len zs2 (S, Ws) t).trans hS8) (by simp only at hwr; omega) x x1 x2 x3 (xf 3 (by decide)))
                have HX := Lib.hid (runN_succ zs2 (S, Ws) t x hx)
                have HT := Lib.hid hT
                clear hT xf HA2 hwr hx
                go_wp2_with fail
                refine CA.out.mono ?_; rintro e w5 ⟨o6, rfl, h5, s5⟩
                have T5 := Lib.hid (show Tri w w5 o6 p qa qb (S, Ws) (runN zs2 (S, Ws) N) (runN zs2 (S, Ws) (t + 1)) from ⟨HT.out.d.other s5 (by decide), HT.out.a.other s5 (by decide), by rw [HX.out]; exact h5, HT.out.z.step s5 (by decide)⟩)
                clear h5 s5
                go_wp2
                exact ⟨⟨t + 1, o6, by omega, by omega, by go_num, T5.out⟩, by simp [intOf]; omega⟩
              · have HR := Lib.hid (show ∃ o : Nat → Nat, Tri w _ o p qa qb (S, Ws) (runN zs2 (S, Ws) N) (runN zs2 (S, Ws) N) from ⟨o, by have e := (show N = t by omega); rw [← e] at hT; exact hT⟩)
                by_cases hc1 : t < len2
                · have c1 : (t : Int) < (len2 : Int) := by omega
                  have c2 : (40 : Int) ≤ (t : Int) := by omega
                  clear hc hT hN1
                  go_wp2
                  go_meet
                  exact HR.out
                · have c1 : (len2 : Int) ≤ (t : Int) := by omega
                  clear hc hT hN1
                  go_wp2
                  go_meet
                  exact HR.out
          case rest =>
            obtain ⟨o6, hT⟩ := hcut
            have T10 := Lib.hid hT
            clear T9 hT
            have hE := runN_len zs2 (S, Ws) N
            have hE2 := runN_wr zs2 (S, Ws) N
            simp only at hE hE2
            rw [hS8] at hE
            obtain ⟨E, F, hEF⟩ : ∃ E F, runN zs2 (S, Ws) N = (E, F) := ⟨_, _, rfl⟩
            rw [hEF] at T10 hE hE2
            simp only at hE hE2
            clear hEF
            go_wp2_with fail
            go_loopw [13] (fun i wr => ∃ t : Nat, t ≤ 8 ∧ i = .int .i64 (t : Int) ∧ Tri w wr o6 p qa qb (S, Ws) (E, F) (E, F)) (fun i _ => 8 - (intOf i).toNat)
            case atStart => exact ⟨0, by omega, rfl, T10.out⟩
            case round =>
              obtain ⟨t, ht, rfl, hT⟩ := hrel
              have T6 := Lib.hid hT
              clear T10 hT
              by_cases hc : t < 8
              · have c1 : (t : Int) < 8 := by omega
                obtain ⟨q, hq⟩ : ∃ q, E[t]? = some q := ⟨_, List.getElem?_eq_getElem (by omega)⟩
                have CB := Lib.hid (d_raw T6.out.a t q hq)
                have CD := Lib.hid (fun W H => d_raw (w := W) (o := o6) (i := 3) (p := qb) (Ws := F) (S := E) H t q hq)
                simp only at CB
                generalize rawAt F t q = R at *
                have xr : (R.toList == R.toList) = true := by simp
                clear hq
                go_wp2_with fail
                refine CB.out.mono ?_; rintro e w7 ⟨rfl, b7⟩
                have T7 := Lib.hid (T6.out.reads b7); clear T6 b7 CB
                go_wp2_with fail
                refine (CD.out _ T7.out.b).mono ?_; rintro e w8 ⟨rfl, b8⟩
                have T8 := Lib.hid (T7.out.reads b8); clear T7 b8
                go_wp2
                exact ⟨⟨t + 1, by omega, by go_num, T8.out⟩, by simp [intOf]; omega⟩
              · have c1 : (8 : Int) ≤ (t : Int) := by omega
                go_wp2_with fail
                refine (d_dirty T6.out.a 4 (by simp only; omega)).mono ?_; rintro e w11 ⟨u1, _, rfl, h11, _, _, b11⟩
                have T11 := Lib.hid (T6.out.reads b11)
                obtain ⟨v1, C1, rfl⟩ := h11.ints.len
                clear h11 b11 T6
                simp only
                have hdl : (dirtyOf F).length ≤ 1000 := by simp [dirtyOf]; omega
                go_wp2_with fail
                refine (d_dirty T11.out.b 4 (by simp only; omega)).mono ?_; rintro e w12 ⟨u2, _, rfl, h12, _, _, b12⟩
                have Z12 := Lib.hid (T11.out.reads b12).z
                obtain ⟨v2, C2, rfl⟩ := h12.ints.len
                clear h12 b12 T11
                simp only
                go_wp2_with fail
                refine (CF.out _).mono ?_; rintro e w13 ⟨rfl, b13⟩
                have Z13 := Lib.hid (Z12.out.reads b13); clear b13
                go_wp2
                go_ret
                exact ⟨rfl, Z13.out.bel⟩
end Go.Proofs.Ytapandklbadahaa
