/-
  DiskDoes: the walk.
-/
import Derived.Test.YtbenaagooankbaaL6
namespace Go.Proofs.Ytbenaagooankbaa
open Go.RowKit Go.ChangeMaps

theorem six : (⟨#[115, 112, 111, 105, 108, 116]⟩ : ByteArray).size ≤ 252 := by decide
section
variable {w0 w w' : World} {o o' : Nat → Nat} {i j k p q : Nat} {S : List ByteArray} {Ws : Wrs}
/-- whatever page: both read the same -/
theorem duo_read (h : Duo w0 w o i j p q S Ws) (hW : Ws.length ≤ 1000) (x : Int) : ∃ (s : ByteArray) (e : Int),
    (∀ W, Duo w0 W o i j p q S Ws → Calls Try.prog 16 #[.pointer (some ⟨p, 0, none⟩), .int .i64 x] W fun en w' => en = .returned (.tuple #[.string s, .int .i64 e]) ∧ Below W.heap.size W w') ∧
    (∀ W, Duo w0 W o i j p q S Ws → Calls Try.prog 17 #[.pointer (some ⟨q, 0, none⟩), .int .i64 x] W fun en w' => en = .returned (.tuple #[.string s, .int .i64 e]) ∧ Below W.heap.size W w') := by
  by_cases hx : x < 0 ∨ (S.length : Int) ≤ x
  · exact ⟨_, _, fun W H => d_read_out H.d x hx, fun W H => (rread_out H.r x hx).mono fun e w' ⟨h1, h2⟩ => ⟨h1, by subst h2; exact Below.refl _ _⟩⟩
  · obtain ⟨k, rfl⟩ : ∃ k : Nat, x = (k : Int) := ⟨x.toNat, by omega⟩
    obtain ⟨s, hs⟩ : ∃ s, S[k]? = some s := ⟨_, List.getElem?_eq_getElem (by omega)⟩
    exact ⟨_, _, fun W H => d_read H.d k s hs, fun W H => rread_in H.r k s hs (by omega)⟩
theorem duo_raw (h : Duo w0 w o i j p q S Ws) (hW : Ws.length ≤ 1000) (x : Int) : ∃ (s : ByteArray),
    (∀ W, Duo w0 W o i j p q S Ws → Calls Try.prog 18 #[.pointer (some ⟨p, 0, none⟩), .int .i64 x] W fun en w' => en = .returned (.string s) ∧ Below W.heap.size W w') ∧
    (∀ W, Duo w0 W o i j p q S Ws → Calls Try.prog 19 #[.pointer (some ⟨q, 0, none⟩), .int .i64 x] W fun en w' => en = .returned (.string s) ∧ W = w') := by
  by_cases hx : x < 0 ∨ (S.length : Int) ≤ x
  · exact ⟨_, fun W H => d_raw_out H.d x hx, fun W H => rraw_out H.r x hx⟩
  · obtain ⟨k, rfl⟩ : ∃ k : Nat, x = (k : Int) := ⟨x.toNat, by omega⟩
    obtain ⟨s, hs⟩ : ∃ s, S[k]? = some s := ⟨_, List.getElem?_eq_getElem (by omega)⟩
    exact ⟨_, fun W H => d_raw H.d k s hs, fun W H => rraw_in H.r k s hs (by omega)⟩
end
set_option maxRecDepth 100000 in
set_option maxHeartbeats 4000000 in
theorem walk_DiskDoes (pages : Int) (hpg : (Lit.int .i64 pages).wf = true) (a1 : Option Addr) (len1 cap1 : Nat) (zs1 : List OpA) (w : World) (ha1 : ArgOps w a1 len1 zs1) (hl1 : len1 ≤ maxLen) :
    Calls Try.prog 3 #[.int .i64 pages, .slice a1 len1 cap1] w fun e w' => e = .returned (.bool true) ∧ Below w.heap.size w w' := by
  have CF := Lib.hid fixed_true
  have HA1 := Lib.hid ha1; clear ha1 hpg
  have hm1 : (len1 : Int) ≤ 9223372036854775807 := by simp [maxLen] at hl1; omega
  obtain ⟨m, hm⟩ : ∃ m : Nat, pages % 16 = (m : Int) := ⟨(pages % 16).toNat, by omega⟩
  have e15 : bits .and .i64 pages 15 = (m : Int) := by rw [i64_and15, hm]
  have hm0 : (0 : Int) ≤ (m : Int) := by omega
  have hm15 : (m : Int) ≤ 15 := by omega
  obtain ⟨n, hn⟩ : ∃ n : Nat, 1 + (m : Int) = (n : Int) := ⟨1 + m, by omega⟩
  have hn1 : 1 ≤ n := by omega
  have hn2 : n ≤ 16 := by omega
  have hn3 : (n : Int) ≤ 16 := by omega
  clear hm
  have CN := Lib.hid (dnew_ok w (fun _ => 0) 1 n (by omega) (by omega))
  have CR := Lib.hid (fun W o => rnew_ok W o 2 n (by omega) (by omega))
  have en : (List.replicate n blank).length = n := by simp
  generalize List.replicate n blank = S0 at *
  go_enter Try.func3, Try.ntmps3
  go_wp2_with fail
  refine CN.out.mono ?_; rintro e w1 ⟨p0, o1, rfl, h1, s1⟩
  have D1 := Lib.hid h1; have Z1 := Lib.hid ((Since.start w).step s1 (by decide)); clear h1 s1 CN
  go_wp2_with fail
  refine (CR.out _ o1).mono ?_; rintro e w2 ⟨q0, o2, rfl, h2, s2⟩
  have U2 := Lib.hid (show Duo w w2 o2 1 2 p0 q0 S0 [] from ⟨D1.out.other s2 (by decide), h2, Z1.out.step s2 (by decide), by decide, by decide, by decide⟩)
  clear h2 s2 D1 Z1 CR e15 hn
  go_wp2_with fail
  go_loopw [6, 8, 10] (fun dv rv c wr => ∃ (t : Nat) (o : Nat → Nat) (i j p q : Nat) (S : List ByteArray) (Ws : Wrs), t ≤ len1 ∧ t ≤ 60 ∧ dv = .pointer (some ⟨p, 0, none⟩) ∧ rv = .pointer (some ⟨q, 0, none⟩) ∧ c = .int .i64 (t : Int) ∧ S.length = n ∧ Ws.length ≤ t ∧ Duo w wr o i j p q S Ws) (fun _ _ c _ => len1 - (intOf c).toNat)
  case atStart => exact ⟨0, o2, 1, 2, p0, q0, S0, [], by omega, by omega, rfl, rfl, rfl, en, by simp, U2.out⟩
  case round =>
    obtain ⟨t, o, i, j, p, q, S, Ws, ht, ht2, rfl, rfl, rfl, hSn, hWl, hU⟩ := hrel
    clear U2
    by_cases hc : t < len1 ∧ t < 60
    · obtain ⟨hc1, hc2⟩ := hc
      have c1 : (t : Int) < (len1 : Int) := by omega
      have c2 : (t : Int) < 60 := by omega
      have c3 : (0 : Int) ≤ (t : Int) := by omega
      have HU := Lib.hid hU
      obtain ⟨x, b, off, rfl, k0, k1, k2, k3, x1, x2, x3, xf⟩ := HA1.out.got hU.z t hc1
      have HXF := Lib.hid xf
      obtain ⟨xk, xp, xs, xfa, xfl, xfc, xfs⟩ := x
      dsimp only at k0 k1 k2 k3 x1 x2 x3 HXF
      clear xf hU
      -- ahead of play: both disks, perhaps copied
      go_upto_if 59 with fail
      go_cut [6, 8] (fun dv rv wx => ∃ (o : Nat → Nat) (i j p q : Nat), dv = .pointer (some ⟨p, 0, none⟩) ∧ rv = .pointer (some ⟨q, 0, none⟩) ∧ Duo w wx o i j p q S Ws)
      case first =>
        clear k1 k2 k3
        by_cases hk : xk = 3
        · subst hk
          have hi0 := HU.out.i0; have hj0 := HU.out.j0
          go_wp2_with fail
          refine (d_copy HU.out.d (i + j + 1) (by omega)).mono ?_; rintro e w3 ⟨p', o3, rfl, hc3, hd3, s3, _⟩
          have R3 := Lib.hid (HU.out.r.other s3 (by omega)); have C3 := Lib.hid hc3; have D3 := Lib.hid hd3; have Z3 := Lib.hid (HU.out.z.step s3 (by omega))
          clear hc3 hd3 s3 k0
          go_wp2_with fail
          refine (rcopy_any R3.out (i + j + 2) (by omega) (by omega)).mono ?_; rintro e w4 ⟨q', o4, rfl, hr4, s4⟩
          have R4 := Lib.hid hr4; have C4 := Lib.hid (C3.out.other s4 (by omega)); have D4 := Lib.hid (D3.out.other s4 (by omega)); have Z4 := Lib.hid (Z3.out.step s4 (by omega))
          clear hr4 s4 R3 C3 D3 Z3
          go_wp2_with fail
          refine (d_write D4.out 0 (by omega) _ six (by omega)).mono ?_; rintro e w5 ⟨o5, rfl, h5, s5⟩
          have R5 := Lib.hid (R4.out.other s5 (by omega)); have C5 := Lib.hid (C4.out.other s5 (by omega)); have D5 := Lib.hid h5; have Z5 := Lib.hid (Z4.out.step s5 hi0)
          clear h5 s5 R4 C4 D4 Z4
          go_wp2_with fail
          refine (d_sync D5.out (by simp; omega)).mono ?_; rintro e w6 ⟨rfl, h6, s6⟩
          have U6 := Lib.hid (show Duo w w6 o5 (i + j + 1) (i + j + 2) p' q' S Ws from ⟨C5.out.other s6 (by omega), R5.out.other s6 (by omega), Z5.out.step s6 hi0, by omega, by omega, by omega⟩)
          clear h6 s6 R5 C5 D5 Z5
          go_wp2
          go_meet
          exact ⟨_, _, _, p', q', rfl, rfl, U6.out⟩
        · have g3 : (xk == 3) = false := by rw [beq_eq_false_iff_ne]; exact hk
          clear hk
          go_wp2
          go_meet
          exact ⟨_, _, _, p, q, rfl, rfl, HU.out⟩
      case rest =>
        obtain ⟨o7, i7, j7, p7, q7, rfl, rfl, hU7⟩ := hcut
        clear k0 k1 k2 k3 HU HXF x1 x2 x3
        obtain ⟨x, b2, off2, eA, k0, k1, k2, k3, x1, x2, x3, xf⟩ := HA1.out.got hU7.z t hc1
        obtain ⟨rfl, rfl⟩ : b = b2 ∧ off = off2 := by simpa using eA
        have CP := Lib.hid (play_any hU7 (by omega) x x1 x2 x3 xf)
        obtain ⟨yk, yp, ys, yfa, yfl, yfc, yfs⟩ := x
        dsimp only at k0 k1 k2 k3 CP
        clear xf eA x1 x2 x3 hU7
        go_wp2_with fail
        refine CP.out.mono ?_; rintro e w8 ⟨o8, S8, W8, rfl, hU8, hS8, hW8⟩
        have U8 := Lib.hid hU8
        have hi0 := hU8.i0; have hj0 := hU8.j0
        clear hU8 CP k0 k1 k2 k3
        have hSn8 : S8.length = n := by omega
        clear hS8 hSn
        have hW60 : W8.length ≤ t + 1 := by omega
        clear hW8
        go_wp2_with fail
        refine (d_dirty U8.out.d (i7 + j7 + 1) (by omega)).mono ?_; rintro e w9 ⟨u9, o9, rfl, h9, s9, _, _⟩
        have U9 := Lib.hid (U8.out.other s9 (by omega) (by omega) (by omega)); have V9 := Lib.hid h9
        clear h9 s9 U8
        go_wp2_with fail
        refine (rdirty_any U9.out.r (i7 + j7 + 2) (by omega) (by omega)).mono ?_; rintro e w10 ⟨v10, o10, rfl, h10, s10⟩
        have U10 := Lib.hid (U9.out.other s10 (by omega) (by omega) (by omega)); have V10 := Lib.hid (show OInts w10 o10 _ u9 _ from Row.other V9.out s10 (by omega)); have X10 := Lib.hid h10
        clear h10 s10 U9 V9
        go_wp2_with fail
        refine (ints_eq _ _ _ (dirtyOf W8) V10.out.ints X10.out.ints (by simp [dirtyOf]; omega)).mono ?_; rintro e w11 ⟨rfl, b11⟩
        have U11 := Lib.hid (U10.out.reads b11)
        clear b11 U10 V10 X10
        have CL := Lib.hid (d_len U11.out.d)
        rw [hSn8] at CL
        go_wp2_with fail
        refine CL.out.mono ?_; rintro e w12 ⟨rfl, rfl⟩
        clear CL
        go_wp2_with fail
        go_loopw [12] (fun c wr => ∃ z : Int, -1 ≤ z ∧ z ≤ (n : Int) + 1 ∧ c = .int .i64 z ∧ Duo w wr o10 i7 j7 p7 q7 S8 W8) (fun c _ => ((n : Int) + 1 - intOf c).toNat)
        case atStart => exact ⟨-1, by omega, by omega, rfl, U11.out⟩
        case round =>
          obtain ⟨z, hz1, hz2, rfl, hU12⟩ := hrel
          have U12 := Lib.hid hU12
          clear U11
          by_cases hz : z ≤ (n : Int)
          · obtain ⟨R, E, CA, CB⟩ := duo_read hU12 (by omega) z
            obtain ⟨R2, CC, CD⟩ := duo_raw hU12 (by omega) z
            have HCA := Lib.hid CA; have HCB := Lib.hid CB; have HCC := Lib.hid CC; have HCD := Lib.hid CD
            clear CA CB CC CD hU12
            have xr : (R.toList == R.toList) = true := by simp
            have xq : (R2.toList == R2.toList) = true := by simp
            go_wp2_with fail
            refine (HCA.out _ U12.out).mono ?_; rintro e y1 ⟨rfl, b1⟩
            have R1 := Lib.hid (U12.out.reads b1); clear U12 b1 HCA
            go_wp2_with fail
            refine (HCB.out _ R1.out).mono ?_; rintro e y2 ⟨rfl, b2⟩
            have RR2 := Lib.hid (R1.out.reads b2); clear R1 b2 HCB
            go_wp2_with fail
            refine (HCC.out _ RR2.out).mono ?_; rintro e y3 ⟨rfl, b3⟩
            have R3 := Lib.hid (RR2.out.reads b3); clear RR2 b3 HCC
            go_wp2_with fail
            refine (HCD.out _ R3.out).mono ?_; rintro e y4 ⟨rfl, rfl⟩
            clear HCD
            go_wp2
            exact ⟨⟨z + 1, by omega, by omega, rfl, R3.out⟩, by simp [intOf]; omega⟩
          · have hzn : (n : Int) < z := by omega
            clear hz hU12
            go_wp2
            first
              | exact ⟨⟨t + 1, o10, i7, j7, p7, q7, S8, W8, by omega, by omega, rfl, rfl, by go_num, hSn8, hW60, U12.out⟩, by simp [intOf]; omega⟩
              | (refine ⟨?_, by simp [intOf]; omega⟩; (repeat apply Exists.intro); exact ⟨⟨t + 1, o10, i7, j7, p7, q7, S8, W8, by omega, by omega, rfl, rfl, by go_num, hSn8, hW60, U12.out⟩, rfl⟩)
    · have HZ := Lib.hid hU.z
      by_cases hc1 : t < len1
      · have c1 : (t : Int) < (len1 : Int) := by omega
        have c2 : (60 : Int) ≤ (t : Int) := by omega
        clear hc hU
        go_wp2_with fail
        refine (CF.out _).mono ?_; rintro e w16 ⟨rfl, b16⟩
        have Z16 := Lib.hid (HZ.out.reads b16); clear b16
        go_wp2
        go_ret
        exact ⟨rfl, Z16.out.bel⟩
      · have c1 : (len1 : Int) ≤ (t : Int) := by omega
        clear hc hU
        go_wp2_with fail
        refine (CF.out _).mono ?_; rintro e w16 ⟨rfl, b16⟩
        have Z16 := Lib.hid (HZ.out.reads b16); clear b16
        go_wp2
        go_ret
        exact ⟨rfl, Z16.out.bel⟩
end Go.Proofs.Ytbenaagooankbaa
