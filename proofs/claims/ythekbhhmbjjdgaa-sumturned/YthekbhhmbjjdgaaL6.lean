/-
  SumTurned: the walk.
-/
import Derived.Test.YthekbhhmbjjdgaaL5
import Derived.StillTailTactics
namespace Go.Proofs.Ythekbhhmbjjdgaa
open Go.RowKit

theorem xor_pow_lt (v : UInt8) (r : Nat) (hr : r < 8) : v.toNat ^^^ 2 ^ r < 256 := by
  have hv := v.toNat_lt
  have hp : 2 ^ r < 2 ^ 8 := Nat.pow_lt_pow_right (a := 2) (by decide) hr
  have : v.toNat ^^^ 2 ^ r < 2 ^ 8 := Nat.xor_lt_two_pow (by omega) hp
  omega
theorem xor_pow (v : UInt8) (r : Nat) (hr : r < 8) : bits .xor .u8 (v.toNat : Int) (IntKind.u8.wrap (2 ^ r)) = ((v.toNat ^^^ 2 ^ r : Nat) : Int) := by
  have hv := v.toNat_lt
  have hp : 2 ^ r < 2 ^ 8 := Nat.pow_lt_pow_right (a := 2) (by decide) hr
  have e : IntKind.u8.wrap (2 ^ r) = ((2 ^ r : Nat) : Int) := by
    have : ((2 : Int) ^ r) = ((2 ^ r : Nat) : Int) := by simp
    rw [this, IntKind.wrap_u8]
    have hz : 2 ^ r < 256 := hp
    generalize 2 ^ r = z at *
    omega
  rw [e, u8_xor_nat _ _ (by omega) (by omega)]
theorem xor_pow_ne (v : UInt8) (r : Nat) : v.toNat ^^^ 2 ^ r ≠ v.toNat := by
  intro h
  have h3 : v.toNat ^^^ (v.toNat ^^^ 2 ^ r) = v.toNat ^^^ v.toNat := by rw [h]
  rw [← Nat.xor_assoc, Nat.xor_self, Nat.zero_xor] at h3
  have : 0 < 2 ^ r := Nat.pow_pos (by decide)
  omega

set_option maxRecDepth 100000 in
set_option maxHeartbeats 1000000 in
theorem turned_walk (s : ByteArray) (hs : s.size ≤ 2 ^ 63 - 1) (a : Int) (w : World) :
    Calls Try.prog 8 #[.string s, .int .i64 a] w fun e w' => e = .returned (.bool true) ∧ Below w.heap.size w w' := by
  have hx : (s.extract 0 300).size ≤ 300 := by rw [ByteArray.size_extract]; omega
  have HX := Lib.hid hx; clear hx
  go_enter Try.func8, Try.ntmps8
  go_upto_region 1 with fail
  go_cut [0] (fun s0 wx => wx = w ∧ ∃ T : ByteArray, s0 = .string T ∧ 1 ≤ T.size ∧ T.size ≤ 301)
  case first =>
    go_wp2
    · go_meet; exact ⟨rfl, _, rfl, by rw [ByteArray.size_append]; exact Nat.le_add_left 1 _, by rw [ByteArray.size_append]; exact Nat.add_le_add_right HX.out 1⟩
    · go_meet; exact ⟨rfl, _, rfl, by rw [ByteArray.size_append]; exact Nat.le_add_left 1 _, by rw [ByteArray.size_append]; exact Nat.add_le_add_right (by omega) 1⟩
  case rest =>
    obtain ⟨rfl, S, rfl, hS0, hS⟩ := hcut
    clear HX hs
    have q1 := i64_and16 a
    obtain ⟨m, hm⟩ := Int.eq_ofNat_of_zero_le (show 0 ≤ a % 65536 by omega)
    rw [hm] at q1
    have hm2 : m < 65536 := by omega
    clear hm
    go_upto_region 3 with fail
    obtain ⟨K, hK⟩ : ∃ K, K = m % (8 * S.size) := ⟨_, rfl⟩
    have hK2 : K < 8 * S.size := by rw [hK]; exact Nat.mod_lt _ (by omega)
    have q2 : (m : Int) % (8 * (S.size : Int)) = (K : Int) := by rw [hK, Int.natCast_emod, Int.natCast_mul]; rfl
    rw [q2]
    clear q1 q2 hm2 hK
    go_cut [6] from 19 to 21 (fun s6 wx => ∃ (C : Nat) (W0 : World), S.size ≤ C ∧ s6 = .slice (some ⟨W0.heap.size, 0, none⟩) S.size C ∧ wx = W0.alloc (.cells (brow (S.data.toList ++ List.replicate (C - S.size) 0)) 5) ∧ Below wc.heap.size wc W0)
    case first =>
      obtain ⟨ib, hi, hz0, hz1, hz2⟩ := Try.info_byte
      obtain ⟨C, hC, H⟩ := run_append_fresh (P := Try.prog) (wc.alloc (.cells #[] 5)) 32 9 32 5 ib Try.underlying32 Try.underlying9 hi hz0 hz1 hz2 ⟨wc.heap.size, 0, none⟩ S (by omega) (by omega)
      have HH := Lib.hid H
      clear H hi hz0 hz1 hz2
      go_wp2_with (at_builtin; refine wpList_append_run rfl (.tmp 19) (.tmp 20) _ _ rfl _ _ rfl rfl _ _ HH.out ?_)
      go_meet
      exact ⟨C, (wc.alloc (.cells #[] 5)).drew, hC, by simp, rfl, ((Below.refl _ _).alloc (Nat.le_refl _) _).drew⟩
    case rest =>
      rename_i wd _ _ _
      obtain ⟨C, W0, hC, rfl, rfl, hb0⟩ := hcut
      have HB0 := Lib.hid hb0; clear hb0
      obtain ⟨q, hq⟩ : ∃ q, q = K / 8 := ⟨_, rfl⟩
      obtain ⟨r, hr⟩ : ∃ r, r = K % 8 := ⟨_, rfl⟩
      have hq2 : q < S.size := by omega
      have hr2 : r < 8 := by omega
      have hl : S.data.toList.length = S.size := by rw [← Lib.size_eq]
      obtain ⟨v, hv⟩ : ∃ v : UInt8, S.data.toList[q]? = some v := ⟨_, List.getElem?_eq_getElem (by omega)⟩
      have hcell : (brow (S.data.toList ++ List.replicate (C - S.size) (0 : UInt8)))[q]? = some (.int .u8 (v.toNat : Int)) := by rw [brow_get, List.getElem?_append_left (by omega), hv]; rfl
      have f1 : IntKind.i64.wrap ((K : Int).tdiv 8) = (q : Int) := by rw [Int.tdiv_eq_ediv_of_nonneg (by omega), IntWalk.i64_in _ (by omega)]; omega
      have f1' : IntKind.i64.wrap ((K : Int) / 8) = (q : Int) := by rw [IntWalk.i64_in _ (by omega)]; omega
      have f3 : (K : Int).tmod 8 = (r : Int) := by rw [Int.tmod_eq_emod_of_nonneg (by omega)]; omega
      clear hq hr
      have hcw : (W0.alloc (.cells (brow (S.data.toList ++ List.replicate (C - S.size) (0 : UInt8))) 5)).cell? ⟨W0.heap.size, q, none⟩ = some (.int .u8 (v.toNat : Int)) := by
        rw [World.cell?_alloc_at _ _ _ _ rfl, hcell]
      go_wp2_with fail
      generalize hWW : W0.alloc (.cells (brow (S.data.toList ++ List.replicate (C - S.size) (0 : UInt8))) 5) = WW at *
      have HWW := Lib.hid hWW; clear hWW
      have HC := Lib.hid hcell; clear hcell
      go_still_tail 13, (by kernel_rfl)
      change wpList _ _ _ _ _ WW.drew
      rw [xor_pow v r hr2]
      generalize IntKind.u8.wrap (2 ^ r) = zz at *
      have hx0 := xor_pow_ne v r
      have hxl := xor_pow_lt v r hr2
      obtain ⟨N, hN⟩ : ∃ N : ByteArray, N = ⟨(S.data.toList.set q (UInt8.ofNat (v.toNat ^^^ 2 ^ r))).toArray⟩ := ⟨_, rfl⟩
      have hNs : N.size = S.size := by rw [hN, Lib.size_eq]; show (S.data.toList.set q _).length = S.size; rw [List.length_set, hl]
      have hNe : crcOf N.data.toList ≠ crcOf S.data.toList := by
        rw [hN]
        refine crcOf_set S.data.toList q _ (by omega) ?_
        intro h
        have hvq : S.data.toList[q]'(by omega) = v := by rw [List.getElem?_eq_getElem (by omega)] at hv; exact Option.some.inj hv
        rw [hvq] at h
        have := congrArg UInt8.toNat h
        rw [UInt8.toNat_ofNat'] at this
        omega
      have c1 := fun w => of_any N w (by omega)
      have c2 := fun w => of_any S w (by omega)
      generalize hxx : v.toNat ^^^ 2 ^ r = x at *
      clear hxx hx0
      have hset := brow_set (S.data.toList ++ List.replicate (C - S.size) 0) q (x : Int) (by omega) (by omega)
      rw [Int.toNat_natCast, List.set_append_left _ _ (by omega)] at hset
      have hstr := run_string_front (P := Try.prog) W0.drew W0.heap.size rfl 32 9 5 S.size C (S.data.toList.set q (UInt8.ofNat x) ++ List.replicate (C - S.size) 0)
        (by rw [List.length_append, List.length_set, hl]; omega) Try.underlying32 Try.underlying5 Try.underlying9
      rw [List.take_left' (by rw [List.length_set, hl]), ← hN] at hstr
      have hstr' : (convert 32 9 (.slice (some ⟨W0.heap.size, 0, none⟩) S.size C)).run Try.prog (W0.alloc (.cells (brow (S.data.toList.set q (UInt8.ofNat x) ++ List.replicate (C - S.size) 0)) 5)).drew =
          .ok (.string N) (W0.alloc (.cells (brow (S.data.toList.set q (UInt8.ofNat x) ++ List.replicate (C - S.size) 0)) 5)).drew := hstr
      rw [← HWW.out]
      have hcell := HC.out
      generalize crcOf N.data.toList = n1 at *
      generalize crcOf S.data.toList = n2 at *
      have hnb : ((n1 : Int) != (n2 : Int)) = true := by rw [bne_iff_ne]; omega
      have C1 := Lib.hid c1; have C2 := Lib.hid c2
      clear c1 c2 hNe hN hNs hstr HC HWW hv hl hcw hxl f1 f1' f3
      generalize S.data.toList.set q (UInt8.ofNat x) ++ List.replicate (C - S.size) 0 = l1 at *
      generalize S.data.toList ++ List.replicate (C - S.size) (0 : UInt8) = l0 at *
      generalize v.toNat = u at *
      go_wp2_with fail
      refine (C1.out _).mono ?_; rintro e w1 ⟨rfl, b1⟩
      have B1 := (HB0.out.alloc HB0.out.size (.cells (brow l1) 5)).drew.trans (b1.mono (by have := HB0.out.size; simp; omega))
      have HB1 := Lib.hid B1
      clear B1 b1 C1 HB0
      go_wp2_with fail
      refine (C2.out _).mono ?_; rintro e w2 ⟨rfl, b2⟩
      have HB2 := Lib.hid (HB1.out.trans (b2.mono HB1.out.size))
      clear b2 C2 HB1
      go_wp2_with fail
      refine (fixed_true _).mono ?_; rintro e w3 ⟨rfl, b3⟩
      go_wp2_with fail
      go_ret
      exact ⟨rfl, HB2.out.trans (b3.mono HB2.out.size)⟩

theorem walk_SumTurned (s : ByteArray) (hs : s.size ≤ maxLen) (a : Int) (_ : (Lit.int .i64 a).wf = true) (w : World) :
    Calls Try.prog 8 #[.string s, .int .i64 a] w fun e w' => e = .returned (.bool true) ∧ Below w.heap.size w w' :=
  turned_walk s hs a w
end Go.Proofs.Ythekbhhmbjjdgaa
