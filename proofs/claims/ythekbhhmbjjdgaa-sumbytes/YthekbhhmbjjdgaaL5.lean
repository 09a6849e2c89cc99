/-
  SumBytes: the walk.
-/
import Derived.Test.YthekbhhmbjjdgaaS6
import Derived.OpenShut
import Derived.Deep.DeepCutAuto
namespace Go.Proofs.Ythekbhhmbjjdgaa
open Go.RowKit

theorem i64_and16 (n : Int) : bits .and .i64 n 65535 = n % 65536 := by
  have h7 : (BitVec.ofInt 64 65535).toNat = 2 ^ 16 - 1 := by decide
  have key : (BitVec.ofInt 64 n &&& BitVec.ofInt 64 65535).toNat = (n % ((2 ^ 64 : Nat) : Int)).toNat % 2 ^ 16 := by
    rw [BitVec.toNat_and, BitVec.toNat_ofInt, h7, Nat.and_two_pow_sub_one_eq_mod]
  show IntKind.i64.wrap ((BitVec.ofInt 64 n &&& BitVec.ofInt 64 65535).toNat : Nat) = n % 65536
  rw [key, IntKind.wrap_i64]
  omega

section
variable {P : Program}
/-- append([]byte{}, s...): a new row -/
theorem run_append_fresh (w : World) (t u ty e : TypeId) (i : TypeInfo) (ht : P.underlying t = some (.slice e)) (hu : P.underlying u = some .string) (hi : P.info? e = some i) (hz : i.zero = some (.int .u8 0)) (hs1 : i.size = 1) (hb : i.bytes = 1)
    (g : Addr) (s : ByteArray) (h0 : 0 < s.size) (hs : s.size ≤ 1000000) : ∃ C, s.size ≤ C ∧
    (Builtin.append_ #[t, u] ty #[.slice (some g) 0 0, .string s]).run P w =
      .ok (.slice (some ⟨w.heap.size, 0, none⟩) s.size C) (w.drew.alloc (.cells (brow (s.data.toList ++ List.replicate (C - s.size) 0)) e)) := by
  have h := Lib.run_append_grow_string (P := P) w t u ty e i (.int .u8 0) ht hu hi hz g 0 0 [] (by simp) (by simp) s (by omega) (by omega) (by rw [hb]; exact growslice_fits (by omega) (by omega))
  rw [Nat.zero_add] at h
  refine ⟨grownCap w s.size 0 e, grownCap_ge w s.size 0 e, ?_⟩
  rw [h]
  congr 3
  apply Array.ext'
  simp [brow, Lib.byteCells, Lib.strCells, Builtin.zeroCells, Value.cells]
  rw [List.eq_replicate_iff]
  refine ⟨by simp, ?_⟩
  intro b hb
  rw [List.mem_map] at hb
  obtain ⟨j, _, rfl⟩ := hb
  simp [Nat.mod_one]
/-- string(b), b the first part of the newest row -/
theorem run_string_front (w : World) (g : Nat) (hg : g = w.heap.size) (src dst e : TypeId) (n c : Nat) (l : List UInt8) (hl : n ≤ l.length) (hs : P.underlying src = some (.slice e)) (he : P.underlying e = some (.int .u8)) (hd : P.underlying dst = some .string) :
    (convert src dst (.slice (some ⟨g, 0, none⟩) n c)).run P (w.alloc (.cells (brow l) e)) = .ok (.string ⟨(l.take n).toArray⟩) (w.alloc (.cells (brow l) e)) := by
  subst hg
  have hn : (l.take n).length = n := by rw [List.length_take]; omega
  have h := run_convert_bytes_back (P := P) (w.alloc (.cells (brow l) e)) src dst e ⟨w.heap.size, 0, none⟩ c (l.take n) hs he hd ?_
  · rw [hn] at h; exact h
  · intro j hj
    have ea : Addr.add ⟨w.heap.size, 0, none⟩ j = ⟨w.heap.size, j, none⟩ := by simp [Addr.add]; exact fun h => h.symm
    rw [hn] at hj
    rw [ea, World.cell?_alloc_at _ _ _ _ rfl, brow_get, List.getElem?_eq_getElem (by omega), List.getElem_take]; rfl
end

theorem turned (S : ByteArray) (hS : S.size ≤ 252) (N : ByteArray) (k : Nat) (v : UInt8) (y : Nat) (hk : k < 256) (hy : y ≤ 255) (hv : (pageOf S).data.toList[k]? = some v)
    (hN : N.data.toList = (pageOf S).data.toList.set k (UInt8.ofNat (v.toNat ^^^ y))) : N.size = 256 ∧ (y = 0 → okPage N = true) ∧ (y ≠ 0 → okPage N = false) := by
  have hl : (pageOf S).data.toList.length = 256 := by rw [← Lib.size_eq]; exact pageOf_size S hS
  have hvl := v.toNat_lt
  refine ⟨by rw [Lib.size_eq, hN, List.length_set, hl], ?_, ?_⟩
  · intro h0
    have e : N = pageOf S := by
      apply ba_ext
      rw [hN]
      apply List.ext_getElem?
      intro i
      rw [List.getElem?_set]
      by_cases hi : k = i
      · subst hi
        rw [if_pos rfl, if_pos (by omega), h0, Nat.xor_zero, hv, UInt8.ofNat_toNat]
      · rw [if_neg hi]
    rw [e]; exact okPage_pageOf S hS
  · intro h0
    refine okPage_set S hS N k _ hk hN ?_
    rw [hv]
    intro h
    have hx : v.toNat ^^^ y < 2 ^ 8 := Nat.xor_lt_two_pow (by omega) (by omega)
    have h2 : v.toNat = v.toNat ^^^ y := by
      have := congrArg UInt8.toNat (Option.some.inj h)
      rw [UInt8.toNat_ofNat'] at this
      omega
    have h3 : v.toNat ^^^ v.toNat = v.toNat ^^^ (v.toNat ^^^ y) := by rw [← h2]
    rw [← Nat.xor_assoc, Nat.xor_self, Nat.zero_xor] at h3
    exact h0 h3.symm

set_option maxRecDepth 100000 in
set_option maxHeartbeats 1000000 in
theorem bytes_walk (s : ByteArray) (hs : s.size ≤ 2 ^ 63 - 1) (a : Int) (y : Nat) (hy : y ≤ 255) (w : World) :
    Calls Try.prog 5 #[.string s, .int .i64 a, .int .u8 y] w fun e w' => e = .returned (.bool true) ∧ Below w.heap.size w w' := by
  have hx : (s.extract 0 252).size ≤ 252 := by rw [ByteArray.size_extract]; omega
  have HX := Lib.hid hx; clear hx
  go_enter Try.func5, Try.ntmps5
  go_upto_region 1 with fail
  go_cut [0] (fun s0 wx => wx = w ∧ ∃ T : ByteArray, s0 = .string T ∧ T.size ≤ 252)
  case first =>
    go_wp2
    · go_meet; exact ⟨rfl, _, rfl, HX.out⟩
    · go_meet; exact ⟨rfl, _, rfl, by omega⟩
  case rest =>
    obtain ⟨rfl, S, rfl, hS⟩ := hcut
    clear HX hs
    have c1 := fun w => seal_ok S w hS
    have hP := pageOf_size S hS
    have q1 := i64_and16 a
    obtain ⟨m, hm⟩ := Int.eq_ofNat_of_zero_le (show 0 ≤ a % 65536 by omega)
    rw [hm] at q1
    have hm2 : m < 65536 := by omega
    obtain ⟨k, hk⟩ : ∃ k, k = m % 256 := ⟨_, rfl⟩
    have hk2 : k < 256 := by omega
    have q2 : (m : Int) % 256 = (k : Int) := by omega
    clear hm hk
    generalize hPP : pageOf S = P at *
    have HPP := Lib.hid hPP; clear hPP
    have C1 := Lib.hid c1; clear c1
    go_wp2_with fail
    refine (C1.out _).mono ?_; rintro e w1 ⟨rfl, b1⟩
    have HB1 := Lib.hid b1; clear b1 C1
    go_upto_region 6 with fail
    rw [q2]
    clear q1 q2 hm2
    go_cut [10] from 33 to 35 (fun s10 wx => ∃ (C : Nat) (W0 : World), 256 ≤ C ∧ s10 = .slice (some ⟨W0.heap.size, 0, none⟩) 256 C ∧ wx = W0.alloc (.cells (brow (P.data.toList ++ List.replicate (C - 256) 0)) 5) ∧ Below wc.heap.size wc W0)
    case first =>
      obtain ⟨ib, hi, hz0, hz1, hz2⟩ := Try.info_byte
      obtain ⟨C, hC, H⟩ := run_append_fresh (P := Try.prog) (w1.alloc (.cells #[] 5)) 32 9 32 5 ib Try.underlying32 Try.underlying9 hi hz0 hz1 hz2 ⟨w1.heap.size, 0, none⟩ P (by omega) (by omega)
      rw [hP] at H hC
      have HH := Lib.hid H
      clear H hi hz0 hz1 hz2
      go_wp2_with (at_builtin; refine wpList_append_run rfl (.tmp 33) (.tmp 34) _ _ rfl _ _ rfl rfl _ _ HH.out ?_)
      go_meet
      exact ⟨C, (w1.alloc (.cells #[] 5)).drew, hC, by simp, rfl, ((HB1.out.alloc HB1.out.size _)).drew⟩
    case rest =>
      obtain ⟨C, W0, hC, rfl, rfl, hb0⟩ := hcut
      have HB0 := Lib.hid hb0; clear hb0 HB1
      have hl : P.data.toList.length = 256 := by rw [← Lib.size_eq]; exact hP
      obtain ⟨v, hv⟩ : ∃ v : UInt8, P.data.toList[k]? = some v := ⟨_, List.getElem?_eq_getElem (by omega)⟩
      have hcell : (brow (P.data.toList ++ List.replicate (C - 256) (0 : UInt8)))[k]? = some (.int .u8 (v.toNat : Int)) := by rw [brow_get, List.getElem?_append_left (by omega), hv]; rfl
      have hvl := v.toNat_lt
      have hxl : v.toNat ^^^ y < 2 ^ 8 := Nat.xor_lt_two_pow (by omega) (by omega)
      have q3 := u8_xor_nat v.toNat y (by omega) (by omega)
      have hset := brow_set (P.data.toList ++ List.replicate (C - 256) 0) k ((v.toNat ^^^ y : Nat) : Int) (by omega) (by omega)
      rw [Int.toNat_natCast, List.set_append_left _ _ (by omega)] at hset
      have hstr := run_string_front (P := Try.prog) W0 W0.heap.size rfl 32 9 5 256 C (P.data.toList.set k (UInt8.ofNat (v.toNat ^^^ y)) ++ List.replicate (C - 256) 0)
        (by rw [List.length_append, List.length_set, hl]; omega) Try.underlying32 Try.underlying5 Try.underlying9
      rw [List.take_left' (by rw [List.length_set, hl])] at hstr
      obtain ⟨N, hN⟩ : ∃ N : ByteArray, N = ⟨(P.data.toList.set k (UInt8.ofNat (v.toNat ^^^ y))).toArray⟩ := ⟨_, rfl⟩
      rw [← hN] at hstr
      have hNl : N.data.toList = (pageOf S).data.toList.set k (UInt8.ofNat (v.toNat ^^^ y)) := by rw [hN, HPP.out]
      rw [← HPP.out] at hv
      obtain ⟨t1, t2, t3⟩ := turned S hS N k v y hk2 hy hv hNl
      have T1 := Lib.hid t1; have T2 := Lib.hid t2; have T3 := Lib.hid t3
      clear t1 t2 t3 hNl hN hv hl HPP hP hS
      generalize P.data.toList.set k (UInt8.ofNat (v.toNat ^^^ y)) ++ List.replicate (C - 256) 0 = l1 at *
      generalize P.data.toList ++ List.replicate (C - 256) (0 : UInt8) = l0 at *
      generalize v.toNat ^^^ y = x at *
      generalize v.toNat = u at *
      by_cases hy0 : y = 0
      · have c2 := fun w => open_ok N w T1.out (T2.out hy0)
        generalize N.extract 0 252 = N0 at *
        have C2 := Lib.hid c2
        have hyb : ((y : Int) == 0) = true := by rw [beq_iff_eq]; omega
        clear hy0 c2 T1 T2 T3
        go_wp2_with fail
        refine (C2.out _).mono ?_; rintro e w2 ⟨rfl, b2⟩
        have B2 := (HB0.out.alloc HB0.out.size (.cells (brow l1) 5)).trans (b2.mono (by have := HB0.out.size; simp; omega))
        have HB2 := Lib.hid B2
        clear B2 b2 C2
        go_wp2_with fail
        refine (fixed_true _).mono ?_; rintro e w3 ⟨rfl, b3⟩
        go_wp2_with fail
        go_ret
        exact ⟨rfl, HB2.out.trans (b3.mono HB2.out.size)⟩
      · have C2 := Lib.hid fun w => open_sum N w T1.out (T3.out hy0)
        have hyb : ((y : Int) == 0) = false := by rw [beq_eq_false_iff_ne]; omega
        clear hy0 T1 T2 T3
        go_wp2_with fail
        refine (C2.out _).mono ?_; rintro e w2 ⟨rfl, b2⟩
        have B2 := (HB0.out.alloc HB0.out.size (.cells (brow l1) 5)).trans (b2.mono (by have := HB0.out.size; simp; omega))
        have HB2 := Lib.hid B2
        clear B2 b2 C2
        go_wp2_with fail
        refine (fixed_true _).mono ?_; rintro e w3 ⟨rfl, b3⟩
        go_wp2_with fail
        go_ret
        exact ⟨rfl, HB2.out.trans (b3.mono HB2.out.size)⟩

theorem walk_SumBytes (s : ByteArray) (hs : s.size ≤ maxLen) (a : Int) (_ : (Lit.int .i64 a).wf = true) (y : Int) (hy : (Lit.int .u8 y).wf = true) (w : World) :
    Calls Try.prog 5 #[.string s, .int .i64 a, .int .u8 y] w fun e w' => e = .returned (.bool true) ∧ Below w.heap.size w w' := by
  have hb := bounds_u8 hy
  obtain ⟨v, rfl⟩ := Int.eq_ofNat_of_zero_le hb.1
  exact bytes_walk s hs a v (by omega) w
end Go.Proofs.Ythekbhhmbjjdgaa
