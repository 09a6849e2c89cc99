/-
  The document's pages: the contract of Load.
-/
import Derived.Test.YtdjoiabbchnhaaaR3
namespace Go.Proofs.Ytdjoiabbchnhaaa
open Go.RowKit Go.Shelf

def bitAt (l : List UInt8) (i : Nat) : Bool := (l[i / 8]?.getD 0).toNat.testBit (i % 8)
/-- the pages that bytes tell, the first t of them -/
def bitsTo (l : List UInt8) (n t : Nat) : List Bool := (List.range n).map fun i => decide (i < t) && bitAt l i
theorem bitsTo_length (l : List UInt8) (n t : Nat) : (bitsTo l n t).length = n := by simp [bitsTo]
theorem bitsTo_zero (l : List UInt8) (n : Nat) : bitsTo l n 0 = List.replicate n false := by
  apply List.ext_getElem?
  intro i
  simp only [bitsTo, List.getElem?_map, List.getElem?_replicate]
  by_cases h : i < n
  · rw [List.getElem?_range h, if_pos h]; simp
  · rw [if_neg h, List.getElem?_eq_none (by simp; omega)]; rfl
theorem bitsTo_end (l : List UInt8) (n t : Nat) (h : n ≤ t ∨ l.length ≤ t / 8) : bitsTo l n t = bitsOf l n := by
  apply List.map_congr_left
  intro i hi
  rw [List.mem_range] at hi
  show (decide (i < t) && bitAt l i) = bitAt l i
  by_cases h1 : i < t
  · simp [h1]
  · have h2 : bitAt l i = false := by
      unfold bitAt
      rw [List.getElem?_eq_none (by omega)]
      simp
    rw [h2]; simp
theorem bitsTo_succ (l : List UInt8) (n t : Nat) (h : t < n) : (bitsTo l n t).set t (bitAt l t) = bitsTo l n (t + 1) := by
  apply List.ext_getElem?
  intro i
  rw [List.getElem?_set, bitsTo_length]
  simp only [bitsTo, List.getElem?_map]
  by_cases e : t = i
  · subst e; rw [if_pos rfl, if_pos h, List.getElem?_range h]; simp
  · rw [if_neg e]
    by_cases hi : i < n
    · rw [List.getElem?_range hi]
      simp
      by_cases h1 : i < t
      · simp [h1, show i < t + 1 by omega]
      · simp [h1, show ¬ i < t + 1 by omega]
    · rw [List.getElem?_eq_none (by simp; omega)]; rfl
theorem half_pow (x m : Nat) : x / 2 ^ m / 2 = x / 2 ^ (m + 1) := by rw [Nat.div_div_eq_div_mul, Nat.pow_succ]
theorem bit_val (x m : Nat) : (((x / 2 ^ m : Nat) : Int) % 2 == 1) = x.testBit m := by
  rw [Nat.testBit_eq_decide_div_mod_eq]
  by_cases h : x / 2 ^ m % 2 = 1
  · rw [decide_eq_true h, beq_iff_eq]; omega
  · rw [decide_eq_false h, beq_eq_false_iff_ne]; omega
theorem ba_toList_beq (a b : ByteArray) : (a.toList == b.toList) = decide (a = b) := by
  rw [Lib.toList_data, Lib.toList_data, Bool.eq_iff_iff, beq_iff_eq, decide_eq_true_iff]
  exact ⟨fun h => ByteArray.ext (Array.ext' h), fun h => by rw [h]⟩
set_option maxHeartbeats 1000000 in
theorem rload_arg (s : ByteArray) (n : Int) (w : World) (h : n < 1 ∨ 1024 < n) :
    Calls Try.prog 31 #[.string s, .int .i64 n] w fun e w' => e = .returned (.tuple #[.pointer none, .int .i64 1]) ∧ w = w' := by
  have C1 := Lib.hid (rnew_arg w n h)
  clear h
  go_enter Try.func31, Try.ntmps31
  go_wp2_with (go_at_call 10; refine C1.out.mono ?_; rintro e w' ⟨rfl, rfl⟩)
  go_ret2
  exact ⟨rfl, rfl⟩
set_option maxHeartbeats 1000000 in
theorem rload_any (s : ByteArray) (n : Nat) (w : World) (h1 : 1 ≤ n) (h2 : n ≤ 1024) (hs : s.size ≤ 1000000) :
    Calls Try.prog 31 #[.string s, .int .i64 (n : Int)] w fun e w' =>
      ((okS s.data.toList n ∧ e = .returned (.tuple #[.pointer (some ⟨w.heap.size + 1, 0, none⟩), .int .i64 0]) ∧ IsR w' (w.heap.size + 1) w.heap.size (bitsOf s.data.toList n)) ∨
       (¬ okS s.data.toList n ∧ e = .returned (.tuple #[.pointer none, .int .i64 4]))) ∧ Below w.heap.size w w' := by
  have C1 := Lib.hid (rnew_ok w n h1 h2)
  have hsl : s.data.toList.length = s.size := (Lib.size_eq s).symm
  go_enter Try.func31, Try.ntmps31
  go_wp2_with (go_at_call 10; refine C1.out.mono ?_; rintro e w1 ⟨rfl, H, hb⟩)
  clear C1
  go_loopw [8] (fun i wr => ∃ t : Nat, t ≤ n ∧ i = .int .i64 (t : Int) ∧ IsR wr (w.heap.size + 1) w.heap.size (bitsTo s.data.toList n t) ∧ Below w.heap.size w wr) (fun i _ => n - (intOf i).toNat)
  case atStart => exact ⟨0, by omega, rfl, by rw [bitsTo_zero]; exact H, hb⟩
  case round =>
    clear H hb
    obtain ⟨t, ht, rfl, H, hb⟩ := hrel
    obtain ⟨d, HD⟩ : ∃ d, Hid (t / 8 = d) := ⟨_, rfl⟩
    obtain ⟨r, HR⟩ : ∃ r, Hid (t % 8 = r) := ⟨_, rfl⟩
    have hd : (t : Int) / 8 = (d : Int) := by have := HD.out; omega
    have hr : (t : Int) % 8 = (r : Int) := by have := HR.out; omega
    have hr8 : r < 8 := by have := HR.out; omega
    have HX := Lib.hid H
    have hbH := Lib.hid hb
    have cs := H.cs
    rw [bitsTo_length] at cs
    clear H hb
    by_cases hlt : t < n ∧ d < s.size
    · obtain ⟨hlt, hlt2⟩ := hlt
      have i1 : (t : Int) < (n : Int) := by omega
      have i2 : (d : Int) < (s.size : Int) := by omega
      have t0 : (0 : Int) ≤ (t : Int) := by omega
      have HV := Lib.hid (show bitAt s.data.toList t = (s[d]'hlt2).toNat.testBit r by unfold bitAt; rw [HD.out, HR.out, last_get s d hlt2])
      have hxl := (s[d]'hlt2).toNat_lt
      obtain ⟨x, hx⟩ : ∃ x, (s[d]'hlt2).toNat = x := ⟨_, rfl⟩
      rw [hx] at HV hxl
      go_wp2
      go_loop [9, 10] (fun c k => ∃ m : Nat, m ≤ r ∧ k = .int .i64 (m : Int) ∧ c = .int .i64 ((x / 2 ^ m : Nat) : Int)) (fun _ k => r - (intOf k).toNat)
      case atStart => exact ⟨0, by omega, rfl, by simp⟩
      case round =>
        obtain ⟨m, hm, rfl, rfl⟩ := hrel
        have HP := Lib.hid (half_pow x m)
        have hyl : x / 2 ^ m ≤ x := Nat.div_le_self _ _
        by_cases hmr : m < r
        · obtain ⟨Y, HY⟩ : ∃ Y : Nat, Hid (x / 2 ^ m = Y) := ⟨_, rfl⟩
          rw [HY.out] at HP hyl ⊢
          have m1 : (m : Int) < (r : Int) := by omega
          have y1 : Y ≤ 256 := by omega
          clear hx
          go_wp2
          refine ⟨⟨m + 1, by omega, by go_num, by rw [← HP.out]; go_num⟩, by simp [intOf]; omega⟩
        · obtain rfl : m = r := by omega
          have hbv := bit_val x m
          have HS := Lib.hid (HX.out.set t (x.testBit m))
          rw [← HV.out, bitsTo_succ _ _ _ hlt, HV.out] at HS
          have cb := HX.out.cb t (by rw [bitsTo_length]; exact hlt)
          have fz := HX.out.fz t
          obtain ⟨Y, HY⟩ : ∃ Y : Nat, Hid (x / 2 ^ m = Y) := ⟨_, rfl⟩
          rw [HY.out] at hbv hyl HP ⊢
          have y1 : Y ≤ 256 := by omega
          clear hx HP
          go_wp2
          exact ⟨⟨t + 1, by omega, by go_num, HS.out, hbH.out.setCell (p := ⟨w.heap.size, t, none⟩) (Nat.le_refl _) _⟩, by simp [intOf]; omega⟩
    · have he : bitsTo s.data.toList n t = bitsOf s.data.toList n := bitsTo_end _ _ _ (by rw [hsl, HD.out]; omega)
      rw [he] at HX
      have C2 := Lib.hid (rsave_any wr _ _ _ HX.out)
      by_cases hok : okS s.data.toList n
      · have hpk : (⟨(pack (bitsOf s.data.toList n)).toArray⟩ : ByteArray) = s := by
          rw [show pack (bitsOf s.data.toList n) = s.data.toList from hok]
        rw [hpk] at C2
        have HOK := Lib.hid hok
        clear hok hpk he
        go_wp2_with (go_at_call 23; refine C2.out.mono ?_; rintro e w3 ⟨rfl, hb3⟩)
        all_goals
          go_ret2
          exact ⟨.inl ⟨HOK.out, rfl, HX.out.grew hb3⟩, hbH.out.trans (hb3.mono hbH.out.size)⟩
      · obtain ⟨Q, HQ⟩ : ∃ Q : ByteArray, Hid ((⟨(pack (bitsOf s.data.toList n)).toArray⟩ : ByteArray) = Q) := ⟨_, rfl⟩
        have hne : Q ≠ s := fun e => hok (by
          have h3 := HQ.out.trans e
          have h4 := congrArg (fun z : ByteArray => z.data.toList) h3
          show pack (bitsOf s.data.toList n) = s.data.toList
          simpa using h4)
        rw [HQ.out] at C2
        have n1 : (Q.toList == s.toList) = false := by rw [ba_toList_beq]; simp [hne]
        have n2 : (Q.toList != s.toList) = true := by rw [bne, n1]; rfl
        have HOK := Lib.hid hok
        clear hok he hne
        go_wp2_with (go_at_call 23; refine C2.out.mono ?_; rintro e w3 ⟨rfl, hb3⟩)
        all_goals
          go_ret2
          exact ⟨.inr ⟨HOK.out, rfl⟩, hbH.out.trans (hb3.mono hbH.out.size)⟩
end Go.Proofs.Ytdjoiabbchnhaaa
