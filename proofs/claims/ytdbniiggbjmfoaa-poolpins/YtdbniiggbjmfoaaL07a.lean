/-
  PoolPins, walked.
-/
import Derived.Test.YtdbniiggbjmfoaaA07
namespace Go.Proofs.Ytdbniiggbjmfoaa
open Go.RowKit Go.MapKept

structure Inv1 (n k : Nat) (p : PoolP) : Prop where
  pn : p.n = n
  len : p.L.length = min k n
  all : ∀ a ∈ p.L, a.first = 0 ∧ a.pins = 1 ∧ a.page < min k n
  zero : 0 < k → ∃ a ∈ p.L, a.page = 0
structure Inv2 (n c : Nat) (p : PoolP) : Prop where
  pn : p.n = n
  len : p.L.length = n
  all : ∀ a ∈ p.L, a.first = 0 ∧ a.page < n ∧ (a.page ≠ 0 → a.pins = 1)
  zero : ∃ a ∈ p.L, a.page = 0 ∧ a.pins = c
section
variable {S : List ByteArray} {Ws : Wrs} {p : PoolP} {n : Nat}
theorem pp_room (_h : PI S Ws p) (hS : S.length = 16) (k : Nat) (hk : k < n) (hn : n ≤ 8) (I : Inv1 n k p) : pinE S p k = 0 ∧ Inv1 n (k + 1) (pinL S Ws p k) := by
  have hno : ∀ a ∈ p.L, a.page ≠ k := fun a ha => by have := (I.all a ha).2.2; omega
  have hl := I.len
  have hln : p.L.length ≠ p.n := by rw [I.pn]; omega
  obtain ⟨e1, _, e3, _⟩ := pin_room (S := S) (Ws := Ws) (p := p) (k := k) (by omega) hno hln
  refine ⟨e1, ?_⟩
  rw [e3]
  refine ⟨I.pn, by simp; omega, fun a ha => ?_, fun _ => ?_⟩
  · rcases List.mem_append.1 ha with ha | ha
    · have := I.all a ha; exact ⟨this.1, this.2.1, by omega⟩
    · obtain rfl := List.mem_singleton.1 ha
      exact ⟨rfl, rfl, by show k < _; omega⟩
  · by_cases h0 : 0 < k
    · obtain ⟨a, ha, h⟩ := I.zero h0; exact ⟨a, List.mem_append_left _ ha, h⟩
    · exact ⟨_, List.mem_append_right _ (List.mem_singleton.2 rfl), by show k = 0; omega⟩
theorem pp_full (hn1 : 1 ≤ n) (hS : S.length = 16) (k : Nat) (hk : n ≤ k) (hk2 : k < 16) (I : Inv1 n k p) : pinE S p k = 6 ∧ pinL S Ws p k = p ∧ pinW S Ws p k = Ws ∧ Inv1 n (k + 1) p := by
  have hl := I.len
  obtain ⟨e1, _, e3, e4⟩ := pin_full (S := S) (Ws := Ws) (p := p) (k := k) (by omega) (fun a ha => by have := (I.all a ha).2.2; omega) (by rw [I.pn]; omega) (fun a ha => by unfold Pl.goes; simp [(I.all a ha).2.1])
  refine ⟨e1, e3, e4, I.pn, by omega, fun a ha => ?_, fun _ => I.zero ?_⟩
  · have := I.all a ha; exact ⟨this.1, this.2.1, by omega⟩
  · omega
theorem inv12 (_h : PI S Ws p) (hn1 : 1 ≤ n) (hn : n ≤ 8) (I : Inv1 n 16 p) : Inv2 n 1 p := by
  have hm : min 16 n = n := by omega
  obtain ⟨a, ha, h0⟩ := I.zero (by omega)
  exact ⟨I.pn, by rw [I.len, hm], fun a ha => by have := I.all a ha; rw [hm] at this; exact ⟨this.1, this.2.2, fun _ => this.2.1⟩, a, ha, h0, (I.all a ha).2.1⟩
theorem pp_pins {c : Nat} (h : PI S Ws p) (I : Inv2 n c p) : pinsN p 0 = c := by
  obtain ⟨a, ha, h0, hc⟩ := I.zero
  have f := findP_mem h.I.nd ha
  rw [h0] at f
  unfold pinsN
  rw [show (0 : Int) = ((0 : Nat) : Int) from rfl, f]
  exact hc
theorem pp_more {c : Nat} (h : PI S Ws p) (hS : S.length = 16) (_hn1 : 1 ≤ n) (I : Inv2 n c p) : pinE S p 0 = 0 ∧ Inv2 n (c + 1) (pinL S Ws p 0) ∧ pinsN (pinL S Ws p 0) 0 = c + 1 := by
  obtain ⟨a, ha, h0, hc⟩ := I.zero
  obtain ⟨e1, _, e3, _⟩ := pin_held (S := S) (Ws := Ws) h.I.nd ha (by omega)
  rw [h0] at e1 e3
  have hp := pi_pin h 0
  have J : Inv2 n (c + 1) (pinL S Ws p ((0 : Nat) : Int)) := by
    rw [e3]
    have hl := cutP_length h.I.nd ha
    rw [h0] at hl
    refine ⟨I.pn, by rw [List.length_append, List.length_singleton, hl]; exact I.len, fun b hb => ?_, _, List.mem_append_right _ (List.mem_singleton.2 rfl), h0, by show a.pins + 1 = _; omega⟩
    rcases List.mem_append.1 hb with hb | hb
    · exact I.all b (mem_cutP.1 hb).1
    · obtain rfl := List.mem_singleton.1 hb
      have := I.all a ha
      exact ⟨this.1, this.2.1, fun hne => absurd h0 hne⟩
  exact ⟨e1, J, pp_pins hp J⟩
theorem pp_less {c : Nat} (h : PI S Ws p) (I : Inv2 n (c + 1) p) : unE p 0 = 0 ∧ Inv2 n c (unL p 0) := by
  have hp := pp_pins h I
  have e1 : unE p 0 = 0 := (unE_iff 0).2 (by omega)
  obtain ⟨a, ha, h0, hc⟩ := I.zero
  refine ⟨e1, ?_⟩
  have e2 : unL p 0 = { p with L := updP p.L 0 Pl.less } := if_pos e1
  rw [e2]
  refine ⟨I.pn, by rw [updP_length]; exact I.len, fun b hb => ?_, a.less, List.mem_map.2 ⟨a, ha, by rw [if_pos (by rw [h0]; rfl)]⟩, h0, by show a.pins - 1 = c; omega⟩
  rcases mem_updP hb with ⟨hb, _⟩ | ⟨b', hb', hk, rfl⟩
  · exact I.all b hb
  · have := I.all b' hb'
    exact ⟨this.1, this.2.1, fun hne => absurd (by show b'.page = 0; omega) hne⟩
theorem pp_last (h : PI S Ws p) (hS : S.length = 16) (hn : n ≤ 8) (I : Inv2 n 0 p) : unE p 0 = 9 ∧ unL p 0 = p ∧ pinE S p 15 = 0 ∧ pinsN (pinL S Ws p 15) 0 = 0 := by
  obtain ⟨a, ha, h0, hc⟩ := I.zero
  have f := findP_mem h.I.nd ha
  rw [h0] at f
  have e1 : unE p 0 = 9 := by
    unfold unE
    rw [show (0 : Int) = ((0 : Nat) : Int) from rfl, f]
    simp only
    rw [if_pos hc]
  have hg : a.goes p.sure = true := by unfold Pl.goes Pl.dirty; simp [hc, (I.all a ha).1]
  have hno : ∀ b ∈ p.L, b.page ≠ 15 := fun b hb => by have := (I.all b hb).2.1; omega
  obtain ⟨b, hb⟩ : ∃ b, p.L.find? (Pl.goes p.sure) = some b := by
    cases hf : p.L.find? (Pl.goes p.sure) with
    | none => have := List.find?_eq_none.1 hf a ha; rw [hg] at this; simp at this
    | some b => exact ⟨b, rfl⟩
  obtain ⟨e3, _, _, _⟩ := pin_swap (S := S) (Ws := Ws) (p := p) (k := 15) (by omega) hno (by rw [I.len, I.pn]) hb
  refine ⟨e1, unL_no (by rw [e1]; decide), e3, ?_⟩
  rw [pins_pin h 15 e3 0, if_neg (by decide)]
  exact pp_pins h I
end
set_option maxRecDepth 100000 in
set_option maxHeartbeats 8000000 in
theorem walk_PoolPins (places : Int) (_h0 : (Lit.int .i64 places).wf = true) (times : Int) (_h1 : (Lit.int .u8 times).wf = true) (w : World) :
    Calls Try.prog 6 #[.int .i64 places, .int .u8 times] w fun e w' => e = .returned (.bool true) ∧ Below w.heap.size w w' := by
  have e7 := and7' places
  obtain ⟨r, hr⟩ : ∃ r, pg8 places = r := ⟨_, rfl⟩
  have hr8 := pg8_lt places
  rw [hr] at e7 hr8
  obtain ⟨n, hn⟩ : ∃ n, 1 + r = n := ⟨_, rfl⟩
  have hnI : 1 + (r : Int) = (n : Int) := by omega
  have hn1 : 1 ≤ n := by omega
  have hn8 : n ≤ 8 := by omega
  have ht0 : 0 ≤ times := by
    have e1 : IntKind.u8.min = 0 := by decide
    simp only [Lit.wf, e1, Bool.and_eq_true, decide_eq_true_eq] at _h1; exact _h1.1
  have ht1 : times ≤ 255 := by
    have e1 : IntKind.u8.max = 255 := by decide
    simp only [Lit.wf, e1, Bool.and_eq_true, decide_eq_true_eq] at _h1; exact _h1.2
  obtain ⟨tm, rfl⟩ : ∃ tm : Nat, times = (tm : Int) := ⟨times.toNat, by omega⟩
  obtain ⟨t, ht⟩ : ∃ t, tm % 9 = t := ⟨_, rfl⟩
  have htl : t < 9 := by omega
  have htI : (tm : Int) % 9 = (t : Int) := by omega
  have CN := Lib.hid fun (W : World) => dnew_ok W (fun _ => 0) 1 16 (by omega) (by omega)
  have hS : (List.replicate 16 blank).length = 16 := by simp
  have CP := Lib.hid fun (W : World) o p (D : IsD W o 1 p (List.replicate 16 blank) []) => pd_new D 2 n (by decide) hn1 (by omega)
  have CF := Lib.hid fixed7
  have HSL := Lib.hid hS
  clear _h0 _h1 hr hn hS ht hr8
  generalize List.replicate 16 blank = S at *
  go_enter Try.func6, Try.ntmps6
  go_wp2_with fail
  refine (CN.out _).mono ?_; rintro e w1 ⟨pd, o1, rfl, h1, s1⟩
  have D1 := Lib.hid h1; have Z1 := Lib.hid ((Since.start w).step s1 (by decide)); clear h1 s1 CN
  go_wp2_with fail
  refine (CP.out _ _ _ D1.out).mono ?_; rintro e w2 ⟨g, rfl, o2, h2, s2, _⟩
  have P2 := Lib.hid h2; have Z2 := Lib.hid (Z1.out.step s2 (by decide)); clear h2 s2 CP D1 Z1
  go_wp2_with fail
  go_loopw [10] (fun u wr => ∃ (k : Nat) (o : Nat → Nat) (Ws : Wrs) (p : PoolP), k ≤ 16 ∧ u = .int .i64 (k : Int) ∧ Since w o wr ∧ PD wr o 1 pd 2 g S Ws p k ∧ Inv1 n k p) (fun u _ => 16 - (intOf u).toNat)
  case atStart => exact ⟨0, _, _, _, by omega, rfl, Z2.out, P2.out, ⟨rfl, by simp, by simp, by omega⟩⟩
  case round =>
    obtain ⟨k, o, Ws, p, hk, rfl, hZ, hP, hI⟩ := hrel
    have HZ := Lib.hid hZ; have HP := Lib.hid hP; have HI := Lib.hid hI
    clear Z2 P2 hZ hP hI
    by_cases hlt : k < 16
    · have hlt' : (k : Int) < 16 := by omega
      have C := Lib.hid (pd_pin HP.out (by omega) (k : Int))
      by_cases hkn : k < n
      · obtain ⟨f1, f2⟩ := pp_room HP.out.I HSL.out k hkn hn8 HI.out
        rw [f1] at C
        have HF := Lib.hid f2
        have hkn' : (k : Int) < (n : Int) := by omega
        generalize pinS S Ws p (k : Int) = sx at *
        clear f1 f2
        go_wp2_with fail
        refine C.out.mono ?_; rintro e w3 ⟨rfl, o3, h3, m3⟩
        have P3 := Lib.hid h3; have Z3 := Lib.hid (HZ.out.moves m3 two0)
        clear h3 m3 C
        go_wp2_with fail
        exact ⟨⟨k + 1, _, _, _, by omega, by go_num, Z3.out, P3.out, HF.out⟩, by simp [intOf]; omega⟩
      · obtain ⟨f1, f2, f3, f4⟩ := pp_full (Ws := Ws) hn1 HSL.out k (by omega) hlt HI.out
        rw [f1, f2, f3] at C
        have HF := Lib.hid f4
        have hkn' : ¬ (k : Int) < (n : Int) := by omega
        generalize pinS S Ws p (k : Int) = sx at *
        clear f1 f2 f3 f4
        go_wp2_with fail
        refine C.out.mono ?_; rintro e w3 ⟨rfl, o3, h3, m3⟩
        have P3 := Lib.hid h3; have Z3 := Lib.hid (HZ.out.moves m3 two0)
        clear h3 m3 C
        go_wp2_with fail
        exact ⟨⟨k + 1, _, _, _, by omega, by go_num, Z3.out, P3.out, HF.out⟩, by simp [intOf]; omega⟩
    · have hk16 : k = 16 := by omega
      have hge : (16 : Int) ≤ (k : Int) := by omega
      have HI2 := Lib.hid (inv12 HP.out.I hn1 hn8 (by have := HI.out; rwa [hk16] at this))
      have HP2 := Lib.hid (show PD wr o 1 pd 2 g S Ws p 16 by have := HP.out; rwa [hk16] at this)
      clear HI HP hk16 hlt hk
      go_wp2_with fail
      rw [htI]
      go_loopw [14] (fun u wr => ∃ (i : Nat) (o : Nat → Nat) (Ws : Wrs) (p : PoolP), i ≤ t ∧ u = .int .i64 (i : Int) ∧ Since w o wr ∧ PD wr o 1 pd 2 g S Ws p (16 + i) ∧ Inv2 n (i + 1) p) (fun u _ => t - (intOf u).toNat)
      case atStart => exact ⟨0, _, _, _, by omega, rfl, HZ.out, HP2.out, HI2.out⟩
      case round =>
        obtain ⟨i, o', Ws', p', hi, rfl, hZ, hP, hI⟩ := hrel
        have HZ3 := Lib.hid hZ; have HP3 := Lib.hid hP; have HI3 := Lib.hid hI
        clear HZ HP2 HI2 hZ hP hI
        by_cases hlt : i < t
        · have hlt' : (i : Int) < (t : Int) := by omega
          have C := Lib.hid (pd_pin HP3.out (by omega) 0)
          obtain ⟨f1, f2, f3⟩ := pp_more HP3.out.I HSL.out hn1 HI3.out
          rw [f1] at C
          have HF := Lib.hid f2
          have CPn := Lib.hid (fun W o (h : PD W o 1 pd 2 g S (pinW S Ws' p' 0) (pinL S Ws' p' 0) (16 + i + 1)) => pd_pins h 0)
          rw [f3] at CPn
          have ei : ((i + 1 + 1 : Nat) : Int) = (i : Int) + 2 := by omega
          rw [ei] at CPn
          generalize pinS S Ws' p' 0 = sx at *
          clear f1 f2 f3 ei
          have i0 : (0 : Int) ≤ (i : Int) := by omega
          have i9 : (i : Int) < 9 := by omega
          go_wp2_with fail
          refine C.out.mono ?_; rintro e w3 ⟨rfl, o3, h3, m3⟩
          have P3 := Lib.hid h3; have Z3 := Lib.hid (HZ3.out.moves m3 two0)
          clear h3 m3 C
          go_wp2_with fail
          refine (CPn.out _ _ P3.out).mono ?_; rintro e _ ⟨rfl, rfl⟩
          go_wp2_with fail
          exact ⟨⟨i + 1, _, _, _, by omega, by go_num, Z3.out, P3.out, HF.out⟩, by simp [intOf]; omega⟩
        · have hit : i = t := by omega
          have hge2 : (t : Int) ≤ (i : Int) := by omega
          have hge3 : decide (i < t) = false := decide_eq_false (by omega)
          have HI4 := Lib.hid (show Inv2 n (t + 1) p' by have := HI3.out; rwa [hit] at this)
          have HP4 := Lib.hid (show PD wr o' 1 pd 2 g S Ws' p' (16 + t) by have := HP3.out; rwa [hit] at this)
          clear HI3 HP3 hit hlt hi
          go_wp2_with fail
          go_loopw [17] (fun u wr => ∃ (x : Nat) (o : Nat → Nat) (Ws : Wrs) (p : PoolP), x ≤ t + 1 ∧ u = .int .i64 (x : Int) ∧ Since w o wr ∧ PD wr o 1 pd 2 g S Ws p (16 + t + x) ∧ Inv2 n (t + 1 - x) p) (fun u _ => t + 1 - (intOf u).toNat)
          case atStart => exact ⟨0, _, _, _, by omega, rfl, HZ3.out, HP4.out, HI4.out⟩
          case round =>
            obtain ⟨x, o5, Ws5, p5, hx, rfl, hZ, hP, hI⟩ := hrel
            have HZ5 := Lib.hid hZ; have HP5 := Lib.hid hP; have HI5 := Lib.hid hI
            clear HZ3 HP4 HI4 hZ hP hI
            by_cases hlt : x ≤ t
            · have hlt' : (x : Int) ≤ (t : Int) := by omega
              have C := Lib.hid (pd_unpin HP5.out (by omega) 0)
              obtain ⟨f1, f2⟩ := pp_less (c := t - x) HP5.out.I (by have := HI5.out; rwa [show t + 1 - x = t - x + 1 by omega] at this)
              rw [f1] at C
              have HF := Lib.hid (show Inv2 n (t + 1 - (x + 1)) (unL p5 0) by rw [show t + 1 - (x + 1) = t - x by omega]; exact f2)
              clear f1 f2
              go_wp2_with fail
              refine C.out.mono ?_; rintro e w3 ⟨rfl, o3, h3, m3⟩
              have P3 := Lib.hid h3; have Z3 := Lib.hid (HZ5.out.moves m3 two0)
              clear h3 m3 C
              go_wp2_with fail
              exact ⟨⟨x + 1, _, _, _, by omega, by go_num, Z3.out, P3.out, HF.out⟩, by simp [intOf]; omega⟩
            · have hgt : ¬ (x : Int) ≤ (t : Int) := by omega
              obtain ⟨f1, f2, f3, f4⟩ := pp_last (Ws := Ws5) HP5.out.I HSL.out hn8 (by have := HI5.out; rwa [show t + 1 - x = 0 by omega] at this)
              have C := pd_unpin HP5.out (by omega) 0
              rw [f1, f2] at C
              have HC := Lib.hid C
              have C2 := Lib.hid (fun W o (h : PD W o 1 pd 2 g S Ws5 p5 (16 + t + x + 1)) => pd_pin h (by omega) 15)
              rw [f3] at C2
              have C3 := Lib.hid (fun W o (h : PD W o 1 pd 2 g S (pinW S Ws5 p5 15) (pinL S Ws5 p5 15) (16 + t + x + 1 + 1)) => pd_pins h 0)
              rw [f4] at C3
              clear f1 f2 f3 f4 C
              generalize pinS S Ws5 p5 15 = sx at *
              go_wp2_with fail
              refine HC.out.mono ?_; rintro e w3 ⟨rfl, o3, h3, m3⟩
              have P3 := Lib.hid h3; have Z3 := Lib.hid (HZ5.out.moves m3 two0)
              clear h3 m3 HC
              go_wp2_with fail
              refine (C2.out _ _ P3.out).mono ?_; rintro e w4 ⟨rfl, o4, h4, m4⟩
              have P4 := Lib.hid h4; have Z4 := Lib.hid (Z3.out.moves m4 two0)
              clear h4 m4 C2 P3 Z3
              go_wp2_with fail
              refine (C3.out _ _ P4.out).mono ?_; rintro e _ ⟨rfl, rfl⟩
              go_wp2_with fail
              refine (CF.out _).mono ?_; rintro e w6 ⟨rfl, b6⟩
              have Z6 := Lib.hid (Z4.out.reads b6)
              clear b6 CF
              go_wp2_with fail
              go_ret
              exact ⟨by simp, Z6.out.bel⟩
end Go.Proofs.Ytdbniiggbjmfoaa
