/-
  Package lock: Ask.
-/
import Derived.Test.YtainnhcmhgloaaaGreatDoorK09d
import Derived.Test.YtainnhcmhgloaaaGreatDoorW09f
namespace Go.Proofs.YtainnhcmhgloaaaGreatDoor
open Go.RowKit Go.Shelf Go.MapKept Go.Maps Go.Sort

/-- what Ask tells, and who has what and waits for what behind it -/
inductive AskS (H W : Hs) (x : Int) (nm : ByteArray) (m : Int) : Nat → Hs → Hs → Prop
  | arg (h : ¬ (0 ≤ x ∧ 0 < m ∧ m < 7)) : AskS H W x nm m 1 H W
  | state (h : 0 ≤ x ∧ 0 < m ∧ m < 7) (y : Has9) (hy : y ∈ W) (e : y.owner = x) : AskS H W x nm m 9 H W
  | has (h : 0 ≤ x ∧ 0 < m ∧ m < 7) (no : ∀ y ∈ W, y.owner ≠ x) (e : jn (modeP H x nm) m.toNat 7 = modeP H x nm) : AskS H W x nm m 0 H W
  | got (h : 0 ≤ x ∧ 0 < m ∧ m < 7) (no : ∀ y ∈ W, y.owner ≠ x) (ne : jn (modeP H x nm) m.toNat 7 ≠ modeP H x nm) (hn : modeP H x nm ≠ 0 ∨ nameL W nm = []) (hc : canP H ⟨x, jn (modeP H x nm) m.toNat 7, nm⟩ = true) :
      AskS H W x nm m 0 (holdP H ⟨x, jn (modeP H x nm) m.toNat 7, nm⟩) W
  | dead (h : 0 ≤ x ∧ 0 < m ∧ m < 7) (no : ∀ y ∈ W, y.owner ≠ x) (ne : jn (modeP H x nm) m.toNat 7 ≠ modeP H x nm) (hn : ¬ ((modeP H x nm ≠ 0 ∨ nameL W nm = []) ∧ canP H ⟨x, jn (modeP H x nm) m.toNat 7, nm⟩ = true))
      (hd : Bqs H (stayAt H ⟨x, jn (modeP H x nm) m.toNat 7, nm⟩ (decide (modeP H x nm ≠ 0)) W) x x) : AskS H W x nm m 11 H W
  | wait (h : 0 ≤ x ∧ 0 < m ∧ m < 7) (no : ∀ y ∈ W, y.owner ≠ x) (ne : jn (modeP H x nm) m.toNat 7 ≠ modeP H x nm) (hn : ¬ ((modeP H x nm ≠ 0 ∨ nameL W nm = []) ∧ canP H ⟨x, jn (modeP H x nm) m.toNat 7, nm⟩ = true))
      (hd : ¬ Bqs H (stayAt H ⟨x, jn (modeP H x nm) m.toNat 7, nm⟩ (decide (modeP H x nm ≠ 0)) W) x x) : AskS H W x nm m 10 H (stayAt H ⟨x, jn (modeP H x nm) m.toNat 7, nm⟩ (decide (modeP H x nm ≠ 0)) W)
theorem jn_pos : ∀ a, a < 7 → ∀ b, b < 7 → 0 < b → 0 < jn a b 7 := by decide +kernel
section
variable {w w' : World} {o o' : Nat → Nat} {i j g m1 m2 m3 : Nat} {N N1 N2 : List En} {HL : List Ho} {WL H W : Hs} {n0 : ByteArray} {e : En}
theorem IsT.qslice (T : IsT w o j g m1 m2 m3 N HL WL) (he : e ∈ N) : ∃ a c, e.qv = .slice a e.q.length c := by
  obtain ⟨ua, un, uc, hqv⟩ := (T.er e he).isSlice
  have hun : un = e.q.length := by
    have := (T.er e he).row.2
    rw [hqv] at this
    rcases this with ⟨h1, h2⟩ | ⟨g', cap, cur, h1, _⟩
    · cases h1; exact h2.symm
    · cases h1; rfl
  exact ⟨ua, uc, by rw [hqv, hun]⟩
set_option maxRecDepth 100000 in
set_option maxHeartbeats 1000000 in
theorem c_Ask_arg (x m : Int) (nm : ByteArray) (h : ¬ (0 ≤ x ∧ 0 < m ∧ m < 7)) : Calls Tryz.prog 18 #[ptr9 g, .int .i64 x, .string nm, .int .i64 m] w fun r w' => r = .returned (.int .i64 1) ∧ w = w' := by
  unfold ptr9
  by_cases hx : x < 0
  · clear h
    go_enter Tryz.func18, Tryz.ntmps18
    go_wp2_with fail
    go_ret
    exact ⟨rfl, rfl⟩
  · have C := c_isLock m w
    rw [decide_eq_false (fun hm => h ⟨by omega, hm⟩)] at C
    have HC := Lib.hid C
    clear C h
    go_enter Tryz.func18, Tryz.ntmps18
    go_wp2_with fail
    refine HC.out.mono ?_; rintro r w1 ⟨rfl, rfl⟩
    go_wp2_with fail
    go_ret
    exact ⟨rfl, rfl⟩
set_option maxRecDepth 100000 in
set_option maxHeartbeats 1000000 in
theorem c_Ask_state (T : IsT w o j g m1 m2 m3 N HL WL) (x m : Int) (nm : ByteArray) (h : 0 ≤ x ∧ 0 < m ∧ m < 7) {y : Has9} (hy : y ∈ WL) (hx : y.owner = x) : Calls Tryz.prog 18 #[ptr9 g, .int .i64 x, .string nm, .int .i64 m] w fun r w' => r = .returned (.int .i64 9) ∧ Below w.heap.size w w' := by
  have lk := T.lookWait hy true
  simp only [if_true] at lk
  rw [hx] at lk
  have g2 : w.cell? ⟨g, 2, none⟩ = some (.map (some m3)) := T.hp.cell 2
  have C := c_isLock m w
  rw [decide_eq_true h.2] at C
  have HC := Lib.hid C
  have hx0 : ¬ x < 0 := by omega
  clear C T hy hx h
  unfold ptr9
  generalize y.name = yn at *
  generalize ((y.mode : Nat) : Int) = ym at *
  go_enter Tryz.func18, Tryz.ntmps18
  go_wp2_with fail
  refine HC.out.mono ?_; rintro r w1 ⟨rfl, rfl⟩
  go_wp2_with fail
  go_ret
  exact ⟨rfl, (Below.refl _ w).alloc (Nat.le_refl _) _⟩
set_option maxRecDepth 100000 in
set_option maxHeartbeats 1000000 in
theorem c_Ask_has (T : IsT w o j g m1 m2 m3 N HL WL) (A : Abs N HL WL H W ⟨#[]⟩ []) (hL : Laid9 w) (x : Int) (m : Nat) (nm : ByteArray) (h : 0 ≤ x ∧ 0 < m ∧ m < 7) (hno : ∀ y ∈ WL, y.owner ≠ x) (e : jn (modeP H x nm) m 7 = modeP H x nm) :
    Calls Tryz.prog 18 #[ptr9 g, .int .i64 x, .string nm, .int .i64 (m : Int)] w fun r w' => r = .returned (.int .i64 0) ∧ Below w.heap.size w w' := by
  have lk := T.lookNoWait x hno true
  simp only [if_true] at lk
  have g2 : w.cell? ⟨g, 2, none⟩ = some (.map (some m3)) := T.hp.cell 2
  have C := c_isLock (m : Int) w
  rw [decide_eq_true (show 0 < (m : Int) ∧ (m : Int) < 7 by omega)] at C
  have HC := Lib.hid C
  have hx0 : ¬ x < 0 := by omega
  have CM := Lib.hid (fun (w1 : World) (b : Below w.heap.size w w1) => c_Mode (⟨⟨m1, m2, m3, N, HL, WL, T.reads b, A⟩⟩ : T9 w1 o j g H W) x nm)
  have CJ := Lib.hid (fun (w1 : World) (b : Below w.heap.size w w1) => by
    have := c_joined (modeP H x nm) m (modeP_lt A.ok x nm) h.2.2 w1 (hL.step b)
    rw [e] at this; exact this)
  clear C T A hL hno h e
  generalize ((modeP H x nm : Nat) : Int) = r0 at *
  generalize ((m : Nat) : Int) = mi at *
  unfold ptr9 at *
  go_enter Tryz.func18, Tryz.ntmps18
  go_wp2_with fail
  refine HC.out.mono ?_; rintro r w1 ⟨rfl, rfl⟩
  go_wp2_with fail
  have hB := (Below.refl w.heap.size w).alloc (Nat.le_refl _) (.cells #[.string ⟨#[]⟩, .int .i64 0] 41)
  refine (CM.out _ hB).mono ?_; rintro r w2 ⟨rfl, rfl⟩
  go_wp2_with fail
  refine (CJ.out _ hB).mono ?_; rintro r w3 ⟨rfl, b3⟩
  go_wp2_with fail
  go_ret
  exact ⟨rfl, hB.trans (b3.mono hB.size)⟩
theorem IsT.drewB (T : IsT w o j g m1 m2 m3 N HL WL) (b : Below w.heap.size w w') : IsT w' o j g m1 m2 m3 N HL WL := T.reads b
set_option maxRecDepth 100000 in
set_option maxHeartbeats 4000000 in
theorem c_Ask_go (T : IsT w o j g m1 m2 m3 N HL WL) (A : Abs N HL WL H W ⟨#[]⟩ []) (hL : Laid9 w) (h0 : o 0 ≠ j) (hB : H.length + W.length ≤ 800) (hAh : Ahead H W) (x : Int) (hx9 : x ≤ 9223372036854775807) (m : Nat) (nm : ByteArray) (hnm : nm.size ≤ 300) (h : 0 ≤ x ∧ 0 < m ∧ m < 7) (hno : ∀ y ∈ WL, y.owner ≠ x) (ne : jn (modeP H x nm) m 7 ≠ modeP H x nm) :
    Calls Tryz.prog 18 #[ptr9 g, .int .i64 x, .string nm, .int .i64 (m : Int)] w fun r w' => ∃ k : Nat, r = .returned (.int .i64 (k : Int)) ∧ ∃ H' W' o', AskS H W x nm (m : Int) k H' W' ∧ T9 w' o' j g H' W' ∧ Stp o j w o' w' := by
  have lk := T.lookNoWait x hno true
  simp only [if_true] at lk
  have g2 : w.cell? ⟨g, 2, none⟩ = some (.map (some m3)) := T.hp.cell 2
  have C := c_isLock (m : Int) w
  rw [decide_eq_true (show 0 < (m : Int) ∧ (m : Int) < 7 by omega)] at C
  have HC := Lib.hid C
  have hx0 : ¬ x < 0 := by omega
  have h7 := modeP_lt A.ok x nm
  have CM := Lib.hid (fun (w1 : World) (b : Below w.heap.size w w1) => c_Mode (⟨⟨m1, m2, m3, N, HL, WL, T.reads b, A⟩⟩ : T9 w1 o j g H W) x nm)
  have CJ := Lib.hid (fun (w1 : World) (b : Below w.heap.size w w1) => c_joined (modeP H x nm) m h7 h.2.2 w1 (hL.step b))
  have CE := Lib.hid (fun (w1 : World) (b : Below w.heap.size w w1) => c_entryOf (T.reads b) A nm hnm)
  have hxm : 0 < x ∨ x = 0 := by omega
  have wt7 : jn (modeP H x nm) m 7 < 7 := jn_lt _ _ _ (by omega)
  have wt0 : 0 < jn (modeP H x nm) m 7 := jn_pos _ h7 _ h.2.2 h.2.1
  have hnoW : ∀ y ∈ W, y.owner ≠ x := fun y hy => hno y (A.wm.mem_iff.2 hy)
  have hh : 0 ≤ x ∧ 0 < (m : Int) ∧ (m : Int) < 7 := by omega
  have hmt : ((m : Int)).toNat = m := by omega
  have AG := Lib.hid (fun hn hc => AskS.got (H := H) (W := W) (x := x) (nm := nm) (m := (m : Int)) hh hnoW (by rw [hmt]; exact ne) hn (by rw [hmt]; exact hc))
  have AD := Lib.hid (fun hn hd => AskS.dead (H := H) (W := W) (x := x) (nm := nm) (m := (m : Int)) hh hnoW (by rw [hmt]; exact ne) (by rw [hmt]; exact hn) (by rw [hmt]; exact hd))
  have AW := Lib.hid (fun hn hd => AskS.wait (H := H) (W := W) (x := x) (nm := nm) (m := (m : Int)) hh hnoW (by rw [hmt]; exact ne) (by rw [hmt]; exact hn) (by rw [hmt]; exact hd))
  rw [hmt] at AG AW
  have hne : ((jn (modeP H x nm) m 7 : Nat) : Int) ≠ ((modeP H x nm : Nat) : Int) := by omega
  have HH := Lib.hid (show _ ∧ _ ∧ _ ∧ _ ∧ _ ∧ _ ∧ _ from ⟨hL, h0, hB, hAh, hnoW, wt7, wt0⟩)
  have HX := Lib.hid (show 0 ≤ x ∧ x ≤ 9223372036854775807 from ⟨h.1, hx9⟩)
  have HNM := Lib.hid hnm
  clear C T A hL hno h ne wt7 wt0 hnoW hh hmt hB hAh h0 hxm h7 hx9 hnm
  generalize hhs0 : modeP H x nm = hs0 at *
  have HHS := Lib.hid hhs0
  clear hhs0
  generalize hwant : jn hs0 m 7 = want at *
  clear hwant
  generalize hwi : ((want : Nat) : Int) = wi at *
  have HWI := Lib.hid hwi
  clear hwi
  generalize ((hs0 : Nat) : Int) = r0 at *
  generalize ((m : Nat) : Int) = mi at *
  unfold ptr9 at *
  go_enter Tryz.func18, Tryz.ntmps18
  go_wp2_with fail
  refine HC.out.mono ?_; rintro r w1 ⟨rfl, rfl⟩
  go_wp2_with fail
  have hB := (Below.refl w.heap.size w).alloc (Nat.le_refl _) (.cells #[.string ⟨#[]⟩, .int .i64 0] 41)
  refine (CM.out _ hB).mono ?_; rintro r w2 ⟨rfl, rfl⟩
  go_wp2_with fail
  refine (CJ.out _ hB).mono ?_; rintro r w3 ⟨rfl, b3⟩
  go_wp2_with fail
  have hB3 := hB.trans (b3.mono hB.size)
  refine (CE.out _ hB3).mono ?_; rintro r w4 ⟨b, rfl, N1, e, N2, o4, rfl, hen, T4, A4, S4⟩
  have S04 := (Stp.ofBelow hB3 o j).trans S4
  clear hB hB3 b3 CM CJ CE HC lk g2
  subst hen
  have he : e ∈ N1 ++ e :: N2 := by simp
  have hnd := hs_nodup (T4.eh e he)
  obtain ⟨qa, qc, hqv⟩ := T4.qslice he
  obtain ⟨hL0, h0, hBd, hAh, hnoW, wt7, wt0⟩ := HH.out
  have hbd := A4.bounds he
  have hL4 := hL0.stp S04 h0
  have hql : e.q.length ≤ 1000 := by rw [A4.q_len he, List.length_map]; have := List.length_filter_le (fun h : Has9 => decide (h.name = e.name)) W; unfold nameL; omega
  have hnx : (decide (hsM e.hs x ≠ 0) || decide (e.q.length = 0)) = decide (hs0 ≠ 0 ∨ nameL W e.name = []) := by
    rw [A4.mode he hnd x, HHS.out, A4.q_len he, List.length_map, ← Bool.decide_or]
    exact decide_eq_decide.2 (by rw [List.length_eq_zero_iff])
  have CN := c_isNext e.q.length qa qc (by have := T4.eb e he; unfold encs at this; rw [hqv] at this; exact this) (T4.eh e he) x
  rw [hnx] at CN
  have CC := Lib.hid (fun (w5 : World) (b : Below w4.heap.size w4 w5) => by
    have := c_canHave ((T4.reads b).eb e he) ((T4.reads b).eh e he) (by omega) hbd.1 hbd.2.1 x want wt7 (hL4.step b)
    rw [A4.can he hnd x want wt7, HWI.out] at this
    exact this)
  have CH := Lib.hid (fun (w5 : World) (b : Below w4.heap.size w4 w5) => by
    have := c_hold (T4.reads b) A4 x want ⟨wt0, wt7⟩ HX.out HNM.out
    rw [HWI.out] at this
    exact this)
  have CW := Lib.hid (fun (w5 : World) (b : Below w4.heap.size w4 w5) => by
    have := c_wait (T4.reads b) hql x want (fun y hy => hnoW y (A4.wm.mem_iff.1 hy))
    rw [HWI.out] at this
    exact this)
  have hxok : 0 < (⟨x, want, e.name⟩ : Has9).mode ∧ (⟨x, want, e.name⟩ : Has9).mode < 7 ∧ 0 ≤ (⟨x, want, e.name⟩ : Has9).owner ∧ (⟨x, want, e.name⟩ : Has9).owner ≤ 9223372036854775807 ∧ (⟨x, want, e.name⟩ : Has9).name.size ≤ 300 := ⟨wt0, wt7, HX.out.1, HX.out.2, HNM.out⟩
  have HN := Lib.hid CN
  clear CN hqv hbd hnx hne
  by_cases hn1 : hs0 ≠ 0 ∨ nameL W e.name = []
  · rw [decide_eq_true hn1] at HN
    by_cases hc1 : canP H ⟨x, want, e.name⟩ = true
    · rw [hc1] at CC
      have HG := Lib.hid (AG.out hn1 hc1)
      clear hn1 hc1 CW
      go_wp2_with fail
      refine HN.out.mono ?_; rintro r w5 ⟨rfl, B5⟩
      go_wp2_with fail
      refine (CC.out _ B5).mono ?_; rintro r w6 ⟨rfl, b6⟩
      go_wp2_with fail
      have B6 := B5.trans (b6.mono B5.size)
      refine (CH.out _ B6).mono ?_; rintro r w7 ⟨rfl, HL7, o7, T7, A7, S7⟩
      go_wp2_with fail
      go_ret
      exact ⟨0, rfl, _, _, o7, HG.out, ⟨⟨_, _, _, _, _, _, T7, A7⟩⟩, (S04.trans (Stp.ofBelow B6 o4 j)).trans S7⟩
    · have hcf : canP H ⟨x, want, e.name⟩ = false := by cases hq : canP H ⟨x, want, e.name⟩ with | true => exact absurd hq hc1 | false => rfl
      rw [hcf] at CC
      have hnc : ¬ ((hs0 ≠ 0 ∨ nameL W e.name = []) ∧ canP H ⟨x, want, e.name⟩ = true) := fun h => hc1 h.2
      clear hn1 hc1 hcf CH
      go_wp2_with fail
      refine HN.out.mono ?_; rintro r w5 ⟨rfl, b5⟩
      go_wp2_with fail
      refine (CC.out _ b5).mono ?_; rintro r w6 ⟨rfl, b6⟩
      have B5 := b5.trans (b6.mono b5.size)
      go_wp2_with fail
      refine (CW.out _ B5).mono ?_; rintro r w6 ⟨rfl, p, qv, o6, hst, T6, S6⟩
      obtain ⟨A6, F6⟩ := A4.stay (x := ⟨x, want, e.name⟩) T4.nnd hnd hAh rfl hxok hnoW hst qv
      rw [HHS.out] at A6 F6
      have S06 := (S04.trans (Stp.ofBelow B5 o4 j)).trans S6
      have hp6 := (stayAt_perm H (⟨x, want, e.name⟩ : Has9) (decide (hs0 ≠ 0)) W)
      have hl6 := hp6.length_eq
      rw [List.length_append, List.length_singleton] at hl6
      have CL := Lib.hid (c_isLoop T6 A6 (by omega) (hL0.stp S06 h0) x F6)
      clear CW
      go_wp2_with fail
      refine CL.out.mono ?_; rintro r w7 ⟨bb, rfl, hbq, b7⟩
      have HBQ := Lib.hid hbq
      clear hbq CL
      cases bb with
      | false =>
        go_wp2_with fail
        go_ret
        refine ⟨10, rfl, _, _, o6, AW.out hnc (fun hd => by have := HBQ.out.2 hd; cases this), ⟨⟨_, _, _, _, _, _, T6.reads b7, A6⟩⟩, S06.trans (Stp.ofBelow b7 o6 j)⟩
      | true =>
        have CQ := c_quit (T6.reads b7) A6 (y := (⟨x, want, e.name⟩ : Has9)) (hp6.mem_iff.2 (by simp)) rfl (by omega)
        have HQ := Lib.hid CQ
        clear CQ
        go_wp2_with fail
        refine HQ.out.mono ?_; rintro r w8 ⟨rfl, qv8, q8, WL8, T8, A8, S8⟩
        go_wp2_with fail
        go_ret
        have hwo := woA_stay (x := (⟨x, want, e.name⟩ : Has9)) (decide (hs0 ≠ 0)) hnoW H
        rw [show woA (stayAt H (⟨x, want, e.name⟩ : Has9) (decide (hs0 ≠ 0)) W) x = W from hwo] at A8
        exact ⟨11, rfl, _, _, o6, AD.out hnc (HBQ.out.1 trivial), ⟨⟨_, _, _, _, _, _, T8, A8⟩⟩, (S06.trans (Stp.ofBelow b7 o6 j)).trans S8⟩
  · rw [decide_eq_false hn1] at HN
    have hnc : ¬ ((hs0 ≠ 0 ∨ nameL W e.name = []) ∧ canP H ⟨x, want, e.name⟩ = true) := fun h => hn1 h.1
    clear hn1 CH CC
    go_wp2_with fail
    refine HN.out.mono ?_; rintro r w5 ⟨rfl, B5⟩
    go_wp2_with fail
    refine (CW.out _ B5).mono ?_; rintro r w6 ⟨rfl, p, qv, o6, hst, T6, S6⟩
    obtain ⟨A6, F6⟩ := A4.stay (x := ⟨x, want, e.name⟩) T4.nnd hnd hAh rfl hxok hnoW hst qv
    rw [HHS.out] at A6 F6
    have S06 := (S04.trans (Stp.ofBelow B5 o4 j)).trans S6
    have hp6 := (stayAt_perm H (⟨x, want, e.name⟩ : Has9) (decide (hs0 ≠ 0)) W)
    have hl6 := hp6.length_eq
    rw [List.length_append, List.length_singleton] at hl6
    have CL := Lib.hid (c_isLoop T6 A6 (by omega) (hL0.stp S06 h0) x F6)
    clear CW
    go_wp2_with fail
    refine CL.out.mono ?_; rintro r w7 ⟨bb, rfl, hbq, b7⟩
    have HBQ := Lib.hid hbq
    clear hbq CL
    cases bb with
    | false =>
      go_wp2_with fail
      go_ret
      refine ⟨10, rfl, _, _, o6, AW.out hnc (fun hd => by have := HBQ.out.2 hd; cases this), ⟨⟨_, _, _, _, _, _, T6.reads b7, A6⟩⟩, S06.trans (Stp.ofBelow b7 o6 j)⟩
    | true =>
      have CQ := c_quit (T6.reads b7) A6 (y := (⟨x, want, e.name⟩ : Has9)) (hp6.mem_iff.2 (by simp)) rfl (by omega)
      have HQ := Lib.hid CQ
      clear CQ
      go_wp2_with fail
      refine HQ.out.mono ?_; rintro r w8 ⟨rfl, qv8, q8, WL8, T8, A8, S8⟩
      go_wp2_with fail
      go_ret
      have hwo := woA_stay (x := (⟨x, want, e.name⟩ : Has9)) (decide (hs0 ≠ 0)) hnoW H
      rw [show woA (stayAt H (⟨x, want, e.name⟩ : Has9) (decide (hs0 ≠ 0)) W) x = W from hwo] at A8
      exact ⟨11, rfl, _, _, o6, AD.out hnc (HBQ.out.1 trivial), ⟨⟨_, _, _, _, _, _, T8, A8⟩⟩, (S06.trans (Stp.ofBelow b7 o6 j)).trans S8⟩
/-- Ask: what it tells is what the lists tell -/
theorem c_Ask (h : T9 w o j g H W) (hL : Laid9 w) (h0 : o 0 ≠ j) (hB : H.length + W.length ≤ 800) (hA : Ahead H W) (x m : Int) (hx9 : x ≤ 9223372036854775807) (nm : ByteArray) (hnm : nm.size ≤ 300) :
    Calls Tryz.prog 18 #[ptr9 g, .int .i64 x, .string nm, .int .i64 m] w fun r w' => ∃ k : Nat, r = .returned (.int .i64 (k : Int)) ∧ ∃ H' W' o', AskS H W x nm m k H' W' ∧ T9 w' o' j g H' W' ∧ Stp o j w o' w' := by
  by_cases hg : 0 ≤ x ∧ 0 < m ∧ m < 7
  · obtain ⟨m1, m2, m3, N, HL, WL, T, A⟩ := h.ex
    obtain ⟨k, rfl⟩ := Int.eq_ofNat_of_zero_le (show 0 ≤ m by omega)
    rcases forP_cases W x with hno | ⟨y, hy, hyx⟩
    · have hno' : ∀ y ∈ WL, y.owner ≠ x := fun y hy => hno y (A.wm.mem_iff.1 hy)
      by_cases he : jn (modeP H x nm) k 7 = modeP H x nm
      · refine (c_Ask_has T A hL x k nm (by omega) hno' he).mono ?_
        rintro r w' ⟨rfl, b⟩
        exact ⟨0, rfl, H, W, o, .has hg hno he, h.reads b, Stp.ofBelow b o j⟩
      · exact c_Ask_go T A hL h0 hB hA x hx9 k nm hnm (by omega) hno' he
    · refine (c_Ask_state T x k nm hg (A.wm.mem_iff.2 hy) hyx).mono ?_
      rintro r w' ⟨rfl, b⟩
      exact ⟨9, rfl, H, W, o, .state hg y hy hyx, h.reads b, Stp.ofBelow b o j⟩
  · refine (c_Ask_arg x m nm hg).mono ?_
    rintro r w' ⟨rfl, rfl⟩
    exact ⟨1, rfl, H, W, o, .arg hg, h, Stp.refl o j w⟩
end
end Go.Proofs.YtainnhcmhgloaaaGreatDoor
