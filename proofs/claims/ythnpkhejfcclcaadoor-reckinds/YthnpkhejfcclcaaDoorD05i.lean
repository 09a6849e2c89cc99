/-
  Package rec: the contracts of giveUpUnless, and of the reader's number and text: what is read, or a panic.
-/
import Derived.Test.YthnpkhejfcclcaaDoorD05h
import Derived.Maps.Range
namespace Go.Proofs.YthnpkhejfcclcaaDoor
open Go.RowKit

/-- what odd bytes tell -/
abbrev odd5 : List PanicEntry := [{ v := .iface 37 (.int .i64 4), recovered := false }]
theorem giveUp_no (w : World) : Calls Tryd.prog 42 #[.bool true] w fun e w' => e = .returned (.tuple #[]) ∧ w = w' := by
  go_enter Tryd.func42, Tryd.ntmps42
  go_wp2
  go_end0
  exact ⟨rfl, rfl⟩
theorem giveUp_yes (w : World) : Calls Tryd.prog 42 #[.bool false] w fun e w' => e = .panicked odd5 ∧ w = w' := by
  go_enter Tryd.func42, Tryd.ntmps42
  go_wp2
  exact ⟨rfl, rfl, rfl⟩
/-- a reader: its bytes, and its place -/
def Rd (w : World) (R : Nat) (s : ByteArray) (p : Nat) : Prop := w.heap[R]? = some (.cells #[.string s, .int .i64 (p : Int)] 63 (0, 0))
section
variable {w w' : World} {R : Nat} {s : ByteArray} {p : Nat}
theorem Rd.lt (h : Rd w R s p) : R < w.heap.size := (Array.getElem?_eq_some_iff.1 h).1
theorem Rd.below (h : Rd w R s p) (b : Below w.heap.size w w') : Rd w' R s p := (b.block R h.lt).trans h
theorem Rd.c0 (h : Rd w R s p) : w.cell? ⟨R, 0, none⟩ = some (.string s) := by have h' : w.heap[R]? = _ := h; simp [World.cell?, h']
theorem Rd.c1 (h : Rd w R s p) : w.cell? ⟨R, 1, none⟩ = some (.int .i64 (p : Int)) := by have h' : w.heap[R]? = _ := h; simp [World.cell?, h']
theorem Rd.fz (h : Rd w R s p) (i : Nat) : w.frozen? ⟨R, i, none⟩ = false := by have h' : w.heap[R]? = _ := h; simp [World.frozen?, h']
theorem Rd.set (h : Rd w R s p) (q : Nat) : Rd (w.setCell ⟨R, 1, none⟩ (.int .i64 (q : Int))) R s q := heap_set5 _ _ _ _ _ _ h
end
theorem grown_set (w : World) (R i : Nat) (v : Value) : w.grownBy (w.setCell ⟨R, i, none⟩ v) (some R) :=
  ⟨rfl, rfl, rfl, by simp, fun k _ hk => Below.heap_setCell _ _ _ _ (fun e => hk (by simp [e]))⟩
theorem leNat_take_lt (l : List UInt8) (z : Nat) (hz : z ≤ 6) : Lib.leNat (l.take z) < 281474976710656 := by
  have h1 := leNat_lt (l.take z)
  have h2 : (l.take z).length ≤ 6 := by rw [List.length_take]; omega
  calc _ < 256 ^ (l.take z).length := h1
    _ ≤ 256 ^ 6 := Nat.pow_le_pow_right (by decide) h2
    _ = 281474976710656 := rfl
set_option maxRecDepth 100000 in
set_option maxHeartbeats 1000000 in
theorem number_ok (w : World) (R : Nat) (s : ByteArray) (p z v : Nat) (x : List UInt8) (hR : Rd w R s p) (hs : s.size ≤ 1000000) (h1 : 1 ≤ z) (h6 : z ≤ 6) (hp : p ≤ s.size) (h : numL z (s.data.toList.drop p) = some (v, x)) :
    Calls Tryd.prog 50 #[.pointer (some ⟨R, 0, none⟩), .int .i64 (z : Int)] w fun e w' => e = .returned (.int .i64 (v : Int)) ∧ Rd w' R s (p + z) ∧ x = s.data.toList.drop (p + z) ∧ p + z ≤ s.size ∧ w.grownBy w' (some R) := by
  obtain ⟨_, _, hx, hl⟩ := numL_got h
  rw [List.length_drop, ← Lib.size_eq] at hl
  have ev : Lib.leNat ((s.data.toList.drop p).take z) = v := by
    unfold numL at h
    rw [if_pos (by rw [List.length_drop, ← Lib.size_eq]; exact hl)] at h
    simp only [Option.some.injEq, Prod.mk.injEq] at h
    exact h.1
  have hv := leNat_take_lt (s.data.toList.drop p) z h6
  rw [ev] at hv
  have C1 := fun W => get_ok s (p : Int) (z : Int) W hs (errAt_ok.2 ⟨by omega, by omega, by omega, by omega⟩)
  rw [Int.toNat_natCast, Int.toNat_natCast, ev] at C1
  rw [List.drop_drop] at hx
  have HX := Lib.hid hx
  have hpz : p + z ≤ s.size := by omega
  have c0 := hR.c0; have c1 := hR.c1; have z1 := hR.fz 1
  have HR := Lib.hid hR
  have H1 := Lib.hid C1
  have HG := Lib.hid (giveUp_no)
  clear h hx ev hR C1 hl
  have hv2 : (v : Int) < 281474976710656 := by omega
  have hv0 : (0 : Int) ≤ (v : Int) := by omega
  go_enter Tryd.func50, Tryd.ntmps50
  go_wp2_with fail
  go_quiet ((go_at_call 59; exact Calls.quiet_of_same ((H1.out _).mono fun e w' h => quiet_flip h)))
  have HQ := Lib.hid (show Below w.heap.size w (w.drewN nq) from below_drew5 w nq)
  have HR1 := Lib.hid (HR.out.below HQ.out)
  clear H1 HR c0 c1 z1
  generalize w.drewN nq = w1 at *
  have c1 := HR1.out.c1; have z1 := HR1.out.fz 1
  go_wp2_with fail
  refine (HG.out _).mono ?_; rintro e w2 ⟨rfl, rfl⟩
  have HR2 := Lib.hid (HR1.out.set (p + z))
  have HGr := Lib.hid ((grown_ofBelow HQ.out (some R)).trans (grown_set w1 R 1 (.int .i64 ((p + z : Nat) : Int))))
  have ez : ((p + z : Nat) : Int) = (p : Int) + (z : Int) := by omega
  rw [ez] at HR2 HGr
  go_wp2
  go_ret
  exact ⟨rfl, by rw [← ez] at HR2; exact HR2.out, HX.out, hpz, HGr.out⟩
set_option maxRecDepth 100000 in
set_option maxHeartbeats 1000000 in
theorem number_no (w : World) (R : Nat) (s : ByteArray) (p z : Nat) (hR : Rd w R s p) (hs : s.size ≤ 1000000) (hp : p ≤ s.size) (h : numL z (s.data.toList.drop p) = none) :
    Calls Tryd.prog 50 #[.pointer (some ⟨R, 0, none⟩), .int .i64 (z : Int)] w fun e w' => e = .panicked odd5 ∧ w.grownBy w' (some R) := by
  have hl : s.size < p + z := by
    unfold numL at h
    split at h
    · cases h
    · rename_i hc; rw [List.length_drop, ← Lib.size_eq] at hc; omega
  obtain ⟨k, hk⟩ : ∃ k, errAt s.size (p : Int) (z : Int) = k := ⟨_, rfl⟩
  have hk0 : ¬ k = 0 := fun e => by have := errAt_ok.1 (hk.trans e); omega
  have C1 := fun W => get_bad s (p : Int) (z : Int) k W hs hk (by rw [bne_iff_ne]; exact hk0)
  have hk1 : (k == 0) = false := by rw [beq_eq_false_iff_ne]; exact hk0
  have c0 := hR.c0; have c1 := hR.c1
  have H1 := Lib.hid C1
  have HG := Lib.hid (giveUp_yes)
  clear h hR C1 hk hk0
  go_enter Tryd.func50, Tryd.ntmps50
  go_wp2_with fail
  go_quiet ((go_at_call 59; exact Calls.quiet_of_same ((H1.out _).mono fun e w' h => quiet_flip h)))
  have HQ := Lib.hid (show Below w.heap.size w (w.drewN nq) from below_drew5 w nq)
  clear H1 c0 c1
  generalize w.drewN nq = w1 at *
  go_wp2_with fail
  refine (HG.out _).mono ?_; rintro e w2 ⟨rfl, rfl⟩
  go_wp2
  exact ⟨rfl, rfl, grown_ofBelow HQ.out _⟩
theorem byteAt_drop (l : List UInt8) (p : Nat) (c : UInt8) (x : List UInt8) (h : l.drop p = c :: x) : byteAt l p = c.toNat := by
  have : l[p]? = some c := by have := congrArg (fun y => y[0]?) h; simpa using this
  unfold byteAt
  rw [List.getD_eq_getElem?_getD, this]; rfl
theorem textL_at {s t : ByteArray} {p : Nat} {x : List UInt8} (hp : p ≤ s.size) (h : textL (s.data.toList.drop p) = some (t, x)) :
    textErr s.data.toList (p : Int) = 0 ∧ s.extract (p + 1) (p + 1 + byteAt s.data.toList p) = t ∧ byteAt s.data.toList p = t.size ∧ x = s.data.toList.drop (p + 1 + t.size) ∧ p + 1 + t.size ≤ s.size := by
  cases hd : s.data.toList.drop p with
  | nil => rw [hd] at h; cases h
  | cons c y =>
    rw [hd, textL_cons] at h
    split at h
    · rename_i hc
      simp only [Option.some.injEq, Prod.mk.injEq] at h
      obtain ⟨rfl, rfl⟩ := h
      have hb := byteAt_drop _ _ _ _ hd
      have hlen := congrArg List.length hd
      rw [List.length_drop, ← Lib.size_eq, List.length_cons] at hlen
      have hy : y = s.data.toList.drop (p + 1) := by
        have := congrArg (List.drop 1) hd
        rw [List.drop_drop] at this; exact this.symm
      have e : (baL (y.take c.toNat)).size = c.toNat := by rw [baL_size, List.length_take]; omega
      refine ⟨textErr_ok.2 ⟨by omega, ?_⟩, ?_, by rw [e, hb], ?_, by rw [e]; omega⟩
      · rw [Int.toNat_natCast, hb, ← Lib.size_eq]; omega
      · apply ba_ext
        rw [Lib.extract_data, hb, Nat.add_sub_cancel_left, ← hy]; rfl
      · rw [e, hy, List.drop_drop]
    · cases h
theorem textL_bad {s : ByteArray} {p : Nat} (hp : p ≤ s.size) (h : textL (s.data.toList.drop p) = none) : ¬ textErr s.data.toList (p : Int) = 0 := by
  intro he
  obtain ⟨_, h2⟩ := textErr_ok.1 he
  rw [Int.toNat_natCast] at h2
  cases hd : s.data.toList.drop p with
  | nil =>
    have := congrArg List.length hd
    rw [List.length_drop] at this
    simp at this h2; omega
  | cons c y =>
    rw [hd, textL_cons] at h
    have hb := byteAt_drop _ _ _ _ hd
    have hlen := congrArg List.length hd
    rw [List.length_drop, List.length_cons] at hlen
    rw [hb] at h2
    split at h
    · cases h
    · omega
set_option maxRecDepth 100000 in
set_option maxHeartbeats 1000000 in
theorem text_yes (w : World) (R : Nat) (s t : ByteArray) (p : Nat) (x : List UInt8) (hR : Rd w R s p) (hs : s.size ≤ 1000000) (hp : p ≤ s.size) (h : textL (s.data.toList.drop p) = some (t, x)) :
    Calls Tryd.prog 51 #[.pointer (some ⟨R, 0, none⟩)] w fun e w' => e = .returned (.string t) ∧ Rd w' R s (p + 1 + t.size) ∧ x = s.data.toList.drop (p + 1 + t.size) ∧ p + 1 + t.size ≤ s.size ∧ w.grownBy w' (some R) := by
  obtain ⟨e1, e2, e3, e4, e5⟩ := textL_at hp h
  have C1 := fun W => text_ok s (p : Int) W hs e1
  rw [Int.toNat_natCast, e2, e3] at C1
  have H4 := Lib.hid e4
  have HR := Lib.hid hR
  have H1 := Lib.hid C1
  have HG := Lib.hid (giveUp_no)
  have hc0 : w.drew.cell? ⟨R, 0, none⟩ = some (.string s) ∧ w.drew.cell? ⟨R, 1, none⟩ = some (.int .i64 (p : Int)) := ⟨hR.c0, hR.c1⟩
  have HC0 := Lib.hid hc0
  have hlt := hR.lt
  clear h hR C1 e1 e2 e3 e4 hc0
  go_enter Tryd.func51, Tryd.ntmps51
  go_wp2_with fail
  go_region_held3 (fun W => W.cell? ⟨R, 0, none⟩ = some (.string s) ∧ W.cell? ⟨R, 1, none⟩ = some (.int .i64 (p : Int))) (first | exact HC0.out | assumption)
    ((go_at_call 60; refine (H1.out _).mono ?_; rintro e w2 ⟨rfl, b2⟩; have hc2 : w2.cell? ⟨R, 0, none⟩ = some (.string s) ∧ w2.cell? ⟨R, 1, none⟩ = some (.int .i64 (p : Int)) := ⟨(b2.cell (p := ⟨R, 0, none⟩) hlt).trans HC0.out.1, (b2.cell (p := ⟨R, 1, none⟩) hlt).trans HC0.out.2⟩; have HB2 := Lib.hid b2; clear b2))
  all_goals
    have HQ := Lib.hid (show Below w.heap.size w w2 from ((Below.refl _ w).drew).trans (HB2.out.mono (Nat.le_refl _)))
    have HR1 := Lib.hid (HR.out.below HQ.out)
    have c1 := HR1.out.c1; have z1 := HR1.out.fz 1
    clear hc2 HB2
    go_wp2_with fail
    refine (HG.out _).mono ?_; rintro e w3 ⟨rfl, rfl⟩
    have HR2 := Lib.hid (HR1.out.set (p + 1 + t.size))
    have HGr := Lib.hid ((grown_ofBelow HQ.out (some R)).trans (grown_set w2 R 1 (.int .i64 ((p + 1 + t.size : Nat) : Int))))
    have ez : ((p + 1 + t.size : Nat) : Int) = (p : Int) + 1 + (t.size : Int) := by omega
    rw [ez] at HR2 HGr
    go_wp2
    go_ret
    exact ⟨rfl, by rw [← ez] at HR2; exact HR2.out, H4.out, e5, HGr.out⟩
set_option maxRecDepth 100000 in
set_option maxHeartbeats 1000000 in
theorem text_no (w : World) (R : Nat) (s : ByteArray) (p : Nat) (hR : Rd w R s p) (hs : s.size ≤ 1000000) (hp : p ≤ s.size) (h : textL (s.data.toList.drop p) = none) :
    Calls Tryd.prog 51 #[.pointer (some ⟨R, 0, none⟩)] w fun e w' => e = .panicked odd5 ∧ w.grownBy w' (some R) := by
  have h0 := textL_bad hp h
  obtain ⟨k, hk⟩ : ∃ k, textErr s.data.toList (p : Int) = k := ⟨_, rfl⟩
  rw [hk] at h0
  have C1 := fun W => text_bad s (p : Int) k W hs hk (by rw [bne_iff_ne]; exact h0)
  have hk1 : (k == 0) = false := by rw [beq_eq_false_iff_ne]; exact h0
  have c0 := hR.c0; have c1 := hR.c1
  have H1 := Lib.hid C1
  have HG := Lib.hid (giveUp_yes)
  clear h hR C1 hk h0
  go_enter Tryd.func51, Tryd.ntmps51
  go_wp2_with fail
  go_quiet ((go_at_call 60; exact Calls.quiet_of_same ((H1.out _).mono fun e w' h => quiet_flip h)))
  have HQ := Lib.hid (show Below w.heap.size w (w.drewN nq) from below_drew5 w nq)
  clear H1 c0 c1
  generalize w.drewN nq = w1 at *
  go_wp2_with fail
  refine (HG.out _).mono ?_; rintro e w2 ⟨rfl, rfl⟩
  go_wp2
  exact ⟨rfl, rfl, grown_ofBelow HQ.out _⟩
end Go.Proofs.YthnpkhejfcclcaaDoor
