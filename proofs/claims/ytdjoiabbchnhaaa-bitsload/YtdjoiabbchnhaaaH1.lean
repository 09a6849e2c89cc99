/-
  Package bits: where its pages lie in memory; the contracts of has, bitOf, Is, TakeAt, Give, Len, Save, New.
-/
import Derived.Test.YtdjoiabbchnhaaaRows
import Derived.Test.YtdjoiabbchnhaaaK1
import Derived.WalkKit
import Derived.WalkSpells
import Derived.WalkLawsBesides
import Derived.Lib.Hide
import Derived.Lib.Strings
import Derived.IntWalk
import Derived.Deep.Light
import Derived.Below
import Derived.BigQuiet
import Derived.Deep.QuietTactic
import Derived.StillTailTactics
import Derived.RangeFuncBox
import Derived.Outline
namespace Go.Proofs.Ytdjoiabbchnhaaa
open Go.RowKit

/-- block p: how many pages, and where their bytes are; block b: the bytes (and, it may be, room behind them) -/
structure IsB (w : World) (p b : Nat) (L : List Bool) : Prop where
  ex : ∃ (C : Nat) (cur : Array Value), w.heap[p]? = some (.cells #[.int .i64 (L.length : Int), .slice (some ⟨b, 0, none⟩) ((L.length + 7) / 8) C] 53 (0, 0)) ∧ w.heap[b]? = some (.cells cur 5 (0, 0)) ∧
    (L.length + 7) / 8 ≤ C ∧ cur.size = C ∧ ∀ j, j < (L.length + 7) / 8 → cur[j]? = some (.int .u8 (bt L j))
  n1 : 1 ≤ L.length
  n2 : L.length ≤ 1024

theorem IsB.cn {w : World} {p b : Nat} {L : List Bool} (h : IsB w p b L) : w.cell? ⟨p, 0, none⟩ = some (.int .i64 (L.length : Int)) := by obtain ⟨C, cur, hp, _⟩ := h.ex; simp [World.cell?, hp]
theorem IsB.cs {w : World} {p b : Nat} {L : List Bool} (h : IsB w p b L) : ∃ C, w.cell? ⟨p, 1, none⟩ = some (.slice (some ⟨b, 0, none⟩) ((L.length + 7) / 8) C) := by obtain ⟨C, cur, hp, _⟩ := h.ex; exact ⟨C, by simp [World.cell?, hp]⟩
theorem IsB.cb {w : World} {p b : Nat} {L : List Bool} (h : IsB w p b L) (j : Nat) (hj : j < (L.length + 7) / 8) : w.cell? ⟨b, j, none⟩ = some (.int .u8 (bt L j)) := by
  obtain ⟨C, cur, _, hb, _, _, hc⟩ := h.ex
  simp [World.cell?, hb, hc j hj]
theorem IsB.fz {w : World} {p b : Nat} {L : List Bool} (h : IsB w p b L) (j : Nat) : w.frozen? ⟨b, j, none⟩ = false := by obtain ⟨C, cur, _, hb, _⟩ := h.ex; simp [World.frozen?, hb]
theorem IsB.ltp {w : World} {p b : Nat} {L : List Bool} (h : IsB w p b L) : p < w.heap.size := by obtain ⟨C, cur, hp, _⟩ := h.ex; exact (Array.getElem?_eq_some_iff.1 hp).1
theorem IsB.ltb {w : World} {p b : Nat} {L : List Bool} (h : IsB w p b L) : b < w.heap.size := by obtain ⟨C, cur, _, hb, _⟩ := h.ex; exact (Array.getElem?_eq_some_iff.1 hb).1
theorem IsB.ne {w : World} {p b : Nat} {L : List Bool} (h : IsB w p b L) : p ≠ b := fun e => by
  obtain ⟨C, cur, h1, h2, _⟩ := h.ex; subst e; rw [h1] at h2; simp at h2
theorem IsB.kept {w w' : World} {p b : Nat} {L : List Bool} (h : IsB w p b L) (e1 : w'.heap[p]? = w.heap[p]?) (e2 : w'.heap[b]? = w.heap[b]?) : IsB w' p b L := by
  obtain ⟨C, cur, h1, h2, r⟩ := h.ex
  exact ⟨⟨C, cur, e1.trans h1, e2.trans h2, r⟩, h.n1, h.n2⟩
theorem IsB.below {w w' : World} {p b n : Nat} {L : List Bool} (h : IsB w p b L) (bel : Below n w w') (hp : p < n) (hb : b < n) : IsB w' p b L := h.kept (bel.block p hp) (bel.block b hb)
theorem IsB.grew {w w' : World} {p b : Nat} {L : List Bool} (h : IsB w p b L) (bel : Below w.heap.size w w') : IsB w' p b L := h.below bel h.ltp h.ltb
theorem IsB.grown {w w' : World} {p b c : Nat} {L : List Bool} (h : IsB w p b L) (g : w.grownBy w' (some c)) (hp : p ≠ c) (hb : b ≠ c) : IsB w' p b L := h.kept (g.block p h.ltp (by simp [hp])) (g.block b h.ltb (by simp [hb]))
theorem heap_setCell_same (w : World) (b j : Nat) (c : Array Value) (t : TypeId) (v : Value) (h : w.heap[b]? = some (.cells c t (0, 0))) : (w.setCell ⟨b, j, none⟩ v).heap[b]? = some (.cells (c.setIfInBounds j v) t (0, 0)) := by
  obtain ⟨hlt, hk⟩ := Array.getElem?_eq_some_iff.1 h
  show (w.heap.modify b _)[b]? = _
  rw [Array.getElem?_eq_getElem (by rw [Array.size_modify]; exact hlt), Array.getElem_modify_self, hk]
  rfl
theorem IsB.set {w : World} {p b : Nat} {L : List Bool} (h : IsB w p b L) (i : Nat) (x : Bool) (hi : i < L.length) : IsB (w.setCell ⟨b, i / 8, none⟩ (.int .u8 (bt (L.set i x) (i / 8)))) p b (L.set i x) := by
  obtain ⟨C, cur, h1, h2, h3, h4, h5⟩ := h.ex
  refine ⟨⟨C, cur.setIfInBounds (i / 8) (.int .u8 (bt (L.set i x) (i / 8))), ?_, heap_setCell_same _ _ _ _ _ _ h2, by rw [List.length_set]; exact h3, by simpa using h4, ?_⟩, by rw [List.length_set]; exact h.n1, by rw [List.length_set]; exact h.n2⟩
  · rw [Below.heap_setCell _ _ _ _ h.ne, List.length_set]; exact h1
  · intro j hj
    rw [List.length_set] at hj
    rw [Array.getElem?_setIfInBounds]
    by_cases e : i / 8 = j
    · subst e; rw [if_pos rfl, if_pos (by omega)]
    · rw [if_neg e, h5 j hj, bt_set_other L i j x hi (fun e' => e e'.symm)]
theorem grownBy_setCell_any (W : World) (b j : Nat) (v : Value) : W.grownBy (W.setCell ⟨b, j, none⟩ v) (some b) :=
  ⟨rfl, rfl, rfl, (KeepsWalks.setCell W _ v).size, fun k _ hk => Below.heap_setCell _ _ _ k (fun e => hk (by rw [e]))⟩
theorem grown_then {w w1 w2 : World} {r : Option Nat} (g : w.grownBy w1 r) (h : w1.grownBy w2 r) : w.grownBy w2 r :=
  ⟨h.os.trans g.os, h.tape.trans g.tape, h.output.trans g.output, Nat.le_trans g.size h.size, fun k hk e => (h.block k (Nat.lt_of_lt_of_le hk g.size) e).trans (g.block k hk e)⟩
theorem grown_of_below {w w' : World} (h : Below w.heap.size w w') (r : Option Nat) : w.grownBy w' r := ⟨h.os, h.tape, h.output, h.size, fun k hk _ => h.block k hk⟩
theorem below_of_grown {w w' : World} (h : w.grownBy w' none) : Below w.heap.size w w' := ⟨h.os, h.tape, h.output, h.size, fun k hk => h.block k hk (by simp)⟩
theorem below_drew (w : World) (m : Nat) : Below w.heap.size w (w.drewN m) := ⟨rfl, rfl, rfl, Nat.le_refl _, fun _ _ => rfl⟩
theorem grown_set {w w1 : World} (g : Below w.heap.size w w1) (b j : Nat) (v : Value) : w.grownBy (w1.setCell ⟨b, j, none⟩ v).drew (some b) :=
  have h := grown_then (grown_of_below g (some b)) (grownBy_setCell_any w1 b j v)
  ⟨h.os, h.tape, h.output, h.size, h.block⟩
theorem IsB.drewN {w : World} {p b : Nat} {L : List Bool} (h : IsB w p b L) (m : Nat) : IsB (w.drewN m) p b L := h.kept rfl rfl

set_option maxHeartbeats 400000 in
theorem has_yes (w : World) (p b : Nat) (L : List Bool) (H : IsB w p b L) (i : Nat) (h : i < L.length) :
    Calls Try.prog 32 #[.pointer (some ⟨p, 0, none⟩), .int .i64 i] w fun e w' => e = .returned (.bool true) ∧ w = w' := by
  have cn := H.cn
  have h0 : (0 : Int) ≤ (i : Int) := by omega
  have h1 : (i : Int) < (L.length : Int) := by omega
  go_enter Try.func32, Try.ntmps32
  go_wp2
  go_ret
  exact ⟨by simp [h1], rfl⟩
set_option maxHeartbeats 400000 in
theorem has_no (w : World) (p b : Nat) (L : List Bool) (H : IsB w p b L) (i : Int) (h : i < 0 ∨ (L.length : Int) ≤ i) :
    Calls Try.prog 32 #[.pointer (some ⟨p, 0, none⟩), .int .i64 i] w fun e w' => e = .returned (.bool false) ∧ w = w' := by
  have cn := H.cn
  by_cases h0 : i < 0
  · clear h
    go_enter Try.func32, Try.ntmps32
    go_wp2
    go_ret
    exact ⟨by simp, rfl⟩
  · have h1 : (L.length : Int) ≤ i := h.resolve_left h0
    clear h
    go_enter Try.func32, Try.ntmps32
    go_wp2
    go_ret
    exact ⟨by simp [h1], rfl⟩
set_option maxHeartbeats 400000 in
theorem bitOf_any (w : World) (i : Nat) :
    Calls Try.prog 35 #[.int .i64 i] w fun e w' => e = .returned (.int .u8 ((2 ^ (i % 8) : Nat) : Int)) ∧ w = w' := by
  have e2 : (2 : Int) ^ (i % 8) % 256 = ((2 ^ (i % 8) : Nat) : Int) := by
    have := pow_lt i
    rw [show (2 : Int) ^ (i % 8) = ((2 ^ (i % 8) : Nat) : Int) by simp]
    generalize 2 ^ (i % 8) = y at *
    omega
  go_enter Try.func35, Try.ntmps35
  go_wp2
  go_ret
  exact ⟨by rw [← e2]; rfl, rfl⟩
set_option maxHeartbeats 400000 in
theorem is_in (w : World) (p b : Nat) (L : List Bool) (H : IsB w p b L) (i : Nat) (h : i < L.length) :
    Calls Try.prog 25 #[.pointer (some ⟨p, 0, none⟩), .int .i64 i] w fun e w' => e = .returned (.bool (tk L i)) ∧ ∃ m, w' = w.drewN m := by
  obtain ⟨C, cs⟩ := H.cs
  have cb := H.cb (i / 8) (by omega)
  have C1 := Lib.hid (fun w' H' => has_yes w' p b L H' i h)
  have C2 := Lib.hid (fun w' => bitOf_any w' i)
  have hd : (i : Int) / 8 = ((i / 8 : Nat) : Int) := by omega
  have hl : ((i / 8 : Nat) : Int) < (((L.length + 7) / 8 : Nat) : Int) := by omega
  have hn2 := H.n2
  have ew : IntKind.i64.wrap ((i / 8 : Nat) : Int) = ((i / 8 : Nat) : Int) := IntWalk.i64_in _ (by omega)
  have h0 : (0 : Int) ≤ ((i / 8 : Nat) : Int) := by omega
  have hand := u8_and_nat (bt L (i / 8)) (2 ^ (i % 8)) (bt_lt _ _) (pow_lt i)
  have HB := Lib.hid (bt_and L i)
  have HH := Lib.hid H
  clear H
  generalize bt L (i / 8) = x at *
  generalize 2 ^ (i % 8) = y at *
  generalize (L.length + 7) / 8 = nb at *
  generalize i / 8 = j at *
  go_enter Try.func25, Try.ntmps25
  go_wp2_with fail
  go_quiet (first | (go_at_call 32; exact Calls.quiet_of_same ((C1.out _ (HH.out.drewN _)).mono (fun e w' h => ⟨h.1, h.2.symm⟩))) | (go_at_call 35; exact Calls.quiet_of_same ((C2.out _).mono (fun e w' h => ⟨h.1, h.2.symm⟩))))
  go_wp2
  go_ret
  refine ⟨?_, _, rfl⟩
  show Ending.returned (.bool (((x &&& y : Nat) : Int) != 0)) = _
  congr 2
  have hb := HB.out
  cases ht : tk L i
  · rw [hb.2 ht]; rfl
  · have : x &&& y ≠ 0 := fun e => by rw [hb.1 e] at ht; cases ht
    simp [bne]; omega
set_option maxHeartbeats 400000 in
theorem is_out (w : World) (p b : Nat) (L : List Bool) (H : IsB w p b L) (i : Int) (h : i < 0 ∨ (L.length : Int) ≤ i) :
    Calls Try.prog 25 #[.pointer (some ⟨p, 0, none⟩), .int .i64 i] w fun e w' => e = .returned (.bool false) ∧ ∃ m, w' = w.drewN m := by
  have C1 := Lib.hid (fun w' H' => has_no w' p b L H' i h)
  have HH := Lib.hid H
  clear H h
  go_enter Try.func25, Try.ntmps25
  go_wp2_with fail
  go_quiet ((go_at_call 32; exact Calls.quiet_of_same ((C1.out _ (HH.out.drewN _)).mono (fun e w' h => ⟨h.1, h.2.symm⟩))))
  go_wp2
  go_ret
  exact ⟨rfl, _, rfl⟩
set_option maxHeartbeats 400000 in
theorem takeAt_arg (w : World) (p b : Nat) (L : List Bool) (H : IsB w p b L) (i : Int) (h : i < 0 ∨ (L.length : Int) ≤ i) :
    Calls Try.prog 13 #[.pointer (some ⟨p, 0, none⟩), .int .i64 i] w fun e w' => e = .returned (.int .i64 1) ∧ w = w' := by
  have C1 := Lib.hid (has_no w p b L H i h)
  clear H h
  go_enter Try.func13, Try.ntmps13
  go_wp2_with (go_at_call 32; refine C1.out.mono ?_; rintro e w' ⟨rfl, rfl⟩)
  go_ret
  exact ⟨rfl, rfl⟩
set_option maxHeartbeats 400000 in
theorem takeAt_twice (w : World) (p b : Nat) (L : List Bool) (H : IsB w p b L) (i : Nat) (h : i < L.length) (ht : tk L i = true) :
    Calls Try.prog 13 #[.pointer (some ⟨p, 0, none⟩), .int .i64 i] w fun e w' => e = .returned (.int .i64 8) ∧ ∃ m, w' = w.drewN m := by
  have C1 := Lib.hid (has_yes w p b L H i h)
  have C2 := Lib.hid (is_in w p b L H i h)
  rw [ht] at C2
  clear H h
  go_enter Try.func13, Try.ntmps13
  go_wp2_with (first | (go_at_call 32; refine C1.out.mono ?_; rintro e w' ⟨rfl, rfl⟩) | (go_at_call 25; refine C2.out.mono ?_; rintro e w' ⟨rfl, m, rfl⟩))
  go_ret
  exact ⟨rfl, _, rfl⟩
set_option maxHeartbeats 400000 in
theorem takeAt_ok (w : World) (p b : Nat) (L : List Bool) (H : IsB w p b L) (i : Nat) (h : i < L.length) (ht : tk L i = false) :
    Calls Try.prog 13 #[.pointer (some ⟨p, 0, none⟩), .int .i64 i] w fun e w' => e = .returned (.int .i64 0) ∧ IsB w' p b (L.set i true) ∧ w.grownBy w' (some b) := by
  have C1 := Lib.hid (has_yes w p b L H i h)
  have C2 := Lib.hid (is_in w p b L H i h)
  rw [ht] at C2
  have C3 := Lib.hid (fun w' => bitOf_any w' i)
  have hn2 := H.n2
  have HF := Lib.hid (show ∀ m, IsB (((w.drewN m).drew).setCell ⟨b, i / 8, none⟩ (.int .u8 ((bt L (i / 8) ||| 2 ^ (i % 8) : Nat) : Int))) p b (L.set i true) from fun m => by
    have := (H.drewN (m + 1)).set i true h
    rw [bt_set_true L i h] at this; exact this)
  obtain ⟨C, cs⟩ := H.cs
  have cb := H.cb (i / 8) (by omega)
  have fz := H.fz (i / 8)
  have hd : (i : Int) / 8 = ((i / 8 : Nat) : Int) := by omega
  have hl : ((i / 8 : Nat) : Int) < (((L.length + 7) / 8 : Nat) : Int) := by omega
  have ew : IntKind.i64.wrap ((i / 8 : Nat) : Int) = ((i / 8 : Nat) : Int) := IntWalk.i64_in _ (by omega)
  have h0 : (0 : Int) ≤ ((i / 8 : Nat) : Int) := by omega
  have hor := u8_or_nat (bt L (i / 8)) (2 ^ (i % 8)) (bt_lt _ _) (pow_lt i)
  clear H
  generalize bt L (i / 8) = x at *
  generalize 2 ^ (i % 8) = y at *
  generalize (L.length + 7) / 8 = nb at *
  generalize i / 8 = j at *
  go_enter Try.func13, Try.ntmps13
  go_wp2_with (first | (go_at_call 32; refine C1.out.mono ?_; rintro e w' ⟨rfl, rfl⟩) | (go_at_call 25; refine C2.out.mono ?_; rintro e w' ⟨rfl, m, rfl⟩))
  have HF1 := Lib.hid (HF.out m); clear HF
  have g1 := Lib.hid (below_drew w m)
  replace cs : (w.drewN m).cell? ⟨p, 1, none⟩ = _ := cs
  replace cb : (w.drewN m).cell? ⟨b, j, none⟩ = _ := cb
  replace fz : (w.drewN m).frozen? ⟨b, j, none⟩ = _ := fz
  generalize w.drewN m = w1 at *
  refine wp_region_still_tail 12 (by kernel_rfl) (by kernel_rfl) ?_
  simp only [List.take_succ_cons, List.take_zero, List.drop_succ_cons, List.drop_zero]
  change wpStill _ _ w1.drew _ _ _
  repeat (first | still_step | still_call ((C3.out _).mono (fun e w' h => ⟨h.1, h.2.symm⟩)))
  refine wpStill_nil ?_
  go_wp2
  go_ret
  exact ⟨rfl, HF1.out, grown_set g1.out _ _ _⟩
set_option maxHeartbeats 400000 in
theorem give_arg (w : World) (p b : Nat) (L : List Bool) (H : IsB w p b L) (i : Int) (h : i < 0 ∨ (L.length : Int) ≤ i) :
    Calls Try.prog 15 #[.pointer (some ⟨p, 0, none⟩), .int .i64 i] w fun e w' => e = .returned (.int .i64 1) ∧ w = w' := by
  have C1 := Lib.hid (has_no w p b L H i h)
  clear H h
  go_enter Try.func15, Try.ntmps15
  go_wp2_with (go_at_call 32; refine C1.out.mono ?_; rintro e w' ⟨rfl, rfl⟩)
  go_ret
  exact ⟨rfl, rfl⟩
set_option maxHeartbeats 400000 in
theorem give_none (w : World) (p b : Nat) (L : List Bool) (H : IsB w p b L) (i : Nat) (h : i < L.length) (ht : tk L i = false) :
    Calls Try.prog 15 #[.pointer (some ⟨p, 0, none⟩), .int .i64 i] w fun e w' => e = .returned (.int .i64 7) ∧ ∃ m, w' = w.drewN m := by
  have C1 := Lib.hid (has_yes w p b L H i h)
  have C2 := Lib.hid (is_in w p b L H i h)
  rw [ht] at C2
  clear H h
  go_enter Try.func15, Try.ntmps15
  go_wp2_with (first | (go_at_call 32; refine C1.out.mono ?_; rintro e w' ⟨rfl, rfl⟩) | (go_at_call 25; refine C2.out.mono ?_; rintro e w' ⟨rfl, m, rfl⟩))
  go_ret
  exact ⟨rfl, _, rfl⟩
set_option maxHeartbeats 400000 in
theorem give_ok (w : World) (p b : Nat) (L : List Bool) (H : IsB w p b L) (i : Nat) (h : i < L.length) (ht : tk L i = true) :
    Calls Try.prog 15 #[.pointer (some ⟨p, 0, none⟩), .int .i64 i] w fun e w' => e = .returned (.int .i64 0) ∧ IsB w' p b (L.set i false) ∧ w.grownBy w' (some b) := by
  have C1 := Lib.hid (has_yes w p b L H i h)
  have C2 := Lib.hid (is_in w p b L H i h)
  rw [ht] at C2
  have C3 := Lib.hid (fun w' => bitOf_any w' i)
  have hn2 := H.n2
  have HF := Lib.hid (show ∀ m, IsB (((w.drewN m).drew).setCell ⟨b, i / 8, none⟩ (.int .u8 ((bt L (i / 8) &&& (255 - 2 ^ (i % 8)) : Nat) : Int))) p b (L.set i false) from fun m => by
    have := (H.drewN (m + 1)).set i false h
    rw [bt_set_false L i h] at this; exact this)
  obtain ⟨C, cs⟩ := H.cs
  have cb := H.cb (i / 8) (by omega)
  have fz := H.fz (i / 8)
  have hd : (i : Int) / 8 = ((i / 8 : Nat) : Int) := by omega
  have hl : ((i / 8 : Nat) : Int) < (((L.length + 7) / 8 : Nat) : Int) := by omega
  have ew : IntKind.i64.wrap ((i / 8 : Nat) : Int) = ((i / 8 : Nat) : Int) := IntWalk.i64_in _ (by omega)
  have h0 : (0 : Int) ≤ ((i / 8 : Nat) : Int) := by omega
  have hor := u8_andNot_nat (bt L (i / 8)) (2 ^ (i % 8)) (bt_lt _ _) (pow_lt i)
  clear H
  generalize bt L (i / 8) = x at *
  generalize 2 ^ (i % 8) = y at *
  generalize (L.length + 7) / 8 = nb at *
  generalize i / 8 = j at *
  go_enter Try.func15, Try.ntmps15
  go_wp2_with (first | (go_at_call 32; refine C1.out.mono ?_; rintro e w' ⟨rfl, rfl⟩) | (go_at_call 25; refine C2.out.mono ?_; rintro e w' ⟨rfl, m, rfl⟩))
  have HF1 := Lib.hid (HF.out m); clear HF
  have g1 := Lib.hid (below_drew w m)
  replace cs : (w.drewN m).cell? ⟨p, 1, none⟩ = _ := cs
  replace cb : (w.drewN m).cell? ⟨b, j, none⟩ = _ := cb
  replace fz : (w.drewN m).frozen? ⟨b, j, none⟩ = _ := fz
  generalize w.drewN m = w1 at *
  refine wp_region_still_tail 12 (by kernel_rfl) (by kernel_rfl) ?_
  simp only [List.take_succ_cons, List.take_zero, List.drop_succ_cons, List.drop_zero]
  change wpStill _ _ w1.drew _ _ _
  repeat (first | still_step | still_call ((C3.out _).mono (fun e w' h => ⟨h.1, h.2.symm⟩)))
  refine wpStill_nil ?_
  go_wp2
  go_ret
  exact ⟨rfl, HF1.out, grown_set g1.out _ _ _⟩
set_option maxHeartbeats 400000 in
theorem len_any (w : World) (p b : Nat) (L : List Bool) (H : IsB w p b L) :
    Calls Try.prog 27 #[.pointer (some ⟨p, 0, none⟩)] w fun e w' => e = .returned (.int .i64 (L.length : Int)) ∧ w = w' := by
  have cn := H.cn
  go_enter Try.func27, Try.ntmps27
  go_wp2
  go_ret
  exact ⟨rfl, rfl⟩
set_option maxHeartbeats 400000 in
theorem new_arg (w : World) (n : Int) (h : n < 1 ∨ 1024 < n) :
    Calls Try.prog 9 #[.int .i64 n] w fun e w' => e = .returned (.tuple #[.pointer none, .int .i64 1]) ∧ w = w' := by
  by_cases h0 : n < 1
  · clear h
    go_enter Try.func9, Try.ntmps9
    go_wp2
    go_ret2
    exact ⟨rfl, rfl⟩
  · have h1 := h.resolve_left h0
    clear h
    go_enter Try.func9, Try.ntmps9
    go_wp2
    go_ret2
    exact ⟨rfl, rfl⟩
theorem isB_new (w : World) (n : Nat) (h1 : 1 ≤ n) (h2 : n ≤ 1024) (c : Array Value) (hc : c = #[.int .i64 (n : Int), .slice (some ⟨w.heap.size, 0, none⟩) ((n + 7) / 8) ((n + 7) / 8)]) :
    IsB ((w.alloc (.cells (brow (List.replicate ((n + 7) / 8) 0)) 5)).alloc (.cells c 53)) (w.heap.size + 1) w.heap.size (List.replicate n false) := by
  subst hc
  refine ⟨⟨(n + 7) / 8, brow (List.replicate ((n + 7) / 8) 0), ?_, ?_, by simp, by simp [brow_size], ?_⟩, by simpa using h1, by simpa using h2⟩
  · rw [List.length_replicate]
    have := World.alloc_heap_new (w.alloc (.cells (brow (List.replicate ((n + 7) / 8) 0)) 5)) (.cells #[.int .i64 (n : Int), .slice (some ⟨w.heap.size, 0, none⟩) ((n + 7) / 8) ((n + 7) / 8)] 53)
    rwa [World.size_alloc] at this
  · rw [Below.heap_alloc _ _ _ (by simp)]
    exact World.alloc_heap_new w _
  · intro j hj
    rw [← pack_zero, brow_pack _ _ hj]
set_option maxHeartbeats 400000 in
theorem new_ok (w : World) (n : Nat) (h1 : 1 ≤ n) (h2 : n ≤ 1024) :
    Calls Try.prog 9 #[.int .i64 n] w fun e w' => e = .returned (.tuple #[.pointer (some ⟨w.heap.size + 1, 0, none⟩), .int .i64 0]) ∧ IsB w' (w.heap.size + 1) w.heap.size (List.replicate n false) ∧ Below w.heap.size w w' := by
  have a1 : (1 : Int) ≤ (n : Int) := by omega
  have a2 : (n : Int) ≤ 1024 := by omega
  obtain ⟨ib, hi, hz0, hz1, hz2⟩ := info_parts (show (Try.prog.info? 5).map (fun i => (i.zero, i.size, i.bytes)) = some (some (.int .u8 0), 1, 1) by kernel_rfl)
  have hm := run_make_bytes (P := Try.prog) w 51 5 ib Try.underlying51 hi hz0 hz1 hz2 ((n + 7) / 8) (by omega)
  have e1 : ((n : Int) - 1) / 8 + 1 = (((n + 7) / 8 : Nat) : Int) := by omega
  rw [← e1] at hm
  clear e1
  go_enter Try.func9, Try.ntmps9
  go_wp2
  go_ret2
  exact ⟨rfl, isB_new w n h1 h2 _ rfl, ((Below.refl _ w).alloc (Nat.le_refl _) _).alloc (by simp) _⟩
set_option maxHeartbeats 400000 in
theorem save_any (w : World) (p b : Nat) (L : List Bool) (H : IsB w p b L) :
    Calls Try.prog 18 #[.pointer (some ⟨p, 0, none⟩)] w fun e w' => e = .returned (.string ⟨(pack L).toArray⟩) ∧ w = w' := by
  obtain ⟨C, cs⟩ := H.cs
  have hc := run_convert_bytes_back (P := Try.prog) w 51 9 5 ⟨b, 0, none⟩ C (pack L) Try.underlying51 Try.underlying5 Try.underlying9 (by
    intro j hj
    have ea : Addr.add ⟨b, 0, none⟩ j = ⟨b, j, none⟩ := by simp [Addr.add]; exact fun h => h.symm
    have hj' : j < (L.length + 7) / 8 := by rw [← pack_length]; exact hj
    rw [ea, H.cb j hj']
    have := pack_get L j hj'
    rw [List.getElem?_eq_getElem hj, Option.some_inj] at this
    rw [this, u8_nat _ (bt_lt L j)])
  rw [pack_length] at hc
  go_enter Try.func18, Try.ntmps18
  go_wp2
  go_ret
  exact ⟨rfl, rfl⟩
end Go.Proofs.Ytdjoiabbchnhaaa
