/-
  The calls whose answers the document fixes.
-/
import Derived.Test.YtdjoiabbchnhaaaS1
namespace Go.Proofs.Ytdjoiabbchnhaaa
open Go.RowKit Go.Shelf

abbrev fx0 : List Bool := List.replicate 10 false
abbrev fx1 : List Bool := [false, false, false, false, false, false, false, false, false, true]
abbrev fx2 : List Bool := [true, false, false, false, false, false, false, false, false, true]
theorem isInts_lit (w : World) (g C : Nat) (l : List Int) (t : TypeId) (n : Nat) (hn : n = l.length) (h : w.heap[g]? = some (.cells (l.map (Value.int .i64)).toArray t (0, 0))) : IsInts w (.slice (some ⟨g, 0, none⟩) n C) l := by
  subst hn
  refine .inr ⟨g, C, rfl, fun j x hj => ?_⟩
  simp [World.cell?, h, hj]
section
variable {w0 w : World} {p b : Nat}
theorem fa1 (S : St w0 w p b fx0) : Calls Try.prog 11 #[.pointer (some ⟨p, 0, none⟩), .int .i64 9] w fun e w' => e = .returned (.tuple #[.int .i64 9, .int .i64 0]) ∧ St w0 w' p b fx1 ∧ w.grownBy w' (some b) :=
  st_take S 9 (by decide) 0 (by decide) (by decide) (by decide)
theorem fa2 (S : St w0 w p b fx1) : Calls Try.prog 11 #[.pointer (some ⟨p, 0, none⟩), .int .i64 9] w fun e w' => e = .returned (.tuple #[.int .i64 0, .int .i64 0]) ∧ St w0 w' p b fx2 ∧ w.grownBy w' (some b) :=
  st_take S 9 (by decide) 1 (by decide) (by decide) (by decide)
theorem fa3 (S : St w0 w p b fx2) : Calls Try.prog 28 #[.pointer (some ⟨p, 0, none⟩), .int .i64 8] w fun e w' => e = .returned (.tuple #[.int .i64 1, .bool true]) ∧ St w0 w' p b fx2 ∧ Below w.heap.size w w' :=
  st_run S 8 (by decide) (by decide) 1 (by decide) (by decide) (by decide)
theorem fa4 (S : St w0 w p b fx2) : Calls Try.prog 28 #[.pointer (some ⟨p, 0, none⟩), .int .i64 9] w fun e w' => e = .returned (.tuple #[.int .i64 0, .bool false]) ∧ St w0 w' p b fx2 ∧ Below w.heap.size w w' :=
  st_run_no S 9 (by decide) (by decide) (fun k hk => by
    have : k = 0 ∨ k = 1 := by
      have : k + 9 ≤ 10 := hk
      omega
    rcases this with rfl | rfl <;> decide)
theorem fa5 (S : St w0 w p b fx2) : Calls Try.prog 18 #[.pointer (some ⟨p, 0, none⟩)] w fun e w' => e = .returned (.string ⟨#[1, 2]⟩) ∧ St w0 w' p b fx2 ∧ Below w.heap.size w w' := st_save S
theorem fa6 (hB : Below w0.heap.size w0 w) : Calls Try.prog 17 #[.string ⟨#[1, 2]⟩, .int .i64 10] w fun e w' => ∃ p b, e = .returned (.tuple #[.pointer (some ⟨p, 0, none⟩), .int .i64 0]) ∧ St w0 w' p b fx2 ∧ w.heap.size ≤ p ∧ w.heap.size ≤ b ∧ Below w.heap.size w w' :=
  st_load ⟨#[1, 2]⟩ 10 (by decide) (by decide) (by decide) hB
theorem fa7 : Calls Try.prog 17 #[.string ⟨#[0, 4]⟩, .int .i64 10] w fun e w' => e = .returned (.tuple #[.pointer none, .int .i64 4]) ∧ Below w.heap.size w w' := load_form ⟨#[0, 4]⟩ 10 w (by decide) (by decide) (by decide)
theorem fa8 : Calls Try.prog 17 #[.string ⟨#[1, 2]⟩, .int .i64 17] w fun e w' => e = .returned (.tuple #[.pointer none, .int .i64 4]) ∧ Below w.heap.size w w' := load_form ⟨#[1, 2]⟩ 17 w (by decide) (by decide) (by decide)
theorem fa9 (S : St w0 w p b fx2) : Calls Try.prog 13 #[.pointer (some ⟨p, 0, none⟩), .int .i64 9] w fun e w' => e = .returned (.int .i64 8) ∧ St w0 w' p b fx2 ∧ w.grownBy w' (some b) := st_takeAt_twice S 9 (by decide) (by decide)
theorem fa10 (S : St w0 w p b fx2) : Calls Try.prog 15 #[.pointer (some ⟨p, 0, none⟩), .int .i64 5] w fun e w' => e = .returned (.int .i64 7) ∧ St w0 w' p b fx2 ∧ w.grownBy w' (some b) := st_give_none S 5 (by decide) (by decide)
theorem fa11 (S : St w0 w p b fx2) : Calls Try.prog 15 #[.pointer (some ⟨p, 0, none⟩), .int .i64 0] w fun e w' => e = .returned (.int .i64 0) ∧ St w0 w' p b fx1 ∧ w.grownBy w' (some b) := st_give S 0 (by decide) (by decide)
theorem fa12 (S : St w0 w p b fx1) : Calls Try.prog 11 #[.pointer (some ⟨p, 0, none⟩), .int .i64 10] w fun e w' => e = .returned (.tuple #[.int .i64 0, .int .i64 1]) ∧ St w0 w' p b fx1 ∧ w.grownBy w' (some b) := st_take_arg S 10 (.inr (by decide))
theorem fa13 (S : St w0 w p b fx1) : Calls Try.prog 24 #[.pointer (some ⟨p, 0, none⟩)] w fun e w' => e = .returned (.int .i64 9) ∧ St w0 w' p b fx1 ∧ Below w.heap.size w w' := st_free S
theorem fa14 (S : St w0 w p b fx1) : Calls Try.prog 21 #[.pointer (some ⟨p, 0, none⟩)] w fun e w' => ∃ v, e = .returned v ∧ IsInts w' v [9] ∧ St w0 w' p b fx1 ∧ Below w.heap.size w w' := st_taken S
theorem fa15 (S : St w0 w p b fx2) : Calls Try.prog 21 #[.pointer (some ⟨p, 0, none⟩)] w fun e w' => ∃ v, e = .returned v ∧ IsInts w' v [0, 9] ∧ St w0 w' p b fx2 ∧ Below w.heap.size w w' := st_taken S
theorem fa16 (S : St w0 w p b fx1) : Calls Try.prog 25 #[.pointer (some ⟨p, 0, none⟩), .int .i64 9] w fun e w' => e = .returned (.bool true) ∧ St w0 w' p b fx1 ∧ Below w.heap.size w w' := st_is S 9 (by decide)
theorem fa17 (S : St w0 w p b fx1) : Calls Try.prog 25 #[.pointer (some ⟨p, 0, none⟩), .int .i64 10] w fun e w' => e = .returned (.bool false) ∧ St w0 w' p b fx1 ∧ Below w.heap.size w w' := st_is_out S 10 (.inr (by decide))
theorem fa18 (S : St w0 w p b fx1) : Calls Try.prog 27 #[.pointer (some ⟨p, 0, none⟩)] w fun e w' => e = .returned (.int .i64 10) ∧ St w0 w' p b fx1 ∧ Below w.heap.size w w' := st_len S
end
set_option maxRecDepth 100000 in
set_option maxHeartbeats 2000000 in
theorem fixed_true (w : World) : Calls Try.prog 30 #[] w fun e w' => e = .returned (.bool true) ∧ Below w.heap.size w w' := by
  go_enter Try.func30, Try.ntmps30
  go_wp2_with fail
  refine (st_new (w0 := w) 10 (by omega) (by omega) (Below.refl _ _)).mono ?_; rintro e w1 ⟨p, b, rfl, S1, _, _, _⟩
  have T1 := Lib.hid S1; clear S1
  go_wp2_with fail
  refine (new_arg w1 1025 (by omega)).mono ?_; rintro e _ ⟨rfl, rfl⟩
  go_wp2_with fail
  refine (fa1 T1.out).mono ?_; rintro e w2 ⟨rfl, S, _⟩
  have T2 := Lib.hid S; clear S T1
  go_wp2_with fail
  refine (fa2 T2.out).mono ?_; rintro e w3 ⟨rfl, S, _⟩
  have T3 := Lib.hid S; clear S T2
  go_wp2_with fail
  refine (fa3 T3.out).mono ?_; rintro e w4 ⟨rfl, S, _⟩
  have T4 := Lib.hid S; clear S T3
  go_wp2_with fail
  refine (fa4 T4.out).mono ?_; rintro e w5 ⟨rfl, S, _⟩
  have T5 := Lib.hid S; clear S T4
  go_wp2_with fail
  refine (fa5 T5.out).mono ?_; rintro e w6 ⟨rfl, S, _⟩
  have T6 := Lib.hid S; clear S T5
  go_wp2_with fail
  refine (fa6 T6.out.bel).mono ?_; rintro e w7 ⟨q, g, rfl, S, hq, hg, hb⟩
  have hne : q ≠ b ∧ g ≠ b := by have := T6.out.isB.ltb; omega
  obtain ⟨n1, n2⟩ := hne
  have U7 := Lib.hid S; have T7 := Lib.hid (T6.out.reads hb); clear S T6 hq hg hb
  go_wp2_with fail
  refine fa7.mono ?_; rintro e w8 ⟨rfl, hb⟩
  have U8 := Lib.hid (U7.out.reads hb); have T8 := Lib.hid (T7.out.reads hb); clear hb U7 T7
  go_wp2_with fail
  refine fa8.mono ?_; rintro e w9 ⟨rfl, hb⟩
  have U9 := Lib.hid (U8.out.reads hb); have T9 := Lib.hid (T8.out.reads hb); clear hb U8 T8
  go_wp2_with fail
  refine (fa9 T9.out).mono ?_; rintro e w10 ⟨rfl, S, hg⟩
  have U10 := Lib.hid (U9.out.other hg n1 n2 T9.out.hb); have T10 := Lib.hid S; clear S hg U9 T9
  go_wp2_with fail
  refine (fa10 T10.out).mono ?_; rintro e w11 ⟨rfl, S, hg⟩
  have U11 := Lib.hid (U10.out.other hg n1 n2 T10.out.hb); have T11 := Lib.hid S; clear S hg U10 T10
  go_wp2_with fail
  refine (fa11 T11.out).mono ?_; rintro e w12 ⟨rfl, S, hg⟩
  have U12 := Lib.hid (U11.out.other hg n1 n2 T11.out.hb); have T12 := Lib.hid S; clear S hg U11 T11
  go_wp2_with fail
  refine (fa12 T12.out).mono ?_; rintro e w13 ⟨rfl, S, hg⟩
  have U13 := Lib.hid (U12.out.other hg n1 n2 T12.out.hb); have T13 := Lib.hid S; clear S hg U12 T12
  go_wp2_with fail
  refine (fa13 T13.out).mono ?_; rintro e w14 ⟨rfl, S, hb⟩
  have U14 := Lib.hid (U13.out.reads hb); have T14 := Lib.hid S; clear S hb U13 T13
  go_wp2_with fail
  refine (fa14 T14.out).mono ?_; rintro e w15 ⟨v, rfl, hv, S, hb⟩
  have U15 := Lib.hid (U14.out.reads hb); have T15 := Lib.hid S; have V := Lib.hid hv; clear S hb U14 T14 hv
  go_wp2_with fail
  have ba := (Below.refl _ w15).alloc (Nat.le_refl _) (.cells #[.int .i64 9] 3)
  refine (ints_eq _ v _ [9] (V.out.below ba) (isInts_lit _ w15.heap.size 1 [9] 3 1 rfl (World.alloc_heap_new w15 _)) (by decide)).mono ?_; rintro e w16 ⟨rfl, hb⟩
  have hb' := ba.trans (hb.mono ba.size)
  have U16 := Lib.hid (U15.out.reads hb'); have T16 := Lib.hid (T15.out.reads hb'); clear hb hb' ba U15 T15 V
  go_wp2_with fail
  refine (fa15 U16.out).mono ?_; rintro e w17 ⟨v2, rfl, hv, _, hb⟩
  have T17 := Lib.hid (T16.out.reads hb); have V := Lib.hid hv; clear hb U16 T16 hv
  go_wp2_with fail
  have ba := (Below.refl _ w17).alloc (Nat.le_refl _) (.cells #[.int .i64 0, .int .i64 9] 3)
  refine (ints_eq _ v2 _ [0, 9] (V.out.below ba) (isInts_lit _ w17.heap.size 2 [0, 9] 3 2 rfl (World.alloc_heap_new w17 _)) (by decide)).mono ?_; rintro e w18 ⟨rfl, hb⟩
  have hb' := ba.trans (hb.mono ba.size)
  have T18 := Lib.hid (T17.out.reads hb'); clear hb hb' ba T17 V
  go_wp2_with fail
  refine (fa16 T18.out).mono ?_; rintro e w19 ⟨rfl, S, _⟩
  have T19 := Lib.hid S; clear S T18
  go_wp2_with fail
  refine (fa17 T19.out).mono ?_; rintro e w20 ⟨rfl, S, _⟩
  have T20 := Lib.hid S; clear S T19
  go_wp2_with fail
  refine (fa18 T20.out).mono ?_; rintro e w21 ⟨rfl, S, _⟩
  go_wp2_with fail
  go_ret
  exact ⟨rfl, S.bel⟩
end Go.Proofs.Ytdjoiabbchnhaaa
