/-
  The document's pages beside the program's: one contract a call, and what both answer.
-/
import Derived.Test.YtdjoiabbchnhaaaR4
namespace Go.Proofs.Ytdjoiabbchnhaaa
open Go.RowKit Go.Shelf

structure StR (w0 w : World) (p b : Nat) (L : List Bool) : Prop where
  isR : IsR w p b L
  bel : Below w0.heap.size w0 w
  hp : w0.heap.size ≤ p
  hb : w0.heap.size ≤ b
variable {w0 w w' : World} {p b q g : Nat} {L M : List Bool}
theorem StR.step (S : StR w0 w p b L) (h : IsR w' p b M) (hg : w.grownBy w' (some b)) : StR w0 w' p b M :=
  ⟨h, S.bel.grown hg S.bel.size (fun k e => by cases e; exact S.hb), S.hp, S.hb⟩
theorem StR.reads (S : StR w0 w p b L) (h : Below w.heap.size w w') : StR w0 w' p b L := S.step (S.isR.grew h) (grown_of_below h _)
theorem StR.other (S : StR w0 w p b L) (hg : w.grownBy w' (some g)) (hp : p ≠ g) (hb : b ≠ g) (h0 : w0.heap.size ≤ g) : StR w0 w' p b L :=
  ⟨S.isR.grown hg hp hb, S.bel.grown hg S.bel.size (fun k e => by cases e; exact h0), S.hp, S.hb⟩
theorem grown_same (w : World) (b : Nat) : w.grownBy w (some b) := grown_of_below (Below.refl _ _) _
theorem str_new (n : Nat) (h1 : 1 ≤ n) (h2 : n ≤ 1024) (hB : Below w0.heap.size w0 w) :
    Calls Try.prog 10 #[.int .i64 (n : Int)] w fun e w' => ∃ p b, e = .returned (.tuple #[.pointer (some ⟨p, 0, none⟩), .int .i64 0]) ∧ StR w0 w' p b (List.replicate n false) ∧ w.heap.size ≤ p ∧ w.heap.size ≤ b ∧ Below w.heap.size w w' :=
  (rnew_ok w n h1 h2).mono fun e w' ⟨he, hi, hb⟩ => ⟨_, _, he, ⟨hi, hB.trans (hb.mono hB.size), by have := hB.size; omega, hB.size⟩, by omega, Nat.le_refl _, hb⟩
theorem str_taken (S : StR w0 w p b L) :
    Calls Try.prog 22 #[.pointer (some ⟨p, 0, none⟩)] w fun e w' => ∃ v, e = .returned v ∧ IsInts w' v ((takenOf L).map (fun i : Nat => (i : Int))) ∧ StR w0 w' p b L ∧ Below w.heap.size w w' :=
  (rtaken_any w p b L S.isR).mono fun e w' ⟨v, he, hi, hb⟩ => ⟨v, he, hi, S.reads hb, hb⟩
theorem str_save (S : StR w0 w p b L) :
    Calls Try.prog 23 #[.pointer (some ⟨p, 0, none⟩)] w fun e w' => e = .returned (.string ⟨(pack L).toArray⟩) ∧ StR w0 w' p b L ∧ Below w.heap.size w w' :=
  (rsave_any w p b L S.isR).mono fun e w' ⟨he, hb⟩ => ⟨he, S.reads hb, hb⟩

/-- what a page's place is: none, taken, or free -/
theorem page_cases (L : List Bool) (N : Int) : (N < 0 ∨ (L.length : Int) ≤ N) ∨ ∃ i : Nat, N = (i : Int) ∧ i < L.length := by
  by_cases h : N < 0 ∨ (L.length : Int) ≤ N
  · exact .inl h
  · exact .inr ⟨N.toNat, by omega, by omega⟩
theorem takeAt_both (L : List Bool) (N : Int) : ∃ (x : Int) (M : List Bool), M.length = L.length ∧
    (∀ w0 w p b, St w0 w p b L → Calls Try.prog 13 #[.pointer (some ⟨p, 0, none⟩), .int .i64 N] w fun e w' => e = .returned (.int .i64 x) ∧ St w0 w' p b M ∧ w.grownBy w' (some b)) ∧
    (∀ w0 w p b, StR w0 w p b L → Calls Try.prog 14 #[.pointer (some ⟨p, 0, none⟩), .int .i64 N] w fun e w' => e = .returned (.int .i64 x) ∧ StR w0 w' p b M ∧ w.grownBy w' (some b)) := by
  rcases page_cases L N with h | ⟨i, rfl, h⟩
  · exact ⟨1, L, rfl, fun _ _ _ _ S => st_takeAt_arg S N h, fun _ w _ _ S => (rtakeAt_arg _ _ _ _ S.isR N h).mono fun e w' ⟨he, hm⟩ => by subst hm; exact ⟨he, S, grown_same _ _⟩⟩
  · cases ht : tk L i
    · exact ⟨0, L.set i true, by simp, fun _ _ _ _ S => st_takeAt S i h ht, fun _ w _ _ S => (rtakeAt_ok _ _ _ _ S.isR i h ht).mono fun e w' ⟨he, hi, hg⟩ => ⟨he, S.step hi hg, hg⟩⟩
    · exact ⟨8, L, rfl, fun _ _ _ _ S => st_takeAt_twice S i h ht, fun _ w _ _ S => (rtakeAt_twice _ _ _ _ S.isR i h ht).mono fun e w' ⟨he, hm⟩ => by subst hm; exact ⟨he, S, grown_same _ _⟩⟩
theorem give_both (L : List Bool) (N : Int) : ∃ (x : Int) (M : List Bool), M.length = L.length ∧
    (∀ w0 w p b, St w0 w p b L → Calls Try.prog 15 #[.pointer (some ⟨p, 0, none⟩), .int .i64 N] w fun e w' => e = .returned (.int .i64 x) ∧ St w0 w' p b M ∧ w.grownBy w' (some b)) ∧
    (∀ w0 w p b, StR w0 w p b L → Calls Try.prog 16 #[.pointer (some ⟨p, 0, none⟩), .int .i64 N] w fun e w' => e = .returned (.int .i64 x) ∧ StR w0 w' p b M ∧ w.grownBy w' (some b)) := by
  rcases page_cases L N with h | ⟨i, rfl, h⟩
  · exact ⟨1, L, rfl, fun _ _ _ _ S => st_give_arg S N h, fun _ w _ _ S => (rgive_arg _ _ _ _ S.isR N h).mono fun e w' ⟨he, hm⟩ => by subst hm; exact ⟨he, S, grown_same _ _⟩⟩
  · cases ht : tk L i
    · exact ⟨7, L, rfl, fun _ _ _ _ S => st_give_none S i h ht, fun _ w _ _ S => (rgive_none _ _ _ _ S.isR i h ht).mono fun e w' ⟨he, hm⟩ => by subst hm; exact ⟨he, S, grown_same _ _⟩⟩
    · exact ⟨0, L.set i false, by simp, fun _ _ _ _ S => st_give S i h ht, fun _ w _ _ S => (rgive_ok _ _ _ _ S.isR i h ht).mono fun e w' ⟨he, hi, hg⟩ => ⟨he, S.step hi hg, hg⟩⟩
theorem is_both (L : List Bool) (N : Int) : ∃ x : Bool,
    (∀ w0 w p b, St w0 w p b L → Calls Try.prog 25 #[.pointer (some ⟨p, 0, none⟩), .int .i64 N] w fun e w' => e = .returned (.bool x) ∧ St w0 w' p b L ∧ Below w.heap.size w w') ∧
    (∀ w0 w p b, StR w0 w p b L → Calls Try.prog 26 #[.pointer (some ⟨p, 0, none⟩), .int .i64 N] w fun e w' => e = .returned (.bool x) ∧ StR w0 w' p b L ∧ Below w.heap.size w w') := by
  rcases page_cases L N with h | ⟨i, rfl, h⟩
  · exact ⟨false, fun _ _ _ _ S => st_is_out S N h, fun _ w _ _ S => (ris_out _ _ _ _ S.isR N h).mono fun e w' ⟨he, hm⟩ => by subst hm; exact ⟨he, S, Below.refl _ _⟩⟩
  · exact ⟨tk L i, fun _ _ _ _ S => st_is S i h, fun _ w _ _ S => (ris_in _ _ _ _ S.isR i h).mono fun e w' ⟨he, hm⟩ => by subst hm; exact ⟨he, S, Below.refl _ _⟩⟩
/-- either all that is asked of the first 'k' ones holds, or there is a first one at which it does not -/
theorem first_or_all (f : Nat → Bool) (n : Nat) : (∃ k, k < n ∧ (∀ s, s < k → f s = true) ∧ f k = false) ∨ ∀ s, s < n → f s = true := by
  induction n with
  | zero => exact .inr fun s h => by omega
  | succ n ih =>
    rcases ih with ⟨k, h1, h2⟩ | h
    · exact .inl ⟨k, by omega, h2⟩
    · cases hf : f n
      · exact .inl ⟨n, by omega, h, hf⟩
      · exact .inr fun s hs => by
          by_cases e : s = n
          · subst e; exact hf
          · exact h s (by omega)
theorem take_both (L : List Bool) (h1 : 1 ≤ L.length) (N : Int) : ∃ (x y : Int) (M : List Bool), M.length = L.length ∧
    (∀ w0 w p b, St w0 w p b L → Calls Try.prog 11 #[.pointer (some ⟨p, 0, none⟩), .int .i64 N] w fun e w' => e = .returned (.tuple #[.int .i64 x, .int .i64 y]) ∧ St w0 w' p b M ∧ w.grownBy w' (some b)) ∧
    (∀ w0 w p b, StR w0 w p b L → Calls Try.prog 12 #[.pointer (some ⟨p, 0, none⟩), .int .i64 N] w fun e w' => e = .returned (.tuple #[.int .i64 x, .int .i64 y]) ∧ StR w0 w' p b M ∧ w.grownBy w' (some b)) := by
  rcases page_cases L N with h | ⟨i, rfl, h⟩
  · exact ⟨0, 1, L, rfl, fun _ _ _ _ S => st_take_arg S N h, fun _ w _ _ S => (rtake_arg _ _ _ _ S.isR N h).mono fun e w' ⟨he, hm⟩ => by subst hm; exact ⟨he, S, grown_same _ _⟩⟩
  · rcases first_or_all (fun s => tk L ((i + s) % L.length)) L.length with ⟨k, hk, hpre, hf⟩ | hall
    · refine ⟨_, 0, L.set ((i + k) % L.length) true, by simp, fun _ _ _ _ S => st_take S i h k hk hpre hf, fun _ w _ _ S => (rtake_any _ _ _ _ S.isR i h).mono fun e w' ho => ?_⟩
      rcases ho with ⟨m, hm, r1, r2, r3, r4, r5⟩ | ⟨r1, _⟩
      · have : m = k := by
          rcases Nat.lt_trichotomy m k with h | h | h
          · have := hpre m h; rw [this] at r2; cases r2
          · exact h
          · have := r1 k h; rw [this] at hf; cases hf
        subst this; exact ⟨r3, S.step r4 r5, r5⟩
      · have := r1 k hk; rw [this] at hf; cases hf
    · have hal : ∀ s, s < L.length → tk L s = true := fun j hj => by
        have := hall (stepsTo i L.length j) (stepsTo_lt i _ j h hj)
        rwa [stepsTo_eq i _ j h hj] at this
      refine ⟨0, 6, L, rfl, fun _ _ _ _ S => st_take_full S i h hal, fun _ w _ _ S => (rtake_any _ _ _ _ S.isR i h).mono fun e w' ho => ?_⟩
      rcases ho with ⟨m, hm, r1, r2, _⟩ | ⟨_, r2, r3⟩
      · have := hall m hm; rw [this] at r2; cases r2
      · subst r3; exact ⟨r2, S, grown_same _ _⟩
theorem run_both (L : List Bool) (N : Int) (hN : N ≤ 9223372036854775807) : ∃ (x : Int) (y : Bool),
    (∀ w0 w p b, St w0 w p b L → Calls Try.prog 28 #[.pointer (some ⟨p, 0, none⟩), .int .i64 N] w fun e w' => e = .returned (.tuple #[.int .i64 x, .bool y]) ∧ St w0 w' p b L ∧ Below w.heap.size w w') ∧
    (∀ w0 w p b, StR w0 w p b L → Calls Try.prog 29 #[.pointer (some ⟨p, 0, none⟩), .int .i64 N] w fun e w' => e = .returned (.tuple #[.int .i64 x, .bool y]) ∧ StR w0 w' p b L ∧ Below w.heap.size w w') := by
  by_cases h : N < 1
  · exact ⟨0, false, fun _ _ _ _ S => st_run_neg S N h, fun _ w _ _ S => (rrun_neg _ _ _ _ S.isR N h).mono fun e w' ⟨he, hm⟩ => by subst hm; exact ⟨he, S, Below.refl _ _⟩⟩
  · obtain ⟨n, rfl⟩ := Int.eq_ofNat_of_zero_le (show 0 ≤ N by omega)
    have n1 : 1 ≤ n := by omega
    have n2 : n ≤ 9223372036854775807 := by omega
    rcases first_or_all (fun k => decide (¬ (k + n ≤ L.length ∧ freeAt L n k))) (L.length + 1) with ⟨k, hk, hpre, hf⟩ | hall
    · have hf' := of_decide_eq_false hf
      have hf2 : k + n ≤ L.length ∧ freeAt L n k := Decidable.not_not.1 hf'
      have hm : ∀ k', k' < k → ¬ freeAt L n k' := fun k' h' hfr => by
        have := of_decide_eq_true (hpre k' h')
        exact this ⟨by omega, hfr⟩
      refine ⟨k, true, fun _ _ _ _ S => st_run S n n1 n2 k hf2.1 hf2.2 hm, fun _ w _ _ S => (rrun_any _ _ _ _ S.isR n n1 n2).mono fun e w' ⟨ho, hw⟩ => ?_⟩
      subst hw
      rcases ho with ⟨k2, r1, r2, r3, r4⟩ | ⟨r1, _⟩
      · have : k2 = k := by
          rcases Nat.lt_trichotomy k2 k with h | h | h
          · exact absurd r2 (hm k2 h)
          · exact h
          · exact absurd hf2.2 (r3 k h)
        subst this; exact ⟨r4, S, Below.refl _ _⟩
      · exact absurd hf2.2 (r1 k hf2.1)
    · have hm : ∀ k', k' + n ≤ L.length → ¬ freeAt L n k' := fun k' h' hfr => by
        have := of_decide_eq_true (hall k' (by omega))
        exact this ⟨h', hfr⟩
      refine ⟨0, false, fun _ _ _ _ S => st_run_no S n n1 n2 hm, fun _ w _ _ S => (rrun_any _ _ _ _ S.isR n n1 n2).mono fun e w' ⟨ho, hw⟩ => ?_⟩
      subst hw
      rcases ho with ⟨k2, r1, r2, _, _⟩ | ⟨_, r4⟩
      · exact absurd r2 (hm k2 r1)
      · exact ⟨r4, S, Below.refl _ _⟩
end Go.Proofs.Ytdjoiabbchnhaaa
