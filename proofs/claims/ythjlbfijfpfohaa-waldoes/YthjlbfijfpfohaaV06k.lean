/-
  The document's log and its disk: one contract a call, in the words of the program's.
-/
import Derived.Test.YthjlbfijfpfohaaV06j
namespace Go.Proofs.Ythjlbfijfpfohaa
open Go.RowKit Go.ChangeMaps
/-- the document's log on its disk -/
structure VD (w : World) (o : Nat → Nat) (q pd j g : Nat) (S : List ByteArray) (Ws : Wrs) (L : LogP) : Prop where
  D : IsR w o q pd S Ws
  G : IsV w o j g pd L
  ne : q ≠ j
  tz : ∀ s, L.tu = some s → 1 ≤ s.size ∧ s.size ≤ 100000
theorem IsR.moves {X : Nat → Prop} {w w' : World} {o o' : Nat → Nat} {j p : Nat} {S : List ByteArray} {Ws : Wrs} (h : IsR w o j p S Ws) (M : Moves X o w o' w') (hj : ¬ X j) : IsR w' o' j p S Ws :=
  M (fun o w => IsR w o j p S Ws) (fun _ _ _i _ _ hi s h => h.other s (fun e => hj (e ▸ hi))) h
theorem IsV.moves {X : Nat → Prop} {w w' : World} {o o' : Nat → Nat} {j g p : Nat} {L : LogP} (h : IsV w o j g p L) (M : Moves X o w o' w') (hj : ¬ X j) : IsV w' o' j g p L :=
  M (fun o w => IsV w o j g p L) (fun _ _ _i _ _ hi s h => h.other s (fun e => hj (e ▸ hi))) h
section
variable {w w' w1 : World} {o o' o1 : Nat → Nat} {q pd j g m q1 pd1 j1 g1 : Nat} {S : List ByteArray} {Ws : Wrs} {L : LogP} {c : Nat} {X : Nat → Prop}
theorem VD.moves (h : VD w o q pd j g S Ws L) (M : Moves X o w o' w') (h1 : ¬ X q) (h2 : ¬ X j) : VD w' o' q pd j g S Ws L := ⟨h.D.moves M h1, h.G.moves M h2, h.ne, h.tz⟩
theorem VD.reads (h : VD w o q pd j g S Ws L) (b : Below w.heap.size w w') : VD w' o q pd j g S Ws L := ⟨h.D.reads b, h.G.reads b, h.ne, h.tz⟩
theorem tu_cases (L : LogP) : L.tu = none ∨ ∃ t, L.tu = some t := by
  cases L.tu with
  | none => exact .inl rfl
  | some t => exact .inr ⟨t, rfl⟩
theorem vd_append (V : VD w o q pd j g S Ws L) (P : LD w1 o1 q1 pd1 j1 g1 m S Ws L c) (hc : c ≤ 100) (s : ByteArray) :
    Calls Try.prog 11 #[.pointer (some ⟨g, 0, none⟩), .string s] w fun e w' => e = .returned (.tuple #[.int .i64 (appK m L s), .int .i64 (appE m L s)]) ∧ ∃ o', VD w' o' q pd j g S Ws (appL m L s) ∧ Moves (Duo6 j q) o w o' w' := by
  have hw := P.wait; have hn := P.n; have hm := P.m2; have hr := P.cR
  by_cases h1 : s.size < 1 ∨ 100000 < s.size
  · have e1 : appE m L s = 1 := by unfold appE; rw [if_pos h1]
    have e2 : appL m L s = L := by unfold appL; rw [e1, if_neg (by decide)]
    have e3 : appK m L s = 0 := by unfold appK; rw [e1, if_neg (by decide)]
    rw [e1, e2, e3]
    refine (vappend_arg s h1).mono ?_
    rintro e w' ⟨rfl, rfl⟩
    exact ⟨rfl, o, V, Moves.refl _ _ _⟩
  · rcases tu_cases L with h2 | ⟨t, ht⟩
    · have C := vappend_go V.G V.D P.I.len s (by omega) (by omega) h2 hn (by omega) (by omega) P.I.wl
      by_cases h3 : waitL L + 3 + s.size ≤ (m - L.n) * 234
      · have e1 : appE m L s = 0 := by unfold appE; rw [if_neg h1, if_neg (by simp [h2]), if_pos h3]
        have e2 : appL m L s = { L with R := L.R ++ [s] } := by unfold appL; rw [e1, if_pos rfl]
        have e3 : appK m L s = ((L.R.length + 1 : Nat) : Int) := by unfold appK; rw [e1, if_pos rfl]
        rw [e1, e2, e3]
        refine C.mono ?_
        rintro e w' ⟨_, h⟩
        obtain ⟨rfl, o', h, s'⟩ := h h3
        exact ⟨rfl, o', ⟨V.D.other s' V.ne, h, V.ne, V.tz⟩, Moves.of (.inl rfl) s'⟩
      · have e1 : appE m L s = 6 := by unfold appE; rw [if_neg h1, if_neg (by simp [h2]), if_neg h3]
        have e2 : appL m L s = L := by unfold appL; rw [e1, if_neg (by decide)]
        have e3 : appK m L s = 0 := by unfold appK; rw [e1, if_neg (by decide)]
        rw [e1, e2, e3]
        refine C.mono ?_
        rintro e w' ⟨h, _⟩
        obtain ⟨rfl, b⟩ := h h3
        exact ⟨rfl, o, V.reads b, Moves.of (.inl rfl) (Stp.ofBelow b o j)⟩
    · have e1 : appE m L s = 9 := by unfold appE; rw [if_neg h1, if_pos (by rw [ht]; simp)]
      have e2 : appL m L s = L := by unfold appL; rw [e1, if_neg (by decide)]
      have e3 : appK m L s = 0 := by unfold appK; rw [e1, if_neg (by decide)]
      rw [e1, e2, e3]
      refine (vappend_some V.G s t (by omega) (by omega) ht (V.tz t ht).1).mono ?_
      rintro e w' ⟨rfl, rfl⟩
      exact ⟨rfl, o, V, Moves.refl _ _ _⟩
theorem vd_write (V : VD w o q pd j g S Ws L) (P : LD w1 o1 q1 pd1 j1 g1 m S Ws L c) (hc : c ≤ 100) :
    Calls Try.prog 13 #[.pointer (some ⟨g, 0, none⟩)] w fun e w' => e = .returned (.int .i64 (wrE L)) ∧ ∃ o', VD w' o' q pd j g S (wrW m Ws L) (wrL L) ∧ Moves (Duo6 j q) o w o' w' := by
  have hw := P.wait; have hn := P.n; have hm := P.m2; have hA := P.cA; have hW := P.cW; have hf := P.I.fit; have hr := P.cR
  unfold wrE wrL wrW
  rcases tu_cases L with h2 | ⟨t, ht⟩
  · simp only [h2, ne_eq, not_true_eq_false, if_false]
    refine (vwrite_ok V.G V.D V.ne P.I.len h2 P.I.half (by omega) P.I.wl hf (by omega) (by omega) (by omega)).mono ?_
    rintro e w' ⟨rfl, w2, o2, o', h, d, s1, s2⟩
    exact ⟨rfl, o', ⟨d, h, V.ne, fun s hs => V.tz s hs⟩, (Moves.of (.inr rfl) s1).trans (Moves.of (.inl rfl) s2)⟩
  · have h2 : L.tu ≠ none := by rw [ht]; simp
    simp only [ne_eq, h2, not_false_eq_true, if_true]
    refine (vwrite_state V.G t ht (V.tz t ht).1).mono ?_
    rintro e w' ⟨rfl, rfl⟩
    exact ⟨rfl, o, V, Moves.refl _ _ _⟩
theorem syncL_tu (L : LogP) : (syncL L).tu = none := by
  unfold syncL
  cases h : L.tu with
  | none => rfl
  | some s => rfl
theorem vd_sync (V : VD w o q pd j g S Ws L) (P : LD w1 o1 q1 pd1 j1 g1 m S Ws L c) (hc : c ≤ 100) :
    Calls Try.prog 15 #[.pointer (some ⟨g, 0, none⟩)] w fun e w' => e = .returned (.tuple #[]) ∧ ∃ o', VD w' o' q pd j g (syncOf S Ws) [] (syncL L) ∧ Moves (Duo6 j q) o w o' w' := by
  have hW := P.cW
  have tz : ∀ s, (syncL L).tu = some s → 1 ≤ s.size ∧ s.size ≤ 100000 := fun s hs => by rw [syncL_tu] at hs; cases hs
  rcases tu_cases L with h2 | ⟨t, ht⟩
  · refine (vsync_none V.G V.D V.ne (by omega) h2).mono ?_
    rintro e w' ⟨rfl, o', h, d, M⟩
    exact ⟨rfl, o', ⟨d, h, V.ne, tz⟩, M⟩
  · refine (vsync_some V.G V.D V.ne (by omega) P.I.half t ht (V.tz t ht).1 (V.tz t ht).2).mono ?_
    rintro e w' ⟨rfl, o', h, d, M⟩
    exact ⟨rfl, o', ⟨d, h, V.ne, tz⟩, M⟩
theorem vd_turn (V : VD w o q pd j g S Ws L) (P : LD w1 o1 q1 pd1 j1 g1 m S Ws L c) (hc : c ≤ 100) (s : ByteArray) :
    Calls Try.prog 17 #[.pointer (some ⟨g, 0, none⟩), .string s] w fun e w' => e = .returned (.int .i64 (tuE m L s)) ∧ ∃ o', VD w' o' q pd j g S (tuW m Ws L s) (tuL m L s) ∧ Moves (Duo6 j q) o w o' w' := by
  have hw := P.wait; have hn := P.n; have hm := P.m2; have hA := P.cA; have hW := P.cW
  by_cases h1 : s.size < 1 ∨ 100000 < s.size
  · have e1 : tuE m L s = 1 := by unfold tuE; rw [if_pos h1]
    have e2 : tuL m L s = L := by unfold tuL; rw [e1, if_neg (by decide)]
    have e3 : tuW m Ws L s = Ws := by unfold tuW; rw [e1, if_neg (by decide)]
    rw [e1, e2, e3]
    refine (vturn_arg s h1).mono ?_
    rintro e w' ⟨rfl, rfl⟩
    exact ⟨rfl, o, V, Moves.refl _ _ _⟩
  · by_cases h2 : L.su < L.R.length ∨ L.tu ≠ none
    · have e1 : tuE m L s = 9 := by unfold tuE; rw [if_neg h1, if_pos h2]
      have e2 : tuL m L s = L := by unfold tuL; rw [e1, if_neg (by decide)]
      have e3 : tuW m Ws L s = Ws := by unfold tuW; rw [e1, if_neg (by decide)]
      rw [e1, e2, e3]
      have C : Calls Try.prog 17 #[.pointer (some ⟨g, 0, none⟩), .string s] w fun e w' => e = .returned (.int .i64 9) ∧ Below w.heap.size w w' := by
        rcases tu_cases L with h3 | ⟨t, ht⟩
        · exact vturn_unsure V.G s (by omega) (by omega) h3 (by rcases h2 with h | h; exact h; exact absurd h3 h)
        · exact vturn_some V.G s t (by omega) (by omega) ht (V.tz t ht).1
      refine C.mono ?_
      rintro e w' ⟨rfl, b⟩
      exact ⟨rfl, o, V.reads b, Moves.of (.inl rfl) (Stp.ofBelow b o j)⟩
    · have h2a : ¬ L.su < L.R.length := fun h => h2 (.inl h)
      have h2b : L.tu = none := by
        rcases tu_cases L with h | ⟨t, ht⟩
        · exact h
        · exact absurd (.inr (by rw [ht]; simp)) h2
      have C := vturn_go V.G V.D V.ne P.I.len s (by omega) (by omega) h2b h2a P.I.half (by omega) (by omega)
      by_cases h3 : 3 + s.size ≤ m * 234
      · have e1 : tuE m L s = 0 := by unfold tuE; rw [if_neg h1, if_neg h2, if_pos h3]
        have e2 : tuL m L s = turnL L s := by unfold tuL; rw [e1, if_pos rfl]
        have e3 : tuW m Ws L s = Ws ++ layW m (1 - L.h) (L.A + 1) 0 (recsB [s]) := by unfold tuW; rw [e1, if_pos rfl]
        rw [e1, e2, e3]
        refine C.mono ?_
        rintro e w' ⟨_, h⟩
        obtain ⟨rfl, o', h, d, M⟩ := h h3
        refine ⟨rfl, o', ⟨d, h, V.ne, fun x hx => ?_⟩, M⟩
        have : some s = some x := hx
        cases this
        omega
      · have e1 : tuE m L s = 6 := by unfold tuE; rw [if_neg h1, if_neg h2, if_neg h3]
        have e2 : tuL m L s = L := by unfold tuL; rw [e1, if_neg (by decide)]
        have e3 : tuW m Ws L s = Ws := by unfold tuW; rw [e1, if_neg (by decide)]
        rw [e1, e2, e3]
        refine C.mono ?_
        rintro e w' ⟨h, _⟩
        obtain ⟨rfl, b⟩ := h h3
        exact ⟨rfl, o, V.reads b, Moves.of (.inl rfl) (Stp.ofBelow b o j)⟩
theorem vd_room (V : VD w o q pd j g S Ws L) (P : LD w1 o1 q1 pd1 j1 g1 m S Ws L c) : Calls Try.prog 42 #[.pointer (some ⟨g, 0, none⟩)] w fun e w' => e = .returned (.int .i64 ((m - L.n : Nat) : Int)) ∧ Below w.heap.size w w' := vroom V.G V.D P.I.len P.n
end
end Go.Proofs.Ythjlbfijfpfohaa
