/-
  Package bits: one contract a call, for pages that the caller made since the world w0.
-/
import Derived.Test.YtdjoiabbchnhaaaH6
namespace Go.Proofs.Ytdjoiabbchnhaaa
open Go.RowKit Go.Shelf

/-- pages in blocks p and b, made since w0 -/
structure St (w0 w : World) (p b : Nat) (L : List Bool) : Prop where
  isB : IsB w p b L
  bel : Below w0.heap.size w0 w
  hp : w0.heap.size ≤ p
  hb : w0.heap.size ≤ b
variable {w0 w w' : World} {p b q g : Nat} {L M : List Bool}
theorem St.step (S : St w0 w p b L) (h : IsB w' p b M) (hg : w.grownBy w' (some b)) : St w0 w' p b M :=
  ⟨h, S.bel.grown hg S.bel.size (fun k e => by cases e; exact S.hb), S.hp, S.hb⟩
theorem St.reads (S : St w0 w p b L) (h : Below w.heap.size w w') : St w0 w' p b L := S.step (S.isB.grew h) (grown_of_below h _)
theorem St.other (S : St w0 w p b L) (hg : w.grownBy w' (some g)) (hp : p ≠ g) (hb : b ≠ g) (h0 : w0.heap.size ≤ g) : St w0 w' p b L :=
  ⟨S.isB.grown hg hp hb, S.bel.grown hg S.bel.size (fun k e => by cases e; exact h0), S.hp, S.hb⟩
theorem St.n1 (S : St w0 w p b L) : 1 ≤ L.length := S.isB.n1
theorem St.n2 (S : St w0 w p b L) : L.length ≤ 1024 := S.isB.n2
instance (L : List Bool) (n k : Nat) : Decidable (freeAt L n k) := inferInstanceAs (Decidable (∀ s, s < n → _))

theorem st_new (n : Nat) (h1 : 1 ≤ n) (h2 : n ≤ 1024) (hB : Below w0.heap.size w0 w) :
    Calls Try.prog 9 #[.int .i64 (n : Int)] w fun e w' => ∃ p b, e = .returned (.tuple #[.pointer (some ⟨p, 0, none⟩), .int .i64 0]) ∧ St w0 w' p b (List.replicate n false) ∧ w.heap.size ≤ p ∧ w.heap.size ≤ b ∧ Below w.heap.size w w' :=
  (new_ok w n h1 h2).mono fun e w' ⟨he, hi, hb⟩ => ⟨_, _, he, ⟨hi, hB.trans (hb.mono hB.size), by have := hB.size; omega, hB.size⟩, by omega, Nat.le_refl _, hb⟩
theorem st_load (s : ByteArray) (n : Nat) (h1 : 1 ≤ n) (h2 : n ≤ 1024) (ho : okS s.data.toList n) (hB : Below w0.heap.size w0 w) :
    Calls Try.prog 17 #[.string s, .int .i64 (n : Int)] w fun e w' => ∃ p b, e = .returned (.tuple #[.pointer (some ⟨p, 0, none⟩), .int .i64 0]) ∧ St w0 w' p b (bitsOf s.data.toList n) ∧ w.heap.size ≤ p ∧ w.heap.size ≤ b ∧ Below w.heap.size w w' :=
  (load_ok s n w h1 h2 ho).mono fun e w' ⟨he, hi, hb⟩ => ⟨_, _, he, ⟨hi, hB.trans (hb.mono hB.size), by have := hB.size; omega, hB.size⟩, by omega, Nat.le_refl _, hb⟩
theorem load_form (s : ByteArray) (n : Nat) (w : World) (h1 : 1 ≤ n) (h2 : n ≤ 1024) (hs : ¬ okS s.data.toList n) :
    Calls Try.prog 17 #[.string s, .int .i64 (n : Int)] w fun e w' => e = .returned (.tuple #[.pointer none, .int .i64 4]) ∧ Below w.heap.size w w' := by
  by_cases h : s.size = (n + 7) / 8
  · exact load_bad s n w h1 h2 h hs
  · exact load_len s n w h1 h2 h
theorem st_copy (S : St w0 w p b L) :
    Calls Try.prog 19 #[.pointer (some ⟨p, 0, none⟩)] w fun e w' => ∃ q g, e = .returned (.pointer (some ⟨q, 0, none⟩)) ∧ St w0 w' q g L ∧ St w0 w' p b L ∧ p ≠ g ∧ b ≠ g ∧ q ≠ b ∧ w.heap.size ≤ q ∧ w.heap.size ≤ g ∧ Below w.heap.size w w' :=
  (copy_any w p b L S.isB).mono fun e w' ⟨q, g, he, hi, hq, hg, hb⟩ => by
    have h1 := S.isB.ltp
    have h2 := S.isB.ltb
    have h3 := S.bel.size
    exact ⟨q, g, he, ⟨hi, S.bel.trans (hb.mono h3), by omega, by omega⟩, S.reads hb, by omega, by omega, by omega, hq, hg, hb⟩
theorem st_take (S : St w0 w p b L) (fr : Nat) (hfr : fr < L.length) (k : Nat) (hk : k < L.length) (hpre : ∀ s, s < k → tk L ((fr + s) % L.length) = true) (hf : tk L ((fr + k) % L.length) = false) :
    Calls Try.prog 11 #[.pointer (some ⟨p, 0, none⟩), .int .i64 (fr : Int)] w fun e w' => e = .returned (.tuple #[.int .i64 (((fr + k) % L.length : Nat) : Int), .int .i64 0]) ∧ St w0 w' p b (L.set ((fr + k) % L.length) true) ∧ w.grownBy w' (some b) :=
  (take_ok w p b L S.isB fr hfr k hk hpre hf).mono fun e w' ⟨he, hi, hg⟩ => ⟨he, S.step hi hg, hg⟩
theorem st_take_full (S : St w0 w p b L) (fr : Nat) (hfr : fr < L.length) (h : ∀ s, s < L.length → tk L s = true) :
    Calls Try.prog 11 #[.pointer (some ⟨p, 0, none⟩), .int .i64 (fr : Int)] w fun e w' => e = .returned (.tuple #[.int .i64 0, .int .i64 6]) ∧ St w0 w' p b L ∧ w.grownBy w' (some b) :=
  (take_full w p b L S.isB fr hfr h).mono fun e w' ⟨he, hb⟩ => ⟨he, S.reads hb, grown_of_below hb _⟩
theorem st_take_arg (S : St w0 w p b L) (i : Int) (h : i < 0 ∨ (L.length : Int) ≤ i) :
    Calls Try.prog 11 #[.pointer (some ⟨p, 0, none⟩), .int .i64 i] w fun e w' => e = .returned (.tuple #[.int .i64 0, .int .i64 1]) ∧ St w0 w' p b L ∧ w.grownBy w' (some b) :=
  (take_arg w p b L S.isB i h).mono fun e w' ⟨he, hb⟩ => ⟨he, S.reads hb, grown_of_below hb _⟩
theorem st_takeAt (S : St w0 w p b L) (i : Nat) (h : i < L.length) (ht : tk L i = false) :
    Calls Try.prog 13 #[.pointer (some ⟨p, 0, none⟩), .int .i64 (i : Int)] w fun e w' => e = .returned (.int .i64 0) ∧ St w0 w' p b (L.set i true) ∧ w.grownBy w' (some b) :=
  (takeAt_ok w p b L S.isB i h ht).mono fun e w' ⟨he, hi, hg⟩ => ⟨he, S.step hi hg, hg⟩
theorem st_takeAt_twice (S : St w0 w p b L) (i : Nat) (h : i < L.length) (ht : tk L i = true) :
    Calls Try.prog 13 #[.pointer (some ⟨p, 0, none⟩), .int .i64 (i : Int)] w fun e w' => e = .returned (.int .i64 8) ∧ St w0 w' p b L ∧ w.grownBy w' (some b) :=
  (takeAt_twice w p b L S.isB i h ht).mono fun e w' ⟨he, m, hm⟩ => by subst hm; exact ⟨he, S.reads (below_drew _ _), grown_of_below (below_drew _ _) _⟩
theorem st_takeAt_arg (S : St w0 w p b L) (i : Int) (h : i < 0 ∨ (L.length : Int) ≤ i) :
    Calls Try.prog 13 #[.pointer (some ⟨p, 0, none⟩), .int .i64 i] w fun e w' => e = .returned (.int .i64 1) ∧ St w0 w' p b L ∧ w.grownBy w' (some b) :=
  (takeAt_arg w p b L S.isB i h).mono fun e w' ⟨he, hm⟩ => by subst hm; exact ⟨he, S, grown_of_below (Below.refl _ _) _⟩
theorem st_give (S : St w0 w p b L) (i : Nat) (h : i < L.length) (ht : tk L i = true) :
    Calls Try.prog 15 #[.pointer (some ⟨p, 0, none⟩), .int .i64 (i : Int)] w fun e w' => e = .returned (.int .i64 0) ∧ St w0 w' p b (L.set i false) ∧ w.grownBy w' (some b) :=
  (give_ok w p b L S.isB i h ht).mono fun e w' ⟨he, hi, hg⟩ => ⟨he, S.step hi hg, hg⟩
theorem st_give_none (S : St w0 w p b L) (i : Nat) (h : i < L.length) (ht : tk L i = false) :
    Calls Try.prog 15 #[.pointer (some ⟨p, 0, none⟩), .int .i64 (i : Int)] w fun e w' => e = .returned (.int .i64 7) ∧ St w0 w' p b L ∧ w.grownBy w' (some b) :=
  (give_none w p b L S.isB i h ht).mono fun e w' ⟨he, m, hm⟩ => by subst hm; exact ⟨he, S.reads (below_drew _ _), grown_of_below (below_drew _ _) _⟩
theorem st_give_arg (S : St w0 w p b L) (i : Int) (h : i < 0 ∨ (L.length : Int) ≤ i) :
    Calls Try.prog 15 #[.pointer (some ⟨p, 0, none⟩), .int .i64 i] w fun e w' => e = .returned (.int .i64 1) ∧ St w0 w' p b L ∧ w.grownBy w' (some b) :=
  (give_arg w p b L S.isB i h).mono fun e w' ⟨he, hm⟩ => by subst hm; exact ⟨he, S, grown_of_below (Below.refl _ _) _⟩
theorem st_is (S : St w0 w p b L) (i : Nat) (h : i < L.length) :
    Calls Try.prog 25 #[.pointer (some ⟨p, 0, none⟩), .int .i64 (i : Int)] w fun e w' => e = .returned (.bool (tk L i)) ∧ St w0 w' p b L ∧ Below w.heap.size w w' :=
  (is_in w p b L S.isB i h).mono fun e w' ⟨he, m, hm⟩ => by subst hm; exact ⟨he, S.reads (below_drew _ _), below_drew _ _⟩
theorem st_is_out (S : St w0 w p b L) (i : Int) (h : i < 0 ∨ (L.length : Int) ≤ i) :
    Calls Try.prog 25 #[.pointer (some ⟨p, 0, none⟩), .int .i64 i] w fun e w' => e = .returned (.bool false) ∧ St w0 w' p b L ∧ Below w.heap.size w w' :=
  (is_out w p b L S.isB i h).mono fun e w' ⟨he, m, hm⟩ => by subst hm; exact ⟨he, S.reads (below_drew _ _), below_drew _ _⟩
theorem st_free (S : St w0 w p b L) :
    Calls Try.prog 24 #[.pointer (some ⟨p, 0, none⟩)] w fun e w' => e = .returned (.int .i64 ((L.length : Int) - (cnt L : Int))) ∧ St w0 w' p b L ∧ Below w.heap.size w w' :=
  (free_any w p b L S.isB).mono fun e w' ⟨he, hb⟩ => ⟨he, S.reads hb, hb⟩
theorem st_len (S : St w0 w p b L) :
    Calls Try.prog 27 #[.pointer (some ⟨p, 0, none⟩)] w fun e w' => e = .returned (.int .i64 (L.length : Int)) ∧ St w0 w' p b L ∧ Below w.heap.size w w' :=
  (len_any w p b L S.isB).mono fun e w' ⟨he, hm⟩ => by subst hm; exact ⟨he, S, Below.refl _ _⟩
theorem st_save (S : St w0 w p b L) :
    Calls Try.prog 18 #[.pointer (some ⟨p, 0, none⟩)] w fun e w' => e = .returned (.string ⟨(pack L).toArray⟩) ∧ St w0 w' p b L ∧ Below w.heap.size w w' :=
  (save_any w p b L S.isB).mono fun e w' ⟨he, hm⟩ => by subst hm; exact ⟨he, S, Below.refl _ _⟩
theorem st_taken (S : St w0 w p b L) :
    Calls Try.prog 21 #[.pointer (some ⟨p, 0, none⟩)] w fun e w' => ∃ v, e = .returned v ∧ IsInts w' v ((takenOf L).map (fun i : Nat => (i : Int))) ∧ St w0 w' p b L ∧ Below w.heap.size w w' :=
  (taken_any w p b L S.isB).mono fun e w' ⟨v, he, hi, hb⟩ => ⟨v, he, hi, S.reads hb, hb⟩
theorem st_run (S : St w0 w p b L) (n : Nat) (h : 1 ≤ n) (hw : n ≤ 9223372036854775807) (k : Nat) (hk : k + n ≤ L.length) (hf : freeAt L n k) (hm : ∀ k', k' < k → ¬ freeAt L n k') :
    Calls Try.prog 28 #[.pointer (some ⟨p, 0, none⟩), .int .i64 (n : Int)] w fun e w' => e = .returned (.tuple #[.int .i64 (k : Int), .bool true]) ∧ St w0 w' p b L ∧ Below w.heap.size w w' :=
  (run_any w p b L S.isB n h hw).mono fun e w' ⟨ho, hb⟩ => by
    rcases ho with ⟨k2, h1, h2, h3, h4⟩ | ⟨h1, _⟩
    · have : k2 = k := by
        rcases Nat.lt_trichotomy k2 k with h | h | h
        · exact absurd h2 (hm k2 h)
        · exact h
        · exact absurd hf (h3 k h)
      subst this; exact ⟨h4, S.reads hb, hb⟩
    · exact absurd hf (h1 k hk)
theorem st_run_no (S : St w0 w p b L) (n : Nat) (h : 1 ≤ n) (hw : n ≤ 9223372036854775807) (hm : ∀ k', k' + n ≤ L.length → ¬ freeAt L n k') :
    Calls Try.prog 28 #[.pointer (some ⟨p, 0, none⟩), .int .i64 (n : Int)] w fun e w' => e = .returned (.tuple #[.int .i64 0, .bool false]) ∧ St w0 w' p b L ∧ Below w.heap.size w w' :=
  (run_any w p b L S.isB n h hw).mono fun e w' ⟨ho, hb⟩ => by
    rcases ho with ⟨k2, h1, h2, h3, h4⟩ | ⟨_, h4⟩
    · exact absurd h2 (hm k2 h1)
    · exact ⟨h4, S.reads hb, hb⟩
theorem st_run_neg (S : St w0 w p b L) (n : Int) (h : n < 1) :
    Calls Try.prog 28 #[.pointer (some ⟨p, 0, none⟩), .int .i64 n] w fun e w' => e = .returned (.tuple #[.int .i64 0, .bool false]) ∧ St w0 w' p b L ∧ Below w.heap.size w w' :=
  (run_neg w p b L S.isB n h).mono fun e w' ⟨he, hb⟩ => ⟨he, S.reads hb, hb⟩
end Go.Proofs.Ytdjoiabbchnhaaa
