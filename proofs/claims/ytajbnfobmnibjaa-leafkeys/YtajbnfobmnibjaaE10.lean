/-
  Rows of pairs that a call owns; their append.
-/
import Derived.Test.YtajbnfobmnibjaaK10c
import Derived.Test.YtajbnfobmnibjaaR10
namespace Go.Proofs.Ytajbnfobmnibjaa
open Go.RowKit

def OwnP (base : Nat) (w : World) (v : Value) (l : Prs) : Prop := w.ownsRow base 44 2 v l.length (pc10 l)
theorem cell_two10 (w : World) (a b : Value) (t : TypeId) : ∀ (j : Nat) (u : Value), [a, b][j]? = some u → (w.alloc (.cells #[a, b] t)).cell? (Addr.add ⟨w.heap.size, 0, none⟩ j) = some u := by
  intro j u h
  rw [addr_zero10, World.cell?_alloc_at _ _ _ _ rfl]
  match j with
  | 0 => simpa using h
  | 1 => simpa using h
  | j + 2 => simp at h
section
variable {base : Nat} {w w' : World} {v : Value} {l : Prs}
theorem OwnP.append (h : OwnP base w v l) (a b : ByteArray) (hl : l.length ≤ 100000) (hb : base ≤ w.heap.size) :
    ∃ g C w', (Builtin.append_ #[22, 22] 22 #[v, .slice (some ⟨w.heap.size, 0, none⟩) 1 1]).run Try.prog (w.alloc (.cells #[.string a, .string b] 44)) = .ok (.slice (some ⟨g, 0, none⟩) (l.length + 1) C) w' ∧
      OwnP base w' (.slice (some ⟨g, 0, none⟩) (l.length + 1) C) (l ++ [(a, b)]) ∧ (w.alloc (.cells #[.string a, .string b] 44)).grownBy w' v.ownBlock := by
  obtain ⟨i0, hi, hz0, hz1, hz2⟩ := info_parts info_pair10
  have ba := (Below.refl w.heap.size w).alloc (Nat.le_refl _) (.cells #[.string a, .string b] 44)
  have h1 : OwnP base (w.alloc (.cells #[.string a, .string b] 44)) v l := own_below h ba
  obtain ⟨v', w', hr, h2, h3, _, h5⟩ := run_append_own_at (P := Try.prog) (w.alloc (.cells #[.string a, .string b] 44)) base 22 22 44 i0 _ 2 32 Try.underlying22 hi hz0 hz1 hz2 rfl (by decide) v l.length (pc10 l) h1 ⟨w.heap.size, 0, none⟩ 1 1 [.string a, .string b] rfl (cell_two10 w _ _ _) (by intro u hu; simp at hu; rcases hu with rfl | rfl <;> rfl) (by unfold maxLen; omega) (by omega) (Nat.le_trans hb ba.size)
  obtain ⟨g, C, rfl⟩ : ∃ g C, v' = .slice (some ⟨g, 0, none⟩) (l.length + 1) C := by
    rcases h2.2 with ⟨_, h⟩ | ⟨g, C, cur, h, _⟩
    · omega
    · exact ⟨g, C, h⟩
  refine ⟨g, C, w', hr, ?_, h3⟩
  have e1 : pc10 l ++ [.string a, .string b] = pc10 (l ++ [(a, b)]) := by rw [pc10_app]; rfl
  rw [e1] at h2
  unfold OwnP
  rw [List.length_append]; exact h2
theorem OwnP.prAt (h : OwnP base w v l) : ∃ a C, v = .slice a l.length C ∧ PrAt w a C l ∧ ∀ x, a = some x → base ≤ x.block := by
  rcases h.2 with ⟨rfl, h0⟩ | ⟨g, C, cur, rfl, hb, hg, h1, h2, h3, h4⟩
  · have : l = [] := List.eq_nil_of_length_eq_zero h0
    subst this
    exact ⟨none, 0, rfl, PrAt.zero w, fun x h => by cases h⟩
  · refine ⟨_, C, rfl, ⟨fun i p hp => ?_, h1, (by unfold maxLen at h2; omega), fun e => (by cases e), fun x e => (by cases e; rfl)⟩, fun x e => (by cases e; exact hb)⟩
    obtain ⟨q1, q2⟩ := pc10_at hp
    have k1 := World.ownsRow.cells (g := g) h rfl _ _ q1
    have k2 := World.ownsRow.cells (g := g) h rfl _ _ q2
    rw [addr_zero10] at k1 k2
    exact ⟨g, 0, rfl, by rw [Nat.zero_add]; exact k1, by rw [Nat.zero_add]; exact k2⟩
end
/-! texts at a place -/
theorem textL_at10 {s t : ByteArray} {p : Nat} {x : List UInt8} (hp : p ≤ s.size) (h : textL10 (s.data.toList.drop p) = some (t, x)) :
    textErr s.data.toList (p : Int) = 0 ∧ s.extract (p + 1) (p + 1 + byteAt s.data.toList p) = t ∧ byteAt s.data.toList p = t.size ∧ x = s.data.toList.drop (p + 1 + t.size) ∧ p + 1 + t.size ≤ s.size := by
  have hz : s.data.toList.length = s.size := (Lib.size_eq s).symm
  cases hd : s.data.toList.drop p with
  | nil => rw [hd] at h; cases h
  | cons c y =>
    rw [hd, textL_cons10] at h
    split at h
    · rename_i hc
      simp only [Option.some.injEq, Prod.mk.injEq] at h
      obtain ⟨rfl, rfl⟩ := h
      have hl : p < s.data.toList.length := by
        have := congrArg List.length hd
        rw [List.length_drop, List.length_cons] at this; omega
      have hdd := List.drop_eq_getElem_cons hl
      rw [hd] at hdd
      obtain ⟨e1, e2⟩ := List.cons.inj hdd
      have hb : byteAt s.data.toList p = c.toNat := by unfold byteAt; rw [List.getD_eq_getElem?_getD, List.getElem?_eq_getElem hl, e1]; rfl
      have hyl : y.length = s.size - p - 1 := by rw [e2, List.length_drop, hz]; omega
      have e : (baL10 (y.take c.toNat)).size = c.toNat := by rw [baL10_size, List.length_take]; omega
      refine ⟨textErr_ok.2 ⟨by omega, ?_⟩, ?_, by rw [e, hb], ?_, by rw [e]; omega⟩
      · rw [Int.toNat_natCast, hb, hz]; omega
      · apply ba_ext
        rw [Lib.extract_data, hb, Nat.add_sub_cancel_left, ← e2]; rfl
      · rw [e, e2, List.drop_drop]
    · cases h
theorem textL_bad10 {s : ByteArray} {p : Nat} (hp : p ≤ s.size) (h : textL10 (s.data.toList.drop p) = none) : ¬ textErr s.data.toList (p : Int) = 0 := by
  intro he
  have hz : s.data.toList.length = s.size := (Lib.size_eq s).symm
  obtain ⟨_, h2⟩ := textErr_ok.1 he
  rw [Int.toNat_natCast, hz] at h2
  have hl : p < s.data.toList.length := by omega
  have hdd := List.drop_eq_getElem_cons hl
  have hb : byteAt s.data.toList p = (s.data.toList[p]).toNat := by unfold byteAt; rw [List.getD_eq_getElem?_getD, List.getElem?_eq_getElem hl]; rfl
  rw [hdd, textL_cons10, if_pos (by rw [List.length_drop, hz]; omega)] at h
  cases h
theorem text_yes10 (s t : ByteArray) (p : Nat) (x : List UInt8) (w : World) (hs : s.size ≤ 1000000) (hp : p ≤ s.size) (h : textL10 (s.data.toList.drop p) = some (t, x)) :
    Calls Try.prog 65 #[.string s, .int .i64 (p : Int)] w fun e w' => e = .returned (.tuple #[.string t, .int .i64 ((p + 1 + t.size : Nat) : Int), .int .i64 0]) ∧ Below w.heap.size w w' := by
  obtain ⟨e1, e2, e3, e4, e5⟩ := textL_at10 hp h
  have C1 := text_ok s (p : Int) w hs e1
  rw [Int.toNat_natCast, e2, e3, show (p : Int) + 1 + (t.size : Int) = ((p + 1 + t.size : Nat) : Int) by omega] at C1
  exact C1
theorem text_no10 (s : ByteArray) (p : Nat) (w : World) (hs : s.size ≤ 1000000) (hp : p ≤ s.size) (h : textL10 (s.data.toList.drop p) = none) :
    ∃ k : Int, (k == 0) = false ∧ Calls Try.prog 65 #[.string s, .int .i64 (p : Int)] w fun e w' => e = .returned (.tuple #[.string ⟨#[]⟩, .int .i64 0, .int .i64 k]) ∧ Below w.heap.size w w' := by
  have h1 := textL_bad10 hp h
  obtain ⟨k, hk⟩ : ∃ k, textErr s.data.toList (p : Int) = k := ⟨_, rfl⟩
  rw [hk] at h1
  refine ⟨k, by simpa using h1, (text_bad s (p : Int) k w hs hk (by simpa using h1)).mono ?_⟩
  rintro e w' ⟨rfl, rfl⟩
  exact ⟨rfl, Below.refl _ _⟩
end Go.Proofs.Ytajbnfobmnibjaa
