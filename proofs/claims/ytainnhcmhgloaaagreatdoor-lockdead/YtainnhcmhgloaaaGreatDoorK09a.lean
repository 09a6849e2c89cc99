/-
  Who holds what, and who waits for it, as two lists: plain. No program in this text.
-/
import Derived.Test.YtainnhcmhgloaaaGreatDoorK09m
import Derived.Test.YtainnhcmhgloaaaGreatDoorGA
namespace Go.Proofs.YtainnhcmhgloaaaGreatDoor
open Go.RowKit

/-- who has a name in a mode, or waits for it -/
structure Has9 where
  owner : Int
  mode : Nat
  name : ByteArray
abbrev Hs := List Has9
def modeP (H : Hs) (o : Int) (n : ByteArray) : Nat := match H.find? (fun h => decide (h.owner = o) && decide (h.name = n)) with | some h => h.mode | none => 0
def forP (W : Hs) (o : Int) : Option Has9 := W.find? (fun h => decide (h.owner = o))
def canP (H : Hs) (x : Has9) : Bool := H.all (fun h => !(decide (h.name = x.name) && (decide (h.owner ≠ x.owner) && !fitN h.mode x.mode)))
def woN (H : Hs) (o : Int) (n : ByteArray) : Hs := H.filter (fun h => decide (h.owner ≠ o) || decide (h.name ≠ n))
def woA (H : Hs) (o : Int) : Hs := H.filter (fun h => decide (h.owner ≠ o))
def holdP (H : Hs) (x : Has9) : Hs := woN H x.owner x.name ++ [x]
def nameL (W : Hs) (n : ByteArray) : Hs := W.filter (fun h => decide (h.name = n))
def ownL (W : Hs) (o : Int) : Hs := W.filter (fun h => decide (h.owner = o))
/-- those that wait for a name are let come -/
def comeP (n : ByteArray) : Nat → Hs → Hs → Hs × Hs × List Int
  | 0, H, W => (H, W, [])
  | k + 1, H, W => match nameL W n with
    | [] => (H, W, [])
    | x :: _ => if canP H x then ((comeP n k (holdP H x) (woA W x.owner)).1, (comeP n k (holdP H x) (woA W x.owner)).2.1, x.owner :: (comeP n k (holdP H x) (woA W x.owner)).2.2) else (H, W, [])
/-- whether a waits behind b -/
inductive Bh (H W : Hs) (a b : Int) : Prop
  | holds (x h : Has9) (hx : x ∈ W) (ha : x.owner = a) (hh : h ∈ H) (hn : h.name = x.name) (hb : h.owner = b) (hne : b ≠ a) (hf : fitN h.mode x.mode = false)
  | ahead (x y : Has9) (L1 L2 L3 : Hs) (hW : W = L1 ++ y :: L2 ++ x :: L3) (ha : x.owner = a) (hb : y.owner = b) (hn : y.name = x.name)
/-- whether a waits behind b, over however many -/
inductive Beh (H W : Hs) : Int → Int → Prop
  | one {a b} (h : Bh H W a b) : Beh H W a b
  | more {a b c} (h : Bh H W a b) (t : Beh H W b c) : Beh H W a c
theorem Beh.trans {H W : Hs} {a b c : Int} (h : Beh H W a b) (h' : Beh H W b c) : Beh H W a c := by
  induction h with
  | one h => exact .more h h'
  | more h _ ih => exact .more h (ih h')
/-- where somebody comes to stand in the row -/
def stayAt (H : Hs) (x : Has9) (holds : Bool) : Hs → Hs
  | [] => [x]
  | w :: l => if holds && (decide (w.name = x.name) && decide (modeP H w.owner w.name = 0)) then x :: w :: l else w :: stayAt H x holds l
/-- all that is held, and waited for, may be -/
structure Ok9 (H W : Hs) : Prop where
  hm : ∀ h ∈ H, 0 < h.mode ∧ h.mode < 7 ∧ 0 ≤ h.owner ∧ h.owner ≤ 9223372036854775807 ∧ h.name.size ≤ 300
  wm : ∀ h ∈ W, 0 < h.mode ∧ h.mode < 7 ∧ 0 ≤ h.owner ∧ h.owner ≤ 9223372036854775807 ∧ h.name.size ≤ 300
  hn : H.Pairwise (fun a b => ¬ (a.owner = b.owner ∧ a.name = b.name))
  wn : (W.map (·.owner)).Nodup
section
variable {H W : Hs} {o : Int} {n : ByteArray} {x h : Has9}
theorem mem_woN : h ∈ woN H o n ↔ h ∈ H ∧ ¬ (h.owner = o ∧ h.name = n) := by
  unfold woN; rw [List.mem_filter]; simp only [Bool.or_eq_true, decide_eq_true_eq]
  constructor
  · rintro ⟨a, b⟩; exact ⟨a, fun c => b.elim (fun e => e c.1) (fun e => e c.2)⟩
  · rintro ⟨a, b⟩; refine ⟨a, ?_⟩
    by_cases e : h.owner = o
    · exact .inr (fun e2 => b ⟨e, e2⟩)
    · exact .inl e
theorem mem_woA : h ∈ woA H o ↔ h ∈ H ∧ h.owner ≠ o := by unfold woA; rw [List.mem_filter]; simp
theorem mem_holdP : h ∈ holdP H x ↔ (h ∈ H ∧ ¬ (h.owner = x.owner ∧ h.name = x.name)) ∨ h = x := by
  unfold holdP; rw [List.mem_append, mem_woN]; simp
theorem mem_nameL : h ∈ nameL W n ↔ h ∈ W ∧ h.name = n := by unfold nameL; rw [List.mem_filter]; simp
theorem mem_ownL : h ∈ ownL W o ↔ h ∈ W ∧ h.owner = o := by unfold ownL; rw [List.mem_filter]; simp
theorem canP_iff : canP H x = true ↔ ∀ h ∈ H, h.name = x.name → h.owner ≠ x.owner → fitN h.mode x.mode = true := by
  unfold canP; rw [List.all_eq_true]
  constructor
  · intro g h hh e1 e2
    have := g h hh
    simp [e1, e2] at this; exact this
  · intro g h hh
    by_cases e1 : h.name = x.name
    · by_cases e2 : h.owner = x.owner
      · simp [e2]
      · simp [e1, e2, g h hh e1 e2]
    · simp [e1]
theorem canP_not : canP H x = false ↔ ∃ h ∈ H, h.name = x.name ∧ h.owner ≠ x.owner ∧ fitN h.mode x.mode = false := by
  rw [← Bool.not_eq_true, canP_iff]
  constructor
  · intro g
    refine Classical.byContradiction fun k => g fun h hh e1 e2 => ?_
    cases hf : fitN h.mode x.mode with
    | true => rfl
    | false => exact absurd ⟨h, hh, e1, e2, hf⟩ k
  · rintro ⟨h, hh, e1, e2, e3⟩ g
    rw [g h hh e1 e2] at e3; cases e3
theorem unique_of (hn : H.Pairwise (fun a b => ¬ (a.owner = b.owner ∧ a.name = b.name))) {a b : Has9} (ha : a ∈ H) (hb : b ∈ H) (h1 : a.owner = b.owner) (h2 : a.name = b.name) : a = b := by
  induction H with
  | nil => cases ha
  | cons z l ih =>
    rw [List.pairwise_cons] at hn
    rcases List.mem_cons.1 ha with e1 | e1 <;> rcases List.mem_cons.1 hb with e2 | e2
    · rw [e1, e2]
    · exact absurd ⟨by rw [← e1]; exact h1, by rw [← e1]; exact h2⟩ (hn.1 b e2)
    · exact absurd ⟨by rw [← e2]; exact h1.symm, by rw [← e2]; exact h2.symm⟩ (hn.1 a e1)
    · exact ih hn.2 e1 e2
theorem modeP_mem (hn : H.Pairwise (fun a b => ¬ (a.owner = b.owner ∧ a.name = b.name))) (hh : h ∈ H) : modeP H h.owner h.name = h.mode := by
  unfold modeP
  cases hf : H.find? (fun a => decide (a.owner = h.owner) && decide (a.name = h.name)) with
  | none =>
    have := List.find?_eq_none.1 hf h hh
    simp at this
  | some y =>
    have h1 := List.find?_some hf
    simp at h1
    rw [unique_of hn (List.mem_of_find?_eq_some hf) hh h1.1 h1.2]
theorem modeP_none (hh : ∀ h ∈ H, ¬ (h.owner = o ∧ h.name = n)) : modeP H o n = 0 := by
  unfold modeP
  have : H.find? (fun a => decide (a.owner = o) && decide (a.name = n)) = none := List.find?_eq_none.2 (fun a ha => by
    have := hh a ha
    simp only [Bool.and_eq_true, decide_eq_true_eq]; exact this)
  rw [this]
theorem modeP_some (h : modeP H o n ≠ 0) : ∃ x ∈ H, x.owner = o ∧ x.name = n ∧ x.mode = modeP H o n := by
  unfold modeP at h ⊢
  cases hf : H.find? (fun a => decide (a.owner = o) && decide (a.name = n)) with
  | none => rw [hf] at h; exact absurd rfl h
  | some y =>
    have h1 := List.find?_some hf
    simp at h1
    exact ⟨y, List.mem_of_find?_eq_some hf, h1.1, h1.2, rfl⟩
theorem modeP_zero (hok : Ok9 H W) : modeP H o n = 0 ↔ ∀ h ∈ H, ¬ (h.owner = o ∧ h.name = n) := by
  constructor
  · rintro h0 h hh ⟨rfl, rfl⟩
    rw [modeP_mem hok.hn hh] at h0
    have := (hok.hm h hh).1
    omega
  · exact modeP_none
theorem modeP_lt (hok : Ok9 H W) (o : Int) (n : ByteArray) : modeP H o n < 7 := by
  by_cases h : modeP H o n = 0
  · omega
  · obtain ⟨x, hx, _, _, e⟩ := modeP_some h
    rw [← e]; exact (hok.hm x hx).2.1
theorem forP_mem (hok : Ok9 H W) (hx : x ∈ W) : forP W x.owner = some x := by
  unfold forP
  cases hf : W.find? (fun a => decide (a.owner = x.owner)) with
  | none => have := List.find?_eq_none.1 hf x hx; simp at this
  | some y =>
    have h1 := List.find?_some hf
    simp at h1
    have hn := hok.wn
    have := (List.mem_of_find?_eq_some hf)
    have key : ∀ {l : Hs} {a b : Has9}, (l.map (·.owner)).Nodup → a ∈ l → b ∈ l → a.owner = b.owner → a = b := by
      intro l a b hn ha hb e
      induction l with
      | nil => cases ha
      | cons z l ih =>
        simp only [List.map_cons, List.nodup_cons] at hn
        rcases List.mem_cons.1 ha with e1 | e1 <;> rcases List.mem_cons.1 hb with e2 | e2
        · rw [e1, e2]
        · exact absurd (List.mem_map.2 ⟨b, e2, by rw [← e, e1]⟩) hn.1
        · exact absurd (List.mem_map.2 ⟨a, e1, by rw [e, e2]⟩) hn.1
        · exact ih hn.2 e1 e2
    rw [key hn this hx h1]
theorem forP_none (hx : ∀ x ∈ W, x.owner ≠ o) : forP W o = none := List.find?_eq_none.2 (fun a ha => by simp [hx a ha])
theorem forP_some (h : forP W o = some x) : x ∈ W ∧ x.owner = o := by
  refine ⟨List.mem_of_find?_eq_some h, ?_⟩
  have := List.find?_some h
  simpa using this
theorem forP_cases (W : Hs) (o : Int) : (∀ x ∈ W, x.owner ≠ o) ∨ ∃ x ∈ W, x.owner = o := by
  cases hf : forP W o with
  | none => exact .inl (fun x hx e => by have := List.find?_eq_none.1 hf x hx; simp [e] at this)
  | some x => exact .inr ⟨x, forP_some hf⟩
end
end Go.Proofs.YtainnhcmhgloaaaGreatDoor
