/-
  A pool, plain: its places by age. No program in this text.
-/
import Derived.Test.YthjlbfijfpfohaaGreatGA
namespace Go.Proofs.YthjlbfijfpfohaaGreat

/-- a page in memory -/
structure Pl where
  page : Nat
  body : ByteArray
  pins : Nat
  pinned : Nat
  last : Int
  first : Int
def Pl.dirty (a : Pl) : Bool := decide (0 < a.first)
/-- may it be written? -/
def Pl.may (s : Int) (a : Pl) : Bool := a.dirty && decide (a.last ≤ s)
/-- may it go? -/
def Pl.goes (s : Int) (a : Pl) : Bool := decide (a.pins = 0) && (!a.dirty || a.may s)
def findP (L : List Pl) (k : Int) : Option Pl := L.find? (fun a => decide ((a.page : Int) = k))
def updP (L : List Pl) (k : Int) (f : Pl → Pl) : List Pl := L.map (fun a => if (a.page : Int) = k then f a else a)
def cutP (L : List Pl) (k : Int) : List Pl := L.filter (fun a => decide ((a.page : Int) ≠ k))
theorem findP_some {L : List Pl} {k : Int} {a : Pl} (h : findP L k = some a) : a ∈ L ∧ (a.page : Int) = k :=
  ⟨List.mem_of_find?_eq_some h, by have := List.find?_some h; simpa using this⟩
theorem findP_none {L : List Pl} {k : Int} (h : findP L k = none) : ∀ a ∈ L, (a.page : Int) ≠ k := fun a ha => by
  have := List.find?_eq_none.1 h a ha
  simpa using this
theorem findP_none_of {L : List Pl} {k : Int} (h : ∀ a ∈ L, (a.page : Int) ≠ k) : findP L k = none := List.find?_eq_none.2 (fun a ha => by simpa using h a ha)
theorem findP_mem : ∀ {L : List Pl}, (L.map (·.page)).Nodup → ∀ {a : Pl}, a ∈ L → findP L (a.page : Int) = some a
  | [], _, _, h => by simp at h
  | x :: l, hn, a, h => by
    simp only [List.map_cons, List.nodup_cons] at hn
    unfold findP
    rcases List.mem_cons.1 h with rfl | h
    · simp
    · have hne : x.page ≠ a.page := fun e => hn.1 (by rw [e]; exact List.mem_map.2 ⟨a, h, rfl⟩)
      rw [List.find?_cons_of_neg (by simp; omega)]
      exact findP_mem hn.2 h
theorem updP_pages (L : List Pl) (k : Int) (f : Pl → Pl) (hf : ∀ a, (f a).page = a.page) : (updP L k f).map (·.page) = L.map (·.page) := by
  unfold updP; rw [List.map_map]; congr 1; funext a
  simp only [Function.comp]; split
  · exact hf a
  · rfl
theorem updP_length (L : List Pl) (k : Int) (f : Pl → Pl) : (updP L k f).length = L.length := by simp [updP]
theorem mem_updP {L : List Pl} {k : Int} {f : Pl → Pl} {a : Pl} (h : a ∈ updP L k f) : (a ∈ L ∧ (a.page : Int) ≠ k) ∨ ∃ b ∈ L, (b.page : Int) = k ∧ a = f b := by
  obtain ⟨b, hb, rfl⟩ := List.mem_map.1 h
  by_cases e : (b.page : Int) = k
  · exact .inr ⟨b, hb, e, by rw [if_pos e]⟩
  · rw [if_neg e]; exact .inl ⟨hb, e⟩
theorem mem_cutP {L : List Pl} {k : Int} {a : Pl} : a ∈ cutP L k ↔ a ∈ L ∧ (a.page : Int) ≠ k := by simp [cutP]
theorem cutP_none {L : List Pl} {k : Int} (h : ∀ a ∈ L, (a.page : Int) ≠ k) : cutP L k = L := List.filter_eq_self.2 (fun a ha => by simpa using h a ha)
theorem updP_none {L : List Pl} {k : Int} {f : Pl → Pl} (h : ∀ a ∈ L, (a.page : Int) ≠ k) : updP L k f = L := by
  unfold updP; conv => rhs; rw [← List.map_id L]
  exact List.map_congr_left (fun a ha => by rw [if_neg (h a ha)]; rfl)
/-- changed, or cut out and laid behind all others -/
theorem upd_perm : ∀ {L : List Pl}, (L.map (·.page)).Nodup → ∀ {a : Pl}, a ∈ L → ∀ f : Pl → Pl, (updP L a.page f).Perm (cutP L a.page ++ [f a])
  | [], _, _, h, _ => by simp at h
  | x :: l, hn, a, h, f => by
    simp only [List.map_cons, List.nodup_cons] at hn
    by_cases e : x.page = a.page
    · have ex : x = a := by
        rcases List.mem_cons.1 h with rfl | h
        · rfl
        · exact absurd (show x.page ∈ l.map (·.page) from by rw [e]; exact List.mem_map.2 ⟨a, h, rfl⟩) hn.1
      subst ex
      have hl : ∀ b ∈ l, (b.page : Int) ≠ (x.page : Int) := fun b hb e' => hn.1 (List.mem_map.2 ⟨b, hb, by omega⟩)
      have e1 : updP (x :: l) x.page f = f x :: l := by
        show (if (x.page : Int) = x.page then f x else x) :: updP l x.page f = _
        rw [if_pos rfl, updP_none hl]
      have e2 : cutP (x :: l) x.page = l := by
        show List.filter _ (x :: l) = l
        rw [List.filter_cons_of_neg (by simp)]; exact cutP_none hl
      rw [e1, e2]
      exact (List.perm_append_comm (l₁ := [f x]) (l₂ := l))
    · have h' : a ∈ l := by
        rcases List.mem_cons.1 h with rfl | h
        · exact absurd rfl e
        · exact h
      have ne : ¬ (x.page : Int) = (a.page : Int) := by omega
      have e1 : updP (x :: l) a.page f = x :: updP l a.page f := by
        show (if (x.page : Int) = a.page then f x else x) :: updP l a.page f = _
        rw [if_neg ne]
      have e2 : cutP (x :: l) a.page = x :: cutP l a.page := List.filter_cons_of_pos (by simpa using ne)
      rw [e1, e2]
      exact (upd_perm hn.2 h' f).cons x
theorem cutP_sublist (L : List Pl) (k : Int) : (cutP L k).Sublist L := List.filter_sublist
theorem cutP_length {L : List Pl} (hn : (L.map (·.page)).Nodup) {a : Pl} (h : a ∈ L) : (cutP L a.page).length + 1 = L.length := by
  have := (upd_perm hn h id).length_eq
  rw [updP_length] at this; simpa using this.symm
/-- a pool: its places, the pages by age, the number that is sure, how many pins there were -/
structure PoolP where
  n : Nat
  L : List Pl
  sure : Int
  t : Nat
structure PInv (N : Nat) (p : PoolP) : Prop where
  n1 : 1 ≤ p.n
  n2 : p.n ≤ 64
  len : p.L.length ≤ p.n
  nd : (p.L.map (·.page)).Nodup
  age : p.L.Pairwise (fun a b => a.pinned < b.pinned)
  tm : ∀ a ∈ p.L, a.pinned < p.t
  pg : ∀ a ∈ p.L, a.page < N
  bs : ∀ a ∈ p.L, a.body.size = 252
  lf : ∀ a ∈ p.L, 0 ≤ a.first ∧ 0 ≤ a.last
end Go.Proofs.YthjlbfijfpfohaaGreat
