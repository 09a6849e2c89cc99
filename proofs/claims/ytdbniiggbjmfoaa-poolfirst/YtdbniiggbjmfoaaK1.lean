/-
  Plain facts on disks: pages, writes, what a crash leaves. No program in this text.
-/
import Derived.Test.YtdbniiggbjmfoaaD1
namespace Go.Proofs.Ytdbniiggbjmfoaa

/-- a page as it stands behind writes -/
def rawAt : Wrs → Nat → ByteArray → ByteArray
  | [], _, s => s
  | x :: l, k, s => rawAt l k (if x.1 = k then x.2 else s)
theorem rawAt_append : ∀ (A B : Wrs) (k : Nat) (s : ByteArray), rawAt (A ++ B) k s = rawAt B k (rawAt A k s)
  | [], _, _, _ => rfl
  | x :: l, B, k, s => by simp [rawAt, rawAt_append l B]
theorem rawAt_snoc (A : Wrs) (x : Nat × ByteArray) (k : Nat) (s : ByteArray) : rawAt (A ++ [x]) k s = if x.1 = k then x.2 else rawAt A k s := by
  rw [rawAt_append]; rfl
theorem rawAt_none : ∀ (A : Wrs) (k : Nat) (s : ByteArray), (∀ x ∈ A, x.1 ≠ k) → rawAt A k s = s
  | [], _, _, _ => rfl
  | x :: l, k, s, h => by
    simp only [rawAt]
    rw [if_neg (h x (by simp))]
    exact rawAt_none l k s (fun y hy => h y (by simp [hy]))
theorem rawAt_size : ∀ (A : Wrs) (k : Nat) (s : ByteArray), (∀ x ∈ A, x.2.size = 256) → s.size = 256 → (rawAt A k s).size = 256
  | [], _, _, _, hs => hs
  | x :: l, k, s, h, hs => by
    simp only [rawAt]
    refine rawAt_size l k _ (fun y hy => h y (by simp [hy])) ?_
    split
    · exact h x (by simp)
    · exact hs
/-- the pages with what they stand as -/
def lay (S : List ByteArray) (Ws : Wrs) : Pgs := S.mapIdx (fun k s => (s, rawAt Ws k s))
theorem lay_length (S : List ByteArray) (Ws : Wrs) : (lay S Ws).length = S.length := by simp [lay]
theorem lay_get (S : List ByteArray) (Ws : Wrs) (k : Nat) : (lay S Ws)[k]? = S[k]?.map (fun s => (s, rawAt Ws k s)) := by simp [lay]
theorem lay_write (S : List ByteArray) (Ws : Wrs) (k : Nat) (s t : ByteArray) (h : S[k]? = some s) : (lay S Ws).set k (s, t) = lay S (Ws ++ [(k, t)]) := by
  apply List.ext_getElem?
  intro j
  rw [List.getElem?_set, lay_get, lay_get, lay_length]
  have hk := (List.getElem?_eq_some_iff.1 h).1
  by_cases e : k = j
  · subst e
    rw [if_pos rfl, if_pos hk, h]
    simp [rawAt_snoc]
  · rw [if_neg e]
    congr 1
    funext s
    rw [rawAt_snoc, if_neg e]
theorem lay_none (S : List ByteArray) : lay S [] = S.map (fun s => (s, s)) := by
  apply List.ext_getElem?
  intro j
  rw [lay_get, List.getElem?_map]; rfl
/-- the pages behind the first j writes -/
def stl (L : Pgs) (x : Nat × ByteArray) (f : Int) : Pgs := L.set x.1 (leftOf f x.2 (L.getD x.1 (⟨#[]⟩, ⟨#[]⟩)).1, leftOf f x.2 (L.getD x.1 (⟨#[]⟩, ⟨#[]⟩)).1)
def stlN (L : Pgs) (Ws : Wrs) (fs : List Int) : Nat → Pgs
  | 0 => L
  | j + 1 => stl (stlN L Ws fs j) (Ws.getD j (0, ⟨#[]⟩)) (fs.getD j 0)
def crN (S : List ByteArray) (Ws : Wrs) (fs : List Int) : Nat → List ByteArray
  | 0 => S
  | j + 1 => (crN S Ws fs j).set (Ws.getD j (0, ⟨#[]⟩)).1 (leftOf (fs.getD j 0) (Ws.getD j (0, ⟨#[]⟩)).2 ((crN S Ws fs j).getD (Ws.getD j (0, ⟨#[]⟩)).1 ⟨#[]⟩))
/-- the pages behind a crash -/
def crashOf (S : List ByteArray) (Ws : Wrs) (fs : List Int) : List ByteArray := crN S Ws fs Ws.length
def syncOf (S : List ByteArray) (Ws : Wrs) : List ByteArray := crashOf S Ws (List.replicate Ws.length 1)
theorem stlN_length (L : Pgs) (Ws : Wrs) (fs : List Int) : ∀ j, (stlN L Ws fs j).length = L.length
  | 0 => rfl
  | j + 1 => by simp [stlN, stl, stlN_length L Ws fs j]
theorem crN_length (S : List ByteArray) (Ws : Wrs) (fs : List Int) : ∀ j, (crN S Ws fs j).length = S.length
  | 0 => rfl
  | j + 1 => by simp [crN, crN_length S Ws fs j]
theorem crashOf_length (S : List ByteArray) (Ws : Wrs) (fs : List Int) : (crashOf S Ws fs).length = S.length := crN_length _ _ _ _
theorem getD_fst (L : Pgs) (k : Nat) : (L.getD k (⟨#[]⟩, ⟨#[]⟩)).1 = (L.map (·.1)).getD k ⟨#[]⟩ := by
  simp only [List.getD_eq_getElem?_getD, List.getElem?_map]
  cases L[k]? <;> rfl
theorem stlN_fst (S : List ByteArray) (Ws : Wrs) (fs : List Int) : ∀ j, (stlN (lay S Ws) Ws fs j).map (·.1) = crN S Ws fs j
  | 0 => by
    apply List.ext_getElem?; intro k
    simp only [stlN, crN]
    rw [List.getElem?_map, lay_get]; cases S[k]? <;> rfl
  | j + 1 => by
    simp only [stlN, stl, crN]
    rw [List.map_set, getD_fst, stlN_fst S Ws fs j]
/-- a page of which the last write is behind it stands as it stays -/
theorem stlN_snd (S : List ByteArray) (Ws : Wrs) (fs : List Int) : ∀ j k q, (stlN (lay S Ws) Ws fs j)[k]? = some q → q.2 = q.1 ∨ ∃ t x, j ≤ t ∧ Ws[t]? = some x ∧ x.1 = k
  | 0, k, q, h => by
    simp only [stlN] at h
    rw [lay_get] at h
    cases hs : S[k]? with
    | none => rw [hs] at h; cases h
    | some s =>
      rw [hs] at h
      cases h
      by_cases hx : ∀ x ∈ Ws, x.1 ≠ k
      · exact .inl (rawAt_none Ws k s hx)
      · refine .inr ?_
        simp only [Classical.not_forall] at hx
        obtain ⟨x, hm, he⟩ := hx
        obtain ⟨t, ht⟩ := List.mem_iff_getElem?.1 hm
        exact ⟨t, x, Nat.zero_le _, ht, by simpa using he⟩
  | j + 1, k, q, h => by
    simp only [stlN, stl] at h
    rw [List.getElem?_set] at h
    split at h
    · split at h
      · cases h; exact .inl rfl
      · cases h
    · rename_i hne
      rcases stlN_snd S Ws fs j k q h with h | ⟨t, x, ht, hx, he⟩
      · exact .inl h
      · refine .inr ⟨t, x, ?_, hx, he⟩
        rcases Nat.lt_or_eq_of_le ht with h | rfl
        · exact h
        · rw [List.getD_eq_getElem?_getD, hx] at hne
          exact absurd he hne
theorem stl_crash (S : List ByteArray) (Ws : Wrs) (fs : List Int) : stlN (lay S Ws) Ws fs Ws.length = lay (crashOf S Ws fs) [] := by
  rw [lay_none]
  unfold crashOf
  rw [← stlN_fst]
  apply List.ext_getElem?
  intro k
  rw [List.getElem?_map, List.getElem?_map]
  cases hq : (stlN (lay S Ws) Ws fs Ws.length)[k]? with
  | none => rfl
  | some q =>
    rcases stlN_snd S Ws fs _ k q hq with h | ⟨t, x, ht, hx, _⟩
    · obtain ⟨a, b⟩ := q; simp at h ⊢; exact h
    · have := (List.getElem?_eq_some_iff.1 hx).1; omega
theorem crN_size (S : List ByteArray) (Ws : Wrs) (fs : List Int) (hS : ∀ s ∈ S, s.size = 256) (hW : ∀ x ∈ Ws, x.1 < S.length ∧ x.2.size = 256) : ∀ j, j ≤ Ws.length → ∀ s ∈ crN S Ws fs j, s.size = 256
  | 0, _, s, hs => hS s hs
  | j + 1, hj, s, hs => by
    have ih := crN_size S Ws fs hS hW j (by omega)
    simp only [crN] at hs
    have hx : Ws[j]? = some Ws[j] := List.getElem?_eq_getElem (by omega)
    have hm := hW _ (List.mem_of_getElem? hx)
    rw [List.getD_eq_getElem?_getD, hx] at hs
    rcases List.mem_or_eq_of_mem_set hs with h | rfl
    · exact ih s h
    · refine leftOf_size _ _ _ hm.2 ?_
      have hl : Ws[j].1 < (crN S Ws fs j).length := by rw [crN_length]; exact hm.1
      apply ih
      simp only [Option.getD_some]
      rw [List.getD_eq_getElem?_getD, List.getElem?_eq_getElem hl]
      exact List.getElem_mem hl
theorem crashOf_size (S : List ByteArray) (Ws : Wrs) (fs : List Int) (hS : ∀ s ∈ S, s.size = 256) (hW : ∀ x ∈ Ws, x.1 < S.length ∧ x.2.size = 256) : ∀ s ∈ crashOf S Ws fs, s.size = 256 := crN_size S Ws fs hS hW _ (Nat.le_refl _)
/-- a fate that is none of Kept, Torn changes nothing -/
theorem leftOf_lost (f : Int) (s t : ByteArray) (h1 : f ≠ 1) (h2 : f ≠ 2) : leftOf f s t = t := by simp [leftOf, h1, h2]
theorem set_getD_same {α : Type} (l : List α) (k : Nat) (d : α) : l.set k (l.getD k d) = l := by
  apply List.ext_getElem?
  intro j
  rw [List.getElem?_set]
  split
  · rename_i e; subst e
    split
    · rename_i h; rw [List.getD_eq_getElem?_getD, List.getElem?_eq_getElem h]; rfl
    · rename_i h; rw [List.getElem?_eq_none (by omega)]
  · rfl
theorem crN_lost (S : List ByteArray) (Ws : Wrs) (fs : List Int) (j : Nat) (h1 : fs.getD j 0 ≠ 1) (h2 : fs.getD j 0 ≠ 2) : crN S Ws fs (j + 1) = crN S Ws fs j := by
  simp only [crN]
  rw [leftOf_lost _ _ _ h1 h2, set_getD_same]
theorem crN_past (S : List ByteArray) (Ws : Wrs) (fs : List Int) (n : Nat) : ∀ k, fs.length ≤ n → crN S Ws fs (n + k) = crN S Ws fs n
  | 0, _ => rfl
  | k + 1, h => by
    rw [← Nat.add_assoc, crN_lost S Ws fs (n + k) (by rw [List.getD_eq_getElem?_getD, List.getElem?_eq_none (by omega)]; decide) (by rw [List.getD_eq_getElem?_getD, List.getElem?_eq_none (by omega)]; decide)]
    exact crN_past S Ws fs n k h
theorem crN_all_lost (S : List ByteArray) (Ws : Wrs) (fs : List Int) (h : ∀ j, fs.getD j 0 ≠ 1 ∧ fs.getD j 0 ≠ 2) : ∀ j, crN S Ws fs j = S
  | 0 => rfl
  | j + 1 => by rw [crN_lost S Ws fs j (h j).1 (h j).2]; exact crN_all_lost S Ws fs h j
/-- with all kept each page stays as it stood -/
theorem crN_kept (S : List ByteArray) (Ws : Wrs) (fs : List Int) (k : Nat) (s : ByteArray) (hs : S[k]? = some s) : ∀ j, j ≤ Ws.length → (∀ t, t < j → fs.getD t 0 = 1) → (crN S Ws fs j)[k]? = some (rawAt (Ws.take j) k s)
  | 0, _, _ => by simpa [crN, rawAt] using hs
  | j + 1, hj, hf => by
    have ih := crN_kept S Ws fs k s hs j (by omega) (fun t ht => hf t (by omega))
    have hx : Ws[j]? = some Ws[j] := List.getElem?_eq_getElem (by omega)
    have hk := (List.getElem?_eq_some_iff.1 hs).1
    simp only [crN]
    rw [hf j (by omega), List.take_add_one, hx, List.getD_eq_getElem?_getD, hx, List.getElem?_set, ih]
    simp only [Option.getD_some, Option.toList_some]
    rw [rawAt_snoc, crN_length]
    by_cases e : Ws[j].1 = k
    · rw [if_pos e, if_pos (by omega), if_pos e]; rfl
    · rw [if_neg e, if_neg e]
theorem sync_raw (S : List ByteArray) (Ws : Wrs) (k : Nat) (s : ByteArray) (hs : S[k]? = some s) : (syncOf S Ws)[k]? = some (rawAt Ws k s) := by
  have := crN_kept S Ws (List.replicate Ws.length 1) k s hs Ws.length (Nat.le_refl _) (fun t ht => by rw [List.getD_eq_getElem?_getD, List.getElem?_replicate, if_pos ht]; rfl)
  rwa [List.take_length] at this
theorem syncOf_length (S : List ByteArray) (Ws : Wrs) : (syncOf S Ws).length = S.length := crashOf_length _ _ _
theorem syncOf_nil (S : List ByteArray) : syncOf S [] = S := rfl
end Go.Proofs.Ytdbniiggbjmfoaa
