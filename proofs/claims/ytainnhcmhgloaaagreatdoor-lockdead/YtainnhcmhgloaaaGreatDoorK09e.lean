/-
  What Drop does to who holds what and who waits for what; names, each once: plain.
-/
import Derived.Test.YtainnhcmhgloaaaGreatDoorK09d
import Derived.Lib.RowBridge
import Derived.Sort.KeysCollected
namespace Go.Proofs.YtainnhcmhgloaaaGreatDoor
open Go.RowKit Go.Lib

theorem compact_mem9 {d : Array (List UInt8)} {x : List UInt8} : ∀ m, x ∈ compactUpTo d m ↔ ∃ i, i < m ∧ d[i]! = x
  | 0 => by unfold compactUpTo; simp
  | m + 1 => by
    rw [compactUpTo_succ, List.mem_append, compact_mem9 m]
    constructor
    · rintro (⟨i, hi, h⟩ | h)
      · exact ⟨i, by omega, h⟩
      · split at h
        · exact ⟨m, by omega, (List.mem_singleton.1 h).symm⟩
        · cases h
    · rintro ⟨i, hi, h⟩
      by_cases him : i < m
      · exact .inl ⟨i, him, h⟩
      · obtain rfl : i = m := by omega
        by_cases hk : keeps d i = true
        · rw [if_pos hk]; exact .inr (by simp [h])
        · refine .inl ?_
          unfold keeps at hk
          simp at hk
          exact ⟨i - 1, by omega, by rw [← h]; exact hk.2.symm⟩
theorem compact_nodup9 {d : Array (List UInt8)} (hs : ∀ i k, i ≤ k → k < d.size → d[i]! ≤ d[k]!) : ∀ m, m ≤ d.size → (compactUpTo d m).Nodup
  | 0, _ => by unfold compactUpTo; simp
  | m + 1, hm => by
    rw [compactUpTo_succ]
    by_cases hk : keeps d m = true
    · rw [if_pos hk]
      refine List.nodup_append.2 ⟨compact_nodup9 hs m (by omega), by simp, fun a ha b hb => ?_⟩
      obtain rfl := List.mem_singleton.1 hb
      obtain ⟨i, hi, rfl⟩ := (compact_mem9 m).1 ha
      intro e
      unfold keeps at hk
      simp at hk
      rcases hk with hk | hk
      · omega
      · apply hk
        have h1 := hs i (m - 1) (by omega) (by omega)
        have h2 := hs (m - 1) m (by omega) (by omega)
        rw [e] at h1
        exact List.le_antisymm h1 h2
    · rw [if_neg hk, List.append_nil]; exact compact_nodup9 hs m (by omega)
theorem compact_sorted9 (l : List (List UInt8)) : (compact (l.mergeSort leB)).Nodup ∧ ∀ x, x ∈ compact (l.mergeSort leB) ↔ x ∈ l := by
  have tr : ∀ a b c : List UInt8, leB a b = true → leB b c = true → leB a c = true := fun a b c h1 h2 => by simp only [leB, decide_eq_true_eq] at *; exact List.le_trans h1 h2
  have tot : ∀ a b : List UInt8, (leB a b || leB b a) = true := fun a b => by simp only [leB, Bool.or_eq_true, decide_eq_true_eq]; exact List.le_total a b
  have hp := List.pairwise_mergeSort tr tot l
  unfold compact
  refine ⟨compact_nodup9 (fun i k hik hk => ?_) _ (by simp), fun x => ?_⟩
  · simp at hk
    have hi : i < (l.mergeSort leB).length := by simp; omega
    have hk' : k < (l.mergeSort leB).length := by simp; omega
    simp only [List.getElem!_toArray, List.getElem!_eq_getElem?_getD, List.getElem?_eq_getElem hi, List.getElem?_eq_getElem hk', Option.getD_some]
    rcases Nat.lt_or_ge i k with h | h
    · have := List.pairwise_iff_getElem.1 hp i k hi hk' h
      simpa [leB] using this
    · have : i = k := by omega
      subst this; exact List.le_refl _
  · rw [compact_mem9, ← List.mem_mergeSort (le := leB) (l := l)]
    constructor
    · rintro ⟨i, hi, rfl⟩
      simp only [List.getElem!_toArray, List.getElem!_eq_getElem?_getD, List.getElem?_eq_getElem hi, Option.getD_some]
      exact List.getElem_mem hi
    · intro h
      obtain ⟨i, hi, e⟩ := List.mem_iff_getElem.1 h
      refine ⟨i, hi, ?_⟩
      simp only [List.getElem!_toArray, List.getElem!_eq_getElem?_getD, List.getElem?_eq_getElem hi, Option.getD_some]
      exact e
/-- names, rising, each once -/
def namesU (l : List ByteArray) : List ByteArray := (compact ((l.map (fun n => n.data.toList)).mergeSort leB)).map (fun l => ⟨l.toArray⟩)
theorem namesU_nodup (l : List ByteArray) : (namesU l).Nodup := by
  unfold namesU
  refine List.Pairwise.map _ (fun a b h e => h ?_) (compact_sorted9 _).1
  have := congrArg (fun x : ByteArray => x.data.toList) e
  simpa using this
theorem mem_namesU {l : List ByteArray} {n : ByteArray} : n ∈ namesU l ↔ n ∈ l := by
  unfold namesU
  rw [List.mem_map]
  constructor
  · rintro ⟨x, hx, rfl⟩
    obtain ⟨m, hm, rfl⟩ := List.mem_map.1 (((compact_sorted9 _).2 x).1 hx)
    exact hm
  · intro h
    exact ⟨n.data.toList, ((compact_sorted9 _).2 _).2 (List.mem_map.2 ⟨n, h, rfl⟩), rfl⟩
/-- what letting all go of some names does -/
def dropP (x : Int) : List ByteArray → Hs → Hs → Hs × Hs × List Int
  | [], H, W => (H, W, [])
  | n :: l, H, W => ((dropP x l (comeP n (nameL W n).length (woN H x n) W).1 (comeP n (nameL W n).length (woN H x n) W).2.1).1, (dropP x l (comeP n (nameL W n).length (woN H x n) W).1 (comeP n (nameL W n).length (woN H x n) W).2.1).2.1,
    (comeP n (nameL W n).length (woN H x n) W).2.2 ++ (dropP x l (comeP n (nameL W n).length (woN H x n) W).1 (comeP n (nameL W n).length (woN H x n) W).2.1).2.2)
theorem comeP_len (n : ByteArray) : ∀ (k : Nat) (H W : Hs), (comeP n k H W).1.length + (comeP n k H W).2.1.length ≤ H.length + W.length ∧ (comeP n k H W).2.2.length + (comeP n k H W).2.1.length ≤ W.length
  | 0, H, W => by unfold comeP; simp
  | k + 1, H, W => by
    unfold comeP
    cases hn : nameL W n with
    | nil => simp
    | cons y l =>
      have hy := (mem_nameL.1 (show y ∈ nameL W n by rw [hn]; simp)).1
      by_cases hc : canP H y = true
      · have h1 := comeP_len n k (holdP H y) (woA W y.owner)
        have h2 := holdP_len H y
        have h3 := woA_len hy
        simp only [hc, if_true, List.length_cons]
        omega
      · simp only [hc]; simp
/-- for what an owner holds, and waits -/
def namesP (H W : Hs) (x : Int) : List ByteArray := namesU ((ownL H x).map (·.name) ++ (forP W x).toList.map (·.name))
end Go.Proofs.YtainnhcmhgloaaaGreatDoor
