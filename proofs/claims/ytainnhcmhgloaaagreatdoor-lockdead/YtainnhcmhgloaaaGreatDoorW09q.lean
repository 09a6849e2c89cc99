/-
  Package lock: rows of names: sorted, and each once; the names that an owner holds.
-/
import Derived.Test.YtainnhcmhgloaaaGreatDoorW09n
import Derived.Test.YtainnhcmhgloaaaGreatDoorK09e
import Derived.Sort.OwnSorted
import Derived.Lib.RowBridge
namespace Go.Proofs.YtainnhcmhgloaaaGreatDoor
open Go.RowKit Go.Shelf Go.MapKept Go.Maps Go.Sort Go.Lib


section
variable {w w' : World} {o o' : Nat → Nat} {i j g m1 m2 m3 : Nat} {N N1 N2 : List En} {HL : List Ho} {WL H W : Hs} {n0 : ByteArray} {e : En} {v : Value} {ss zs : List (List UInt8)}
theorem grown_self (w : World) (r : Option Nat) : w.grownBy w r := ⟨rfl, rfl, rfl, Nat.le_refl _, fun _ _ _ => rfl⟩
theorem c_sortS (h : Row w o i 9 1 v ss.length (ss.map encStr)) (hl : ss.length ≤ 2000) :
    Calls Tryz.prog 64 #[v] w fun r w' => r = .returned (.tuple #[]) ∧ Row w' o i 9 1 v ss.length ((ss.mergeSort leB).map encStr) ∧ Stp o i w o w' := by
  rcases h.row.2 with ⟨rfl, h0⟩ | ⟨gb, cap, cur, rfl, hbase, hgb, r1, r2, r3, r4⟩
  · have hss : ss = [] := List.eq_nil_of_length_eq_zero h0
    subst hss
    refine (l9_slices_Sort_string_none none 0 w).mono ?_
    rintro r w' ⟨rfl, rfl⟩
    exact ⟨rfl, by simpa using h, Stp.refl o i _⟩
  · have hH : Holds encStr w gb 0 ss.toArray := holds_of_block hgb (by simpa using r4)
    have hgl : gb < w.heap.size := (Array.getElem?_eq_some_iff.1 hgb).1
    refine (l9_slices_Sort_string gb 0 cap ss w hH hgl (by omega)).mono ?_
    rintro r w' ⟨rfl, nn, os, rfl⟩
    exact ⟨rfl, ⟨ownsRow_sorted (by simp) (Nat.zero_le _) hgb r1 r2 r3, h.own⟩, Stp.ofGrown (grownBy_sorted _) o i (fun k hk => by cases hk; exact h.own _ rfl)⟩
theorem c_compactS (h : Row w o i 9 1 v zs.length (zs.map encStr)) (hl : zs.length ≤ 2000) :
    Calls Tryz.prog 65 #[v] w fun r w' => ∃ v', r = .returned v' ∧ Row w' o i 9 1 v' (compact zs).length ((compact zs).map encStr) ∧ Stp o i w o w' := by
  rcases h.row.2 with ⟨rfl, h0⟩ | ⟨gb, cap, cur, rfl, hbase, hgb, r1, r2, r3, r4⟩
  · have hss : zs = [] := List.eq_nil_of_length_eq_zero h0
    subst hss
    refine (l9_slices_Compact_string_empty none 0 w).mono ?_
    rintro r w' ⟨rfl, rfl⟩
    exact ⟨_, rfl, h, Stp.refl o i _⟩
  · have hH : Holds encStr w gb 0 zs.toArray := holds_of_block hgb (by simpa using r4)
    have hcl := compact_length_le zs
    refine (l9_slices_Compact_string gb 0 cap zs w hH (by omega) r1).mono ?_
    rintro r w' ⟨rfl, q, rfl⟩
    have hR := ownsRow_sorted (w := w) (base := 0) (g := gb) (cap := cap) (n := q) (os := #[]) (ss := zs) (ts := compact zs ++ List.replicate (zs.length - (compact zs).length) []) (by simp; omega) (Nat.zero_le _) hgb r1 r2 r3
    rw [grow_empty] at hR
    have hG := grownBy_sorted (w := w) (g := gb) (n := q) (os := #[]) (compact zs ++ List.replicate (zs.length - (compact zs).length) []).toArray
    rw [grow_empty] at hG
    refine ⟨_, rfl, ⟨?_, fun k hk => by cases hk; exact h.own _ rfl⟩, Stp.ofGrown hG o i (fun k hk => by cases hk; exact h.own _ rfl)⟩
    rcases hR.2 with ⟨hr, _⟩ | ⟨gb', cap', cur', hr, hb', hg', s1, s2, s3, s4⟩
    · cases hr
    · cases hr
      refine ⟨by simp, .inr ⟨_, _, cur', rfl, hb', hg', by omega, s2, s3, ?_⟩⟩
      have := congrArg (List.take (compact zs).length) s4
      rw [List.take_take, Nat.min_eq_left (by omega), List.map_append, List.take_append_of_le_length (by simp), List.take_of_length_le (l := List.map encStr (compact zs)) (by simp)] at this
      rw [Nat.mul_one]; exact this
/-- what maps.Keys and slices.Collect make of what an owner holds -/
theorem c_own (T : IsT w o j g m1 m2 m3 N HL WL) (A : Abs N HL WL H W n0 []) (hB : H.length ≤ 1000) (x : Int) : ∃ v : Option Nat, (Instr.lookup 51 (.map (some m2)) (.int .i64 x) false).run Tryz.prog w = .ok (.map v) w ∧
    Calls Tryz.prog 43 #[.map v] w (fun r w' => r = .returned (.func (.func 77) #[] #[.pointer (some ⟨w.heap.size, 0, none⟩)]) ∧ w' = w.alloc (.cells #[.map v] 50)) ∧
    Calls Tryz.prog 63 #[.func (.func 77) #[] #[.pointer (some ⟨w.heap.size, 0, none⟩)]] (w.alloc (.cells #[.map v] 50)) (fun r w' => ∃ (u : Value) (ss : List (List UInt8)), r = .returned u ∧ ss.Perm ((ownL H x).map (fun h => h.name.data.toList)) ∧ w'.ownsRow w.heap.size 9 1 u ss.length (ss.map encStr) ∧ Below w.heap.size w w') := by
  have fin : ∀ (v : Option Nat) (S : List (List UInt8) → Prop) (n : Nat), n ≤ 1000 → (∀ ss, S ss → ss.Perm ((ownL H x).map (fun h => h.name.data.toList))) →
      SeqGives Fence.wide 1 Tryz.prog 77 #[.pointer (some ⟨w.heap.size, 0, none⟩)] encStr S n (w.alloc (.cells #[.map v] 50)) →
      Calls Tryz.prog 43 #[.map v] w (fun r w' => r = .returned (.func (.func 77) #[] #[.pointer (some ⟨w.heap.size, 0, none⟩)]) ∧ w' = w.alloc (.cells #[.map v] 50)) ∧
      Calls Tryz.prog 63 #[.func (.func 77) #[] #[.pointer (some ⟨w.heap.size, 0, none⟩)]] (w.alloc (.cells #[.map v] 50)) (fun r w' => ∃ (u : Value) (ss : List (List UInt8)), r = .returned u ∧ ss.Perm ((ownL H x).map (fun h => h.name.data.toList)) ∧ w'.ownsRow w.heap.size 9 1 u ss.length (ss.map encStr) ∧ Below w.heap.size w w') := fun v S n hn hS hseq => by
    refine ⟨callsIn_wide.1 (AnyZ.keys_in keys9s Fence.wide 5 trivial rfl v w), ?_⟩
    have cC := callsIn_wide.1 (AnyZ.collect_in collect9s Fence.wide 3 trivial trivial rfl (by omega) 77 #[.pointer (some ⟨w.heap.size, 0, none⟩)] trivial (enters_of Tryz.func77 (by kernel_rfl) rfl) _ _ (by simp [maxLen]; omega) (by omega) _ hseq)
    change Calls Tryz.prog 63 _ _ _ at cC
    refine cC.mono ?_
    rintro r w' ⟨u, ss, rfl, h1, hrow, _, hb⟩
    exact ⟨u, ss, rfl, hS ss h1, ownsRow_base_a hrow (by simp), ((Below.refl _ w).alloc (Nat.le_refl _) _).trans (hb.mono (by simp))⟩
  rcases own_cases HL x with hno | ⟨h, hh, rfl⟩
  · have hnil : ownL H x = [] := List.eq_nil_iff_forall_not_mem.2 (fun y hy => by
      obtain ⟨h1, h2⟩ := mem_ownL.1 hy
      obtain ⟨h', a, b⟩ := A.ox y h1
      exact hno h' a (b.trans h2))
    refine ⟨none, T.hh.lookNo Tryz.underlying51 Tryz.underlying3 (show IsKey (.int .i64) (.int .i64 x) from rfl) (fun y hy e => by obtain ⟨p, hp, rfl⟩ := List.mem_map.1 hy; exact hno p hp (by simpa [hkv] using e)) (Tryz.zeroValue50 w) false, ?_⟩
    exact fin none (fun ss => ss = []) 0 (by omega) (fun ss hs => by rw [hs, hnil]; exact List.Perm.refl _) (AnyZ.keys_gives_nil (ρ := keys9s_ren) { keys9s with } Fence.wide _ trivial rfl w.heap.size _ (by simp) (by simp))
  · have hns : h.ns.length ≤ 1000 := by
      have := (A.om h hh).length_eq
      rw [List.length_map, List.length_map] at this
      have h2 : (ownL H h.owner).length ≤ H.length := List.length_filter_le _ _
      omega
    have hnsz : ∀ p ∈ h.ns, p.1.size ≤ 300 := fun p hp => by
      obtain ⟨y, hy, e1⟩ := List.mem_map.1 ((A.om h hh).mem_iff.1 (List.mem_map.2 ⟨p, hp, rfl⟩))
      rw [← e1]; exact (A.ok.hm y (mem_ownL.1 hy).1).2.2.2.2
    obtain ⟨D0, hown, hperm, hsize⟩ := (T.ho h hh).ownsS hns hnsz
    refine ⟨some h.b, T.hh.look Tryz.underlying51 Tryz.underlying3 (List.mem_map.2 ⟨h, hh, rfl⟩) false, ?_⟩
    refine fin (some h.b) (fun ss => ss.Perm (strKeys D0)) (Maps.size D0) (by omega) (fun ss hs => hs.trans (hperm.trans ?_)) (AnyZ.keys_gives (ρ := keys9s_ren) { keys9s with } Fence.wide _ trivial rfl (by omega) w.heap.size h.b h.ns.length D0 _ (by simp) (by simp) (own_mono9 hown (Below.heap_alloc _ _ h.b hown.lt)))
    have := (A.om h hh).map (fun n : ByteArray => n.data.toList)
    rw [List.map_map, List.map_map] at this
    exact this
end
end Go.Proofs.YtainnhcmhgloaaaGreatDoor
