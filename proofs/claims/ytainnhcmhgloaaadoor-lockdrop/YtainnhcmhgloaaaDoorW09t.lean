/-
  Package lock: Held.
-/
import Derived.Test.YtainnhcmhgloaaaDoorW09s
namespace Go.Proofs.YtainnhcmhgloaaaDoor
open Go.RowKit Go.Shelf Go.MapKept Go.Maps Go.Sort Go.Lib

/-- the names that an owner holds, rising -/
def heldN (H : Hs) (x : Int) : List ByteArray := (((ownL H x).map (fun h => h.name.data.toList)).mergeSort leB).map (fun l => ⟨l.toArray⟩)
def heldF (H : Hs) (x : Int) (n : ByteArray) : List Value := [.string n, .int .i64 (modeP H x n : Int)]
theorem info_hold : (Tryd.prog.info? 32).map (fun i => (i.zero, i.size, i.bytes)) = some (some (.agg #[.string ⟨#[]⟩, .int .i64 0]), 2, 24) := by kernel_rfl
section
variable {w w' w0 : World} {o o' o0 : Nat → Nat} {i j z g m1 m2 m3 : Nat} {N N1 N2 : List En} {HL : List Ho} {WL H W H0 W0 : Hs} {n0 : ByteArray} {e : En} {v : Value}
theorem mem_heldN {H : Hs} {x : Int} {n : ByteArray} : n ∈ heldN H x → ∃ h ∈ H, h.owner = x ∧ h.name = n := by
  unfold heldN
  intro h
  obtain ⟨l, hl, rfl⟩ := List.mem_map.1 h
  rw [List.mem_mergeSort] at hl
  obtain ⟨y, hy, rfl⟩ := List.mem_map.1 hl
  obtain ⟨h1, h2⟩ := mem_ownL.1 hy
  exact ⟨y, h1, h2, rfl⟩
theorem hold_append {b k : Nat} {L : List Value} (h : w.ownsRow b 32 2 v k L) (hb : b ≤ w.heap.size) (n : ByteArray) (md : Int) (hk : k ≤ 1000) :
    ∃ v' w', (Builtin.append_ #[35, 35] 35 #[v, .slice (some ⟨w.heap.size, 0, none⟩) 1 1]).run Tryd.prog (w.alloc (.cells #[.string n, .int .i64 md] 32)) = .ok v' w' ∧ w'.ownsRow b 32 2 v' (k + 1) (L ++ [.string n, .int .i64 md]) ∧ Below b w w' := by
  obtain ⟨i0, hi, hz0, hz1, hz2⟩ := info_parts info_hold
  have bl : Below w.heap.size w (w.alloc (.cells #[.string n, .int .i64 md] 32)) := (Below.refl _ w).alloc (Nat.le_refl _) _
  have hA := At.new w #[.string n, .int .i64 md] 32
  have hr : (w.alloc (.cells #[.string n, .int .i64 md] 32)).ownsRow b 32 2 v k L := ownsRow_same h (fun g hg => bl.block g (h.lt g hg).2)
  obtain ⟨v', w', hap, h2, h3, _, h5⟩ := run_append_own_at (P := Tryd.prog) _ b 35 35 32 i0 (.agg #[.string ⟨#[]⟩, .int .i64 0]) 2 24 Tryd.underlying35 hi hz0 hz1 hz2 rfl (by decide) v k L hr ⟨w.heap.size, 0, none⟩ 1 1 [.string n, .int .i64 md] rfl (fun q u hu => by
    match q with
    | 0 => exact (hA.cell 0).trans (by simpa using hu)
    | 1 => exact (hA.cell 1).trans (by simpa using hu)
    | q + 2 => simp at hu) (by intro u hu; simp at hu; rcases hu with rfl | rfl <;> rfl) (by simp [maxLen]; omega) (by omega) (Nat.le_trans hb bl.size)
  exact ⟨v', w', hap, h2, (bl.mono hb).grown h3 (Nat.le_trans hb bl.size) (fun q hq => (h.lt q hq).1)⟩
/-- what maps.Keys and slices.Sorted make of what an owner holds -/
theorem c_ownS (T : IsT w o j g m1 m2 m3 N HL WL) (A : Abs N HL WL H W n0 []) (hB : H.length ≤ 1000) (x : Int) : ∃ v : Option Nat, (Instr.lookup 47 (.map (some m2)) (.int .i64 x) false).run Tryd.prog w = .ok (.map v) w ∧
    Calls Tryd.prog 26 #[.map v] w (fun r w' => r = .returned (.func (.func 53) #[] #[.pointer (some ⟨w.heap.size, 0, none⟩)]) ∧ w' = w.alloc (.cells #[.map v] 46)) ∧
    Calls Tryd.prog 32 #[.func (.func 53) #[] #[.pointer (some ⟨w.heap.size, 0, none⟩)]] (w.alloc (.cells #[.map v] 46)) (fun r w' => ∃ (u : Value), r = .returned u ∧ w'.ownsRow w.heap.size 9 1 u (heldN H x).length ((heldN H x).map Value.string) ∧ Below w.heap.size w w') := by
  have fin : ∀ (v : Option Nat) (S : List (List UInt8) → Prop) (n : Nat), n ≤ 1000 → (∀ ss, S ss → ss.Perm ((ownL H x).map (fun h => h.name.data.toList))) →
      SeqGives Fence.wide 2 Tryd.prog 53 #[.pointer (some ⟨w.heap.size, 0, none⟩)] encStr S n (w.alloc (.cells #[.map v] 46)) →
      Calls Tryd.prog 26 #[.map v] w (fun r w' => r = .returned (.func (.func 53) #[] #[.pointer (some ⟨w.heap.size, 0, none⟩)]) ∧ w' = w.alloc (.cells #[.map v] 46)) ∧
      Calls Tryd.prog 32 #[.func (.func 53) #[] #[.pointer (some ⟨w.heap.size, 0, none⟩)]] (w.alloc (.cells #[.map v] 46)) (fun r w' => ∃ (u : Value), r = .returned u ∧ w'.ownsRow w.heap.size 9 1 u (heldN H x).length ((heldN H x).map Value.string) ∧ Below w.heap.size w w') := fun v S n hn hS hseq => by
    refine ⟨callsIn_wide.1 (AnyZ.keys_in keys9s Fence.wide 5 trivial rfl v w), ?_⟩
    have cC := callsIn_wide.1 (AnyZ.sorted_in sorted9s Fence.wide 5 trivial trivial trivial trivial rfl (by omega) (sorts9s _) (enters_of Tryd.func28 (by kernel_rfl) rfl) 53 #[.pointer (some ⟨w.heap.size, 0, none⟩)] trivial (enters_of Tryd.func53 (by kernel_rfl) rfl) _ _ (by simp [maxLen]; omega) (by omega) _ hseq)
    change Calls Tryd.prog 32 _ _ _ at cC
    refine cC.mono ?_
    rintro r w' ⟨u, ss, rfl, h1, hrow, _, hb⟩
    have e1 : ss.mergeSort leB = ((ownL H x).map (fun h => h.name.data.toList)).mergeSort leB := mergeSort_of_perm (hS ss h1)
    have e2 : (heldN H x).length = ss.length := by unfold heldN; rw [List.length_map, ← e1, List.length_mergeSort]
    have e3 : (heldN H x).map Value.string = (ss.mergeSort leB).map encStr := by unfold heldN; rw [← e1, List.map_map]; rfl
    refine ⟨u, rfl, ?_, ((Below.refl _ w).alloc (Nat.le_refl _) _).trans (hb.mono (by simp))⟩
    rw [e2, e3]
    exact ownsRow_base_a hrow (by simp)
  rcases own_cases HL x with hno | ⟨h, hh, rfl⟩
  · have hnil : ownL H x = [] := List.eq_nil_iff_forall_not_mem.2 (fun y hy => by
      obtain ⟨h1, h2⟩ := mem_ownL.1 hy
      obtain ⟨h', a, b⟩ := A.ox y h1
      exact hno h' a (b.trans h2))
    refine ⟨none, T.hh.lookNo Tryd.underlying47 Tryd.underlying3 (show IsKey (.int .i64) (.int .i64 x) from rfl) (fun y hy e => by obtain ⟨p, hp, rfl⟩ := List.mem_map.1 hy; exact hno p hp (by simpa [hkv] using e)) (Tryd.zeroValue46 w) false, ?_⟩
    exact fin none (fun ss => ss = []) 0 (by omega) (fun ss hs => by rw [hs, hnil]; exact List.Perm.refl _) (AnyZ.keys_gives_nil (ρ := keys9s_ren) { keys9s with } Fence.wide _ trivial rfl w.heap.size _ (by simp) (by simp))
  · have hns : h.ns.length ≤ 1000 := by
      have := (A.om h hh).length_eq
      rw [List.length_map, List.length_map] at this
      have h2 : (ownL H h.owner).length ≤ H.length := List.length_filter_le _ _
      omega
    have hnsz : ∀ p ∈ h.ns, p.1.size ≤ 300 := fun p hp => by
      obtain ⟨y, hy, e1⟩ := List.mem_map.1 ((A.om h hh).mem_iff.1 (List.mem_map.2 ⟨p, hp, rfl⟩))
      rw [← e1]; exact (A.ok.hm y (mem_ownL.1 hy).1).2.2.2.2
    obtain ⟨D0, hown, hperm, hsize⟩ := (T.ho h hh).ownsS hns hnsz
    refine ⟨some h.b, T.hh.look Tryd.underlying47 Tryd.underlying3 (List.mem_map.2 ⟨h, hh, rfl⟩) false, ?_⟩
    refine fin (some h.b) (fun ss => ss.Perm (strKeys D0)) (Maps.size D0) (by omega) (fun ss hs => hs.trans (hperm.trans ?_)) (AnyZ.keys_gives (ρ := keys9s_ren) { keys9s with } Fence.wide _ trivial rfl (by omega) w.heap.size h.b h.ns.length D0 _ (by simp) (by simp) (own_mono9 hown (Below.heap_alloc _ _ h.b hown.lt)))
    have := (A.om h hh).map (fun n : ByteArray => n.data.toList)
    rw [List.map_map, List.map_map] at this
    exact this
end
end Go.Proofs.YtainnhcmhgloaaaDoor
