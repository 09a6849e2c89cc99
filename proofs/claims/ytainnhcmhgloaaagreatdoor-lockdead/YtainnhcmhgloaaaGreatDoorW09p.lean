/-
  Package lock: Holders.
-/
import Derived.Test.YtainnhcmhgloaaaGreatDoorW09l
namespace Go.Proofs.YtainnhcmhgloaaaGreatDoor
open Go.RowKit Go.Shelf Go.MapKept Go.Maps Go.Sort
section
variable {w w' : World} {o o' : Nat → Nat} {i j g m1 m2 m3 : Nat} {N N1 N2 : List En} {HL : List Ho} {WL H W : Hs} {n0 : ByteArray} {e : En}
set_option maxRecDepth 100000 in
set_option maxHeartbeats 1000000 in
theorem c_Holders (h : T9 w o j g H W) (hB : H.length ≤ 1000) (nm : ByteArray) : Calls Tryz.prog 11 #[ptr9 g, .string nm] w fun r w' => ∃ v, r = .returned v ∧ w'.ownsRow w.heap.size 3 1 v (holdersI H nm).length ((holdersI H nm).map (Value.int .i64)) ∧ Below w.heap.size w w' := by
  obtain ⟨m1, m2, m3, N, HL, WL, T, A⟩ := h.ex
  have g0 : w.cell? ⟨g, 0, none⟩ = some (.map (some m1)) := T.hp.cell 0
  rcases name_cases N nm with hno | ⟨e, he, rfl⟩
  · have lk := T.lookNoName nm hno true
    simp only [if_true] at lk
    have hq : holdersI H nm = [] := by unfold holdersI; rw [(nil_of A nm hno).1]; simp
    rw [hq]
    clear T A h hno hq
    unfold ptr9
    go_enter Tryz.func11, Tryz.ntmps11
    go_wp2
    go_ret
    exact ⟨_, rfl, World.ownsRow_nil _ _ _ _, Below.refl _ _⟩
  · have lk := T.lookName he true
    simp only [if_true] at lk
    have hbd := A.bounds he
    obtain ⟨D0, hown, hperm, hsize⟩ := (T.eh e he).ownsI (by omega) hbd.1
    have hlen : e.hs.length ≤ 1000 := by omega
    have c1 : w.cell? ⟨e.b, 1, none⟩ = some (.map (some e.hb)) := (T.eb e he).cell 1
    have hpp : (e.hs.map (·.1)).Perm ((nameL H e.name).map (·.owner)) := by
      have := (A.hm e he).map (·.owner)
      rw [List.map_map] at this
      exact this
    refine (callsIn_wide (n := 6)).1 ?_
    have hbl := hown.lt
    have hseq : SeqGives Fence.wide 2 Tryz.prog 69 #[.pointer (some ⟨w.heap.size, 0, none⟩)] (Value.int .i64) (fun ss => ss.Perm (intKeys D0)) (Maps.size D0) (w.alloc (.cells #[.map (some e.hb)] 68)) :=
      AnyZI.keys_gives (ρ := keys9i_ren) { keys9i with } Fence.wide _ trivial rfl (by omega) w.heap.size e.hb e.hs.length D0 _ (by simp) (by simp) (own_mono9 hown (Below.heap_alloc _ _ e.hb hbl))
    have cK : ∀ mb W, CallsIn Fence.wide 5 Tryz.prog 33 #[.map mb] W fun e w' => e = .returned (.func (.func 69) #[] #[.pointer (some ⟨W.heap.size, 0, none⟩)]) ∧ w' = W.alloc (.cells #[.map mb] 68) := fun mb W => AnyZI.keys_in keys9i Fence.wide 5 trivial rfl mb W
    have cS := AnyZI.sorted_in sorted9i Fence.wide 5 trivial trivial trivial trivial rfl (by omega) (sorts9i _) (enters_of Tryz.func40 (by kernel_rfl) rfl) 69 #[.pointer (some ⟨w.heap.size, 0, none⟩)] trivial (enters_of Tryz.func69 (by kernel_rfl) rfl) _ _ (by rw [hsize]; simp [maxLen]; omega) (by rw [hsize]; omega) _ hseq
    change CallsIn _ _ Tryz.prog 32 _ _ _ at cS
    have hfK : Fence.wide.fn 33 := trivial
    have hfS : Fence.wide.fn 32 := trivial
    have HP := Lib.hid (hperm.trans hpp)
    clear hseq hown hperm hsize h T A hbd hlen hbl he hpp
    unfold ptr9 at *
    generalize hen : e.name = en at *
    clear hen
    generalize e.b = eb at *
    generalize e.hb = hb at *
    refine callsIn_of_wp Tryz.func11 rfl trivial ?_ rfl
    simp only [Tryz.ntmps11, List.size_toArray, List.length_cons, List.length_nil, Nat.reduceAdd, Nat.reduceSub, Array.replicate_succ, Array.replicate_zero, List.push_toArray, List.append_toArray, List.nil_append, List.cons_append]
    gi_wp2_with (first
      | (gi_at_call 33; refine (cK _ _).mono ?_; rintro e w' ⟨rfl, rfl⟩)
      | (gi_at_call 32; refine cS.mono ?_; rintro e w' ⟨v, ss, rfl, hS, hrow, hnil, hb⟩))
    go_ret
    have e1 : ss.mergeSort leI = holdersI H en := by
      unfold holdersI
      exact mergeSort_of_perm_i (hS.trans HP.out)
    have e2 : ss.length = (holdersI H en).length := by rw [← e1, List.length_mergeSort]
    have hrow' := ownsRow_base_a hrow (base' := w.heap.size) (by simp)
    rw [e2] at hrow'
    refine ⟨v, rfl, ?_, ((Below.refl _ w).alloc (Nat.le_refl _) _).trans (hb.mono (by simp))⟩
    rw [← e1]
    rw [← e1] at hrow'
    exact hrow'
end
end Go.Proofs.YtainnhcmhgloaaaGreatDoor
