/-
  Package pool: its map as the library reads it; the contract of Pages.
-/
import Derived.Test.YthjlbfijfpfohaaGreatS07
namespace Go.Proofs.YthjlbfijfpfohaaGreat
open Go.RowKit Go.MapKept Go.Maps Go.Sort Go.Shelf
open Go.WideElems (Fit rd rg rd_mk rg_of)

/-- how a place's pointer reads: as its block's number -/
def R7 (v : Value) : Option (DataW Unit × List MemPlace) := match v with
  | .pointer (some ⟨b, 0, none⟩) => some (.lit (.int .i64 (b : Int)), [])
  | _ => none
theorem R7_ptr (b : Nat) : R7 (.pointer (some ⟨b, 0, none⟩)) = some (.lit (.int .i64 (b : Int)), []) := rfl
theorem R7_inv {v : Value} {y : DataW Unit × List MemPlace} (h : R7 v = some y) : ∃ b : Nat, v = .pointer (some ⟨b, 0, none⟩) ∧ y = (.lit (.int .i64 (b : Int)), []) := by
  unfold R7 at h; split at h
  · rename_i b; cases h; exact ⟨b, rfl, rfl⟩
  · cases h
/-- the pages, rising -/
def pagesI (L : List Pl) : List Int := (L.map (fun a => (a.page : Int))).mergeSort leI
theorem pagesI_perm {L L' : List Pl} (h : L.Perm L') : pagesI L = pagesI L' := mergeSort_of_perm_i (h.map _)
theorem pagesI_length (L : List Pl) : (pagesI L).length = L.length := by unfold pagesI; rw [List.length_mergeSort, List.length_map]
theorem mem_pagesI {L : List Pl} {x : Int} : x ∈ pagesI L ↔ ∃ a ∈ L, (a.page : Int) = x := by unfold pagesI; rw [List.mem_mergeSort, List.mem_map]
section
variable {w w' : World} {o o' : Nat → Nat} {i j g pd m n t ck b q : Nat} {su : Int} {E : List En}
theorem key7 (k : Nat) (hk : k ≤ 1000000) : keyOf Tryz.prog 3 (.int .i64 (k : Int)) = some (.int .i64 (k : Int)) := by
  have hw : (Lit.int .i64 (k : Int)).wf = true := by
    have e1 : IntKind.i64.min = -9223372036854775808 := by decide
    have e2 : IntKind.i64.max = 9223372036854775807 := by decide
    simp only [Lit.wf, e1, e2, Bool.and_eq_true, decide_eq_true_eq]; omega
  simp [keyOf, Tryz.underlying3, mapKey, hw]
theorem rd7 (e : En) (hk : e.a.page ≤ 1000000) : rd Tryz.prog 3 R7 (enm e) = some (.int .i64 (e.a.page : Int), .lit (.int .i64 (e.b : Int))) := by
  have h1 := key7 e.a.page hk
  have h2 := R7_ptr e.b
  unfold WideElems.rd enm
  simp only [h1, h2, Option.bind_some, Option.map_some]
theorem IsE.fit (h : IsE w o j g pd m n su t E ck) (hl : E.length ≤ 1000) (hk : ∀ e ∈ E, e.a.page ≤ 1000000) : Fit Tryz.prog 3 R7 (E.map enm).toArray ck := by
  refine ⟨by simp [maxLen]; omega, ⟨fun x hx => ?_, ?_, ?_⟩, fun x hx => ?_⟩
  · obtain ⟨e, he, rfl⟩ := List.mem_map.1 (by simpa using hx)
    exact h.nc e he
  · rw [show ((E.map enm).toArray.toList.map (·.born)) = E.map (·.id) from by simp [enm]]; exact h.ni
  · rw [show ((E.map enm).toArray.toList.map (·.key)) = (E.map (·.a.page)).map (fun k : Nat => Value.int .i64 (k : Int)) from by simp [enm]]
    exact List.pairwise_map.2 (h.nk.imp (fun hne e => hne (by simp at e; omega)))
  · obtain ⟨e, he, rfl⟩ := List.mem_map.1 (by simpa using hx)
    exact ⟨_, rd7 e (hk e he)⟩
theorem IsE.owns (h : IsE w o j g pd m n su t E ck) (hl : E.length ≤ 1000) (hk : ∀ e ∈ E, e.a.page ≤ 1000000) :
    ∃ D : DataW Unit, w.ownsMap Tryz.prog 3 R7 m E.length D ∧ (intKeys D).Perm (E.map (fun e => (e.a.page : Int))) ∧ Maps.size D = E.length := by
  refine ⟨_, ⟨_, ck, h.hm, h.fit hl hk, by simp, rfl⟩, ?_, ?_⟩
  · show (List.map (fun p => _root_.Go.intOf p.1) (List.foldr DataW.insert [] _)).Perm _
    refine ((Go.WideShapes.sorted_perm _).map _).trans ?_
    rw [List.map_map]
    show (List.map _ (E.map enm)).Perm _
    rw [List.map_map]
    refine List.Perm.of_eq (List.map_congr_left (fun e he => ?_))
    simp only [Function.comp]
    rw [rg_of (rd7 e (hk e he))]; rfl
  · show (List.foldr DataW.insert [] _).length = _
    rw [length_sorted]; simp
/-- slices.Sort's two contracts, at the fence that asks nothing -/
theorem sorts7 (k : Nat) : AnyZI.SortsIn Tryz.prog sorted7_ren Fence.wide k :=
  ⟨fun blk off cap ss W hH hblk hsz => callsIn_wide.2 (Any.slices_Sort_int sort7 blk off cap ss W hH hblk hsz),
   fun p cap W => callsIn_wide.2 (Any.slices_Sort_int_none sort7 p cap W)⟩
theorem own_mono {w w' : World} {b nn : Nat} {D : DataW Unit} (h : w.ownsMap Tryz.prog 3 R7 b nn D) (hb : w'.heap[b]? = w.heap[b]?) : w'.ownsMap Tryz.prog 3 R7 b nn D := by
  obtain ⟨es, clock, h1, h2⟩ := h
  exact ⟨es, clock, hb.trans h1, h2⟩
set_option maxRecDepth 100000 in
set_option maxHeartbeats 1000000 in
theorem ppages' (h : IsE w o j g pd m n su t E ck) (hl : E.length ≤ 1000) (hk : ∀ e ∈ E, e.a.page ≤ 1000000) :
    Calls Tryz.prog 12 #[.pointer (some ⟨g, 0, none⟩)] w fun e w' => ∃ (v : Value), e = .returned v ∧ w'.ownsRow w.heap.size 3 1 v (pagesI (E.map (·.a))).length ((pagesI (E.map (·.a))).map encZ) ∧ Below w.heap.size w w' := by
  obtain ⟨D0, hown, hperm, hsize⟩ := h.owns hl hk
  have c2 : w.cell? ⟨g, 2, none⟩ = some (.map (some m)) := h.hp.cell 2
  refine (callsIn_wide (n := 6)).1 ?_
  have hbl := hown.lt
  have hseq : SeqGives Fence.wide 2 Tryz.prog 59 #[.pointer (some ⟨w.heap.size, 0, none⟩)] encZ (fun ss => ss.Perm (intKeys D0)) (Maps.size D0) (w.alloc (.cells #[.map (some m)] 61)) :=
    AnyZI.keys_gives (ρ := keys7_ren) { keys7 with } Fence.wide _ trivial rfl (by omega) w.heap.size m E.length D0 _ (by simp) (by simp) (own_mono hown (Below.heap_alloc _ _ m hbl))
  have cK : ∀ mb W, CallsIn Fence.wide 5 Tryz.prog 35 #[.map mb] W fun e w' => e = .returned (.func (.func 59) #[] #[.pointer (some ⟨W.heap.size, 0, none⟩)]) ∧ w' = W.alloc (.cells #[.map mb] 61) := fun mb W => AnyZI.keys_in keys7 Fence.wide 5 trivial rfl mb W
  have cS := AnyZI.sorted_in sorted7 Fence.wide 5 trivial trivial trivial trivial rfl (by omega) (sorts7 _) (enters_of Tryz.func58 (by kernel_rfl) rfl) 59 #[.pointer (some ⟨w.heap.size, 0, none⟩)] trivial (enters_of Tryz.func59 (by kernel_rfl) rfl) _ _ (by rw [hsize]; simp [maxLen]; omega) (by rw [hsize]; omega) _ hseq
  change CallsIn _ _ Tryz.prog 34 _ _ _ at cS
  have hfK : Fence.wide.fn 35 := trivial
  have hfS : Fence.wide.fn 34 := trivial
  have HP := Lib.hid hperm
  clear hseq hown hperm hsize hl hk h
  refine callsIn_of_wp Tryz.func12 rfl trivial ?_ rfl
  simp only [Tryz.ntmps12, List.size_toArray, List.length_cons, List.length_nil, Nat.reduceAdd, Nat.reduceSub, Array.replicate_succ, Array.replicate_zero, List.push_toArray, List.append_toArray, List.nil_append, List.cons_append]
  gi_wp2_with (first
    | (gi_at_call 35; refine (cK _ _).mono ?_; rintro e w' ⟨rfl, rfl⟩)
    | (gi_at_call 34; refine cS.mono ?_; rintro e w' ⟨v, ss, rfl, hS, hrow, hnil, hb⟩))
  go_ret
  have e1 : ss.mergeSort leI = pagesI (E.map (·.a)) := by
    unfold pagesI
    rw [List.map_map]
    exact mergeSort_of_perm_i (hS.trans HP.out)
  have e2 : ss.length = (pagesI (E.map (·.a))).length := by rw [← e1, List.length_mergeSort]
  have hrow' := ownsRow_base_a hrow (base' := w.heap.size) (by simp)
  rw [e2] at hrow'
  refine ⟨v, rfl, ?_, ((Below.refl _ w).alloc (Nat.le_refl _) _).trans (hb.mono (by simp))⟩
  rw [← e1]
  rw [← e1] at hrow'
  exact hrow'
end
end Go.Proofs.YthjlbfijfpfohaaGreat
