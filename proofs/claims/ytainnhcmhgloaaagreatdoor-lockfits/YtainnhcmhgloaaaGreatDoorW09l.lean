/-
  Package lock: a table as a whole (T9); the contracts of New, Mode, Holders, Queue, Waits.
-/
import Derived.Test.YtainnhcmhgloaaaGreatDoorW09k
import Derived.Laws.AppendOwn
namespace Go.Proofs.YtainnhcmhgloaaaGreatDoor
open Go.RowKit Go.Shelf Go.MapKept Go.Maps Go.Sort

/-- a table: who holds what, and who waits for it -/
structure T9 (w : World) (o : Nat → Nat) (j g : Nat) (H W : Hs) : Prop where
  ex : ∃ m1 m2 m3 N HL WL, IsT w o j g m1 m2 m3 N HL WL ∧ Abs N HL WL H W ⟨#[]⟩ []
section
variable {w w' : World} {o o' : Nat → Nat} {i j g m1 m2 m3 : Nat} {N : List En} {HL : List Ho} {WL H W : Hs} {n0 : ByteArray}
theorem T9.reads (h : T9 w o j g H W) (b : Below w.heap.size w w') : T9 w' o j g H W := by
  obtain ⟨m1, m2, m3, N, HL, WL, T, A⟩ := h.ex; exact ⟨m1, m2, m3, N, HL, WL, T.reads b, A⟩
theorem T9.other (h : T9 w o j g H W) (s : Stp o i w o' w') (hne : j ≠ i) : T9 w' o' j g H W := by
  obtain ⟨m1, m2, m3, N, HL, WL, T, A⟩ := h.ex; exact ⟨m1, m2, m3, N, HL, WL, T.other s hne, A⟩
theorem T9.ok (h : T9 w o j g H W) : Ok9 H W := by
  obtain ⟨m1, m2, m3, N, HL, WL, T, A⟩ := h.ex; exact A.ok
theorem T9.gives (h : T9 w o j g H W) (n : Nat) (k : Nat) (hk : w.heap.size ≤ n) : T9 w (gives o n k) j g H W := by
  obtain ⟨m1, m2, m3, N, HL, WL, T, A⟩ := h.ex
  exact ⟨m1, m2, m3, N, HL, WL, T.kept (fun _ _ _ => rfl) (fun k' hk' => gives_old (by omega)), A⟩
set_option maxRecDepth 100000 in
theorem c_New (w : World) (o : Nat → Nat) (j : Nat) : Calls Tryz.prog 6 #[] w fun r w' => ∃ g, r = .returned (ptr9 g) ∧ T9 w' (gives o w.heap.size j) j g [] [] ∧ Below w.heap.size w w' ∧ w.heap.size ≤ g := by
  have hmm := @RowKit.run_makeMap Tryz.prog
  unfold ptr9
  go_enter Tryz.func6, Tryz.ntmps6
  go_wp2
  go_ret
  have al : ∀ (W : World) (x : Obj), (W.alloc x).heap.size = W.heap.size + 1 := fun W x => by simp
  have bl : ∀ (W : World) (x : Obj), Below W.heap.size W (W.alloc x) := fun W x => (Below.refl _ W).alloc (Nat.le_refl _) x
  have b1 := bl w (.map #[] 0)
  have b2 := bl (w.alloc (.map #[] 0)) (.map #[] 0)
  have b3 := bl ((w.alloc (.map #[] 0)).alloc (.map #[] 0)) (.map #[] 0)
  have b4 := bl (((w.alloc (.map #[] 0)).alloc (.map #[] 0)).alloc (.map #[] 0)) (.cells #[.map (some w.heap.size), .map (some (w.heap.size + 1)), .map (some (w.heap.size + 1 + 1))] 54)
  have c3 := b3.trans (b4.mono b3.size)
  have c2 := b2.trans (c3.mono b2.size)
  have c1 := b1.trans (c2.mono b1.size)
  have e1 : (w.alloc (.map #[] 0)).heap.size = w.heap.size + 1 := al _ _
  have e2 : ((w.alloc (.map #[] 0)).alloc (.map #[] 0)).heap.size = w.heap.size + 1 + 1 := by rw [al, e1]
  have e3 : (((w.alloc (.map #[] 0)).alloc (.map #[] 0)).alloc (.map #[] 0)).heap.size = w.heap.size + 1 + 1 + 1 := by rw [al, e2]
  have n1 := (mapAt_new .string w).same (c2.block w.heap.size (by rw [e1]; omega))
  have n2 := mapAt_new (.int .i64) (w.alloc (.map #[] 0))
  rw [e1] at n2
  have n2' := n2.same (c3.block (w.heap.size + 1) (by rw [e2]; omega))
  have n3 := mapAt_new (.int .i64) ((w.alloc (.map #[] 0)).alloc (.map #[] 0))
  rw [e2] at n3
  have n3' := n3.same (b4.block (w.heap.size + 1 + 1) (by rw [e3]; omega))
  have n4 := At.new (((w.alloc (.map #[] 0)).alloc (.map #[] 0)).alloc (.map #[] 0)) #[.map (some w.heap.size), .map (some (w.heap.size + 1)), .map (some (w.heap.size + 1 + 1))] 54
  rw [e3] at n4
  refine ⟨w.heap.size + 1 + 1 + 1, rfl, ⟨w.heap.size, w.heap.size + 1, w.heap.size + 1 + 1, [], [], [], ⟨n4, n1, n2', n3', fun _ h => (by cases h), fun _ h => (by cases h), fun _ h => (by cases h), fun _ h => (by cases h), ⟨fun k => if k = w.heap.size + 1 + 1 + 1 then .tbl else if k = w.heap.size then .names else if k = w.heap.size + 1 then .held else .waits, (by first | (simp; done) | (simp; omega)), (by first | (simp; done) | (simp; omega)), (by first | (simp; done) | (simp; omega)), (by first | (simp; done) | (simp; omega)), fun _ h => (by cases h), fun _ h => (by cases h)⟩, ⟨gives_new (by omega), gives_new (by omega), gives_new (by omega), gives_new (by omega)⟩, fun _ h => (by cases h), fun _ h => (by cases h)⟩,
    ⟨fun _ h => (by cases h), fun _ h => (by cases h), fun _ h => (by cases h), fun _ h => (by cases h), List.Perm.refl _, fun _ h => (by cases h), fun _ h => (by cases h), fun _ h => (by cases h), ⟨fun _ h => (by cases h), fun _ h => (by cases h), List.Pairwise.nil, List.nodup_nil⟩⟩⟩, c1, by omega⟩
theorem mode_none (A : Abs N HL WL H W n0 []) (nm : ByteArray) (hno : ∀ e ∈ N, e.name ≠ nm) (x : Int) : modeP H x nm = 0 := modeP_none (fun h hh ⟨_, h2⟩ => by
  obtain ⟨e, he, h3⟩ := A.hx h hh
  exact hno e he (by rw [h3, h2]))
set_option maxRecDepth 100000 in
set_option maxHeartbeats 1000000 in
theorem c_Mode (h : T9 w o j g H W) (x : Int) (nm : ByteArray) : Calls Tryz.prog 14 #[ptr9 g, .int .i64 x, .string nm] w fun r w' => r = .returned (.int .i64 (modeP H x nm : Int)) ∧ w = w' := by
  obtain ⟨m1, m2, m3, N, HL, WL, T, A⟩ := h.ex
  have g0 : w.cell? ⟨g, 0, none⟩ = some (.map (some m1)) := T.hp.cell 0
  rcases name_cases N nm with hno | ⟨e, he, rfl⟩
  · have lk := T.lookNoName nm hno true
    simp only [if_true] at lk
    rw [mode_none A nm hno x]
    clear T A h hno
    unfold ptr9
    go_enter Tryz.func14, Tryz.ntmps14
    go_wp2
    go_ret
    exact ⟨rfl, rfl⟩
  · have lk := T.lookName he true
    simp only [if_true] at lk
    have CM := c_modeOf (T.eb e he) (T.eh e he) x
    rw [A.mode he (hs_nodup (T.eh e he)) x] at CM
    have HC := Lib.hid CM
    generalize ((modeP H x e.name : Nat) : Int) = r at *
    clear T A h he CM
    unfold ptr9 at *
    generalize e.b = eb at *
    generalize e.name = en at *
    go_enter Tryz.func14, Tryz.ntmps14
    go_wp2_with fail
    refine HC.out.mono ?_; rintro z w1 ⟨rfl, rfl⟩
    go_wp2_with fail
    go_ret
    exact ⟨rfl, rfl⟩
/-- the owners that hold a name, rising -/
def holdersI (H : Hs) (n : ByteArray) : List Int := ((nameL H n).map (·.owner)).mergeSort leI
def queueI (W : Hs) (n : ByteArray) : List Int := (nameL W n).map (·.owner)
theorem nil_of (A : Abs N HL WL H W n0 []) (nm : ByteArray) (hno : ∀ e ∈ N, e.name ≠ nm) : nameL H nm = [] ∧ nameL W nm = [] :=
  ⟨List.eq_nil_iff_forall_not_mem.2 (fun x hx => by
    obtain ⟨h1, h2⟩ := mem_nameL.1 hx
    obtain ⟨e, he, h3⟩ := A.hx x h1
    exact hno e he (by rw [h3, h2])), List.eq_nil_iff_forall_not_mem.2 (fun x hx => by
    obtain ⟨h1, h2⟩ := mem_nameL.1 hx
    obtain ⟨e, he, h3⟩ := A.qx x h1
    exact hno e he (by rw [h3, h2]))⟩
set_option maxRecDepth 100000 in
set_option maxHeartbeats 1000000 in
theorem c_Queue (h : T9 w o j g H W) (hB : W.length ≤ 1000) (nm : ByteArray) : Calls Tryz.prog 12 #[ptr9 g, .string nm] w fun r w' => ∃ v, r = .returned v ∧ w'.ownsRow w.heap.size 3 1 v (queueI W nm).length ((queueI W nm).map (Value.int .i64)) ∧ Below w.heap.size w w' := by
  obtain ⟨m1, m2, m3, N, HL, WL, T, A⟩ := h.ex
  have g0 : w.cell? ⟨g, 0, none⟩ = some (.map (some m1)) := T.hp.cell 0
  rcases name_cases N nm with hno | ⟨e, he, rfl⟩
  · have lk := T.lookNoName nm hno true
    simp only [if_true] at lk
    have hq : queueI W nm = [] := by unfold queueI; rw [(nil_of A nm hno).2]; rfl
    rw [hq]
    clear T A h hno hq
    unfold ptr9
    go_enter Tryz.func12, Tryz.ntmps12
    go_wp2
    go_ret
    exact ⟨_, rfl, World.ownsRow_nil _ _ _ _, Below.refl _ _⟩
  · have lk := T.lookName he true
    simp only [if_true] at lk
    have hq : queueI W e.name = e.q := (A.q_len he).symm
    have hql : e.q.length ≤ 1000 := by rw [A.q_len he, List.length_map]; exact Nat.le_trans (List.length_filter_le _ _) hB
    rw [hq]
    obtain ⟨ua, un, uc, hqv⟩ := (T.er e he).isSlice
    have b2 : w.cell? ⟨e.b, 2, none⟩ = some (.slice ua un uc) := by rw [← hqv]; exact (T.eb e he).cell 2
    have hrow := T.er e he
    rw [hqv] at hrow
    have hun : un = e.q.length := by
      rcases hrow.row.2 with ⟨h1, h2⟩ | ⟨g', cap, cur, h1, _⟩
      · cases h1; exact h2.symm
      · cases h1; rfl
    subst hun
    obtain ⟨i0, hi, hz0, hz1, hz2⟩ := info_parts info_int
    clear hq T A h he hqv
    unfold ptr9 at *
    rcases hrow.val with ⟨hv, h0, _⟩ | ⟨gq, C, hv, _, _, hc, _⟩
    · simp only [Value.slice.injEq] at hv
      obtain ⟨rfl, _, rfl⟩ := hv
      have hl0 : e.q = [] := List.eq_nil_of_length_eq_zero h0
      rw [hl0] at b2 ⊢
      simp only [List.length_nil] at b2
      clear hrow hl0 h0 hql
      generalize e.b = eb at *
      generalize e.name = en at *
      go_enter Tryz.func12, Tryz.ntmps12
      go_wp2
      go_ret
      exact ⟨_, rfl, World.ownsRow_nil _ _ _ _, Below.refl _ _⟩
    · simp only [Value.slice.injEq] at hv
      obtain ⟨rfl, _, rfl⟩ := hv
      have HC := Lib.hid (show ∀ (k : Nat) (u : Value), (e.q.map (Value.int .i64))[k]? = some u → w.cell? ((⟨gq, 0, none⟩ : Addr).add k) = some u from fun k u hu => by rw [add_zero']; exact hc k u hu)
      have HB := Lib.hid (Below.refl w.heap.size w)
      clear hrow hc
      generalize e.b = eb at *
      generalize e.name = en at *
      generalize e.q = q at *
      go_enter Tryz.func12, Tryz.ntmps12
      go_wp2_with (at_builtin; refine wpList_append_own _ rfl _ _ 36 rfl w.heap.size 3 i0 (.int .i64 0) 1 8 Tryz.underlying36 hi hz0 hz1 hz2 rfl (by decide) _ 0 [] rfl (World.ownsRow_nil _ _ _ _) ⟨gq, 0, none⟩ q.length uc (q.map (Value.int .i64)) rfl (by simp) HC.out (by intro u hu; obtain ⟨z, _, rfl⟩ := List.mem_map.1 hu; rfl) (by simp [maxLen]; omega) (by omega) (Nat.le_refl _) ?_; intro v' w4 hown' hgrow _)
      go_ret
      exact ⟨_, rfl, by simpa using hown', HB.out.grown hgrow (Nat.le_refl _) (fun j hj => by cases hj)⟩
end
end Go.Proofs.YtainnhcmhgloaaaGreatDoor
