/-
  The document's pool: the contract of cut: one leaves the row.
-/
import Derived.Test.YthjlbfijfpfohaaGreatZ07d
namespace Go.Proofs.YthjlbfijfpfohaaGreat
open Go.RowKit Go.MapKept
theorem info_place : (Tryz.prog.info? 77).map (fun i => (i.zero, i.size, i.bytes)) = some (some (.pointer none), 1, 8) := by kernel_rfl
section
variable {w w' : World} {o o' : Nat → Nat} {i j g x n q : Nat} {su : Int} {v : Value} {E : List Qn} {S : List ByteArray} {Ws : Wrs}
theorem qptr_one (l : List Qn) : ∀ u ∈ l.map qptr, u.oneCell' = true := by
  intro u hu
  obtain ⟨e, _, rfl⟩ := List.mem_map.1 hu
  rfl
/-- the row is another one, of new memory -/
theorem IsQ.row {v' : Value} {E' : List Qn} (h : IsQ w o j g x n su v E) (s : Stp o j w o' w') (b : Below w.heap.size w w') (hsub : E'.Sublist E) (hr : Row w' o' j 77 1 v' E'.length (E'.map qptr)) (hn : ∀ gb, v'.ownBlock = some gb → w.heap.size ≤ gb) :
    IsQ (w'.setCell ⟨g, 3, none⟩ v') o' j g x n su v' E' := by
  have hp' := h.hp.reads b
  have hE : ∀ e ∈ E', e ∈ E := fun e he => hsub.subset he
  have hgn : ∀ gb, v'.ownBlock = some gb → gb ≠ g := fun gb hg e => by
    have := hn gb hg; have := h.hp.lt; omega
  refine ⟨hp'.set 3 v', ⟨ownsRow_same hr.row (fun gb hg => Below.heap_setCell w' ⟨g, 3, none⟩ v' gb (hgn gb hg)), hr.own⟩, fun e he => ?_, (s.own g h.hp.lt).trans h.op, fun e he => (s.own e.b (h.hb e (hE e he)).lt).trans (h.ob e (hE e he)), (hsub.map _).nodup h.nb, (hsub.map _).nodup h.nk⟩
  exact ((h.hb e (hE e he)).reads b).setOther 3 v' (h.ngb (hE e he))
set_option maxRecDepth 100000 in
set_option maxHeartbeats 2000000 in
theorem qcut (h : IsQ w o j g x n su v E) {t : Nat} {e : Qn} (ht : E[t]? = some e) (hl : E.length ≤ 1000) :
    Calls Tryz.prog 47 #[.pointer (some ⟨g, 0, none⟩), .int .i64 (t : Int)] w fun y w' => y = .returned (.tuple #[]) ∧ ∃ v' o', IsQ w' o' j g x n su v' (E.eraseIdx t) ∧ Stp o j w o' w' ∧ KeptQ o j w w' (fun b => b = g) := by
  have htl := (List.getElem?_eq_some_iff.1 ht).1
  obtain ⟨gb, C, rfl, _⟩ := h.at' ht
  have hC : E.length ≤ C := by
    rcases h.hv.row.2 with ⟨h1, _⟩ | ⟨g2, cap, cur, h1, _, _, h2, _⟩
    · cases h1
    · cases h1; exact h2
  have hCm : C ≤ maxLen := by
    rcases h.hv.row.2 with ⟨h1, _⟩ | ⟨g2, cap, cur, h1, _, _, _, h2, _⟩
    · cases h1
    · cases h1; exact h2
  obtain ⟨i0, hi, hz0, hz1, hz2⟩ := info_parts info_place
  have cells : ∀ k u, (E.map qptr)[k]? = some u → w.cell? ⟨gb, k, none⟩ = some u := by
    rcases h.hv.val with ⟨h1, _⟩ | ⟨g2, C2, h1, _, _, hc, _⟩
    · cases h1
    · cases h1; exact hc
  -- []*Place{}, and the first part
  have R0 := Row.made w o j 77 1
  have b0 : Below w.heap.size w (w.alloc (.cells #[] 77)) := (Below.refl _ w).alloc (Nat.le_refl _) _
  have s0 := stp_giveNew b0 o j j
  have hgl : gb < w.heap.size := h.hv.lt rfl
  obtain ⟨v1, w1, hr1, R1, s1, g1, own1⟩ := R0.append (P := Tryz.prog) (t := 64) (ty := 64) Tryz.underlying64 hi hz0 hz1 hz2 rfl (by decide) ⟨gb, 0, none⟩ t C ((E.take t).map qptr) (by rw [List.length_map, List.length_take]; omega)
    (fun k u hu => by
      have hk : k < t := by have := (List.getElem?_eq_some_iff.1 hu).1; rw [List.length_map, List.length_take] at this; omega
      rw [add_zero', b0.cell (p := ⟨gb, k, none⟩) hgl]
      apply cells
      rw [← hu, List.getElem?_map, List.getElem?_map, List.getElem?_take_of_lt hk])
    (qptr_one _) (by simp [maxLen]; omega) (by omega)
  have hz1' : (w.alloc (.cells #[] 77)).heap.size = w.heap.size + 1 := by simp
  rw [hz1'] at R1 s1 own1
  have b1 : Below w.heap.size w w1 := b0.grown g1 b0.size (fun k hk => by cases hk; exact Nat.le_refl _)
  have hv1 : ∀ k, v1.ownBlock = some k → w.heap.size ≤ k := fun k hk => by
    rcases own1 with e1 | e1
    · rw [e1] at hk
      have : w.heap.size = k := by simpa [Value.ownBlock] using hk
      omega
    · rw [e1] at hk
      have : w.heap.size + 1 = k := by simpa using hk
      omega
  have hz1s := b1.size
  rw [List.nil_append, Nat.zero_add] at R1
  have key : ∀ (p2 c2 : Nat), (t + 1 < E.length → p2 = t + 1) → ∃ v2 w2 o2, (Builtin.append_ #[64, 64] 64 #[v1, .slice (some ⟨gb, p2, none⟩) (E.length - (t + 1)) c2]).run Tryz.prog w1 = .ok v2 w2 ∧
      IsQ (w2.setCell ⟨g, 3, none⟩ v2) o2 j g x n su v2 (E.eraseIdx t) ∧ Stp o j w o2 (w2.setCell ⟨g, 3, none⟩ v2) ∧ KeptQ o j w (w2.setCell ⟨g, 3, none⟩ v2) (fun b => b = g) ∧ At w2 g #[.pointer (some ⟨x, 0, none⟩), .int .i64 (n : Int), .int .i64 su, .slice (some ⟨gb, 0, none⟩) E.length C] 66 := fun p2 c2 hp2 => by
    obtain ⟨v2, w2, hr2, R2, s2, g2, own2⟩ := R1.append (P := Tryz.prog) (t := 64) (ty := 64) Tryz.underlying64 hi hz0 hz1 hz2 rfl (by decide) ⟨gb, p2, none⟩ (E.length - (t + 1)) c2 ((E.drop (t + 1)).map qptr) (by rw [List.length_map, List.length_drop]; omega)
      (fun k u hu => by
        have hk : k < E.length - (t + 1) := by have := (List.getElem?_eq_some_iff.1 hu).1; rwa [List.length_map, List.length_drop] at this
        have ep := hp2 (by omega)
        subst ep
        have ea : Addr.add ⟨gb, t + 1, none⟩ k = ⟨gb, t + 1 + k, none⟩ := by unfold Addr.add; split <;> simp_all
        rw [ea, b1.cell (p := ⟨gb, t + 1 + k, none⟩) hgl]
        apply cells
        rw [← hu, List.getElem?_map, List.getElem?_map, List.getElem?_drop])
      (qptr_one _) (by simp [maxLen]; omega) (by omega)
    have b2 : Below w.heap.size w w2 := b1.grown g2 b1.size (fun k hk => hv1 k hk)
    have hv2 : ∀ k, v2.ownBlock = some k → w.heap.size ≤ k := fun k hk => by
      rcases own2 with e1 | e1
      · rw [e1] at hk; exact hv1 k hk
      · rw [e1] at hk; cases hk; exact hz1s
    have eE : (E.take t).map qptr ++ (E.drop (t + 1)).map qptr = (E.eraseIdx t).map qptr := by rw [← List.map_append, List.eraseIdx_eq_take_drop_succ]
    have eL : t + (E.length - (t + 1)) = (E.eraseIdx t).length := by rw [List.length_eraseIdx_of_lt htl]; omega
    rw [eE, eL] at R2
    exact ⟨v2, w2, _, hr2, h.row ((s0.trans s1).trans s2) b2 (List.eraseIdx_sublist ..) R2 hv2, ((s0.trans s1).trans s2).trans (Stp.setCell _ j w2 g 3 v2 (((s0.trans s1).trans s2).own g h.hp.lt |>.trans h.op)), ⟨by simpa using b2.size, fun b hb _ hx => (Below.heap_setCell w2 ⟨g, 3, none⟩ v2 b hx).trans (b2.block b hb)⟩, h.hp.reads b2⟩
  have H1 := Lib.hid hr1; have HKEY := Lib.hid key
  have c3a : (w.alloc (.cells #[] 77)).cell? ⟨g, 3, none⟩ = some (.slice (some ⟨gb, 0, none⟩) E.length C) := (h.hp.reads b0).cell 3
  have c3b : w1.cell? ⟨g, 3, none⟩ = some (.slice (some ⟨gb, 0, none⟩) E.length C) := (h.hp.reads b1).cell 3
  have k1 : (t : Int) < (E.length : Int) := by omega
  have k2 : (E.length : Int) ≤ (C : Int) := by omega
  have k6 : (t : Int) < 1000 := by omega
  have k0 : (0 : Int) ≤ (t : Int) := by omega
  have k4 : (t : Int) ≤ (C : Int) := by omega
  have k5 : (t : Int) + 1 ≤ (E.length : Int) := by omega
  clear R0 b0 s0 R1 s1 g1 own1 b1 hv1 hr1 h cells hi hz0 hz1 hz2 hz1' hz1s hgl hCm key
  by_cases hCt : C = t + 1
  · subst hCt
    obtain ⟨v2, w2, o2, hr2, Q2, S2, K2, A2⟩ := HKEY.out 0 0 (fun hh => by omega)
    obtain ⟨a2, C2, hv2⟩ := Q2.slot
    subst hv2
    have HR2 := Lib.hid hr2; have HQ := Lib.hid Q2; have HS := Lib.hid S2; have HK2 := Lib.hid K2
    have d3 : w2.cell? ⟨g, 3, none⟩ = some (.slice (some ⟨gb, 0, none⟩) E.length (t + 1)) := A2.cell 3
    have z3 := A2.fz 3
    rw [show E.length - (t + 1) = 0 by omega] at HR2
    clear hr2 Q2 S2 K2 A2 HKEY
    go_enter Tryz.func47, Tryz.ntmps47
    go_wp2_with (first | (at_builtin; refine wpList_append_run rfl (.tmp 5) (.tmp 11) _ _ rfl _ _ rfl rfl _ _ H1.out ?_) | (at_builtin; refine wpList_append_run rfl (.tmp 13) (.tmp 20) _ _ rfl _ _ rfl rfl _ _ HR2.out ?_))
    go_end0
    exact ⟨rfl, _, o2, HQ.out, HS.out, HK2.out⟩
  · obtain ⟨v2, w2, o2, hr2, Q2, S2, K2, A2⟩ := HKEY.out (t + 1) (C - (t + 1)) (fun _ => rfl)
    obtain ⟨a2, C2, hv2⟩ := Q2.slot
    subst hv2
    have HR2 := Lib.hid hr2; have HQ := Lib.hid Q2; have HS := Lib.hid S2; have HK2 := Lib.hid K2
    have d3 : w2.cell? ⟨g, 3, none⟩ = some (.slice (some ⟨gb, 0, none⟩) E.length C) := A2.cell 3
    have z3 := A2.fz 3
    clear hr2 Q2 S2 K2 A2 HKEY
    go_enter Tryz.func47, Tryz.ntmps47
    go_wp2_with (first | (at_builtin; refine wpList_append_run rfl (.tmp 5) (.tmp 11) _ _ rfl _ _ rfl rfl _ _ H1.out ?_) | (at_builtin; refine wpList_append_run rfl (.tmp 13) (.tmp 20) _ _ rfl _ _ rfl rfl _ _ HR2.out ?_))
    go_end0
    exact ⟨rfl, _, o2, HQ.out, HS.out, HK2.out⟩
end
end Go.Proofs.YthjlbfijfpfohaaGreat
