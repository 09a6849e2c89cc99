/-
  Package lock: the contracts of hold and release.
-/
import Derived.Test.YtainnhcmhgloaaaGreatDoorK09b
import Derived.Carry
namespace Go.Proofs.YtainnhcmhgloaaaGreatDoor
open Go.RowKit Go.Shelf Go.MapKept Go.Maps Go.Sort

section
variable {w w' : World} {m : Nat}
theorem filter_mid {l1 l2 : List (Int × Nat)} {x : Int} {m0 : Nat} (hn : ((l1 ++ (x, m0) :: l2).map (·.1)).Nodup) : (l1 ++ (x, m0) :: l2).filter (fun p => decide (p.1 ≠ x)) = l1 ++ l2 := by
  have ne : ∀ p, p ∈ l1 ∨ p ∈ l2 → p.1 ≠ x := fun p hp => mid_ne (x := (x, m0)) hn hp
  rw [List.filter_append, List.filter_cons_of_neg (by simp), List.filter_eq_self.2 (fun q hq => by have := ne q (.inl hq); simp [this]), List.filter_eq_self.2 (fun q hq => by have := ne q (.inr hq); simp [this])]
theorem filter_midS {l1 l2 : List (ByteArray × Nat)} {x : ByteArray} {m0 : Nat} (hn : ((l1 ++ (x, m0) :: l2).map (·.1)).Nodup) : (l1 ++ (x, m0) :: l2).filter (fun p => decide (p.1 ≠ x)) = l1 ++ l2 := by
  have ne : ∀ p, p ∈ l1 ∨ p ∈ l2 → p.1 ≠ x := fun p hp => mid_ne (x := (x, m0)) hn hp
  rw [List.filter_append, List.filter_cons_of_neg (by simp), List.filter_eq_self.2 (fun q hq => by have := ne q (.inl hq); simp [this]), List.filter_eq_self.2 (fun q hq => by have := ne q (.inr hq); simp [this])]
theorem hs_put {hs : List (Int × Nat)} (M : MapAt (.int .i64) w m (hs.map hskv)) (x : Int) (k : Nat) :
    ∃ w', (Instr.mapUpdate 68 (.map (some m)) (.int .i64 x) (.int .i64 (k : Int))).run Tryz.prog w = .ok () w' ∧ MapAt (.int .i64) w' m ((hsPut hs x k).map hskv) ∧ Only m w w' := by
  rcases hs_cases hs x with h | ⟨p, hp, rfl⟩
  · obtain ⟨w', h1, h2, h3⟩ := M.putNew Tryz.underlying68 Tryz.underlying3 (show IsKey (.int .i64) (.int .i64 x) from rfl) (fun y hy e => by obtain ⟨p, hp, rfl⟩ := List.mem_map.1 hy; exact h p hp (by simpa [hskv] using e)) (.int .i64 (k : Int))
    refine ⟨w', h1, ?_, h3⟩
    rw [hsPut_new h, List.map_append]; exact h2
  · have hn := hs_nodup M
    obtain ⟨l1, l2, hl⟩ := List.append_of_mem hp
    rw [hl] at M hn ⊢
    rw [List.map_append, List.map_cons] at M
    obtain ⟨w', h1, h2, h3⟩ := MapAt.put (k := .int .i64 p.1) (v0 := .int .i64 (p.2 : Int)) M Tryz.underlying68 Tryz.underlying3 (.int .i64 (k : Int))
    refine ⟨w', h1, ?_, h3⟩
    rw [hsPut_old hn, List.map_append, List.map_cons]; exact h2
theorem hs_del {hs : List (Int × Nat)} (M : MapAt (.int .i64) w m (hs.map hskv)) (x : Int) :
    ∃ w', (∀ ty, (Builtin.delete_ #[68, 3] ty #[.map (some m), .int .i64 x]).run Tryz.prog w = .ok (.tuple #[]) w') ∧ MapAt (.int .i64) w' m ((hs.filter (fun p => decide (p.1 ≠ x))).map hskv) ∧ Only m w w' := by
  rcases hs_cases hs x with h | ⟨p, hp, rfl⟩
  · have key : ∀ ty, _ := fun ty => M.delNo Tryz.underlying68 Tryz.underlying3 (show IsKey (.int .i64) (.int .i64 x) from rfl) (fun y hy e => by obtain ⟨p, hp, rfl⟩ := List.mem_map.1 hy; exact h p hp (by simpa [hskv] using e)) ty
    obtain ⟨w', h1, h2, h3⟩ := key 0
    refine ⟨w', fun ty => h1, ?_, h3⟩
    rw [List.filter_eq_self.2 (fun p hp => by have := h p hp; simp [this])]; exact h2
  · have hn := hs_nodup M
    obtain ⟨l1, l2, hl⟩ := List.append_of_mem hp
    rw [hl] at M hn ⊢
    rw [List.map_append, List.map_cons] at M
    obtain ⟨w', h1, h2, h3⟩ := MapAt.del (k := .int .i64 p.1) (v0 := .int .i64 (p.2 : Int)) M Tryz.underlying68 Tryz.underlying3 0
    refine ⟨w', fun ty => h1, ?_, h3⟩
    rw [filter_mid hn, List.map_append]; exact h2
theorem ns_del {ns : List (ByteArray × Nat)} (M : MapAt .string w m (ns.map nskv)) (x : ByteArray) :
    ∃ w', (∀ ty, (Builtin.delete_ #[50, 9] ty #[.map (some m), .string x]).run Tryz.prog w = .ok (.tuple #[]) w') ∧ MapAt .string w' m ((ns.filter (fun p => decide (p.1 ≠ x))).map nskv) ∧ Only m w w' := by
  by_cases hc : ∃ p ∈ ns, p.1 = x
  · obtain ⟨p, hp, rfl⟩ := hc
    have hn := ns_nodup M
    obtain ⟨l1, l2, hl⟩ := List.append_of_mem hp
    rw [hl] at M hn ⊢
    rw [List.map_append, List.map_cons] at M
    obtain ⟨w', h1, h2, h3⟩ := MapAt.del (k := .string p.1) (v0 := ptr9 p.2) M Tryz.underlying50 Tryz.underlying9 0
    refine ⟨w', fun ty => h1, ?_, h3⟩
    rw [filter_midS hn, List.map_append]; exact h2
  · have h : ∀ p ∈ ns, p.1 ≠ x := fun p hp e => hc ⟨p, hp, e⟩
    obtain ⟨w', h1, h2, h3⟩ := M.delNo Tryz.underlying50 Tryz.underlying9 (show IsKey .string (.string x) from trivial) (fun y hy e => by obtain ⟨p, hp, rfl⟩ := List.mem_map.1 hy; exact h p hp (by simpa [nskv] using e)) 0
    refine ⟨w', fun ty => h1, ?_, h3⟩
    rw [List.filter_eq_self.2 (fun p hp => by have := h p hp; simp [this])]; exact h2
/-- the name's entry is laid among what an owner holds -/
theorem ns_put {ns : List (ByteArray × Nat)} (M : MapAt .string w m (ns.map nskv)) (x : ByteArray) (b : Nat) (hx : (x, b) ∈ ns ∨ ∀ p ∈ ns, p.1 ≠ x) :
    ∃ w' ns', (Instr.mapUpdate 50 (.map (some m)) (.string x) (ptr9 b)).run Tryz.prog w = .ok () w' ∧ MapAt .string w' m (ns'.map nskv) ∧ Only m w w' ∧ (((x, b) ∈ ns ∧ ns' = ns) ∨ ((∀ p ∈ ns, p.1 ≠ x) ∧ ns' = ns ++ [(x, b)])) := by
  rcases hx with hp | h
  · obtain ⟨l1, l2, hl⟩ := List.append_of_mem hp
    have M' := M
    rw [hl, List.map_append, List.map_cons] at M
    obtain ⟨w', h1, h2, h3⟩ := MapAt.put (k := .string x) (v0 := ptr9 b) M Tryz.underlying50 Tryz.underlying9 (ptr9 b)
    refine ⟨w', ns, h1, ?_, h3, .inl ⟨hp, rfl⟩⟩
    rw [hl, List.map_append, List.map_cons]; exact h2
  · obtain ⟨w', h1, h2, h3⟩ := M.putNew Tryz.underlying50 Tryz.underlying9 (show IsKey .string (.string x) from trivial) (fun y hy e => by obtain ⟨p, hp, rfl⟩ := List.mem_map.1 hy; exact h p hp (by simpa [nskv] using e)) (ptr9 b)
    refine ⟨w', _, h1, ?_, h3, .inr ⟨h, rfl⟩⟩
    rw [List.map_append]; exact h2
end
theorem own_cases (HL : List Ho) (x : Int) : (∀ h ∈ HL, h.owner ≠ x) ∨ ∃ h ∈ HL, h.owner = x := by
  by_cases h : ∃ h ∈ HL, h.owner = x
  · exact .inr h
  · exact .inl (fun p hp e => h ⟨p, hp, e⟩)
theorem own_names {H : Hs} (hn : H.Pairwise (fun a b => ¬ (a.owner = b.owner ∧ a.name = b.name))) (o : Int) : ((ownL H o).map (·.name)).Nodup := by
  have h1 : (ownL H o).Pairwise (fun a b => ¬ (a.owner = b.owner ∧ a.name = b.name)) := List.Pairwise.filter _ hn
  refine List.pairwise_map.2 (List.Pairwise.imp_of_mem (fun ha hb hab e => hab ⟨?_, e⟩) h1)
  rw [(mem_ownL.1 ha).2, (mem_ownL.1 hb).2]
theorem own_perm {H : Hs} (hn : H.Pairwise (fun a b => ¬ (a.owner = b.owner ∧ a.name = b.name))) {y x : Has9} (hy : y ∈ H) (h1 : y.owner = x.owner) (h2 : y.name = x.name) : ((ownL H x.owner).map (·.name)).Perm ((ownL (holdP H x) x.owner).map (·.name)) := by
  have nd := own_names hn x.owner
  have hm : y ∈ ownL H x.owner := mem_ownL.2 ⟨hy, h1⟩
  rw [ownL_hold]
  obtain ⟨l1, l2, hl⟩ := List.append_of_mem hm
  rw [hl] at nd ⊢
  have ne : ∀ q, q ∈ l1 ∨ q ∈ l2 → q.name ≠ y.name := fun q hq => mid_ne (x := y) nd hq
  rw [List.filter_append, List.filter_cons_of_neg (by simp [h2]), List.filter_eq_self.2 (fun q hq => by have := ne q (.inl hq); rw [h2] at this; simp [this]), List.filter_eq_self.2 (fun q hq => by have := ne q (.inr hq); rw [h2] at this; simp [this])]
  simp only [List.map_append, List.map_cons, List.append_assoc, List.map_nil]
  rw [h2]
  exact (List.perm_append_left_iff _).2 (List.perm_append_comm (l₁ := [_]))
section
variable {w w' : World} {o : Nat → Nat} {j g m1 m2 m3 : Nat} {N N1 N2 : List En} {HL : List Ho} {WL H W : Hs} {n0 : ByteArray} {pre : List Int} {e : En}
theorem Abs.held_own {HL1 HL2 : List Ho} {h : Ho} (A : Abs (N1 ++ e :: N2) (HL1 ++ h :: HL2) WL H W n0 pre) (nd : ((N1 ++ e :: N2).map (·.name)).Nodup) (hn : (e.hs.map (·.1)).Nodup) (od : ((HL1 ++ h :: HL2).map (·.owner)).Nodup) (m : Nat) (hm : 0 < m ∧ m < 7) (hx : 0 ≤ h.owner ∧ h.owner ≤ 9223372036854775807) (hs : e.name.size ≤ 300) {ns' : List (ByteArray × Nat)}
    (hns : ((e.name, e.b) ∈ h.ns ∧ ns' = h.ns) ∨ ((∀ p ∈ h.ns, p.1 ≠ e.name) ∧ ns' = h.ns ++ [(e.name, e.b)])) :
    Abs (N1 ++ { e with hs := hsPut e.hs h.owner m } :: N2) (HL1 ++ { h with ns := ns' } :: HL2) WL (holdP H ⟨h.owner, m, e.name⟩) W n0 pre := by
  have he : e ∈ N1 ++ e :: N2 := by simp
  have hh : h ∈ HL1 ++ h :: HL2 := by simp
  refine A.holders nd (fun n hne => nameL_hold_ne hne) (hsPut_perm A he hn h.owner m) (fun y hy => ?_) (fun y hy => ?_) (fun y hy p hp => ?_) (A.ok.hold ⟨hm.1, hm.2, hx.1, hx.2, hs⟩) (fun y hy => ?_)
  · rcases mem_mid hy with rfl | hy
    · show (ns'.map (·.1)).Perm ((ownL (holdP H ⟨h.owner, m, e.name⟩) h.owner).map (·.name))
      rcases hns with ⟨h1, rfl⟩ | ⟨h1, rfl⟩
      · obtain ⟨y, hy, e1⟩ : ∃ y ∈ ownL H h.owner, y.name = e.name := List.mem_map.1 ((A.om h hh).mem_iff.1 (List.mem_map.2 ⟨(e.name, e.b), h1, rfl⟩))
        exact (A.om h hh).trans (own_perm A.ok.hn (x := ⟨h.owner, m, e.name⟩) (mem_ownL.1 hy).1 (mem_ownL.1 hy).2 e1)
      · rw [ownL_hold H ⟨h.owner, m, e.name⟩]
        have hno : ∀ q ∈ ownL H h.owner, q.name ≠ e.name := fun q hq e1 => by
          obtain ⟨p, hp, h2⟩ := List.mem_map.1 ((A.om h hh).mem_iff.2 (List.mem_map.2 ⟨q, hq, e1⟩))
          exact h1 p hp h2
        rw [List.filter_eq_self.2 (fun q hq => by have := hno q hq; simp [this]), List.map_append, List.map_append]
        exact (A.om h hh).append_right _
    · show (y.ns.map (·.1)).Perm _
      rw [ownL_hold_ne (x := ⟨h.owner, m, e.name⟩) (o' := y.owner) (mid_ne (f := Ho.owner) od hy)]
      exact A.om y (mid_old hy)
  · have old : ∀ o', (∃ h' ∈ HL1 ++ h :: HL2, h'.owner = o') → ∃ h' ∈ HL1 ++ { h with ns := ns' } :: HL2, h'.owner = o' := fun o' ⟨h', a, b⟩ => by
      rcases mem_mid a with rfl | a
      · exact ⟨_, List.mem_append_right _ (List.mem_cons_self ..), b⟩
      · exact ⟨h', mid_old a, b⟩
    rcases mem_holdP.1 hy with hy | rfl
    · exact old _ (A.ox y hy.1)
    · exact old _ ⟨h, hh, rfl⟩
  · rcases mem_mid hy with rfl | hy
    · have hp' : p ∈ ns' := hp
      rcases hns with ⟨h1, rfl⟩ | ⟨h1, rfl⟩
      · exact A.ob h hh p hp'
      · rcases List.mem_append.1 hp' with hp' | hp'
        · exact A.ob h hh p hp'
        · obtain rfl := List.mem_singleton.1 hp'; exact ⟨e, he, rfl, rfl⟩
    · exact A.ob y (mid_old hy) p hp
  · rcases mem_holdP.1 hy with hy | rfl
    · exact A.hx y hy.1
    · exact ⟨e, he, rfl⟩
theorem Abs.add_own (A : Abs N HL WL H W n0 pre) (x : Int) (b : Nat) (hno : ∀ h ∈ HL, h.owner ≠ x) : Abs N (HL ++ [(⟨x, b, []⟩ : Ho)]) WL H W n0 pre := by
  refine ⟨A.hm, A.hx, A.qn, A.qx, A.wm, fun h hh => ?_, fun y hy => ?_, fun h hh p hp => ?_, A.ok⟩
  · rcases List.mem_append.1 hh with hh | hh
    · exact A.om h hh
    · obtain rfl := List.mem_singleton.1 hh
      have : ownL H x = [] := List.eq_nil_iff_forall_not_mem.2 (fun y hy => by
        obtain ⟨h1, h2⟩ := mem_ownL.1 hy
        obtain ⟨h, hh, e⟩ := A.ox y h1
        exact hno h hh (by rw [e, h2]))
      show ([] : List ByteArray).Perm ((ownL H x).map (·.name))
      rw [this]; exact List.Perm.refl _
  · obtain ⟨h, hh, e⟩ := A.ox y hy
    exact ⟨h, List.mem_append_left _ hh, e⟩
  · rcases List.mem_append.1 hh with hh | hh
    · exact A.ob h hh p hp
    · obtain rfl := List.mem_singleton.1 hh; cases hp
set_option maxRecDepth 100000 in
set_option maxHeartbeats 2000000 in
theorem c_hold (T : IsT w o j g m1 m2 m3 (N1 ++ e :: N2) HL WL) (A : Abs (N1 ++ e :: N2) HL WL H W n0 pre) (x : Int) (m : Nat) (hm : 0 < m ∧ m < 7) (hx : 0 ≤ x ∧ x ≤ 9223372036854775807) (hs : e.name.size ≤ 300) :
    Calls Tryz.prog 49 #[ptr9 g, ptr9 e.b, .int .i64 x, .int .i64 (m : Int)] w fun r w' => r = .returned (.tuple #[]) ∧ ∃ HL' o', IsT w' o' j g m1 m2 m3 (N1 ++ { e with hs := hsPut e.hs x m } :: N2) HL' WL ∧ Abs (N1 ++ { e with hs := hsPut e.hs x m } :: N2) HL' WL (holdP H ⟨x, m, e.name⟩) W n0 pre ∧ Stp o j w o' w' := by
  have he : e ∈ N1 ++ e :: N2 := by simp
  obtain ⟨w1, hr1, M1, O1⟩ := hs_put (T.eh e he) x m
  have T1 := T.setHolders _ O1 M1
  have S1 := O1.stp (T.oe e he).2
  have nd := T.nnd
  have od := T.ond
  have hn := hs_nodup (T.eh e he)
  have b1 : w.cell? ⟨e.b, 1, none⟩ = some (.map (some e.hb)) := (T.eb e he).cell 1
  have he1 : ({ e with hs := hsPut e.hs x m } : En) ∈ N1 ++ { e with hs := hsPut e.hs x m } :: N2 := by simp
  have g1 : w1.cell? ⟨g, 1, none⟩ = some (.map (some m2)) := T1.hp.cell 1
  have qT : ∀ (w : World) (r : Option Nat), (binOp .eql 50 (.map r) (.map none)).run Tryz.prog w = .ok (.bool r.isNone) w := fun w r => run_eql_map_nil w _ _ _ r Tryz.underlying50
  rcases own_cases HL x with hno | ⟨h, hh, rfl⟩
  · have lk : (Instr.lookup 51 (.map (some m2)) (.int .i64 x) false).run Tryz.prog w1 = .ok (.map none) w1 :=
      T1.hh.lookNo Tryz.underlying51 Tryz.underlying3 (show IsKey (.int .i64) (.int .i64 x) from rfl) (fun y hy e => by obtain ⟨p, hp, rfl⟩ := List.mem_map.1 hy; exact hno p hp (by simpa [hkv] using e)) (Tryz.zeroValue50 w1) false
    have T1g := T1.gives w1.heap.size
    have ba : Below w1.heap.size w1 (w1.alloc (.map #[] 0)) := (Below.refl _ w1).alloc (Nat.le_refl _) _
    have Ta := T1g.reads ba
    obtain ⟨w2, hr2, M2, O2⟩ := Ta.hh.putNew Tryz.underlying51 Tryz.underlying3 (show IsKey (.int .i64) (.int .i64 x) from rfl) (fun y hy e => by obtain ⟨p, hp, rfl⟩ := List.mem_map.1 hy; exact hno p hp (by simpa [hkv] using e)) (.map (some w1.heap.size))
    have T2 := T1g.addOwn x w1.heap.size ba (Nat.le_refl _) (gives_new (Nat.le_refl _)) (mapAt_new .string w1) O2 (by rw [List.map_append]; exact M2)
    have A1 := A.add_own x w1.heap.size hno
    have hno2 : ∀ p ∈ e.hs, p.1 ≠ x := fun p hp e1 => by
      obtain ⟨h, hh, e2⟩ := A.ox _ ((A.mem he p.1 p.2).1 hp)
      exact hno h hh (by rw [e2]; exact e1)
    have hh2 : (⟨x, w1.heap.size, []⟩ : Ho) ∈ HL ++ [(⟨x, w1.heap.size, []⟩ : Ho)] := by simp
    have lk2 : (Instr.lookup 51 (.map (some m2)) (.int .i64 x) false).run Tryz.prog w2.drew = .ok (.map (some w1.heap.size)) w2.drew :=
      T2.drew.hh.look Tryz.underlying51 Tryz.underlying3 (List.mem_map.2 ⟨_, hh2, rfl⟩) false
    have g2 : w2.drew.cell? ⟨g, 1, none⟩ = some (.map (some m2)) := T2.hp.cell 1
    have b2 : w2.drew.cell? ⟨e.b, 0, none⟩ = some (.string e.name) := (T2.eb _ he1).cell 0
    obtain ⟨w3, ns', hr3, M3, O3, hc3⟩ := ns_put (T2.drew.ho _ hh2) e.name e.b (.inr (fun p hp => by cases hp))
    have T3 := T2.drew.setOwn (HL2 := []) ns' O3 M3
    have A3 := A1.held_own (HL2 := []) (h := ⟨x, w1.heap.size, []⟩) nd hn (by have := T2.ond; exact this) m hm hx hs hc3
    have S3 := (((S1.gives w1.heap.size (by have := S1.size; exact this)).trans (Stp.ofBelow ba _ j)).trans (O2.stp T2.og.2.2.1)).trans ((Stp.drew _ j w2).trans (O3.stp (T2.oh _ hh2)))
    have HF := Lib.hid (show _ ∧ _ ∧ _ from ⟨T3, A3, S3⟩)
    have mk : (Instr.makeMap 50 none).run Tryz.prog w1 = .ok (.map (some w1.heap.size)) (w1.alloc (.map #[] 0)) := RowKit.run_makeMap _ w1
    clear T3 A3 S3 hc3 M3 O3 T2 M2 O2 A1 hno2 hh2 Ta T1g T1 S1 M1 O1 T A nd od hn hm hx hs he he1 hno ba
    unfold ptr9 at *
    generalize e.b = eb at *
    generalize e.hb = ehb at *
    generalize e.name = enm at *
    go_enter Tryz.func49, Tryz.ntmps49
    go_upto_region 3 with fail
    go_still_tail 11, (by kernel_rfl)
    change wpList _ _ _ _ _ w2.drew
    go_wp2_with fail
    go_end0
    exact ⟨rfl, _, _, HF.out.1, HF.out.2.1, HF.out.2.2⟩
  · obtain ⟨HL1, HL2, rfl⟩ := List.append_of_mem hh
    have lk : (Instr.lookup 51 (.map (some m2)) (.int .i64 h.owner) false).run Tryz.prog w1 = .ok (.map (some h.b)) w1 :=
      T1.hh.look Tryz.underlying51 Tryz.underlying3 (List.mem_map.2 ⟨h, hh, rfl⟩) false
    have lk2 : (Instr.lookup 51 (.map (some m2)) (.int .i64 h.owner) false).run Tryz.prog w1.drew = .ok (.map (some h.b)) w1.drew :=
      T1.drew.hh.look Tryz.underlying51 Tryz.underlying3 (List.mem_map.2 ⟨h, hh, rfl⟩) false
    have g2 : w1.drew.cell? ⟨g, 1, none⟩ = some (.map (some m2)) := g1
    have b2 : w1.drew.cell? ⟨e.b, 0, none⟩ = some (.string e.name) := (T1.eb _ he1).cell 0
    have hx3 : (e.name, e.b) ∈ h.ns ∨ ∀ p ∈ h.ns, p.1 ≠ e.name := by
      rcases hs_cases e.hs h.owner with h1 | ⟨p, hp, h1⟩
      · exact .inr (A.own_not he hh h1)
      · exact .inl (A.own_has nd he hh (m := p.2) (by rw [← h1]; exact hp))
    obtain ⟨w2, ns', hr2, M2, O2, hc2⟩ := ns_put (T1.drew.ho h hh) e.name e.b hx3
    have T2 := T1.drew.setOwn ns' O2 M2
    have A2 := A.held_own nd hn od m hm hx hs hc2
    have S2 := (S1.trans (Stp.drew o j w1)).trans (O2.stp (T1.oh h hh))
    have HF := Lib.hid (show _ ∧ _ ∧ _ from ⟨T2, A2, S2⟩)
    clear T2 A2 S2 hc2 M2 O2 hx3 T1 S1 M1 O1 T A nd od hn hm hx hs he he1 hh
    unfold ptr9 at *
    generalize e.b = eb at *
    generalize e.hb = ehb at *
    generalize e.name = enm at *
    generalize h.b = hbb at *
    generalize h.owner = ho at *
    go_enter Tryz.func49, Tryz.ntmps49
    go_upto_region 3 with fail
    go_still_tail 11, (by kernel_rfl)
    change wpList _ _ _ _ _ w1.drew
    go_wp2_with fail
    go_end0
    exact ⟨rfl, _, _, HF.out.1, HF.out.2.1, HF.out.2.2⟩
/-- a name is let go of: what an owner holds -/
theorem Abs.rel_own {HL1 HL2 : List Ho} {h : Ho} (A : Abs (N1 ++ e :: N2) (HL1 ++ h :: HL2) WL H W n0 pre) (nd : ((N1 ++ e :: N2).map (·.name)).Nodup) (_hn : (e.hs.map (·.1)).Nodup) (od : ((HL1 ++ h :: HL2).map (·.owner)).Nodup) :
    Abs (N1 ++ { e with hs := e.hs.filter (fun p => decide (p.1 ≠ h.owner)) } :: N2) (HL1 ++ { h with ns := h.ns.filter (fun p => decide (p.1 ≠ e.name)) } :: HL2) WL (woN H h.owner e.name) W n0 pre := by
  have he : e ∈ N1 ++ e :: N2 := by simp
  have hh : h ∈ HL1 ++ h :: HL2 := by simp
  refine A.holders nd (fun n hne => nameL_woN_ne hne) ?_ (fun y hy => ?_) (fun y hy => ?_) (fun y hy p hp => ?_) (A.ok.woN _ _) (fun y hy => A.hx y (mem_woN.1 hy).1)
  · rw [nameL_woN]
    have := (A.hm e he).filter (fun y => decide (y.owner ≠ h.owner))
    rw [List.filter_map] at this
    exact this
  · rcases mem_mid hy with rfl | hy
    · show ((h.ns.filter (fun p => decide (p.1 ≠ e.name))).map (·.1)).Perm ((ownL (woN H h.owner e.name) h.owner).map (·.name))
      rw [ownL_woN]
      have h1 := (A.om h hh).filter (fun n => decide (n ≠ e.name))
      rw [List.filter_map, List.filter_map] at h1
      exact h1
    · show (y.ns.map (·.1)).Perm _
      rw [ownL_woN_ne (mid_ne (f := Ho.owner) od hy)]
      exact A.om y (mid_old hy)
  · obtain ⟨h', a, b⟩ := A.ox y (mem_woN.1 hy).1
    rcases mem_mid a with rfl | a
    · exact ⟨_, List.mem_append_right _ (List.mem_cons_self ..), b⟩
    · exact ⟨h', mid_old a, b⟩
  · rcases mem_mid hy with rfl | hy
    · exact A.ob h hh p (List.mem_filter.1 hp).1
    · exact A.ob y (mid_old hy) p hp
/-- .. by who holds nothing -/
theorem Abs.rel_none (A : Abs (N1 ++ e :: N2) HL WL H W n0 pre) (_nd : ((N1 ++ e :: N2).map (·.name)).Nodup) (x : Int) (hno : ∀ h ∈ HL, h.owner ≠ x) :
    Abs (N1 ++ { e with hs := e.hs.filter (fun p => decide (p.1 ≠ x)) } :: N2) HL WL (woN H x e.name) W n0 pre := by
  have he : e ∈ N1 ++ e :: N2 := by simp
  have hH : woN H x e.name = H := List.filter_eq_self.2 (fun y hy => by
    obtain ⟨h, hh, e1⟩ := A.ox y hy
    have : y.owner ≠ x := by rw [← e1]; exact hno h hh
    simp [this])
  have hhs : e.hs.filter (fun p => decide (p.1 ≠ x)) = e.hs := List.filter_eq_self.2 (fun p hp => by
    obtain ⟨h, hh, e1⟩ := A.ox _ ((A.mem he p.1 p.2).1 hp)
    have : p.1 ≠ x := by have := hno h hh; rw [e1] at this; exact this
    simp [this])
  rw [hH, hhs]; exact A
theorem Abs.cut_own {HL1 HL2 : List Ho} {h : Ho} (A : Abs N (HL1 ++ h :: HL2) WL H W n0 pre) (he : h.ns = []) : Abs N (HL1 ++ HL2) WL H W n0 pre := by
  have hh : h ∈ HL1 ++ h :: HL2 := by simp
  refine ⟨A.hm, A.hx, A.qn, A.qx, A.wm, fun y hy => A.om y (mid_old (List.mem_append.1 hy)), fun y hy => ?_, fun y hy => A.ob y (mid_old (List.mem_append.1 hy)), A.ok⟩
  obtain ⟨h', a, b⟩ := A.ox y hy
  rcases mem_mid a with rfl | a
  · have := A.om h' hh
    rw [he] at this
    have h2 : y.name ∈ (ownL H h'.owner).map (·.name) := List.mem_map.2 ⟨y, mem_ownL.2 ⟨hy, b.symm⟩, rfl⟩
    rw [List.map_nil] at this
    rw [← this.mem_iff] at h2
    cases h2
  · exact ⟨h', List.mem_append.2 a, b⟩
theorem len_nil9 {t kt et : TypeId} (ht : Tryz.prog.underlying t = some (.map kt et)) (ty : TypeId) (w : World) : (Builtin.len_ #[t] ty #[.map none]).run Tryz.prog w = .ok (.int .i64 0) w := by
  simp [Builtin.len_, run_underlying ht, goInt, Result.andThen]
set_option maxRecDepth 100000 in
set_option maxHeartbeats 2000000 in
theorem c_release (T : IsT w o j g m1 m2 m3 (N1 ++ e :: N2) HL WL) (A : Abs (N1 ++ e :: N2) HL WL H W n0 pre) (x : Int) :
    Calls Tryz.prog 59 #[ptr9 g, ptr9 e.b, .int .i64 x] w fun r w' => r = .returned (.tuple #[]) ∧ ∃ HL' , IsT w' o j g m1 m2 m3 (N1 ++ { e with hs := e.hs.filter (fun p => decide (p.1 ≠ x)) } :: N2) HL' WL ∧ Abs (N1 ++ { e with hs := e.hs.filter (fun p => decide (p.1 ≠ x)) } :: N2) HL' WL (woN H x e.name) W n0 pre ∧ Stp o j w o w' := by
  have he : e ∈ N1 ++ e :: N2 := by simp
  obtain ⟨w1, hr1', M1, O1⟩ := hs_del (T.eh e he) x
  have hr1 := hr1' 0
  have T1 := T.setHolders _ O1 M1
  have S1 := O1.stp (T.oe e he).2
  have nd := T.nnd
  have od := T.ond
  have hn := hs_nodup (T.eh e he)
  have b1 : w.cell? ⟨e.b, 1, none⟩ = some (.map (some e.hb)) := (T.eb e he).cell 1
  have he1 : ({ e with hs := e.hs.filter (fun p => decide (p.1 ≠ x)) } : En) ∈ N1 ++ { e with hs := e.hs.filter (fun p => decide (p.1 ≠ x)) } :: N2 := by simp
  have g1 : w1.drew.cell? ⟨g, 1, none⟩ = some (.map (some m2)) := T1.hp.cell 1
  have b2 : w1.drew.cell? ⟨e.b, 0, none⟩ = some (.string e.name) := (T1.eb _ he1).cell 0
  rcases own_cases HL x with hno | ⟨h, hh, rfl⟩
  · have lk : (Instr.lookup 51 (.map (some m2)) (.int .i64 x) false).run Tryz.prog w1.drew = .ok (.map none) w1.drew :=
      T1.drew.hh.lookNo Tryz.underlying51 Tryz.underlying3 (show IsKey (.int .i64) (.int .i64 x) from rfl) (fun y hy e => by obtain ⟨p, hp, rfl⟩ := List.mem_map.1 hy; exact hno p hp (by simpa [hkv] using e)) (Tryz.zeroValue50 w1.drew) false
    have d2 := delete_nil9 (P := Tryz.prog) (w := w1.drew) Tryz.underlying50 Tryz.underlying9 (show IsKey .string (.string e.name) from trivial) 0
    have l2 := len_nil9 Tryz.underlying50 3 w1.drew
    obtain ⟨w2, hr2, M2, O2⟩ := T1.drew.hh.delNo Tryz.underlying51 Tryz.underlying3 (show IsKey (.int .i64) (.int .i64 x) from rfl) (fun y hy e => by obtain ⟨p, hp, rfl⟩ := List.mem_map.1 hy; exact hno p hp (by simpa [hkv] using e)) 0
    have T2 : IsT w2 o j g m1 m2 m3 (N1 ++ { e with hs := e.hs.filter (fun p => decide (p.1 ≠ x)) } :: N2) HL WL := by
      have := (T1.drew.setHeld O2 M2)
      exact this
    have A2 := A.rel_none nd x hno
    have S2 := (S1.trans (Stp.drew o j w1)).trans (O2.stp T1.og.2.2.1)
    have HF := Lib.hid (show _ ∧ _ ∧ _ from ⟨T2, A2, S2⟩)
    clear T2 A2 S2 M2 O2 T1 S1 M1 O1 T A nd od hn he he1 hno
    unfold ptr9 at *
    generalize e.b = eb at *
    generalize e.hb = ehb at *
    generalize e.name = enm at *
    go_enter Tryz.func59, Tryz.ntmps59
    go_upto_region 1 with fail
    go_still_tail 10, (by kernel_rfl)
    change wpList _ _ _ _ _ w1.drew
    go_wp2_with fail
    go_end0
    exact ⟨rfl, _, HF.out.1, HF.out.2.1, HF.out.2.2⟩
  · obtain ⟨HL1, HL2, rfl⟩ := List.append_of_mem hh
    have lk : (Instr.lookup 51 (.map (some m2)) (.int .i64 h.owner) false).run Tryz.prog w1.drew = .ok (.map (some h.b)) w1.drew :=
      T1.drew.hh.look Tryz.underlying51 Tryz.underlying3 (List.mem_map.2 ⟨h, hh, rfl⟩) false
    obtain ⟨w2, hr2', M2, O2⟩ := ns_del (T1.drew.ho h hh) e.name
    have hr2 := hr2' 0
    have T2 := T1.drew.setOwn _ O2 M2
    have A2 := A.rel_own nd hn od
    have S2 := (S1.trans (Stp.drew o j w1)).trans (O2.stp (T1.oh h hh))
    have hh2 : ({ h with ns := h.ns.filter (fun p => decide (p.1 ≠ e.name)) } : Ho) ∈ HL1 ++ { h with ns := h.ns.filter (fun p => decide (p.1 ≠ e.name)) } :: HL2 := by simp
    have g2 : w2.cell? ⟨g, 1, none⟩ = some (.map (some m2)) := T2.hp.cell 1
    have lk2 : (Instr.lookup 51 (.map (some m2)) (.int .i64 h.owner) false).run Tryz.prog w2 = .ok (.map (some h.b)) w2 :=
      T2.hh.look Tryz.underlying51 Tryz.underlying3 (List.mem_map.2 ⟨_, hh2, rfl⟩) false
    have l2 := (T2.ho _ hh2).len (P := Tryz.prog) Tryz.underlying50 3
    rw [List.length_map] at l2
    by_cases hz : (h.ns.filter (fun p => decide (p.1 ≠ e.name))) = []
    · have hz2 : ((h.ns.filter (fun p => decide (p.1 ≠ e.name))).length : Int) = 0 := by rw [hz]; rfl
      have T2m := T2.hh
      rw [List.map_append, List.map_cons] at T2m
      obtain ⟨w3, hr3, M3, O3⟩ := MapAt.del (k := .int .i64 h.owner) (v0 := .map (some h.b)) T2m Tryz.underlying51 Tryz.underlying3 0
      have T3 := T2.cutOwn O3 (by rw [List.map_append]; exact M3)
      have A3 := A2.cut_own hz
      have S3 := S2.trans (O3.stp T2.og.2.2.1)
      rw [hz2] at l2
      have HF := Lib.hid (show _ ∧ _ ∧ _ from ⟨T3, A3, S3⟩)
      clear T3 A3 S3 M3 O3 hz hz2 T2m T2 A2 S2 M2 O2 T1 S1 M1 O1 T A nd od hn he he1 hh hh2
      unfold ptr9 at *
      generalize e.b = eb at *
      generalize e.hb = ehb at *
      generalize e.name = enm at *
      generalize h.b = hbb at *
      generalize h.owner = ho at *
      go_enter Tryz.func59, Tryz.ntmps59
      go_upto_region 1 with fail
      go_still_tail 10, (by kernel_rfl)
      change wpList _ _ _ _ _ w1.drew
      go_wp2_with fail
      go_end0
      exact ⟨rfl, _, HF.out.1, HF.out.2.1, HF.out.2.2⟩
    · have hz2 : (((h.ns.filter (fun p => decide (p.1 ≠ e.name))).length : Int) == 0) = false := by
        rw [beq_eq_false_iff_ne]; intro e1
        exact hz (List.eq_nil_of_length_eq_zero (by omega))
      have HF := Lib.hid (show _ ∧ _ ∧ _ from ⟨T2, A2, S2⟩)
      clear hz T2 A2 S2 M2 O2 T1 S1 M1 O1 T A nd od hn he he1 hh hh2
      generalize ((h.ns.filter (fun p => decide (p.1 ≠ e.name))).length : Int) = ll at *
      unfold ptr9 at *
      generalize e.b = eb at *
      generalize e.hb = ehb at *
      generalize e.name = enm at *
      generalize h.b = hbb at *
      generalize h.owner = ho at *
      go_enter Tryz.func59, Tryz.ntmps59
      go_upto_region 1 with fail
      go_still_tail 10, (by kernel_rfl)
      change wpList _ _ _ _ _ w1.drew
      go_wp2_with fail
      go_end0
      exact ⟨rfl, _, HF.out.1, HF.out.2.1, HF.out.2.2⟩
end
end Go.Proofs.YtainnhcmhgloaaaGreatDoor
