/-
  Package lock: the contracts of entryOf and wait.
-/
import Derived.Test.YtainnhcmhgloaaaGreatDoorW09e
namespace Go.Proofs.YtainnhcmhgloaaaGreatDoor
open Go.RowKit Go.Shelf Go.MapKept Go.Maps Go.Sort

section
variable {w w' w0 W2 : World} {o o' o0 : Nat → Nat} {i j g m1 m2 m3 : Nat} {N N1 N2 : List En} {HL : List Ho} {WL H W H0 W0 : Hs} {n0 : ByteArray} {pre : List Int} {e : En}
theorem Abs.add_name (A : Abs N HL WL H W n0 []) (nm : ByteArray) (b hb : Nat) (hno : ∀ e ∈ N, e.name ≠ nm) : Abs (N ++ [(⟨nm, b, hb, [], .slice none 0 0, []⟩ : En)]) HL WL H W n0 [] := by
  have hH : nameL H nm = [] := List.eq_nil_iff_forall_not_mem.2 (fun x hx => by
    obtain ⟨h1, h2⟩ := mem_nameL.1 hx
    obtain ⟨e, he, h3⟩ := A.hx x h1
    exact hno e he (by rw [h3, h2]))
  have hW : nameL W nm = [] := List.eq_nil_iff_forall_not_mem.2 (fun x hx => by
    obtain ⟨h1, h2⟩ := mem_nameL.1 hx
    obtain ⟨e, he, h3⟩ := A.qx x h1
    exact hno e he (by rw [h3, h2]))
  refine ⟨fun y hy => ?_, fun x hx => ?_, fun y hy => ?_, fun x hx => ?_, A.wm, A.om, A.ox, fun h hh p hp => ?_, A.ok⟩
  · rcases List.mem_append.1 hy with hy | hy
    · exact A.hm y hy
    · obtain rfl := List.mem_singleton.1 hy
      show ([] : Hs).Perm (nameL H nm)
      rw [hH]
  · obtain ⟨e, he, h3⟩ := A.hx x hx; exact ⟨e, List.mem_append_left _ he, h3⟩
  · rcases List.mem_append.1 hy with hy | hy
    · exact A.qn y hy
    · obtain rfl := List.mem_singleton.1 hy
      have : (nameL W nm).map (·.owner) = [] := by rw [hW]; rfl
      simp [this]
  · obtain ⟨e, he, h3⟩ := A.qx x hx; exact ⟨e, List.mem_append_left _ he, h3⟩
  · obtain ⟨e, he, h3⟩ := A.ob h hh p hp; exact ⟨e, List.mem_append_left _ he, h3⟩
theorem IsT.lookName (T : IsT w o j g m1 m2 m3 N HL WL) (he : e ∈ N) (c : Bool) :
    (Instr.lookup 50 (.map (some m1)) (.string e.name) c).run Tryz.prog w = .ok (if c then .tuple #[ptr9 e.b, .bool true] else ptr9 e.b) w :=
  T.hn.look Tryz.underlying50 Tryz.underlying9 (List.mem_map.2 ⟨e, he, rfl⟩) c
theorem IsT.lookNoName (T : IsT w o j g m1 m2 m3 N HL WL) (nm : ByteArray) (hno : ∀ e ∈ N, e.name ≠ nm) (c : Bool) :
    (Instr.lookup 50 (.map (some m1)) (.string nm) c).run Tryz.prog w = .ok (if c then .tuple #[.pointer none, .bool false] else .pointer none) w :=
  T.hn.lookNo Tryz.underlying50 Tryz.underlying9 (show IsKey .string (.string nm) from trivial) (fun y hy e => by obtain ⟨p, hp, rfl⟩ := List.mem_map.1 hy; exact hno p hp (by simpa [nkv] using e)) (Tryz.zeroValue62 w) c
theorem name_cases (N : List En) (nm : ByteArray) : (∀ e ∈ N, e.name ≠ nm) ∨ ∃ e ∈ N, e.name = nm := by
  by_cases h : ∃ e ∈ N, e.name = nm
  · exact .inr h
  · exact .inl (fun p hp e => h ⟨p, hp, e⟩)
set_option maxRecDepth 100000 in
set_option maxHeartbeats 2000000 in
theorem c_entryOf (T : IsT w o j g m1 m2 m3 N HL WL) (A : Abs N HL WL H W n0 []) (nm : ByteArray) (hnm : nm.size ≤ 300) :
    Calls Tryz.prog 46 #[ptr9 g, .string nm] w fun r w' => ∃ b, r = .returned (ptr9 b) ∧ ∃ N1 e N2 o', e.b = b ∧ e.name = nm ∧ IsT w' o' j g m1 m2 m3 (N1 ++ e :: N2) HL WL ∧ Abs (N1 ++ e :: N2) HL WL H W n0 [] ∧ Stp o j w o' w' := by
  have g0 : w.cell? ⟨g, 0, none⟩ = some (.map (some m1)) := T.hp.cell 0
  rcases name_cases N nm with hno | ⟨e, he, rfl⟩
  · have lk := T.lookNoName nm hno true
    simp only [if_true] at lk
    have CC := Lib.hid (c_clone nm (by omega) w)
    have HT := Lib.hid T; have HA := Lib.hid (A.add_name nm) ; have HNO := Lib.hid hno
    clear T A hno hnm
    unfold ptr9 at *
    go_enter Tryz.func46, Tryz.ntmps46
    go_wp2_with fail
    refine CC.out.mono ?_; rintro z w1 ⟨rfl, b1⟩
    have mk : (Instr.makeMap 68 none).run Tryz.prog w1 = .ok (.map (some w1.heap.size)) (w1.alloc (.map #[] 0)) := RowKit.run_makeMap _ w1
    have HB := Lib.hid b1
    clear b1 CC lk g0
    go_upto_region 4 with fail
    have ba : Below w1.heap.size w1 (w1.alloc (.map #[] 0)) := (Below.refl _ w1).alloc (Nat.le_refl _) _
    have hA := At.new (w1.alloc (.map #[] 0)) #[.string nm, .map (some w1.heap.size), .slice none 0 0] 70
    have hsz : (w1.alloc (.map #[] 0)).heap.size = w1.heap.size + 1 := by simp
    have bb : Below w1.heap.size w1 ((w1.alloc (.map #[] 0)).alloc (.cells #[.string nm, .map (some w1.heap.size), .slice none 0 0] 70)) := ba.alloc (by rw [hsz]; omega) _
    have M0 : MapAt (.int .i64) ((w1.alloc (.map #[] 0)).alloc (.cells #[.string nm, .map (some w1.heap.size), .slice none 0 0] 70)) w1.heap.size [] :=
      (mapAt_new (.int .i64) w1).same ((MapKept.heap_alloc _ _).2 _ (by rw [hsz]; omega))
    rw [hsz] at hA
    have T1 := (HT.out.reads HB.out).gives w1.heap.size
    have Td := T1.reads (bb.drew)
    obtain ⟨w5, hr5, M5, O5⟩ := Td.hn.putNew Tryz.underlying50 Tryz.underlying9 (show IsKey .string (.string nm) from trivial) (fun y hy e => by obtain ⟨p, hp, rfl⟩ := List.mem_map.1 hy; exact HNO.out p hp (by simpa [nkv] using e)) (ptr9 (w1.heap.size + 1))
    have T5 := T1.addName nm (w1.heap.size + 1) w1.heap.size bb.drew (by omega) (Nat.le_refl _) (by omega) ⟨gives_new (by omega), gives_new (Nat.le_refl _)⟩ (hA.drew) (M0.same rfl) O5 (by rw [List.map_append]; exact M5)
    have A5 := HA.out (w1.heap.size + 1) w1.heap.size HNO.out
    have S5 := (((Stp.ofBelow HB.out o j).gives w1.heap.size HB.out.size).trans (Stp.ofBelow bb.drew _ j)).trans (O5.stp Td.og.2.1)
    have g0 := Td.hp.cell 0
    have b0 := hA.drew.cell 0
    have HF := Lib.hid (show _ ∧ _ ∧ _ from ⟨T5, A5, S5⟩)
    clear T5 A5 S5 M5 O5 Td T1 M0 bb hA ba HT HA HNO HB mk
    unfold ptr9 at *
    generalize (w1.alloc (.map #[] 0)).alloc (.cells #[.string nm, .map (some w1.heap.size), .slice none 0 0] 70) = W5 at *
    generalize w1.heap.size = hb at *
    go_still_tail 9, (by kernel_rfl)
    change wpList _ _ _ _ _ W5.drew
    go_wp2_with fail
    go_ret
    exact ⟨_, rfl, _, _, [], _, rfl, rfl, HF.out.1, HF.out.2.1, HF.out.2.2⟩
  · have lk := T.lookName he true
    simp only [if_true] at lk
    obtain ⟨N1, N2, rfl⟩ := List.append_of_mem he
    have HF := Lib.hid (show _ ∧ _ ∧ _ from ⟨T, A, Stp.refl o j w⟩)
    clear T A hnm he
    unfold ptr9 at *
    generalize hb : e.b = eb at *
    generalize hn : e.name = en at *
    have HB := Lib.hid hb; have HN := Lib.hid hn
    clear hb hn
    go_enter Tryz.func46, Tryz.ntmps46
    go_wp2_with fail
    go_ret
    exact ⟨eb, rfl, N1, e, N2, o, HB.out, HN.out, HF.out.1, HF.out.2.1, HF.out.2.2⟩
/-- where one comes to stand: behind those that hold the name -/
structure StandAt (hs : List (Int × Nat)) (x : Int) (q : List Int) (p : Nat) : Prop where
  le : p ≤ q.length
  no : hsM hs x = 0 → p = q.length
  behind : hsM hs x ≠ 0 → ∀ k y, p ≤ k → q[k]? = some y → hsM hs y = 0
  ahead : hsM hs x ≠ 0 → p = 0 ∨ ∃ y, q[p - 1]? = some y ∧ hsM hs y ≠ 0
set_option maxRecDepth 100000 in
set_option maxHeartbeats 4000000 in
theorem c_wait (T : IsT w o j g m1 m2 m3 (N1 ++ e :: N2) HL WL) (hql : e.q.length ≤ 1000) (x : Int) (m : Nat) (hno : ∀ y ∈ WL, y.owner ≠ x) :
    Calls Tryz.prog 50 #[ptr9 g, ptr9 e.b, .int .i64 x, .int .i64 (m : Int)] w fun r w' => r = .returned (.tuple #[]) ∧ ∃ p qv o', StandAt e.hs x e.q p ∧ IsT w' o' j g m1 m2 m3 (N1 ++ { e with qv := qv, q := e.q.take p ++ x :: e.q.drop p } :: N2) HL (WL ++ [(⟨x, m, e.name⟩ : Has9)]) ∧ Stp o j w o' w' := by
  have he : e ∈ N1 ++ e :: N2 := by simp
  obtain ⟨ua, un, uc, hqv⟩ := (T.er e he).isSlice
  have hun : un = e.q.length := by
    have := (T.er e he).row.2
    rw [hqv] at this
    rcases this with ⟨h1, h2⟩ | ⟨g', cap, cur, h1, _⟩
    · cases h1; exact h2.symm
    · cases h1; rfl
  have b2 : w.cell? ⟨e.b, 2, none⟩ = some (.slice ua un uc) := by rw [← hqv]; exact (T.eb e he).cell 2
  have CI := Lib.hid (fun y : Int => c_isHolder (T.eb e he) (T.eh e he) y)
  have HT := Lib.hid T; have HQV := Lib.hid hqv; have HE := Lib.hid he; have HNO := Lib.hid hno
  subst hun
  have fin : ∀ (p : Nat), p ≤ e.q.length → Calls Tryz.prog 80 #[.slice ua e.q.length uc, .int .i64 (p : Int), .slice (some ⟨w.heap.size, 0, none⟩) 1 1] (w.alloc (.cells #[.int .i64 x] 3)) fun r w2 => ∃ a n c, r = .returned (.slice a n c) ∧ ∃ o', w2.cell? ⟨e.b, 2, none⟩ = some (.slice ua e.q.length uc) ∧ w2.frozen? ⟨e.b, 2, none⟩ = false ∧
      IsT (w2.setCell ⟨e.b, 2, none⟩ (.slice a n c)) o' j g m1 m2 m3 (N1 ++ { e with qv := .slice a n c, q := e.q.take p ++ x :: e.q.drop p } :: N2) HL WL ∧ Stp o j w o' (w2.setCell ⟨e.b, 2, none⟩ (.slice a n c)) := fun p hp => by
    have := c_insert (HT.out.er e HE.out) hql p hp x
    rw [HQV.out] at this
    refine this.mono ?_
    rintro r w2 ⟨v', o', rfl, R⟩
    obtain ⟨a, n, c, rfl⟩ := R.isSlice
    have R2 := R
    rw [← HQV.out] at R2
    obtain ⟨T2, S2, hA2⟩ := HT.out.queueStep R2
    exact ⟨a, n, c, rfl, o', by rw [← HQV.out]; exact hA2.cell 2, hA2.fz 2, T2, S2⟩
  have HFN := Lib.hid fin
  clear fin T hqv he hno
  have hcell : ∀ (k : Nat) (y : Int), e.q[k]? = some y → ∃ gq, ua = some ⟨gq, 0, none⟩ ∧ w.cell? ⟨gq, k, none⟩ = some (.int .i64 y) := fun k y hy => by
    have := HT.out.er e HE.out
    rw [HQV.out] at this
    exact row_cell9 this hy
  have HCL := Lib.hid hcell
  clear hcell
  unfold ptr9 at *
  go_enter Tryz.func50, Tryz.ntmps50
  obtain ⟨d, hd⟩ : ∃ d, decide (hsM e.hs x ≠ 0) = d := ⟨_, rfl⟩
  have CX := CI.out x
  rw [hd] at CX
  have CXX := Lib.hid CX; have HD := Lib.hid hd
  have hkb : (e.q.length : Int) ≤ 1000 := by omega
  clear CX hd
  unfold ptr9 at *
  go_wp2_with fail
  refine CXX.out.mono ?_; rintro z w1 ⟨rfl, rfl⟩
  clear CXX
  go_upto_if 16 with fail
  go_cut [8] (fun a wx => wx = w ∧ ∃ p : Nat, a = .int .i64 (p : Int) ∧ StandAt e.hs x e.q p)
  case first =>
    cases d with
    | false =>
      have h0 : hsM e.hs x = 0 := by have := of_decide_eq_false HD.out; omega
      have HS := Lib.hid (show StandAt e.hs x e.q e.q.length from ⟨Nat.le_refl _, fun _ => rfl, fun h => absurd h0 h, fun h => absurd h0 h⟩)
      clear h0
      go_wp2_with fail
      go_meet
      exact ⟨rfl, _, rfl, HS.out⟩
    | true =>
      have h0 : hsM e.hs x ≠ 0 := of_decide_eq_true HD.out
      have H0 := Lib.hid h0
      clear h0
      go_wp2_with fail
      go_loopw [8] (fun a wr => wr = w ∧ ∃ p : Nat, p ≤ e.q.length ∧ a = .int .i64 (p : Int) ∧ ∀ k y, p ≤ k → e.q[k]? = some y → hsM e.hs y = 0) (fun a _ => (intOf a).toNat)
      case atStart => exact ⟨rfl, _, Nat.le_refl _, rfl, fun k y hk hy => by rw [List.getElem?_eq_none hk] at hy; cases hy⟩
      case round =>
        obtain ⟨rfl, p, hp, rfl, hbh⟩ := hrel
        have HBH := Lib.hid hbh
        clear hbh
        by_cases hp0 : p = 0
        · subst hp0
          have HS := Lib.hid (show StandAt e.hs x e.q 0 from ⟨Nat.zero_le _, fun h => absurd h H0.out, fun _ => HBH.out, fun _ => .inl rfl⟩)
          have hz : ¬ ((0 : Nat) : Int) > 0 := by omega
          go_wp2_with fail
          go_meet
          exact ⟨rfl, 0, rfl, HS.out⟩
        · obtain ⟨k, rfl⟩ : ∃ k, p = k + 1 := ⟨p - 1, by omega⟩
          obtain ⟨y, hy⟩ : ∃ y, e.q[k]? = some y := ⟨_, List.getElem?_eq_getElem (by omega)⟩
          obtain ⟨gq, hua, cq⟩ := HCL.out k y hy
          subst hua
          have hk1 : (0 : Int) < ((k + 1 : Nat) : Int) := by omega
          have hk2 : ((k + 1 : Nat) : Int) ≤ 1000 := by omega
          have hk3 : ((k + 1 : Nat) : Int) - 1 = (k : Int) := by omega
          have hk4 : (k : Int) < (e.q.length : Int) := by omega
          have hk5 : (0 : Int) ≤ (k : Int) := by omega
          have HY := Lib.hid hy
          have CY := CI.out y
          clear hy
          obtain ⟨kk, hkk⟩ : ∃ kk : Int, ((k + 1 : Nat) : Int) = kk := ⟨_, rfl⟩
          have HK := Lib.hid hkk
          rw [hkk] at hk1 hk2 hk3 ⊢
          clear hkk
          cases hyd : decide (hsM e.hs y ≠ 0) with
          | true =>
            rw [hyd] at CY
            have HYD := Lib.hid hyd
            have CYY := Lib.hid CY
            clear CY hyd
            unfold ptr9 at *
            have HS := Lib.hid (show StandAt e.hs x e.q (k + 1) from ⟨hp, fun h => absurd h H0.out, fun _ => HBH.out, fun _ => .inr ⟨y, HY.out, of_decide_eq_true HYD.out⟩⟩)
            go_wp2_with fail
            refine CYY.out.mono ?_; rintro z w2 ⟨rfl, rfl⟩
            clear CYY cq
            go_wp2_with fail
            go_meet
            exact ⟨rfl, k + 1, by rw [HK.out], HS.out⟩
          | false =>
            rw [hyd] at CY
            have hy0 : hsM e.hs y = 0 := by have := of_decide_eq_false hyd; omega
            have HYD := Lib.hid hy0
            have CYY := Lib.hid CY
            clear CY hyd hy0
            unfold ptr9 at *
            go_wp2_with fail
            refine CYY.out.mono ?_; rintro z w2 ⟨rfl, rfl⟩
            clear CYY cq
            go_wp2_with fail
            exact ⟨⟨by first | rfl | trivial, k, by omega, by rw [← hk3], fun k' y' h1 h2 => by
              rcases Nat.lt_or_ge k k' with h3 | h3
              · exact HBH.out k' y' (by omega) h2
              · obtain rfl : k' = k := by omega
                have := h2.symm.trans HY.out
                cases this; exact HYD.out⟩, by simp [intOf]; omega⟩
  case rest =>
    obtain ⟨rfl, p, rfl, hst⟩ := hcut
    have CF := Lib.hid (HFN.out p hst.le)
    have HST := Lib.hid hst
    clear hst
    have HE2 := Lib.hid (show ∀ (qv : Value), ({ e with qv := qv, q := e.q.take p ++ x :: e.q.drop p } : En) ∈ N1 ++ { e with qv := qv, q := e.q.take p ++ x :: e.q.drop p } :: N2 from fun qv => by simp)
    clear HCL HFN CI
    go_wp2_with fail
    refine CF.out.mono ?_; rintro z W2 ⟨qa, qn, qc, rfl, o2, d2, z2, T2, S2⟩
    have HT2 := Lib.hid T2; have HS2 := Lib.hid S2
    clear T2 S2 b2 CF
    go_upto_region 5 with fail
    generalize W2.setCell ⟨e.b, 2, none⟩ (.slice qa qn qc) = W3 at *
    clear d2 z2
    have T3 := HT2.out.drew
    obtain ⟨w5, hr5, M5, O5⟩ := T3.hw.putNew Tryz.underlying52 Tryz.underlying3 (show IsKey (.int .i64) (.int .i64 x) from rfl) (fun y hy e => by obtain ⟨p, hp, rfl⟩ := List.mem_map.1 hy; exact HNO.out p hp (by simpa [wkv] using e)) (.agg #[.string e.name, .int .i64 (m : Int)])
    have T5 := T3.setWaits (WL ++ [(⟨x, m, e.name⟩ : Has9)]) O5 (by rw [List.map_append]; exact M5)
    have S5 := (HS2.out.trans (Stp.drew o2 j W3)).trans (O5.stp T3.og.2.2.2)
    have g2 : W3.drew.cell? ⟨g, 2, none⟩ = some (.map (some m3)) := T3.hp.cell 2
    have b0 : W3.drew.cell? ⟨e.b, 0, none⟩ = some (.string e.name) := (T3.eb _ (HE2.out _)).cell 0
    have HF := Lib.hid (show _ ∧ _ from ⟨T5, S5⟩)
    clear T5 S5 M5 O5 T3 HT2 HS2
    go_wp2_with fail
    go_still_tail 11, (by kernel_rfl)
    change wpList _ _ _ _ _ W3.drew
    go_wp2_with fail
    go_end0
    exact ⟨rfl, p, _, _, HST.out, HF.out.1, HF.out.2⟩
end
end Go.Proofs.YtainnhcmhgloaaaGreatDoor
