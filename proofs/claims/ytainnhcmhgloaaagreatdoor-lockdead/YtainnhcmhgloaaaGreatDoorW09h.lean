/-
  Package lock: the contract of isWanted.
-/
import Derived.Test.YtainnhcmhgloaaaGreatDoorW09g
namespace Go.Proofs.YtainnhcmhgloaaaGreatDoor
open Go.RowKit Go.Shelf Go.MapKept Go.Maps Go.Sort

section
variable {w w' w0 W2 : World} {o o' o0 : Nat → Nat} {i j g m1 m2 m3 : Nat} {N N1 N2 : List En} {HL : List Ho} {WL H W H0 W0 : Hs} {n0 : ByteArray} {pre : List Int} {e : En}
set_option maxRecDepth 100000 in
theorem c_wanted1 (x z : Int) (B : Nat) (w : World) (hB : w.cell? ⟨B, 0, none⟩ = some (.int .i64 z)) :
    Calls Tryz.prog 107 #[.int .i64 x, .pointer (some ⟨B, 0, none⟩)] w fun e w' => e = .returned (.bool (decide (x ≠ z))) ∧ ∃ q, w' = w.drewN q := by
  have hz : (x != z) = decide (x ≠ z) := by by_cases e : x = z <;> simp [e]
  generalize decide (x ≠ z) = d at *
  go_enter Tryz.func107, Tryz.ntmps107
  go_wp2_with fail
  go_ret
  exact ⟨rfl, 0, rfl⟩
theorem c_contains {v : Value} {l : List Int} (h : Row w o j 3 1 v l.length (l.map encI9)) (hl : l.length ≤ 1000) (z : Int) (B : Nat) (hB : w.cell? ⟨B, 0, none⟩ = some (.int .i64 z)) :
    Calls Tryz.prog 106 #[v, .func (.func 107) #[] #[.pointer (some ⟨B, 0, none⟩)]] w fun e w' => e = .returned (.bool (l.any (fun x => decide (x ≠ z)))) ∧ ∃ q, w' = w.drewN q := by
  rcases h.row.2 with ⟨rfl, h0⟩ | ⟨g, C, cur, rfl, _, hg, k1, k2, k3, k4⟩
  · have hl0 : l = [] := List.eq_nil_of_length_eq_zero h0
    subst hl0
    refine (AnyE.slices_ContainsFunc_empty contf9 none 0 _ w).mono ?_
    rintro e w' ⟨rfl, rfl⟩
    exact ⟨rfl, 0, rfl⟩
  · have hp : PredAt Tryz.prog 107 #[.pointer (some ⟨B, 0, none⟩)] encI9 (fun x => decide (x ≠ z)) w := fun W x hb =>
      c_wanted1 x z B W ((hb.cell (p := ⟨B, 0, none⟩) (World.block_lt_of_cell? w _ hB)).trans hB)
    have hc : ∀ q, q < l.length → w.cell? ⟨g, 0 + q, none⟩ = some (encI9 l[q]!) := fun q hq => by
      rw [Nat.zero_add, Lib.cell_of_heap hg, ← Array.getElem?_toList]
      have : (l.map encI9)[q]? = some (encI9 l[q]!) := by
        rw [List.getElem?_map, List.getElem?_eq_getElem hq, getElem!_pos l q hq]; rfl
      rw [← this, ← k4, List.getElem?_take, if_pos (by omega)]
    have := AnyE.slices_ContainsFunc contf9 encI9 (fun x => decide (x ≠ z)) 107 #[.pointer (some ⟨B, 0, none⟩)] (enters_of Tryz.func107 (by kernel_rfl) rfl) g 0 l.length C l w hp (Nat.le_refl _) (by omega) hc
    rw [List.take_length] at this
    exact this
set_option maxRecDepth 100000 in
set_option maxHeartbeats 4000000 in
theorem c_isWanted (T : IsT w o j g m1 m2 m3 N HL WL) (A : Abs N HL WL H W n0 []) (hB : H.length + W.length ≤ 1000) (x : Int) :
    Calls Tryz.prog 81 #[ptr9 g, .int .i64 x] w fun r w' => ∃ b : Bool, r = .returned (.bool b) ∧ (b = false → ∀ h ∈ H, h.owner = x → ∀ y ∈ W, y.name = h.name → y.owner = x) ∧ Below w.heap.size w w' := by
  have g1 : w.cell? ⟨g, 1, none⟩ = some (.map (some m2)) := T.hp.cell 1
  have ba : Below w.heap.size w (w.alloc (.cells #[.int .i64 x] 3)) := (Below.refl _ w).alloc (Nat.le_refl _) _
  have hA := At.new w #[.int .i64 x] 3
  have Td := T.reads ba.drew
  have g1d : (w.alloc (.cells #[.int .i64 x] 3)).drew.cell? ⟨g, 1, none⟩ = some (.map (some m2)) := Td.hp.cell 1
  have bxd : (w.alloc (.cells #[.int .i64 x] 3)).drew.cell? ⟨w.heap.size, 0, none⟩ = some (.int .i64 x) := hA.cell 0
  rcases own_cases HL x with hno | ⟨h, hh, rfl⟩
  · have lk : (Instr.lookup 51 (.map (some m2)) (.int .i64 x) false).run Tryz.prog (w.alloc (.cells #[.int .i64 x] 3)).drew = .ok (.map none) (w.alloc (.cells #[.int .i64 x] 3)).drew :=
      Td.hh.lookNo Tryz.underlying51 Tryz.underlying3 (show IsKey (.int .i64) (.int .i64 x) from rfl) (fun y hy e => by obtain ⟨p, hp, rfl⟩ := List.mem_map.1 hy; exact hno p hp (by simpa [hkv] using e)) (Tryz.zeroValue50 _) false
    have HF := Lib.hid (show ∀ h ∈ H, h.owner = x → ∀ y ∈ W, y.name = h.name → y.owner = x from fun h hh e1 => by
      obtain ⟨h', a, b⟩ := A.ox h hh
      exact absurd (b.trans e1) (hno h' a))
    have HBA := Lib.hid ba
    clear T A hB g1 ba hA Td hno
    unfold ptr9
    go_enter Tryz.func81, Tryz.ntmps81
    go_upto_region 1 with fail
    generalize w.alloc (.cells #[.int .i64 x] 3) = W1 at *
    have hrg := run_range_nilMap (P := Tryz.prog) W1.drew 50 9 62 Tryz.underlying50
    have hnx : ∀ ty, (Instr.next (.pointer (some ⟨W1.heap.size, 0, none⟩)) false ty).run Tryz.prog (W1.alloc (.mapIter none 0 #[] 0)).drew = .ok (.tuple #[.bool false]) (W1.alloc (.mapIter none 0 #[] 0)).drew := fun ty => run_next_nilMap W1.drew ty 0 0 #[]
    have HBB := Lib.hid (show Below w.heap.size w (W1.drew.alloc (.mapIter none 0 #[] 0)) from HBA.out.drew.alloc HBA.out.size _)
    go_still_tail 6, (by kernel_rfl)
    change wpList _ _ _ _ _ W1.drew
    go_wp2_with fail
    refine wp_loop_rounds 1 ?_
    rw [rounds_succ]
    go_wp2_with fail
    go_ret
    exact ⟨false, rfl, fun _ => HF.out, HBB.out⟩
  · have hnd := ns_nodup (T.ho h hh)
    have hns : h.ns.length ≤ 1000 := by
      have := (A.om h hh).length_eq
      rw [List.length_map, List.length_map] at this
      have h2 : (ownL H h.owner).length ≤ H.length := List.length_filter_le _ _
      omega
    have hnsz : ∀ p ∈ h.ns, p.1.size ≤ 300 := fun p hp => by
      obtain ⟨y, hy, e1⟩ := List.mem_map.1 ((A.om h hh).mem_iff.1 (List.mem_map.2 ⟨p, hp, rfl⟩))
      rw [← e1]; exact (A.ok.hm y (mem_ownL.1 hy).1).2.2.2.2
    obtain ⟨D0, hown, hperm, hsize⟩ := (Td.ho h hh).ownsS hns hnsz
    have lk : (Instr.lookup 51 (.map (some m2)) (.int .i64 h.owner) false).run Tryz.prog (w.alloc (.cells #[.int .i64 h.owner] 3)).drew = .ok (.map (some h.b)) (w.alloc (.cells #[.int .i64 h.owner] 3)).drew :=
      Td.hh.look Tryz.underlying51 Tryz.underlying3 (List.mem_map.2 ⟨h, hh, rfl⟩) false
    have HBA := Lib.hid ba; have HT := Lib.hid T; have HAb := Lib.hid A; have HP := Lib.hid hperm; have HH := Lib.hid hh; have HND := Lib.hid hnd; have HBX := Lib.hid hA; have HSM := Lib.hid hB
    clear T A hB g1 ba hA hnd hns hnsz hsize hperm hh
    unfold ptr9
    obtain ⟨ho, hho⟩ : ∃ ho, h.owner = ho := ⟨_, rfl⟩
    rw [hho] at lk Td bxd g1d HBA HBX hown ⊢
    have HHO := Lib.hid hho
    clear hho
    go_enter Tryz.func81, Tryz.ntmps81
    go_upto_region 1 with fail
    generalize w.alloc (.cells #[.int .i64 ho] 3) = W1 at *
    go_still_tail 6, (by kernel_rfl)
    change wpList _ _ _ _ _ W1.drew
    go_wp2_with (at_range; refine wpList_range_own _ rfl _ 50 rfl 9 62 (string_keyed Tryz.underlying9) Tryz.underlying50 RP9 h.b h.ns.length D0 rfl hown ?_; intro w0 hrg0 hg0 hs0)
    have B0 : Below w.heap.size w w0 := HBA.out.drew.grown hg0 HBA.out.size (fun j hj => by cases hj)
    have HB0 := Lib.hid B0
    have bx0 := (HBX.out.drew.same (w' := w0) (hg0.block w.heap.size HBX.out.lt (fun e => by cases e))).cell 0
    have HBXX := Lib.hid (HBX.out.drew.same (w' := w0) (hg0.block w.heap.size HBX.out.lt (fun e => by cases e)))
    have HS0 : Hid (W1.heap.size + 1 ≤ w0.heap.size) := Lib.hid (by have : W1.drew.heap.size = W1.heap.size := rfl; omega)
    have HW1 : Hid (w.heap.size < W1.heap.size) := Lib.hid HBX.out.lt
    clear B0 hg0 hs0 bx0 bxd g1d lk
    have HO := Lib.hid hown
    clear hown
    go_frame
    go_loopw [6] (fun _ wr => ∃ (left : Lit → Bool) (cnt : Nat) (ss : List (List UInt8)), wr.ranges Tryz.prog 9 RP9 h.b W1.heap.size h.ns.length D0 left cnt ∧ Collected D0 left ss ∧ Below w.heap.size w wr ∧ wr.cell? ⟨w.heap.size, 0, none⟩ = some (.int .i64 ho) ∧ w.heap.size < wr.heap.size ∧ ∀ e ∈ N, e.name.data.toList ∈ ss → e.q.any (fun z => decide (z ≠ ho)) = false)
      (fun _ wr => wr.rangeLeft h.b W1.heap.size)
    case atStart => exact ⟨_, _, [], hrg0, Collected.start D0, HB0.out, HBXX.out.cell 0, HBXX.out.lt, fun e _ h => by cases h⟩
    case round =>
      obtain ⟨left, cnt, ss, hrg, hC, hB, hbx, hsz, hq⟩ := hrel
      have HB := Lib.hid hB; have HC := Lib.hid hC; have HBX2 := Lib.hid hbx; have HSZ := Lib.hid hsz; have HQ := Lib.hid hq
      clear hB hC hbx hrg0 hsz hq
      go_wp2_with (at_next; refine wpList_next_ranges _ rfl _ rfl 9 (string_keyed Tryz.underlying9) RP9 encStr id (fun key kl hk => by obtain ⟨x, hx, _⟩ := Maps.keyOf_str Tryz.underlying9 hk; exact ⟨x, hx⟩) (fun v _ _ => ⟨v, rfl⟩) h.b W1.heap.size h.ns.length D0 _ _ rfl hrg ?_ ?_)
      · intro hc0 hl0
        have hper := (HC.out.perm HO.out (string_keyed Tryz.underlying9) Tryz.underlying9 hl0).trans HP.out
        have HF := Lib.hid (show ∀ h ∈ H, h.owner = ho → ∀ y ∈ W, y.name = h.name → y.owner = ho from fun h' hh' e1 y hy e2 => by
          obtain ⟨e, he, hen⟩ := HAb.out.qx y hy
          have h2 : h'.name ∈ h.ns.map (·.1) := (HAb.out.om h HH.out).mem_iff.2 (List.mem_map.2 ⟨h', mem_ownL.2 ⟨hh', by rw [e1, HHO.out]⟩, rfl⟩)
          obtain ⟨p, hp, hp2⟩ := List.mem_map.1 h2
          have h3 : e.name.data.toList ∈ ss := hper.mem_iff.2 (List.mem_map.2 ⟨p, hp, by rw [hp2, ← e2, ← hen]⟩)
          have h4 := HQ.out e he h3
          have h5 : y.owner ∈ e.q := by rw [HAb.out.q_len he]; exact List.mem_map.2 ⟨y, mem_nameL.2 ⟨hy, hen.symm⟩, rfl⟩
          have h6 := List.any_eq_false.1 h4 _ h5
          simpa using h6)
        clear hl0 hc0 hrg hper
        go_wp2
        go_ret
        exact ⟨false, rfl, fun _ => HF.out, HB.out⟩
      · intro kx c kl yd yp w2 cnt2 hkey hlk hv hat hrg2 hlt hg2 hs2 hen
        have hb2 : Below w.heap.size w w2 := HB.out.grown hg2 HB.out.size (fun j hj => by cases hj; exact Nat.le_of_lt HW1.out)
        have hM2 := (HT.out.reads hb2).ho h HH.out
        have hmem := hM2.ranged RP9_one (string_keyed Tryz.underlying9) Tryz.underlying50 (Tryz.zeroValue62 w2) hrg2.owns hkey hv hat (by obtain ⟨n, _, e⟩ := RP9_inv hv; rw [e]; simp)
        obtain ⟨⟨pn, pb⟩, hp, hpe⟩ := List.mem_map.1 hmem
        simp only [nskv, Prod.mk.injEq] at hpe
        obtain ⟨hpe1, rfl⟩ := hpe
        obtain ⟨e, he, hen1, hen2⟩ := HAb.out.ob h HH.out _ hp
        obtain ⟨x', ex, hkl, _⟩ := Maps.keyOf_str Tryz.underlying9 hkey
        obtain rfl : kx = x' := encStr_inj ex
        subst hkl
        have hkx : kx = pn.data.toList := by
          have : (Value.string pn) = encStr kx := hpe1
          unfold encStr at this
          have e3 : pn = (⟨kx.toArray⟩ : ByteArray) := by injection this
          rw [e3]
        have hC2 := HC.out.step hlk hat
        have hms : w2.rangeLeft h.b W1.heap.size < wr.rangeLeft h.b W1.heap.size := by rw [hrg2.left_eq, hrg.left_eq]; exact hlt
        have hbx2 : w2.cell? ⟨w.heap.size, 0, none⟩ = some (.int .i64 ho) := by
          have h1 := hg2.block w.heap.size HSZ.out (fun e => by
            have h2 : w.heap.size = W1.heap.size := by injection e
            have := HW1.out; omega)
          have := HBX2.out
          unfold World.cell? at this ⊢
          rw [h1]; exact this
        have hql : e.q.length ≤ 1000 := by
          rw [HAb.out.q_len he, List.length_map]; have := List.length_filter_le (fun h : Has9 => decide (h.name = e.name)) W; have := HSM.out; unfold nameL; omega
        have CC := c_contains ((HT.out.reads hb2).er e he) hql ho w.heap.size hbx2
        obtain ⟨ua, un, uc, hqv⟩ := ((HT.out.reads hb2).er e he).isSlice
        have cq : w2.cell? ⟨pb, 2, none⟩ = some (.slice ua un uc) := by
          have hen2' : e.b = pb := hen2
          rw [← hqv, ← hen2']; exact ((HT.out.reads hb2).eb e he).cell 2
        rw [hqv] at CC
        have key : e.q.any (fun z => decide (z ≠ ho)) = false → ∀ e' ∈ N, e'.name.data.toList ∈ ss ++ [kx] → e'.q.any (fun z => decide (z ≠ ho)) = false := fun h1 e' he' h2 => by
          rcases List.mem_append.1 h2 with h3 | h3
          · exact HQ.out e' he' h3
          · have h4 := List.mem_singleton.1 h3
            have h5 : e'.name = e.name := by
              have h6 : e'.name.data.toList = pn.data.toList := by rw [h4, hkx]
              have h7 : e.name = pn := hen1
              rw [h7]
              cases ha : e'.name; cases hb : pn; rw [ha, hb] at h6; simp at h6; rw [h6]
            have h8 : e' = e := by
              have nd := HT.out.nnd
              have key : ∀ {l : List En} {a b : En}, (l.map (·.name)).Nodup → a ∈ l → b ∈ l → a.name = b.name → a = b := by
                intro l a b hn ha hb e
                induction l with
                | nil => cases ha
                | cons z l ih =>
                  simp only [List.map_cons, List.nodup_cons] at hn
                  rcases List.mem_cons.1 ha with e1 | e1 <;> rcases List.mem_cons.1 hb with e2 | e2
                  · rw [e1, e2]
                  · exact absurd (List.mem_map.2 ⟨b, e2, by rw [← e, e1]⟩) hn.1
                  · exact absurd (List.mem_map.2 ⟨a, e1, by rw [e, e2]⟩) hn.1
                  · exact ih hn.2 e1 e2
              exact key nd he' he h5
            rw [h8]; exact h1
        have HKEY := Lib.hid key; have HR2 := Lib.hid hrg2; have HC2 := Lib.hid hC2; have HMS := Lib.hid hms; have HB2 := Lib.hid hb2
        have HX2 := Lib.hid hbx2; have HZ2 : Hid (w.heap.size < w2.heap.size) := Lib.hid (by rw [hs2]; exact HSZ.out)
        clear key hrg2 hC2 hms hb2 hql hkx hp hmem hM2 he hen1 hen2 hpe1 ex hlk hat hv hkey hlt hg2 hs2 hrg HQ HC HB HSZ HBX2
        unfold ptr9 at *
        cases hany : e.q.any (fun z => decide (z ≠ ho)) with
        | true =>
          rw [hany] at CC
          have HCC := Lib.hid CC
          clear CC hany
          go_wp2_with fail
          refine HCC.out.mono ?_; rintro z w3 ⟨rfl, nq, rfl⟩
          go_wp2_with fail
          go_ret
          exact ⟨true, rfl, fun h => (by cases h), HB2.out.trans ((below_drewN w2 nq).mono (Nat.le_of_lt HZ2.out))⟩
        | false =>
          rw [hany] at CC
          have HCC := Lib.hid CC
          have HK2 := Lib.hid (HKEY.out hany)
          clear CC hany
          go_wp2_with fail
          refine HCC.out.mono ?_; rintro z w3 ⟨rfl, nq, rfl⟩
          have HR3 := Lib.hid (show (w2.drewN nq).ranges Tryz.prog 9 RP9 h.b W1.heap.size h.ns.length D0 (fun z => left z && !z.sameKey (.string kx)) cnt2 from HR2.out)
          go_wp2_with fail
          refine ⟨⟨_, _, _, _, _, _, _, _, _, _, _, _, ⟨_, cnt2, ss ++ [kx], HR3.out, HC2.out, HB2.out.trans ((below_drewN w2 nq).mono (Nat.le_of_lt HZ2.out)), HX2.out, HZ2.out, HK2.out⟩, rfl⟩, HMS.out⟩
end
end Go.Proofs.YtainnhcmhgloaaaGreatDoor
