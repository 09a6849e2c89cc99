/-
  Package pool: the contract of Least.
-/
import Derived.Test.YthjlbfijfpfohaaGreatN07c
namespace Go.Proofs.YthjlbfijfpfohaaGreat
open Go.RowKit Go.MapKept Go.Maps

/-- the least first number of all dirty ones; 0: there is none -/
structure LeastOf (L : List Pl) (x : Int) : Prop where
  some : x = 0 ∨ ∃ a ∈ L, a.dirty = true ∧ a.first = x
  least : ∀ a ∈ L, a.dirty = true → 0 < x ∧ x ≤ a.first
theorem LeastOf.perm {L L' : List Pl} {x : Int} (h : LeastOf L x) (p : L.Perm L') : LeastOf L' x :=
  ⟨h.some.imp id (fun ⟨a, ha, h⟩ => ⟨a, p.mem_iff.1 ha, h⟩), fun a ha => h.least a (p.mem_iff.2 ha)⟩
section
variable {w w' : World} {o o' : Nat → Nat} {i j g pd m n t ck b q : Nat} {su : Int} {E : List En} {S : List ByteArray} {Ws : Wrs}
/-- what comes of a step of a range: a place -/
theorem range_at (h : IsE w o j g pd m n su t E ck) (hk : ∀ e ∈ E, e.a.page ≤ 1000000) {D : DataW Unit} (hown : w.ownsMap Tryz.prog 3 R7 m E.length D) {key : Value} {kl : Lit} (hkey : keyOf Tryz.prog 3 key = some kl) {v : Value} {y : DataW Unit × List MemPlace} (hv : R7 v = some y) (hat : ∀ zd, D.atKey kl zd = y.1) :
    ∃ e ∈ E, kl = .int .i64 (e.a.page : Int) ∧ v = .pointer (some ⟨e.b, 0, none⟩) := by
  obtain ⟨es, clock, hb, F, _, rfl⟩ := hown
  rw [h.hm] at hb
  cases hb
  obtain ⟨bb, rfl, rfl⟩ := R7_inv hv
  rcases Maps.fit_look false (int_keyed Tryz.underlying3) Tryz.underlying61 (Tryz.zeroValue72 w) h.hm F hkey with ⟨_, _, h3⟩ | ⟨e0, y0, h1, h2, _, h4, h5, _⟩
  · have := (h3 .nil).symm.trans (hat .nil)
    cases this
  · obtain ⟨e, he, rfl⟩ := List.mem_map.1 (by simpa using h1)
    refine ⟨e, he, ?_, ?_⟩
    · have : key = .int .i64 (e.a.page : Int) := h2.symm
      rw [this, key7 _ (hk e he)] at hkey
      exact (Option.some.inj hkey).symm
    · have e1 : y0 = (.lit (.int .i64 (e.b : Int)), []) := by
        have : R7 (.pointer (some ⟨e.b, 0, none⟩)) = some y0 := h4
        rw [R7_ptr] at this; exact (Option.some.inj this).symm
      have e2 := (h5 .nil).symm.trans (hat .nil)
      rw [e1] at e2
      simp only [DataW.lit.injEq, Lit.int.injEq, true_and] at e2
      have : e.b = bb := by omega
      rw [this]
set_option maxRecDepth 100000 in
set_option maxHeartbeats 4000000 in
theorem pleast (h : IsE w o j g pd m n su t E ck) (hl : E.length ≤ 1000) (hk : ∀ e ∈ E, e.a.page ≤ 1000000) :
    Calls Tryz.prog 9 #[.pointer (some ⟨g, 0, none⟩)] w fun x w' => ∃ y : Int, x = .returned (.tuple #[.int .i64 y, .bool (decide (0 < y))]) ∧ LeastOf (E.map (·.a)) y ∧ Below w.heap.size w w' := by
  obtain ⟨D0, hown, hperm, hsize⟩ := h.owns hl hk
  have c2 : w.cell? ⟨g, 2, none⟩ = some (.map (some m)) := h.hp.cell 2
  have HH := Lib.hid h; have HK := Lib.hid hk; have HP := Lib.hid hperm
  clear hsize hl hk h hperm
  go_enter Tryz.func9, Tryz.ntmps9
  go_wp2_with (at_range; refine wpList_range_own _ rfl _ 61 rfl 3 72 (int_keyed Tryz.underlying3) Tryz.underlying61 R7 m E.length D0 rfl hown ?_; intro w0 hrg0 hg0 hs0)
  have B0 : Below w.heap.size w w0 := (Below.refl _ w).grown hg0 (Nat.le_refl _) (fun j hj => by cases hj)
  have HB0 := Lib.hid B0
  clear B0 hg0 hs0
  have HO := Lib.hid hown
  clear hown c2
  go_frame
  go_loopw [4] (fun u wr => ∃ (left : Lit → Bool) (cnt : Nat) (x : Int), wr.ranges Tryz.prog 3 R7 m w.heap.size E.length D0 left cnt ∧ u = .int .i64 x ∧ Below w.heap.size w wr ∧ (x = 0 ∨ ∃ e ∈ E, e.a.dirty = true ∧ e.a.first = x) ∧ (∀ e ∈ E, left (.int .i64 (e.a.page : Int)) = false → e.a.dirty = true → 0 < x ∧ x ≤ e.a.first))
    (fun _ wr => wr.rangeLeft m w.heap.size)
  case atStart =>
    refine ⟨_, _, 0, hrg0, rfl, HB0.out, .inl rfl, fun e he hf _ => ?_⟩
    have : e.a.page ∈ E.map (·.a.page) := List.mem_map.2 ⟨e, he, rfl⟩
    have hh : Maps.has D0 (.int .i64 (e.a.page : Int)) = true := by
      have hm : (e.a.page : Int) ∈ intKeys D0 := HP.out.mem_iff.2 (List.mem_map.2 ⟨e, he, rfl⟩)
      obtain ⟨es, rfl, _⟩ := HO.out.entries (int_keyed Tryz.underlying3)
      rw [has_eq, List.any_eq_true]
      obtain ⟨p, hp, hx⟩ := List.mem_map.1 hm
      obtain ⟨es2, ck2, hb2, F2, _, hD2⟩ := HO.out
      cases hD2
      obtain ⟨x, hx1, rfl⟩ := List.mem_map.1 (mem_sorted.1 hp)
      obtain ⟨y, hy⟩ := F2.reads x hx1
      refine ⟨_, hp, ?_⟩
      rw [Go.WideElems.rg_of hy] at hx ⊢
      obtain ⟨z, _, hz, _⟩ := Maps.keyOf_i64 Tryz.underlying3 (Go.WideElems.rd_key hy)
      rw [hz] at hx ⊢
      have hx' : z = (e.a.page : Int) := hx
      rw [hx']
      simp [Lit.sameKey]
    rw [hh] at hf; cases hf
  case round =>
    obtain ⟨left, cnt, x, hrg, rfl, hB, hs, hlst⟩ := hrel
    have HB := Lib.hid hB; have HS := Lib.hid hs; have HL := Lib.hid hlst
    clear hB hs hlst hrg0
    go_wp2_with (at_next; refine wpList_next_ranges _ rfl _ rfl 3 (int_keyed Tryz.underlying3) R7 encZ id (fun key kl hk => by obtain ⟨x, hx, _⟩ := Maps.keyOf_i64 Tryz.underlying3 hk; exact ⟨x, hx⟩) (fun v _ _ => ⟨v, rfl⟩) m w.heap.size E.length D0 _ _ rfl hrg ?_ ?_)
    · intro hc0 hl0
      have HL0 := Lib.hid hl0
      clear hl0 hc0 hrg
      go_wp2
      go_ret2
      refine ⟨x, rfl, ⟨?_, ?_⟩, HB.out⟩
      · rcases HS.out with h | ⟨e, he, h1, h2⟩
        · exact .inl h
        · exact .inr ⟨e.a, List.mem_map.2 ⟨e, he, rfl⟩, h1, h2⟩
      · intro a ha hd
        obtain ⟨e, he, rfl⟩ := List.mem_map.1 ha
        exact HL.out e he (HL0.out _) hd
    · intro kx c kl yd yp w2 cnt2 hkey hlk hv hat hrg2 hlt hg2 hs2 hen
      have hb2 : Below w.heap.size w w2 := HB.out.grown hg2 HB.out.size (fun j hj => by cases hj; exact Nat.le_refl _)
      have hE2 := HH.out.reads hb2
      obtain ⟨e, he, rfl, hc⟩ := range_at HH.out HK.out HO.out hkey hv hat
      subst hc
      have c4 : w2.cell? ⟨e.b, 4, none⟩ = some (.int .i64 e.a.first) := (hE2.hb e he).cell 4
      have CD := Lib.hid (pdirty (hE2.hb e he))
      have hms : w2.rangeLeft m w.heap.size < wr.rangeLeft m w.heap.size := by rw [hrg2.left_eq, hrg.left_eq]; exact hlt
      have HMS := Lib.hid hms; have HR2 := Lib.hid hrg2; have HB2 := Lib.hid hb2; have HE := Lib.hid he
      have step : ∀ x' : Int, (∀ e' ∈ E, left (.int .i64 (e'.a.page : Int)) = false → e'.a.dirty = true → 0 < x' ∧ x' ≤ e'.a.first) → (e.a.dirty = true → 0 < x' ∧ x' ≤ e.a.first) →
          ∀ e' ∈ E, (left (.int .i64 (e'.a.page : Int)) && !(Lit.int .i64 (e'.a.page : Int)).sameKey (.int .i64 (e.a.page : Int))) = false → e'.a.dirty = true → 0 < x' ∧ x' ≤ e'.a.first := fun x' h1 h2 e' he' hf hd => by
        cases hll : left (.int .i64 (e'.a.page : Int)) with
        | false => exact h1 e' he' hll hd
        | true =>
          rw [hll] at hf
          have hpp : e'.a.page = e.a.page := by simp [Lit.sameKey] at hf; omega
          obtain rfl : e' = e := map_inj_of_nodup HH.out.nk he' HE.out hpp
          exact h2 hd
      have HST := Lib.hid step
      clear hkey hlk hv hat hrg2 hlt hg2 hs2 hb2 hE2 he hms step hrg
      generalize e.b = eb at *
      generalize hfi : e.a.first = fi at *
      cases hdd : e.a.dirty with
      | false =>
        rw [hdd] at CD
        have HDD := Lib.hid hdd
        clear hdd
        go_wp2_with fail
        refine CD.out.mono ?_; rintro z w3 ⟨rfl, rfl⟩
        clear CD
        go_wp2_with fail
        exact ⟨⟨_, _, x, HR2.out, rfl, HB2.out, HS.out, HST.out x HL.out (fun h => by rw [HDD.out] at h; cases h)⟩, HMS.out⟩
      | true =>
        rw [hdd] at CD
        have HDD := Lib.hid hdd
        have hfp : 0 < fi := by have := hdd; unfold Pl.dirty at this; rw [hfi] at this; simpa using this
        have HFP := Lib.hid hfp
        clear hdd hfp
        by_cases hx0 : x = 0
        · subst hx0
          go_wp2_with fail
          refine CD.out.mono ?_; rintro z w3 ⟨rfl, rfl⟩
          clear CD
          go_wp2_with fail
          exact ⟨⟨_, _, fi, HR2.out, rfl, HB2.out, .inr ⟨e, HE.out, HDD.out, hfi⟩, HST.out fi (fun e' he' hf hd => by have := HL.out e' he' hf hd; omega) (fun _ => ⟨HFP.out, by omega⟩)⟩, HMS.out⟩
        · have hx1 : (x == 0) = false := by rw [beq_eq_false_iff_ne]; exact hx0
          by_cases hlt2 : fi < x
          · go_wp2_with fail
            refine CD.out.mono ?_; rintro z w3 ⟨rfl, rfl⟩
            clear CD
            go_wp2_with fail
            exact ⟨⟨_, _, fi, HR2.out, rfl, HB2.out, .inr ⟨e, HE.out, HDD.out, hfi⟩, HST.out fi (fun e' he' hf hd => by have := HL.out e' he' hf hd; have := HFP.out; omega) (fun _ => ⟨HFP.out, by omega⟩)⟩, HMS.out⟩
          · have hxp : 0 < x := by
              rcases HS.out with h | ⟨e', he', h1, h2⟩
              · exact absurd h hx0
              · unfold Pl.dirty at h1; rw [h2] at h1; simpa using h1
            have HXP := Lib.hid hxp
            clear hxp
            go_wp2_with fail
            refine CD.out.mono ?_; rintro z w3 ⟨rfl, rfl⟩
            clear CD
            go_wp2_with fail
            exact ⟨⟨_, _, x, HR2.out, rfl, HB2.out, HS.out, HST.out x HL.out (fun _ => ⟨HXP.out, by omega⟩)⟩, HMS.out⟩
end
end Go.Proofs.YthjlbfijfpfohaaGreat
