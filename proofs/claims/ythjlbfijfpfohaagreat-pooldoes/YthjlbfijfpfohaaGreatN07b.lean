/-
  Package pool: the contract of Dirty.
-/
import Derived.Test.YthjlbfijfpfohaaGreatN07a
namespace Go.Proofs.YthjlbfijfpfohaaGreat
open Go.RowKit Go.MapKept

def isDirty (L : List Pl) (x : Int) : Bool := match findP L x with
  | some a => a.dirty
  | none => false
/-- the dirty pages, rising -/
def dirtyI (L : List Pl) : List Int := (pagesI L).filter (isDirty L)
section
variable {w w' : World} {o o' : Nat → Nat} {i j g pd m n t ck b q : Nat} {su : Int} {E : List En}
theorem IsE.nkL (h : IsE w o j g pd m n su t E ck) : ((E.map (·.a)).map (·.page)).Nodup := by rw [List.map_map]; exact h.nk
theorem IsE.find (h : IsE w o j g pd m n su t E ck) {e : En} (he : e ∈ E) : findP (E.map (·.a)) (e.a.page : Int) = some e.a := findP_mem h.nkL (List.mem_map.2 ⟨e, he, rfl⟩)
theorem En.of {x : Int} (h : x ∈ pagesI (E.map (·.a))) : ∃ e ∈ E, (e.a.page : Int) = x := by
  obtain ⟨a, ha, hx⟩ := mem_pagesI.1 h
  obtain ⟨e, he, rfl⟩ := List.mem_map.1 ha
  exact ⟨e, he, hx⟩
theorem filter_take_succ {l : List Int} {p : Int → Bool} {t : Nat} {x : Int} (hx : l[t]? = some x) : (l.take (t + 1)).filter p = (l.take t).filter p ++ (if p x then [x] else []) := by
  rw [List.take_add_one, hx, List.filter_append]
  cases hp : p x <;> simp [hp]
set_option maxRecDepth 100000 in
set_option maxHeartbeats 2000000 in
theorem pdirtys (h : IsE w o j g pd m n su t E ck) (hl : E.length ≤ 1000) (hk : ∀ e ∈ E, e.a.page ≤ 1000000) :
    Calls Tryz.prog 14 #[.pointer (some ⟨g, 0, none⟩)] w fun e w' => ∃ (v : Value), e = .returned v ∧ w'.ownsRow w.heap.size 3 1 v (dirtyI (E.map (·.a))).length ((dirtyI (E.map (·.a))).map (Value.int .i64)) ∧ Below w.heap.size w w' := by
  have CP := Lib.hid (ppages' h hl hk)
  have HH := Lib.hid h
  have hlen : (pagesI (E.map (·.a))).length ≤ 1000 := by rw [pagesI_length, List.length_map]; exact hl
  obtain ⟨l, hlp⟩ : ∃ l, pagesI (E.map (·.a)) = l := ⟨_, rfl⟩
  rw [hlp] at CP hlen
  have HL := Lib.hid hlp
  have c2 : w.cell? ⟨g, 2, none⟩ = some (.map (some m)) := h.hp.cell 2
  clear h hl hk hlp
  obtain ⟨i0, hi, hz0, hz1, hz2⟩ := info_parts info_int
  go_enter Tryz.func14, Tryz.ntmps14
  go_wp2_with fail
  refine CP.out.mono ?_; rintro x w1 ⟨v, rfl, hrow1, b1⟩
  have hI := isInts_of_row hrow1
  have h1 := HH.out.reads b1
  obtain ⟨va, vC, rfl⟩ := hI.len
  have HI := Lib.hid hI; have H1 := Lib.hid h1; have HB1 := Lib.hid b1
  have bsz := b1.size
  clear hI h1 hrow1 b1 CP HH c2
  go_wp2
  go_loopw [3, 9] (fun u c wr => ∃ k : Nat, k ≤ l.length ∧ c = .int .i64 (k : Int) ∧ wr.ownsRow w1.heap.size 3 1 u ((l.take k).filter (isDirty (E.map (·.a)))).length (((l.take k).filter (isDirty (E.map (·.a)))).map (Value.int .i64)) ∧ Below w1.heap.size w1 wr) (fun _ c _ => l.length - (intOf c).toNat)
  case atStart => exact ⟨0, by omega, rfl, World.ownsRow_nil _ _ _ _, Below.refl _ _⟩
  case round =>
    obtain ⟨k, hk, rfl, hrow, hB⟩ := hrel
    have hE := H1.out.reads hB
    have hV := HI.out.below hB
    have c2 : wr.cell? ⟨g, 2, none⟩ = some (.map (some m)) := hE.hp.cell 2
    by_cases hlt : k < l.length
    · have h0 : (k : Int) < (l.length : Int) := by omega
      have h00 : (0 : Int) ≤ (k : Int) := by omega
      obtain ⟨x, hx⟩ : ∃ x, l[k]? = some x := ⟨_, List.getElem?_eq_getElem hlt⟩
      have hmem : x ∈ pagesI (E.map (·.a)) := by rw [HL.out]; exact List.mem_of_getElem? hx
      obtain ⟨e, he, rfl⟩ := En.of hmem
      rcases hV with ⟨_, rfl⟩ | ⟨gv, Cv, hv, hcell⟩
      · simp at hlt
      cases hv
      have cx := hcell k _ hx
      have lk := hE.look false he
      simp only [Bool.false_eq_true, if_false] at lk
      have CD := Lib.hid (pdirty (hE.hb e he))
      have hd : isDirty (E.map (·.a)) (e.a.page : Int) = e.a.dirty := by unfold isDirty; rw [hE.find he]
      have HF := Lib.hid (filter_take_succ (p := isDirty (E.map (·.a))) hx)
      rw [hd] at HF
      have HR := Lib.hid hrow; have HB := Lib.hid hB
      have hsz := hB.size
      have hll : ((l.take k).filter (isDirty (E.map (·.a)))).length ≤ 1000 := Nat.le_trans (List.length_filter_le _ _) (by rw [List.length_take]; omega)
      clear hrow hB hE hcell hmem hx HI H1 HL hd
      generalize (l.take k).filter (isDirty (E.map (·.a))) = F at *
      generalize (e.a.page : Int) = pg at *
      cases hdd : e.a.dirty with
      | true =>
        rw [hdd] at CD HF
        simp only [if_true] at HF
        clear hdd
        go_wp2_with fail
        refine CD.out.mono ?_; rintro x w2 ⟨rfl, rfl⟩
        clear CD
        go_wp2_with (at_builtin; refine wpList_append_own _ rfl _ _ 42 rfl w1.heap.size 3 i0 (.int .i64 0) 1 8 Tryz.underlying42 hi hz0 hz1 hz2 rfl (by decide) _ _ _ rfl (HR.out.alloc _) ⟨wr.heap.size, 0, none⟩ 1 1 [.int .i64 pg] rfl rfl (cell_one_new _ _ _) (by simp [Value.oneCell']) (by simp [maxLen]; omega) (by omega) (by simp; omega) ?_; intro v' w3 hown' hgrow _)
        exact ⟨⟨k + 1, by omega, by go_num, by rw [HF.out]; simpa using hown', below_append HB.out HR.out hgrow (Nat.le_refl _) hsz⟩, by simp [intOf]; omega⟩
      | false =>
        rw [hdd] at CD HF
        simp only [Bool.false_eq_true, if_false, List.append_nil] at HF
        clear hdd
        go_wp2_with fail
        refine CD.out.mono ?_; rintro x w2 ⟨rfl, rfl⟩
        clear CD
        go_wp2_with fail
        exact ⟨⟨k + 1, by omega, by go_num, by rw [HF.out]; exact HR.out, HB.out⟩, by simp [intOf]; omega⟩
    · obtain rfl : k = l.length := by omega
      rw [List.take_length] at hrow
      have HR := Lib.hid hrow; have HB := Lib.hid hB
      clear hrow hB hE hV HI H1 c2
      go_wp2
      go_ret
      refine ⟨_, rfl, ?_, HB1.out.trans (HB.out.mono bsz)⟩
      unfold dirtyI
      rw [HL.out]
      exact ownsRow_base_a HR.out bsz
end
end Go.Proofs.YthjlbfijfpfohaaGreat
