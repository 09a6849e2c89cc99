/-
  Package disk: the contracts of Dirty, Copy.
-/
import Derived.Test.YtbenaagooankbaaD3
namespace Go.Proofs.Ytbenaagooankbaa
open Go.RowKit Go.ChangeMaps

/-- a []int that reads as l -/
def IsInts (w : World) (v : Value) (l : List Int) : Prop :=
  (v = .slice none 0 0 ∧ l = []) ∨ ∃ g C, v = .slice (some ⟨g, 0, none⟩) l.length C ∧ ∀ j x, l[j]? = some x → w.cell? ⟨g, j, none⟩ = some (.int .i64 x)
theorem IsInts.below {w w' : World} {v : Value} {l : List Int} (h : IsInts w v l) (b : Below w.heap.size w w') : IsInts w' v l := by
  rcases h with h | ⟨g, C, h1, h2⟩
  · exact .inl h
  · refine .inr ⟨g, C, h1, fun j x hj => ?_⟩
    have := h2 j x hj
    exact (b.cell (p := ⟨g, j, none⟩) (World.block_lt_of_cell? w _ this)).trans this
theorem isInts_of_row {w : World} {base : Nat} {v : Value} {l : List Int} (h : w.ownsRow base 3 1 v l.length (l.map (Value.int .i64))) : IsInts w v l := by
  rcases h.2 with ⟨rfl, h0⟩ | ⟨g, cap, cur, rfl, _, hg, h1, _, h3, h4⟩
  · exact .inl ⟨rfl, List.eq_nil_of_length_eq_zero h0⟩
  · refine .inr ⟨g, cap, rfl, fun j x hj => ?_⟩
    have hlt : j < l.length := (List.getElem?_eq_some_iff.1 hj).1
    have e1 : (cur.toList.take (l.length * 1))[j]? = (l.map (Value.int .i64))[j]? := by rw [h4]
    rw [List.getElem?_take_of_lt (by omega), Array.getElem?_toList, List.getElem?_map, hj] at e1
    simp [World.cell?, hg, e1]
theorem IsInts.len {w : World} {v : Value} {l : List Int} (h : IsInts w v l) : ∃ a C, v = .slice a l.length C := by
  rcases h with ⟨rfl, rfl⟩ | ⟨g, C, rfl, _⟩
  · exact ⟨none, 0, rfl⟩
  · exact ⟨_, _, rfl⟩
/-- the pages of writes -/
def dirtyOf (Ws : Wrs) : List Int := Ws.map (fun x => (x.1 : Int))
theorem below_append {a W w1 : World} {n base : Nat} {e : TypeId} {size : Nat} {v : Value} {k : Nat} {xs : List Value} {tmp : Obj} (hB : Below n a W) (hrow : W.ownsRow base e size v k xs) (hgrow : (W.alloc tmp).grownBy w1 v.ownBlock) (hn : n ≤ base) (hs : n ≤ W.heap.size := by omega) : Below n a w1 := by
  refine (hB.alloc hs tmp).grown hgrow (by simp; omega) (fun j ej => ?_)
  rcases hrow.2 with ⟨rfl, _⟩ | ⟨g, cap, cur, rfl, hb, _⟩
  · simp [Value.ownBlock] at ej
  · obtain rfl : g = j := by simpa [Value.ownBlock] using ej
    omega
section
variable {w : World} {o : Nat → Nat} {i p m : Nat} {v : Value} {L : Pgs} {Ws : Wrs} {S : List ByteArray}
set_option maxHeartbeats 1000000 in
theorem dirty_any' (H : IsM w o i p m v L Ws) (hW : Ws.length ≤ 1000000) :
    Calls Try.prog 13 #[.pointer (some ⟨p, 0, none⟩)] w fun e w' => ∃ u, e = .returned u ∧ w'.ownsRow w.heap.size 3 1 u (dirtyOf Ws).length ((dirtyOf Ws).map (Value.int .i64)) ∧ Below w.heap.size w w' := by
  obtain ⟨a, C, rfl⟩ := H.slot
  have cv := H.c1
  have HH := Lib.hid H; clear H
  obtain ⟨i0, hi, hz0, hz1, hz2⟩ := info_parts info_int
  go_enter Try.func13, Try.ntmps13
  go_wp2
  go_loopw [3, 11] (fun u c wr => ∃ t : Nat, t ≤ Ws.length ∧ c = .int .i64 (t : Int) ∧ wr.ownsRow w.heap.size 3 1 u t ((dirtyOf (Ws.take t)).map (Value.int .i64)) ∧ Below w.heap.size w wr) (fun _ c _ => Ws.length - (intOf c).toNat)
  case atStart => exact ⟨0, by omega, rfl, World.ownsRow_nil _ _ _ _, Below.refl _ _⟩
  case round =>
    obtain ⟨t, ht, rfl, hrow, hB⟩ := hrel
    have hM := HH.out.reads hB
    clear cv
    by_cases hlt : t < Ws.length
    · have h0 : (t : Int) < (Ws.length : Int) := by omega
      have h00 : (0 : Int) ≤ (t : Int) := by omega
      obtain ⟨⟨k, s⟩, hx⟩ : ∃ x, Ws[t]? = some x := ⟨_, List.getElem?_eq_getElem hlt⟩
      obtain ⟨g, rfl, c0, c1⟩ := hM.wat t _ hx
      have HX := Lib.hid (show dirtyOf (Ws.take (t + 1)) = dirtyOf (Ws.take t) ++ [(k : Int)] by simp [dirtyOf, List.take_add_one, hx])
      have HR := Lib.hid (hrow.alloc (.cells #[.int .i64 (k : Int), .string s] 64))
      have HB := Lib.hid (hB.alloc hB.size (.cells #[.int .i64 (k : Int), .string s] 64))
      have hsz := hB.size
      clear hrow hB hM HH
      go_upto_region 5 with fail
      have d0 : (wr.alloc (.cells #[.int .i64 (k : Int), .string s] 64)).cell? ⟨wr.heap.size, 0, none⟩ = some (.int .i64 (k : Int)) := by rw [World.cell?_alloc_at _ _ _ _ rfl]; rfl
      have hsz2 : w.heap.size ≤ (wr.alloc (.cells #[.int .i64 (k : Int), .string s] 64)).heap.size := by simp; omega
      generalize wr.alloc (.cells #[.int .i64 (k : Int), .string s] 64) = W4 at *
      generalize wr.heap.size = B4 at *
      clear c0 c1
      go_wp2_with (at_builtin; refine wpList_append_own _ rfl _ _ 30 rfl w.heap.size 3 i0 (.int .i64 0) 1 8 Try.underlying30 hi hz0 hz1 hz2 rfl (by decide) _ _ _ rfl (HR.out.alloc _) ⟨W4.heap.size, 0, none⟩ 1 1 [.int .i64 (k : Int)] rfl rfl (cell_one_new _ _ _) (by simp [Value.oneCell']) (by simp [maxLen]; omega) (by omega) (by simp; omega) ?_; intro v' w1 hown' hgrow _)
      exact ⟨⟨t + 1, by omega, by go_num, by rw [HX.out]; simpa using hown', below_append HB.out HR.out hgrow (Nat.le_refl _) hsz2⟩, by simp [intOf]; omega⟩
    · obtain rfl : t = Ws.length := by omega
      rw [List.take_length] at hrow
      clear hM HH
      go_wp2
      go_ret
      refine ⟨_, rfl, ?_, hB⟩
      have e1 : (dirtyOf Ws).length = Ws.length := by simp [dirtyOf]
      rw [e1]; exact hrow

theorem Row.made (w : World) (o : Nat → Nat) (i : Nat) (e : TypeId) (sz : Nat) : Row (w.alloc (.cells #[] e)) (gives o w.heap.size i) i e sz (.slice (some ⟨w.heap.size, 0, none⟩) 0 0) 0 [] :=
  ⟨World.ownsRow_made w #[] 0 (Nat.zero_le _) (by decide) (by simp), fun g hg => by cases hg; exact gives_new (Nat.le_refl _)⟩

set_option maxHeartbeats 400000 in
theorem mclone_any (hm : IsMap w m L) :
    Calls Try.prog 26 #[.map (some m)] w fun e w' => e = .returned (.map (some w.heap.size)) ∧ w' = w.alloc (.map (ents 0 L).toArray L.length) := by
  have hq := run_eql_map_nil_sl (P := Try.prog) w 52 _ _ (some m) Try.underlying52
  have hb : w.heap[m]? = some (.map (ents 0 L).toArray L.length) := hm
  clear hm
  go_enter Try.func26, Try.ntmps26
  go_wp2
  rw [run_callFunc_extern Try.func41 (by kernel_rfl) (by kernel_rfl) (by kernel_rfl) (e := Extern.MapsClone.clone) (by kernel_rfl), run_maps_clone_sl w 52 hb]
  simp only [Result.andThen]
  rw [Oper.upon_value]
  go_wp2
  rw [run_typeAssert_map_sl _ 52 _ _ _ _ Try.underlying52]
  simp only [Result.andThen]
  rw [Oper.upon_value]
  go_wp2
  go_ret
  exact ⟨rfl, rfl⟩

set_option maxHeartbeats 400000 in
theorem sclone_any (j : Nat) (o1 : Nat → Nat) (hv : Row w o1 i 64 2 v Ws.length (wcells Ws)) (hW : Ws.length ≤ 1000000) :
    Calls Try.prog 27 #[v] w fun e w' => ∃ v', e = .returned v' ∧ Row w' (gives o w.heap.size j) j 64 2 v' Ws.length (wcells Ws) ∧ Below w.heap.size w w' ∧ (∃ a C, v' = .slice a Ws.length C) ∧ ∀ g, v'.ownBlock = some g → w.heap.size ≤ g := by
  rcases hv.val with ⟨rfl, hn, hx⟩ | ⟨g, C, rfl, _, hg, hc, _⟩
  · have he := _root_.Go.run_eql_slice_nil (P := Try.prog) w 53 64 none 0 0 Try.underlying53
    clear hv
    go_enter Try.func27, Try.ntmps27
    go_wp2
    go_ret
    exact ⟨.slice none 0 0, rfl, by rw [hn, hx]; exact Row.nil _ _ _ _ _, Below.refl _ _, ⟨none, 0, by rw [hn]⟩, fun g hg => by simp [Value.ownBlock] at hg⟩
  · have he := _root_.Go.run_eql_slice_nil (P := Try.prog) w 53 64 (some ⟨g, 0, none⟩) Ws.length C Try.underlying53
    obtain ⟨i0, hi, hz0, hz1, hz2⟩ := info_parts info_write
    obtain ⟨v', w5, hap, hR5, hS5, hG5, hL5⟩ := (Row.made w o j 64 2).append (ty := 53) Try.underlying53 hi hz0 hz1 hz2 rfl (by decide) ⟨g, 0, none⟩ Ws.length C (wcells Ws) (wcells_length Ws) (by
      intro t u hu
      rw [add_zero']
      exact (Below.cell ((Below.refl _ w).alloc (Nat.le_refl _) _) (p := ⟨g, t, none⟩) hg).trans (hc t u hu)) (wcells_one Ws) (by simp [maxLen]; omega) (by omega)
    rw [List.nil_append, Nat.zero_add] at hR5
    have HAP := Lib.hid hap
    have hB : Below w.heap.size w w5 := ((Below.refl _ w).alloc (Nat.le_refl _) _).grown hG5 (by simp) (fun k e => by cases e; exact Nat.le_refl _)
    have hO : ∀ g', v'.ownBlock = some g' → w.heap.size ≤ g' := by
      intro g' h'
      rcases hL5 with h | h
      · rw [h] at h'; cases h'; exact Nat.le_refl _
      · rw [h] at h'; cases h'; simp
    have HR : Row w5 (gives o w.heap.size j) j 64 2 v' Ws.length (wcells Ws) := ⟨hR5.row, fun g' h' => gives_new (hO g' h')⟩
    have hsl : ∃ a C, v' = .slice a Ws.length C := by
      rcases hR5.val with ⟨rfl, h, _⟩ | ⟨g, C, rfl, _⟩
      · exact ⟨none, 0, by rw [h]⟩
      · exact ⟨_, _, rfl⟩
    have HH := Lib.hid (And.intro HR (And.intro hB (And.intro hsl hO)))
    clear hap hR5 hS5 hG5 hL5 hv hc hB hO HR hi hz0 hz1 hz2
    go_enter Try.func27, Try.ntmps27
    go_wp2_with (at_builtin; refine wpList_append_run rfl (.tmp 5) (.tmp 6) _ _ rfl _ _ rfl rfl _ _ HAP.out ?_)
    go_ret
    exact ⟨_, rfl, HH.out⟩

theorem below_undrew {w w' : World} (h : Below w.drew.heap.size w.drew w') : Below w.heap.size w w' := ⟨h.os, h.tape, h.output, h.size, h.block⟩
set_option maxHeartbeats 1000000 in
theorem copy_any' (H : IsM w o i p m v L Ws) (j : Nat) (hW : Ws.length ≤ 1000000) :
    Calls Try.prog 7 #[.pointer (some ⟨p, 0, none⟩)] w fun e w' => ∃ q m' v', e = .returned (.pointer (some ⟨q, 0, none⟩)) ∧ IsM w' (gives o w.heap.size j) j q m' v' L Ws ∧ Below w.heap.size w w' := by
  obtain ⟨a, C, rfl⟩ := H.slot
  have cp := H.c0
  have cv := H.c1
  have hlt := H.ltp
  have C1 := Lib.hid (mclone_any H.drew.hm)
  have C2 := Lib.hid (sclone_any (o := o) j o (H.drew.alloc (.map (ents 0 L).toArray L.length)).hv hW)
  have HH := Lib.hid H; clear H
  go_enter Try.func7, Try.ntmps7
  go_wp2_with fail
  go_region_held3 (fun W => W.cell? ⟨p, 0, none⟩ = some (.map (some m)) ∧ W.cell? ⟨p, 1, none⟩ = some (.slice a Ws.length C)) (first | exact ⟨cp, cv⟩ | exact ⟨cp2, cv2⟩ | exact ⟨cp3, cv3⟩ | exact ⟨(World.grownBy_alloc _ _ none).cell cp3 (by simp), (World.grownBy_alloc _ _ none).cell cv3 (by simp)⟩)
    (first
      | (go_at_call 26; refine C1.out.mono ?_; rintro e w1 ⟨rfl, rfl⟩; have cp2 := (Below.cell ((Below.refl _ w.drew).alloc (Nat.le_refl _) (.map (ents 0 L).toArray L.length)) (p := ⟨p, 0, none⟩) hlt).trans cp; have cv2 := (Below.cell ((Below.refl _ w.drew).alloc (Nat.le_refl _) (.map (ents 0 L).toArray L.length)) (p := ⟨p, 1, none⟩) hlt).trans cv)
      | (go_at_call 27; refine C2.out.mono ?_; rintro e w2 ⟨v2, rfl, hR2, hB2, ⟨a2, D2, rfl⟩, hO2⟩; have cp3 := (hB2.cell (p := ⟨p, 0, none⟩) (by simp; omega)).trans cp2; have cv3 := (hB2.cell (p := ⟨p, 1, none⟩) (by simp; omega)).trans cv2))
  go_wp2_with fail
  go_ret
  have hH := HH.out
  have hm2 : IsMap w2 w.heap.size L := (hB2.block w.heap.size (by simp)).trans (heap_alloc_new w.drew (.map (ents 0 L).toArray L.length))
  have hB : Below w.heap.size w w2 := below_undrew (((Below.refl _ w.drew).alloc (Nat.le_refl _) _).trans (hB2.mono (by simp)))
  refine ⟨_, _, _, rfl, ⟨heap_alloc_new w2 _, ?_, ?_, gives_new hB.size, gives_new (Nat.le_refl _), hH.n1, hH.n2, hH.sz, hH.ws⟩, hB.alloc hB.size _⟩
  · exact (Below.heap_alloc w2 _ _ (Array.getElem?_eq_some_iff.1 hm2).1).trans hm2
  · exact Row.reads ⟨hR2.row, fun g hg => gives_new (Nat.le_trans (by simp) (hO2 g hg))⟩ ((Below.refl _ w2).alloc (Nat.le_refl _) _)
end
end Go.Proofs.Ytbenaagooankbaa
