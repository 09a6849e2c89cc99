/-
  Package bits: Taken, Free; the document's Ints.
-/
import Derived.Test.YtdjoiabbchnhaaaH3
namespace Go.Proofs.Ytdjoiabbchnhaaa
open Go.RowKit Go.Shelf

attribute [local go_sem] Oper.semAt_some

/-- out = append(out, ..), where the variable's box lies below the row's base -/
theorem boxed_appended {W w1 : World} {base B : Nat} {t e : TypeId} {size : Nat} {v v' : Value} {k m : Nat} {xs ys : List Value} {tmp : Obj} (hv : Boxed W B t v) (hBb : B < base) (hrow : W.ownsRow base e size v k xs)
    (hbase : base ≤ W.heap.size) (hown' : w1.ownsRow base e size v' m ys) (hgrow : (W.alloc tmp).grownBy w1 v.ownBlock) :
    Boxed w1 B t v ∧ Boxed (w1.setCell ⟨B, 0, none⟩ v') B t v' ∧ (w1.setCell ⟨B, 0, none⟩ v').ownsRow base e size v' m ys ∧ KeepsOthers W (w1.setCell ⟨B, 0, none⟩ v') ∧
      (∀ n, n ≤ B → Below n W (w1.setCell ⟨B, 0, none⟩ v')) ∧ ∀ j, j < base → j ≠ B → (w1.setCell ⟨B, 0, none⟩ v').heap[j]? = W.heap[j]? := by
  have hob : ∀ j, some j = v.ownBlock → base ≤ j := by
    intro j ej
    rcases hrow.2 with ⟨rfl, _⟩ | ⟨g, cap, cur, rfl, hb, _⟩
    · simp [Value.ownBlock] at ej
    · cases ej; exact hb
  have hob' : ∀ j, some j = v'.ownBlock → base ≤ j := by
    intro j ej
    rcases hown'.2 with ⟨rfl, _⟩ | ⟨g, cap, cur, rfl, hb, _⟩
    · simp [Value.ownBlock] at ej
    · cases ej; exact hb
  have hv1 : Boxed w1 B t v := (hv.alloc tmp).kept hgrow (fun ej => by have := hob B ej; omega)
  have hblk : ∀ j, j < base → w1.heap[j]? = W.heap[j]? := fun j hj =>
    (hgrow.block j (by simp; omega) (fun ej => by have := hob j ej; omega)).trans (Below.heap_alloc W tmp j (by omega))
  refine ⟨hv1, hv1.set v', hown'.kept (grownBy_setCell' w1 B v') (.inr (fun ej => by have := hob' B ej.symm; omega)), ?_, ?_, ?_⟩
  · refine ((KeepsOthers.alloc W tmp).trans (KeepsOthers.of_grownBy hgrow fun j o ej hj => ?_)).trans (KeepsOthers.setCell _ _ _)
    rcases (hrow.alloc tmp).2 with ⟨rfl, _⟩ | ⟨g, cap, cur, rfl, _, hgb, _⟩
    · simp [Value.ownBlock] at ej
    · obtain rfl : g = j := by simpa [Value.ownBlock] using ej
      rw [hgb] at hj; cases hj; rfl
  · intro n hn
    have g2 := grownBy_setCell' w1 B v'
    have g1 := World.grownBy_alloc W tmp none
    refine ⟨g2.os.trans (hgrow.os.trans g1.os), g2.tape.trans (hgrow.tape.trans g1.tape), g2.output.trans (hgrow.output.trans g1.output), Nat.le_trans g1.size (Nat.le_trans hgrow.size g2.size), fun j hj => ?_⟩
    exact (Below.heap_setCell w1 _ v' j (by show j ≠ B; omega)).trans (hblk j (by omega))
  · intro j hj hne
    exact (Below.heap_setCell w1 _ v' j hne).trans (hblk j hj)

/-- a []int that reads as l -/
def IsInts (w : World) (v : Value) (l : List Int) : Prop :=
  (v = .slice none 0 0 ∧ l = []) ∨ ∃ g C, v = .slice (some ⟨g, 0, none⟩) l.length C ∧ ∀ j x, l[j]? = some x → w.cell? ⟨g, j, none⟩ = some (.int .i64 x)
theorem IsInts.below {w w' : World} {v : Value} {l : List Int} (h : IsInts w v l) (b : Below w.heap.size w w') : IsInts w' v l := by
  rcases h with h | ⟨g, C, h1, h2⟩
  · exact .inl h
  · refine .inr ⟨g, C, h1, fun j x hj => ?_⟩
    have := h2 j x hj
    obtain ⟨o, ho, _⟩ := cells_of_cell this
    exact (b.cell (p := ⟨g, j, none⟩) (Array.getElem?_eq_some_iff.1 ho).1).trans this
theorem isInts_of_row {w : World} {base : Nat} {v : Value} {l : List Int} (h : w.ownsRow base 3 1 v l.length (l.map (Value.int .i64))) : IsInts w v l := by
  rcases h.2 with ⟨rfl, h0⟩ | ⟨g, cap, cur, rfl, _, hg, h1, _, h3, h4⟩
  · exact .inl ⟨rfl, List.eq_nil_of_length_eq_zero h0⟩
  · refine .inr ⟨g, cap, rfl, fun j x hj => ?_⟩
    have hlt : j < l.length := (List.getElem?_eq_some_iff.1 hj).1
    have e1 : (cur.toList.take (l.length * 1))[j]? = (l.map (Value.int .i64))[j]? := by rw [h4]
    rw [List.getElem?_take_of_lt (by omega), Array.getElem?_toList, List.getElem?_map, hj] at e1
    simp [World.cell?, hg, e1]

/-- the pages that are taken -/
def takenOf (L : List Bool) : List Nat := (List.range L.length).filter (tk L)
def takenIn {L : List Bool} (pre : List (Pg L)) : List Int := (pre.filter (fun y => tk L y.1)).map (fun y => (y.1 : Int))
theorem takenIn_hit {L : List Bool} (pre : List (Pg L)) (x : Pg L) (h : tk L x.1 = true) : takenIn (pre ++ [x]) = takenIn pre ++ [(x.1 : Int)] := by simp [takenIn, h]
theorem takenIn_miss {L : List Bool} (pre : List (Pg L)) (x : Pg L) (h : tk L x.1 = false) : takenIn (pre ++ [x]) = takenIn pre := by simp [takenIn, h]
theorem takenIn_length {L : List Bool} (pre : List (Pg L)) : (takenIn pre).length ≤ pre.length := by unfold takenIn; rw [List.length_map]; exact List.length_filter_le _ _
theorem rnd_vals (L : List Bool) (h : 1 ≤ L.length) (k : Nat) (hk : k ≤ L.length) : (rnd L h 0 k).map (·.1) = List.range k := by
  simp only [rnd, List.map_map]
  have : ∀ s ∈ List.range k, ((·.1) ∘ fun s => (⟨(0 + s) % L.length, Nat.mod_lt _ h⟩ : Pg L)) s = id s := by
    intro s hs
    rw [List.mem_range] at hs
    show (0 + s) % L.length = s
    rw [Nat.zero_add]; exact Nat.mod_eq_of_lt (by omega)
  rw [List.map_congr_left this, List.map_id]
theorem takenIn_all (L : List Bool) (h : 1 ≤ L.length) : takenIn (rnd L h 0 L.length) = (takenOf L).map (fun i : Nat => (i : Int)) := by
  unfold takenIn takenOf
  rw [← rnd_vals L h L.length (Nat.le_refl _), List.filter_map, List.map_map]
  rfl
theorem info_int : (Try.prog.info? 3).map (fun i => (i.zero, i.size, i.bytes)) = some (some (.int .i64 0), 1, 8) := by kernel_rfl

set_option maxRecDepth 100000 in
set_option maxHeartbeats 2000000 in
theorem taken_any (w : World) (p b : Nat) (L : List Bool) (H : IsB w p b L) :
    Calls Try.prog 21 #[.pointer (some ⟨p, 0, none⟩)] w fun e w' => ∃ v, e = .returned v ∧ IsInts w' v ((takenOf L).map (fun i : Nat => (i : Int))) ∧ Below w.heap.size w w' := by
  have hL := H.n1
  have hn2 := H.n2
  have HH := Lib.hid H
  have hlp := H.ltp
  have hlb := H.ltb
  clear H
  obtain ⟨i0, hi, hz0, hz1, hz2⟩ := info_parts info_int
  refine (callsIn_wide (n := 6)).1 ?_
  refine callsIn_of_wp_marks Try.func21 rfl trivial ?_ rfl
  simp only [Try.ntmps21, List.size_toArray, List.length_cons, List.length_nil, Nat.reduceAdd, Nat.reduceSub, Array.replicate_succ, Array.replicate_zero, List.push_toArray, List.append_toArray, List.nil_append, List.cons_append]
  gi_wp2
  refine ⟨trivial, ?_⟩
  refine (callsIn_wide.2 (round_any p 0 _)).mono ?_
  rintro e w' ⟨rfl, rfl⟩
  have bO := Boxed.new w 39 (.slice none 0 0)
  have hB0 : Below w.heap.size w (w.alloc (.cells #[.slice none 0 0] 39)) := (Below.refl _ w).alloc (Nat.le_refl _) _
  have hs0 : (w.alloc (.cells #[.slice none 0 0] 39)).heap.size = w.heap.size + 1 := by simp
  generalize w.alloc (.cells #[.slice none 0 0] 39) = W0 at *
  have bp := (Boxed.new W0 23 (.pointer (some ⟨p, 0, none⟩))).alloc (.cells #[.int .i64 ((0 : Nat) : Int)] 3)
  have bf := Boxed.new (W0.alloc (.cells #[.pointer (some ⟨p, 0, none⟩)] 23)) 3 (.int .i64 ((0 : Nat) : Int))
  rw [World.size_alloc] at bf
  rw [hs0] at bp bf
  have hB1 := (hB0.alloc (o := .cells #[.pointer (some ⟨p, 0, none⟩)] 23) (by omega)).alloc (o := .cells #[.int .i64 ((0 : Nat) : Int)] 3) (by simp; omega)
  have bO' := (bO.alloc (.cells #[.pointer (some ⟨p, 0, none⟩)] 23)).alloc (.cells #[.int .i64 ((0 : Nat) : Int)] 3)
  have hs1 : ((W0.alloc (.cells #[.pointer (some ⟨p, 0, none⟩)] 23)).alloc (.cells #[.int .i64 ((0 : Nat) : Int)] 3)).heap.size = w.heap.size + 3 := by simp; omega
  clear bO
  generalize (W0.alloc (.cells #[.pointer (some ⟨p, 0, none⟩)] 23)).alloc (.cells #[.int .i64 ((0 : Nat) : Int)] 3) = W1 at *
  gi_wp2
  refine wpIn_rangeFunc_ownF rfl (by omega) (gf := 37) (lb := #[.pointer (some ⟨w.heap.size + 1, 0, none⟩), .pointer (some ⟨w.heap.size + 1 + 1, 0, none⟩)]) rfl trivial (enters_of Try.func37 (by kernel_rfl) rfl)
    (round_stops 5 (w.heap.size + 1) (w.heap.size + 1 + 1) p b L hL 0 (by omega) (by omega) W1 bp bf (HH.out.grew hB1)) KeepS.trans (keepS_b (by intro k hk; simp at hk; rw [hs1]; omega)) (Below.refl _ _) (fun _ => rfl)
    (fun pre W => (∃ v, Boxed W w.heap.size 39 v ∧ W.ownsRow (w.heap.size + 3) 3 1 v (takenIn pre).length ((takenIn pre).map (Value.int .i64)) ∧ True) ∧ Below w.heap.size w W ∧ w.heap.size + 3 ≤ W.heap.size)
    (fun _ _ _ => False)
    (OwnFrom.and (Own.from (holdsRow_own (w.heap.size + 3) w.heap.size 39 3 1 (fun pre => (takenIn pre).length) (fun pre => (takenIn pre).map (Value.int .i64)) (fun _ _ => True)) _) (OwnFrom.and (ownFrom_below (Nat.le_refl _) (by omega)) (fun s A B row hs hg hr => Nat.le_trans hs hg.size)))
    (fun _ _ _ _ _ hs _ _ => hs)
    ⟨⟨_, bO', World.ownsRow_nil _ _ _ _, trivial⟩, hB1, by omega⟩
    (fun x => { tmps := #[.pointer (some ⟨p, 0, none⟩), undef, .slice none 0 0, .pointer (some ⟨w.heap.size, 0, none⟩), .int .i64 (x.1 : Int), .bool (tk L x.1), .pointer (some ⟨p, 0, none⟩), .func (.func 37) #[] #[.pointer (some ⟨w.heap.size + 1, 0, none⟩), .pointer (some ⟨w.heap.size + 1 + 1, 0, none⟩)], .int .i64 (x.1 : Int), .bool (tk L x.1), undef, undef, undef, undef, undef, undef], defers := [] }) ?assign ?body ?done ?stop
  case assign =>
    intro l x W K hK
    gi_wp2
    exact hK
  case body =>
    rintro l pre x W ⟨⟨v, hv, hrow, _⟩, hB, hsz⟩ hlt
    have hc := hv.cell
    have hpl := takenIn_length pre
    cases ht : tk L x.1 with
    | true =>
      gi_wp2_with (gi_at_builtin; refine wpListIn_append_own _ rfl _ _ 39 rfl (w.heap.size + 3) 3 i0 (.int .i64 0) 1 8 Try.underlying39 hi hz0 hz1 hz2 rfl (by decide) _ _ _ rfl (hrow.alloc _) ⟨W.heap.size, 0, none⟩ 1 1 [.int .i64 (x.1 : Int)] rfl rfl (cell_one_new _ _ _) (by simp [Value.oneCell']) (by simp [maxLen]; omega) (by omega) (by simp; omega) ?_; intro v' w1 hown' hgrow _; obtain ⟨g', cap', rfl⟩ := ownsRow_succ hown'; obtain ⟨hv1, hv2, hr2, hk2, hb2, hb3⟩ := boxed_appended hv (by omega) hrow hsz hown' hgrow; have hc1 := hv1.cell; have hf1 := hv1.frozen)
      refine ⟨hk2, ?_, ⟨_, hv2, by rw [takenIn_hit pre x ht]; simpa using hr2, trivial⟩, hB.trans (hb2 _ (Nat.le_refl _)), Nat.le_trans hsz (hb2 0 (Nat.zero_le _)).size⟩
      intro k hk
      simp at hk
      exact hb3 k (by omega) (by omega)
    | false =>
      gi_wp2
      exact ⟨KeepsOthers.refl _, KeepS.refl _ _, ⟨v, hv, by rw [takenIn_miss pre x ht]; exact hrow, trivial⟩, hB, hsz⟩
  case done =>
    rintro D ys W hD rfl ⟨⟨v, hv, hrow, _⟩, hB, _⟩ hK
    have hc := hv.cell
    gi_wp2
    refine ⟨by simp, .inl ⟨_, _, rfl, run_takeDeferred hK, ?_⟩⟩
    refine ⟨_, results_tmp rfl _ _ _, v, rfl, ?_, hB.trans (belowK_b (w := w) (Nat.le_refl _) W D _ _ (by omega) hK rfl rfl)⟩
    have := isInts_of_row (ownsRow_putObj hrow (.deferred none) hK rfl)
    rwa [takenIn_all] at this
  case stop =>
    rintro D c pre W _ _ h _
    exact h.elim
end Go.Proofs.Ytdjoiabbchnhaaa
