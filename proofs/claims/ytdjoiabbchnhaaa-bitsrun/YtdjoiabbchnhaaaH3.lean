/-
  Package bits: Take, Taken, Free, Run.
-/
import Derived.Test.YtdjoiabbchnhaaaH2
namespace Go.Proofs.Ytdjoiabbchnhaaa
open Go.RowKit Go.Shelf

attribute [local go_sem] Oper.semAt_some

theorem ownFrom_isB {β : Type} (B p b : Nat) (f : β → List Bool) : OwnFrom B (fun s W => IsB W p b (f s)) := fun s W W' row hs hg hr => by
  refine hs.kept (hg.block p hs.ltp ?_) (hg.block b hs.ltb ?_)
  · intro e; obtain ⟨_, o, ho, hc⟩ := hr p e.symm
    obtain ⟨C, cur, h1, _⟩ := hs.ex
    rw [h1] at ho; cases ho; cases hc
  · intro e; obtain ⟨_, o, ho, hc⟩ := hr b e.symm
    obtain ⟨C, cur, _, h2, _⟩ := hs.ex
    rw [h2] at ho; cases ho; cases hc
theorem ownFrom_grown {β : Type} (B c : Nat) (w : World) (hB : w.heap.size ≤ B) : OwnFrom B (fun (_ : β) W => w.grownBy W (some c)) := fun s W W' row hs hg hr =>
  ⟨hg.os.trans hs.os, hg.tape.trans hs.tape, hg.output.trans hs.output, Nat.le_trans hs.size hg.size, fun k hk e => (hg.block k (Nat.lt_of_lt_of_le hk hs.size) (fun e' => by have := (hr k e'.symm).1; omega)).trans (hs.block k hk e)⟩
theorem grown_putObj {w W : World} {c D : Nat} {o : Obj} (h : w.grownBy W (some c)) (hD : w.heap.size ≤ D) : w.grownBy (W.putObj D o) (some c) :=
  ⟨h.os, h.tape, h.output, by simpa using h.size, fun k hk e => (World.putObj_heap_other (by omega)).trans (h.block k hk e)⟩
theorem isB_putObj {W : World} {p b D : Nat} {L : List Bool} {o o' : Obj} (h : IsB W p b L) (hD : W.heap[D]? = some o) (ho : o.isCells = false) : IsB (W.putObj D o') p b L := by
  obtain ⟨C, cur, h1, h2, _⟩ := h.ex
  refine h.kept (World.putObj_heap_other ?_) (World.putObj_heap_other ?_)
  · intro e; subst e; rw [h1] at hD; cases hD; cases ho
  · intro e; subst e; rw [h2] at hD; cases hD; cases ho

theorem grown_setNew {w W : World} {c : Option Nat} (h : w.grownBy W c) (B j : Nat) (v : Value) (hB : w.heap.size ≤ B) : w.grownBy (W.setCell ⟨B, j, none⟩ v) c :=
  have g := grownBy_setCell_any W B j v
  ⟨h.os, h.tape, h.output, Nat.le_trans h.size g.size, fun k hk e => (Below.heap_setCell W _ v k (by show k ≠ B; omega)).trans (h.block k hk e)⟩
theorem isB_setOther {W : World} {p b B j : Nat} {L : List Bool} (h : IsB W p b L) (v : Value) (hp : p ≠ B) (hb : b ≠ B) : IsB (W.setCell ⟨B, j, none⟩ v) p b L :=
  h.kept (Below.heap_setCell W _ v p hp) (Below.heap_setCell W _ v b hb)
theorem boxed_setOther {W : World} {B A : Nat} {t : TypeId} {u : Value} (h : Boxed W B t u) (v : Value) (hne : B ≠ A) : Boxed (W.setCell ⟨A, 0, none⟩ v) B t u := (Below.heap_setCell W _ v B hne).trans h
/-- the last page that came -/
def lastp {L : List Bool} (pre : List (Pg L)) : Nat := match pre.getLast? with | some x => x.1 | none => 0
theorem lastp_snoc {L : List Bool} (pre : List (Pg L)) (x : Pg L) : lastp (pre ++ [x]) = x.1 := by simp [lastp]
theorem isB_cells {W : World} {p b : Nat} {L : List Bool} (h : IsB W p b L) (j : Nat) (o : Obj) (e : some b = some j) (ho : W.heap[j]? = some o) : o.isCells = true := by
  cases e
  obtain ⟨C, cur, _, h2, _⟩ := h.ex
  rw [h2] at ho; cases ho; rfl

set_option maxRecDepth 100000 in
set_option maxHeartbeats 2000000 in
theorem take_arg (w : World) (p b : Nat) (L : List Bool) (H : IsB w p b L) (i : Int) (h : i < 0 ∨ (L.length : Int) ≤ i) :
    Calls Try.prog 11 #[.pointer (some ⟨p, 0, none⟩), .int .i64 i] w fun e w' => e = .returned (.tuple #[.int .i64 0, .int .i64 1]) ∧ Below w.heap.size w w' := by
  have C1 := Lib.hid (fun w' HH => has_no w' p b L HH i h)
  have HH := Lib.hid H
  clear H h
  refine (callsIn_wide (n := 6)).1 ?_
  refine callsIn_of_wp_marks Try.func11 rfl trivial ?_ rfl
  simp only [Try.ntmps11, List.size_toArray, List.length_cons, List.length_nil, Nat.reduceAdd, Nat.reduceSub, Array.replicate_succ, Array.replicate_zero, List.push_toArray, List.append_toArray, List.nil_append, List.cons_append]
  gi_wp2
  refine ⟨trivial, ?_⟩
  have hB0 : Below w.heap.size w (((w.alloc (.cells #[.pointer (some ⟨p, 0, none⟩)] 23)).alloc (.cells #[.int .i64 0] 3)).alloc (.cells #[.int .i64 0] 24)) := (((Below.refl _ w).alloc (Nat.le_refl _) _).alloc (by simp) _).alloc (by simp; omega) _
  refine (callsIn_wide.2 (C1.out _ (HH.out.grew hB0))).mono ?_
  rintro e w' ⟨rfl, rfl⟩
  gi_wp2
  refine ⟨_, by simp [results, Try.f11, go_sem], rfl, ?_⟩
  exact (((Below.refl _ w).alloc (Nat.le_refl _) _).alloc (by simp) _).alloc (by simp; omega) _
set_option maxRecDepth 100000 in
set_option maxHeartbeats 2000000 in
theorem take_any (w : World) (p b : Nat) (L : List Bool) (H : IsB w p b L) (fr : Nat) (hfr : fr < L.length) :
    Calls Try.prog 11 #[.pointer (some ⟨p, 0, none⟩), .int .i64 (fr : Int)] w fun e w' =>
      (∃ k, k < L.length ∧ (∀ s, s < k → tk L ((fr + s) % L.length) = true) ∧ tk L ((fr + k) % L.length) = false ∧ e = .returned (.tuple #[.int .i64 (((fr + k) % L.length : Nat) : Int), .int .i64 0]) ∧
        IsB w' p b (L.set ((fr + k) % L.length) true) ∧ w.grownBy w' (some b)) ∨
      ((∀ s, s < L.length → tk L ((fr + s) % L.length) = true) ∧ e = .returned (.tuple #[.int .i64 0, .int .i64 6]) ∧ Below w.heap.size w w') := by
  have hL := H.n1
  have C1 := Lib.hid (fun w' HH => has_yes w' p b L HH fr hfr)
  have HH := Lib.hid H
  clear H
  refine (callsIn_wide (n := 6)).1 ?_
  refine callsIn_of_wp_marks Try.func11 rfl trivial ?_ rfl
  simp only [Try.ntmps11, List.size_toArray, List.length_cons, List.length_nil, Nat.reduceAdd, Nat.reduceSub, Array.replicate_succ, Array.replicate_zero, List.push_toArray, List.append_toArray, List.nil_append, List.cons_append]
  gi_wp2
  refine ⟨trivial, ?_⟩
  have hB0 : Below w.heap.size w (((w.alloc (.cells #[.pointer (some ⟨p, 0, none⟩)] 23)).alloc (.cells #[.int .i64 0] 3)).alloc (.cells #[.int .i64 0] 24)) := (((Below.refl _ w).alloc (Nat.le_refl _) _).alloc (by simp) _).alloc (by simp; omega) _
  refine (callsIn_wide.2 (C1.out _ (HH.out.grew hB0))).mono ?_
  rintro e w' ⟨rfl, rfl⟩
  have b2 : Boxed (((w.alloc (.cells #[.pointer (some ⟨p, 0, none⟩)] 23)).alloc (.cells #[.int .i64 0] 3)).alloc (.cells #[.int .i64 0] 24)) w.heap.size 23 (.pointer (some ⟨p, 0, none⟩)) := ((Boxed.new w _ _).alloc _).alloc _
  have b4 : Boxed (((w.alloc (.cells #[.pointer (some ⟨p, 0, none⟩)] 23)).alloc (.cells #[.int .i64 0] 3)).alloc (.cells #[.int .i64 0] 24)) (w.heap.size + 1) 3 (.int .i64 0) := by
    have := (Boxed.new (w.alloc (.cells #[.pointer (some ⟨p, 0, none⟩)] 23)) 3 (.int .i64 0)).alloc (.cells #[.int .i64 0] 24)
    rwa [World.size_alloc] at this
  have b5 : Boxed (((w.alloc (.cells #[.pointer (some ⟨p, 0, none⟩)] 23)).alloc (.cells #[.int .i64 0] 3)).alloc (.cells #[.int .i64 0] 24)) (w.heap.size + 1 + 1) 24 (.int .i64 0) := by
    have := Boxed.new ((w.alloc (.cells #[.pointer (some ⟨p, 0, none⟩)] 23)).alloc (.cells #[.int .i64 0] 3)) 24 (.int .i64 0)
    rwa [World.size_alloc, World.size_alloc] at this
  have hs0 : ((((w.alloc (.cells #[.pointer (some ⟨p, 0, none⟩)] 23)).alloc (.cells #[.int .i64 0] 3)).alloc (.cells #[.int .i64 0] 24))).heap.size = w.heap.size + 3 := by simp
  generalize (((w.alloc (.cells #[.pointer (some ⟨p, 0, none⟩)] 23)).alloc (.cells #[.int .i64 0] 3)).alloc (.cells #[.int .i64 0] 24)) = W0 at *
  have c2 := b2.cell
  gi_wp2
  refine ⟨trivial, ?_⟩
  refine (callsIn_wide.2 (round_any p fr W0)).mono ?_
  rintro e w' ⟨rfl, rfl⟩
  have bp := (Boxed.new W0 23 (.pointer (some ⟨p, 0, none⟩))).alloc (.cells #[.int .i64 (fr : Int)] 3)
  have bf := Boxed.new (W0.alloc (.cells #[.pointer (some ⟨p, 0, none⟩)] 23)) 3 (.int .i64 (fr : Int))
  rw [World.size_alloc] at bf
  rw [hs0] at bp bf
  have hB1 := (hB0.alloc (o := .cells #[.pointer (some ⟨p, 0, none⟩)] 23) (by omega)).alloc (o := .cells #[.int .i64 (fr : Int)] 3) (by simp; omega)
  have b2' := (b2.alloc (.cells #[.pointer (some ⟨p, 0, none⟩)] 23)).alloc (.cells #[.int .i64 (fr : Int)] 3)
  have b4' := (b4.alloc (.cells #[.pointer (some ⟨p, 0, none⟩)] 23)).alloc (.cells #[.int .i64 (fr : Int)] 3)
  have b5' := (b5.alloc (.cells #[.pointer (some ⟨p, 0, none⟩)] 23)).alloc (.cells #[.int .i64 (fr : Int)] 3)
  have hs1 : ((W0.alloc (.cells #[.pointer (some ⟨p, 0, none⟩)] 23)).alloc (.cells #[.int .i64 (fr : Int)] 3)).heap.size = w.heap.size + 5 := by simp; omega
  have hlp := HH.out.ltp
  have hlb := HH.out.ltb
  clear b2 b4 b5 c2
  generalize (W0.alloc (.cells #[.pointer (some ⟨p, 0, none⟩)] 23)).alloc (.cells #[.int .i64 (fr : Int)] 3) = W1 at *
  gi_wp2
  refine wpIn_rangeFunc_ownF rfl (by omega) (gf := 37) (lb := #[.pointer (some ⟨w.heap.size + 3, 0, none⟩), .pointer (some ⟨w.heap.size + 3 + 1, 0, none⟩)]) rfl trivial (enters_of Try.func37 (by kernel_rfl) rfl)
    (round_stops 5 (w.heap.size + 3) (w.heap.size + 3 + 1) p b L hL fr hfr (by omega) W1 bp bf (HH.out.grew hB1)) KeepS.trans (keepS_b (by intro k hk; simp at hk; rw [hs1]; omega)) (Below.refl _ _) (fun _ => rfl)
    (fun pre W => (∀ y ∈ pre, tk L y.1 = true) ∧ Boxed W w.heap.size 23 (.pointer (some ⟨p, 0, none⟩)) ∧ Boxed W (w.heap.size + 1) 3 (.int .i64 0) ∧ Boxed W (w.heap.size + 1 + 1) 24 (.int .i64 0) ∧ Below w.heap.size w W)
    (fun c pre W => (c = .ret ∧ ∃ pre' x, pre = pre' ++ [x] ∧ (∀ y ∈ pre', tk L y.1 = true) ∧ tk L x.1 = false) ∧ Boxed W (w.heap.size + 1) 3 (.int .i64 (lastp pre : Int)) ∧ Boxed W (w.heap.size + 1 + 1) 24 (.int .i64 0) ∧ IsB W p b (L.set (lastp pre) true) ∧ w.grownBy W (some b))
    (OwnFrom.and (ownFrom_pure _ _) (OwnFrom.and (Own.from (boxed_own _ _ (fun _ => _)) _) (OwnFrom.and (Own.from (boxed_own _ _ (fun _ => _)) _) (OwnFrom.and (Own.from (boxed_own _ _ (fun _ => _)) _) (ownFrom_below (Nat.le_refl _) (by omega))))))
    (fun c => OwnFrom.and (ownFrom_pure _ _) (OwnFrom.and (Own.from (boxed_own _ _ (fun pre => .int .i64 (lastp pre : Int))) _) (OwnFrom.and (Own.from (boxed_own _ _ (fun _ => _)) _) (OwnFrom.and (ownFrom_isB _ _ _ _) (ownFrom_grown _ _ _ (by omega))))))
    ⟨by simp, b2', b4', b5', hB1⟩
    (fun x => { tmps := #[.pointer (some ⟨p, 0, none⟩), .int .i64 (fr : Int), .pointer (some ⟨w.heap.size, 0, none⟩), undef, .pointer (some ⟨w.heap.size + 1, 0, none⟩), .pointer (some ⟨w.heap.size + 1 + 1, 0, none⟩), .int .i64 (x.1 : Int), .bool (tk L x.1), .pointer (some ⟨p, 0, none⟩), .int .i64 (fr : Int), .bool true, .bool false, .pointer (some ⟨p, 0, none⟩), .int .i64 (fr : Int), .func (.func 37) #[] #[.pointer (some ⟨w.heap.size + 3, 0, none⟩), .pointer (some ⟨w.heap.size + 3 + 1, 0, none⟩)], .int .i64 (x.1 : Int), .bool (tk L x.1), undef, undef, undef, undef, undef, undef], defers := [] }) ?assign ?body ?done ?stop
  case assign =>
    intro l x W K hK
    gi_wp2
    exact hK
  case body =>
    rintro l pre x W ⟨hall, d2, d4, d5, hB⟩ _
    have hX := HH.out.grew hB
    have hsz := hB.size
    cases ht : tk L x.1 with
    | true =>
      gi_wp2
      exact ⟨KeepsOthers.refl _, KeepS.refl _ _, fun y hy => (List.mem_append.1 hy).elim (hall y) (fun e => by simp at e; subst e; exact ht), d2, d4, d5, hB⟩
    | false =>
      have e2 := d2.cell
      gi_wp2
      refine ⟨trivial, ?_⟩
      refine (CallsIn.inRound l (callsIn_wide.2 (takeAt_ok W p b L hX x.1 x.2 ht))).mono ?_
      rintro e w' ⟨rfl, hI', hg'⟩
      have f4 := d4.kept hg' (by simp; omega)
      have f5 := d5.kept hg' (by simp; omega)
      have c4 := f4.cell
      have z4 := f4.frozen
      have c5 := f5.cell
      have z5 := f5.frozen
      have hgw := grown_then (grown_of_below hB (some b)) hg'
      gi_wp2
      refine ⟨?_, ⟨rfl, pre, x, rfl, hall, ht⟩, ?_, ?_, ?_, ?_⟩
      · exact ((KeepsOthers.of_grownBy hg' (fun j o e ho => isB_cells hX j o e ho)).trans (KeepsOthers.setCell _ _ _)).trans (KeepsOthers.setCell _ _ _)
      · rw [lastp_snoc]; exact boxed_setOther (f4.set _) _ (by omega)
      · exact (boxed_setOther f5 _ (by omega)).set _
      · rw [lastp_snoc]; exact isB_setOther (isB_setOther hI' _ (by omega) (by omega)) _ (by omega) (by omega)
      · exact grown_setNew (grown_setNew hgw _ _ _ (by omega)) _ _ _ (by omega)
  case done =>
    rintro D ys W hD rfl ⟨hall, d2, d4, d5, hB⟩ hK
    have c4 := d4.cell
    have z4 := d4.frozen
    have c5 := d5.cell
    have z5 := d5.frozen
    gi_wp2
    have hK' := (KeepsOthers.setCell (W.setCell ⟨w.heap.size + 1, 0, none⟩ (.int .i64 0)) ⟨w.heap.size + 1 + 1, 0, none⟩ (.int .i64 6)).same D _ ((KeepsOthers.setCell W ⟨w.heap.size + 1, 0, none⟩ (.int .i64 0)).same D _ hK rfl) rfl
    refine ⟨by simp, .inl ⟨_, _, rfl, run_takeDeferred hK', ?_⟩⟩
    have g4 := (boxed_setOther (d4.set (.int .i64 0)) (.int .i64 6) (show w.heap.size + 1 ≠ w.heap.size + 1 + 1 by omega)).kept (grownBy_putObj' _ D (.deferred none)) (by simp; omega)
    have g5 := ((boxed_setOther d5 (.int .i64 0) (show w.heap.size + 1 + 1 ≠ w.heap.size + 1 by omega)).set (.int .i64 6)).kept (grownBy_putObj' _ D (.deferred none)) (by simp; omega)
    have q4 := g4.cell
    have q5 := g5.cell
    refine ⟨.tuple #[.int .i64 0, .int .i64 6], by simp [results, Try.f11, go_sem, q4, q5], .inr ⟨?_, rfl, ?_⟩⟩
    · intro s hs
      exact hall _ (rnd_mem L hL fr L.length s hs)
    · exact ((hB.setCell (p := ⟨w.heap.size + 1, 0, none⟩) (by simp) _).setCell (p := ⟨w.heap.size + 1 + 1, 0, none⟩) (by simp; omega) _).trans (belowK_b (w := w) (Nat.le_refl _) _ D _ _ (by omega) hK' rfl rfl)
  case stop =>
    rintro D c pre W hD hpre ⟨⟨rfl, pre', x, rfl, hall, hx⟩, d4, d5, hI, hg⟩ hK
    rw [lastp_snoc] at d4 hI
    gi_wp2
    refine ⟨by simp, .inl ⟨_, _, rfl, run_takeDeferred hK, ?_⟩⟩
    have g4 := d4.kept (grownBy_putObj' _ D (.deferred none)) (by simp; omega)
    have g5 := d5.kept (grownBy_putObj' _ D (.deferred none)) (by simp; omega)
    have q4 := g4.cell
    have q5 := g5.cell
    obtain ⟨e1, e2⟩ := rnd_of_prefix L hL fr L.length _ hpre
    rw [List.length_append, List.length_singleton] at e1 e2
    rw [rnd_succ] at e1
    obtain ⟨ea, eb⟩ := List.append_inj e1 (by rw [rnd_length])
    have ex : x.1 = (fr + pre'.length) % L.length := by
      have : x = ⟨(fr + pre'.length) % L.length, Nat.mod_lt _ hL⟩ := by simpa using eb
      rw [this]
    refine ⟨.tuple #[.int .i64 (x.1 : Int), .int .i64 0], by simp [results, Try.f11, go_sem, q4, q5], .inl ⟨pre'.length, by omega, ?_, by rw [← ex]; exact hx, by rw [← ex], by rw [← ex]; exact isB_putObj hI hK rfl, grown_putObj hg (by omega)⟩⟩
    intro s hs
    have := rnd_mem L hL fr pre'.length s hs
    rw [← ea] at this
    exact hall _ this
theorem take_ok (w : World) (p b : Nat) (L : List Bool) (H : IsB w p b L) (fr : Nat) (hfr : fr < L.length) (k : Nat) (hk : k < L.length) (hpre : ∀ s, s < k → tk L ((fr + s) % L.length) = true) (hf : tk L ((fr + k) % L.length) = false) :
    Calls Try.prog 11 #[.pointer (some ⟨p, 0, none⟩), .int .i64 (fr : Int)] w fun e w' => e = .returned (.tuple #[.int .i64 (((fr + k) % L.length : Nat) : Int), .int .i64 0]) ∧ IsB w' p b (L.set ((fr + k) % L.length) true) ∧ w.grownBy w' (some b) := by
  refine (take_any w p b L H fr hfr).mono ?_
  rintro e w' (⟨m, hm, h1, h2, h3⟩ | ⟨h1, _⟩)
  · have : m = k := by
      rcases Nat.lt_trichotomy m k with h | h | h
      · rw [hpre m h] at h2; cases h2
      · exact h
      · rw [h1 k h] at hf; cases hf
    subst this; exact h3
  · rw [h1 k hk] at hf; cases hf
theorem take_full (w : World) (p b : Nat) (L : List Bool) (H : IsB w p b L) (fr : Nat) (hfr : fr < L.length) (hall : ∀ s, s < L.length → tk L s = true) :
    Calls Try.prog 11 #[.pointer (some ⟨p, 0, none⟩), .int .i64 (fr : Int)] w fun e w' => e = .returned (.tuple #[.int .i64 0, .int .i64 6]) ∧ Below w.heap.size w w' := by
  refine (take_any w p b L H fr hfr).mono ?_
  rintro e w' (⟨m, hm, h1, h2, h3⟩ | ⟨_, h⟩)
  · rw [hall _ (Nat.mod_lt _ (by omega))] at h2; cases h2
  · exact h
end Go.Proofs.Ytdjoiabbchnhaaa
