/-
  Package bits: Free, Run; the document's Ints.
-/
import Derived.Test.YtdjoiabbchnhaaaH4
namespace Go.Proofs.Ytdjoiabbchnhaaa
open Go.RowKit Go.Shelf

attribute [local go_sem] Oper.semAt_some

theorem IsInts.slice {w : World} {v : Value} {l : List Int} (h : IsInts w v l) : ∃ a C, v = .slice a l.length C := by
  rcases h with ⟨rfl, rfl⟩ | ⟨g, C, rfl, _⟩
  · exact ⟨none, 0, rfl⟩
  · exact ⟨_, C, rfl⟩
/-- how many are taken -/
def cnt (L : List Bool) : Nat := (takenOf L).length
theorem cnt_le (L : List Bool) : cnt L ≤ L.length := by
  unfold cnt takenOf
  exact Nat.le_trans (List.length_filter_le _ _) (by simp)

set_option maxHeartbeats 400000 in
theorem free_any (w : World) (p b : Nat) (L : List Bool) (H : IsB w p b L) :
    Calls Try.prog 24 #[.pointer (some ⟨p, 0, none⟩)] w fun e w' => e = .returned (.int .i64 ((L.length : Int) - (cnt L : Int))) ∧ Below w.heap.size w w' := by
  have cn := H.cn
  have hlt := H.ltp
  have hn2 := H.n2
  have hcl := cnt_le L
  have hw : IntKind.i64.wrap ((L.length : Int) - (cnt L : Int)) = (L.length : Int) - (cnt L : Int) := IntWalk.i64_in _ (by omega)
  have C1 := Lib.hid (taken_any w.drew p b L (H.kept rfl rfl))
  clear H
  go_enter Try.func24, Try.ntmps24
  go_wp2_with fail
  go_region_held3 (fun W => W.cell? ⟨p, 0, none⟩ = some (.int .i64 (L.length : Int))) (first | exact cn | exact cn2)
    ((go_at_call 21; refine C1.out.mono ?_; rintro e w' ⟨v, rfl, hv, hb⟩; have cn2 := (hb.cell (p := ⟨p, 0, none⟩) hlt).trans cn; obtain ⟨a, C, rfl⟩ := hv.slice; rw [show ((takenOf L).map (fun i : Nat => (i : Int))).length = cnt L by simp [cnt]]))
  all_goals
    go_wp2_with fail
    go_ret
    exact ⟨rfl, below_undrew hb⟩

/-- how many free ones stand side by side at the end -/
def rc {L : List Bool} (pre : List (Pg L)) : Nat := pre.foldl (fun c x => if tk L x.1 then 0 else c + 1) 0
theorem rc_hit {L : List Bool} (pre : List (Pg L)) (x : Pg L) (h : tk L x.1 = true) : rc (pre ++ [x]) = 0 := by simp [rc, h]
theorem rc_miss {L : List Bool} (pre : List (Pg L)) (x : Pg L) (h : tk L x.1 = false) : rc (pre ++ [x]) = rc pre + 1 := by simp [rc, h]
theorem rc_le {L : List Bool} (pre : List (Pg L)) : rc pre ≤ pre.length := by
  rw [← List.reverse_reverse pre]
  induction pre.reverse with
  | nil => simp [rc]
  | cons x q ih =>
    rw [List.reverse_cons, List.length_append]
    cases h : tk L x.1
    · rw [rc_miss _ _ h]; simpa using ih
    · rw [rc_hit _ _ h]; omega
def runc (L : List Bool) : Nat → Nat
  | 0 => 0
  | j + 1 => if tk L j then 0 else runc L j + 1
theorem rc_rnd (L : List Bool) (h : 1 ≤ L.length) (j : Nat) (hj : j ≤ L.length) : rc (rnd L h 0 j) = runc L j := by
  induction j with
  | zero => rfl
  | succ j ih =>
    have e : (0 + j) % L.length = j := by rw [Nat.zero_add]; exact Nat.mod_eq_of_lt (by omega)
    rw [rnd_succ]
    unfold runc
    cases ht : tk L j
    · rw [rc_miss _ _ (by show tk L ((0 + j) % L.length) = false; rw [e]; exact ht), ih (by omega)]; simp
    · rw [rc_hit _ _ (by show tk L ((0 + j) % L.length) = true; rw [e]; exact ht)]; simp
theorem runc_le (L : List Bool) (j : Nat) : runc L j ≤ j := by
  induction j with
  | zero => simp [runc]
  | succ j ih => unfold runc; split <;> omega
theorem runc_free (L : List Bool) (j s : Nat) (h : s < runc L j) : tk L (j - 1 - s) = false := by
  induction j generalizing s with
  | zero => simp [runc] at h
  | succ j ih =>
    unfold runc at h
    cases ht : tk L j
    · rw [ht] at h
      simp at h
      cases s with
      | zero => simpa using ht
      | succ s =>
        have := ih s (by omega)
        rw [show j + 1 - 1 - (s + 1) = j - 1 - s by omega]; exact this
    · rw [ht] at h; simp at h
theorem runc_ge (L : List Bool) (k t : Nat) (h : ∀ s, s < t → tk L (k + s) = false) : t ≤ runc L (k + t) := by
  induction t with
  | zero => omega
  | succ t ih =>
    have e := h t (by omega)
    show t + 1 ≤ runc L (k + t + 1)
    unfold runc
    rw [e]
    have := ih (fun s hs => h s (by omega))
    simp; omega
/-- n free ones from k on -/
def freeAt (L : List Bool) (n k : Nat) : Prop := ∀ s, s < n → tk L (k + s) = false
theorem not_freeAt (L : List Bool) (n m : Nat) (h : ∀ j, j ≤ m → runc L j < n) (k : Nat) (hk : k + n ≤ m) : ¬ freeAt L n k := fun hf => by
  have := runc_ge L k n hf
  have := h (k + n) hk
  omega
theorem freeAt_of (L : List Bool) (n m : Nat) (h : runc L m = n) (hm : n ≤ m) : freeAt L n (m - n) := fun s hs => by
  have := runc_free L m (n - 1 - s) (by omega)
  rwa [show m - 1 - (n - 1 - s) = m - n + s by omega] at this

set_option maxRecDepth 100000 in
set_option maxHeartbeats 2000000 in
theorem run_neg (w : World) (p b : Nat) (L : List Bool) (H : IsB w p b L) (n : Int) (h : n < 1) :
    Calls Try.prog 28 #[.pointer (some ⟨p, 0, none⟩), .int .i64 n] w fun e w' => e = .returned (.tuple #[.int .i64 0, .bool false]) ∧ Below w.heap.size w w' := by
  refine (callsIn_wide (n := 6)).1 ?_
  refine callsIn_of_wp_marks Try.func28 rfl trivial ?_ rfl
  simp only [Try.ntmps28, List.size_toArray, List.length_cons, List.length_nil, Nat.reduceAdd, Nat.reduceSub, Array.replicate_succ, Array.replicate_zero, List.push_toArray, List.append_toArray, List.nil_append, List.cons_append]
  gi_wp2
  refine ⟨_, by simp [results, Try.f28, go_sem], rfl, ?_⟩
  exact (((Below.refl _ w).alloc (Nat.le_refl _) _).alloc (by simp) _).alloc (by simp; omega) _
set_option maxRecDepth 100000 in
set_option maxHeartbeats 2000000 in
theorem run_any (w : World) (p b : Nat) (L : List Bool) (H : IsB w p b L) (n : Nat) (h : 1 ≤ n) (hw : n ≤ 9223372036854775807) :
    Calls Try.prog 28 #[.pointer (some ⟨p, 0, none⟩), .int .i64 (n : Int)] w fun e w' =>
      ((∃ k, k + n ≤ L.length ∧ freeAt L n k ∧ (∀ k', k' < k → ¬ freeAt L n k') ∧ e = .returned (.tuple #[.int .i64 (k : Int), .bool true])) ∨
       ((∀ k', k' + n ≤ L.length → ¬ freeAt L n k') ∧ e = .returned (.tuple #[.int .i64 0, .bool false]))) ∧ Below w.heap.size w w' := by
  have hL := H.n1
  have hn2 := H.n2
  have HH := Lib.hid H
  have hlp := H.ltp
  have hlb := H.ltb
  have h1 : ¬ ((n : Int) < 1) := by omega
  clear H
  refine (callsIn_wide (n := 6)).1 ?_
  refine callsIn_of_wp_marks Try.func28 rfl trivial ?_ rfl
  simp only [Try.ntmps28, List.size_toArray, List.length_cons, List.length_nil, Nat.reduceAdd, Nat.reduceSub, Array.replicate_succ, Array.replicate_zero, List.push_toArray, List.append_toArray, List.nil_append, List.cons_append]
  gi_wp2
  refine ⟨trivial, ?_⟩
  refine (callsIn_wide.2 (round_any p 0 _)).mono ?_
  rintro e w' ⟨rfl, rfl⟩
  have bn : Boxed (((((w.alloc (.cells #[.int .i64 (n : Int)] 3)).alloc (.cells #[.int .i64 0] 3)).alloc (.cells #[.bool false] 4)).alloc (.cells #[.int .i64 0] 3))) w.heap.size 3 (.int .i64 (n : Int)) := (((Boxed.new w _ _).alloc _).alloc _).alloc _
  have b4 : Boxed (((((w.alloc (.cells #[.int .i64 (n : Int)] 3)).alloc (.cells #[.int .i64 0] 3)).alloc (.cells #[.bool false] 4)).alloc (.cells #[.int .i64 0] 3))) (w.heap.size + 1) 3 (.int .i64 0) := by
    have := ((Boxed.new ((w.alloc (.cells #[.int .i64 (n : Int)] 3))) 3 (.int .i64 0)).alloc (.cells #[.bool false] 4)).alloc (.cells #[.int .i64 0] 3)
    rwa [World.size_alloc] at this
  have b5 : Boxed (((((w.alloc (.cells #[.int .i64 (n : Int)] 3)).alloc (.cells #[.int .i64 0] 3)).alloc (.cells #[.bool false] 4)).alloc (.cells #[.int .i64 0] 3))) (w.heap.size + 1 + 1) 4 (.bool false) := by
    have := (Boxed.new (((w.alloc (.cells #[.int .i64 (n : Int)] 3)).alloc (.cells #[.int .i64 0] 3))) 4 (.bool false)).alloc (.cells #[.int .i64 0] 3)
    rwa [World.size_alloc, World.size_alloc] at this
  have b6 : Boxed (((((w.alloc (.cells #[.int .i64 (n : Int)] 3)).alloc (.cells #[.int .i64 0] 3)).alloc (.cells #[.bool false] 4)).alloc (.cells #[.int .i64 0] 3))) (w.heap.size + 1 + 1 + 1) 3 (.int .i64 0) := by
    have := Boxed.new ((((w.alloc (.cells #[.int .i64 (n : Int)] 3)).alloc (.cells #[.int .i64 0] 3)).alloc (.cells #[.bool false] 4))) 3 (.int .i64 0)
    rwa [World.size_alloc, World.size_alloc, World.size_alloc] at this
  have hB0 : Below w.heap.size w (((((w.alloc (.cells #[.int .i64 (n : Int)] 3)).alloc (.cells #[.int .i64 0] 3)).alloc (.cells #[.bool false] 4)).alloc (.cells #[.int .i64 0] 3))) := ((((Below.refl _ w).alloc (Nat.le_refl _) _).alloc (by simp) _).alloc (by simp; omega) _).alloc (by simp; omega) _
  have hs0 : (((((w.alloc (.cells #[.int .i64 (n : Int)] 3)).alloc (.cells #[.int .i64 0] 3)).alloc (.cells #[.bool false] 4)).alloc (.cells #[.int .i64 0] 3))).heap.size = w.heap.size + 4 := by simp
  generalize ((((w.alloc (.cells #[.int .i64 (n : Int)] 3)).alloc (.cells #[.int .i64 0] 3)).alloc (.cells #[.bool false] 4)).alloc (.cells #[.int .i64 0] 3)) = W0 at *
  have bp := (Boxed.new W0 23 (.pointer (some ⟨p, 0, none⟩))).alloc (.cells #[.int .i64 ((0 : Nat) : Int)] 3)
  have bf := Boxed.new (W0.alloc (.cells #[.pointer (some ⟨p, 0, none⟩)] 23)) 3 (.int .i64 ((0 : Nat) : Int))
  rw [World.size_alloc] at bf
  rw [hs0] at bp bf
  have hB1 := (hB0.alloc (o := .cells #[.pointer (some ⟨p, 0, none⟩)] 23) (by omega)).alloc (o := .cells #[.int .i64 ((0 : Nat) : Int)] 3) (by simp; omega)
  have bn' := (bn.alloc (.cells #[.pointer (some ⟨p, 0, none⟩)] 23)).alloc (.cells #[.int .i64 ((0 : Nat) : Int)] 3)
  have b4' := (b4.alloc (.cells #[.pointer (some ⟨p, 0, none⟩)] 23)).alloc (.cells #[.int .i64 ((0 : Nat) : Int)] 3)
  have b5' := (b5.alloc (.cells #[.pointer (some ⟨p, 0, none⟩)] 23)).alloc (.cells #[.int .i64 ((0 : Nat) : Int)] 3)
  have b6' := (b6.alloc (.cells #[.pointer (some ⟨p, 0, none⟩)] 23)).alloc (.cells #[.int .i64 ((0 : Nat) : Int)] 3)
  have hs1 : ((W0.alloc (.cells #[.pointer (some ⟨p, 0, none⟩)] 23)).alloc (.cells #[.int .i64 ((0 : Nat) : Int)] 3)).heap.size = w.heap.size + 6 := by simp; omega
  clear bn b4 b5 b6
  generalize (W0.alloc (.cells #[.pointer (some ⟨p, 0, none⟩)] 23)).alloc (.cells #[.int .i64 ((0 : Nat) : Int)] 3) = W1 at *
  gi_wp2
  refine wpIn_rangeFunc_ownF rfl (by omega) (gf := 37) (lb := #[.pointer (some ⟨w.heap.size + 4, 0, none⟩), .pointer (some ⟨w.heap.size + 4 + 1, 0, none⟩)]) rfl trivial (enters_of Try.func37 (by kernel_rfl) rfl)
    (round_stops 5 (w.heap.size + 4) (w.heap.size + 4 + 1) p b L hL 0 (by omega) (by omega) W1 bp bf (HH.out.grew hB1)) KeepS.trans (keepS_b (by intro k hk; simp at hk; rw [hs1]; omega)) (Below.refl _ _) (fun _ => rfl)
    (fun pre W => (∀ q, q <+: pre → rc q < n) ∧ Boxed W w.heap.size 3 (.int .i64 (n : Int)) ∧ Boxed W (w.heap.size + 1) 3 (.int .i64 0) ∧ Boxed W (w.heap.size + 1 + 1) 4 (.bool false) ∧ Boxed W (w.heap.size + 1 + 1 + 1) 3 (.int .i64 (rc pre : Int)) ∧ Below w.heap.size w W)
    (fun c pre W => (c = .ret ∧ ∃ pre' x, pre = pre' ++ [x] ∧ (∀ q, q <+: pre' → rc q < n) ∧ rc pre = n) ∧ Boxed W (w.heap.size + 1) 3 (.int .i64 ((lastp pre : Int) + 1 - (n : Int))) ∧ Boxed W (w.heap.size + 1 + 1) 4 (.bool true) ∧ Below w.heap.size w W)
    (OwnFrom.and (ownFrom_pure _ _) (OwnFrom.and (Own.from (boxed_own _ _ (fun _ => _)) _) (OwnFrom.and (Own.from (boxed_own _ _ (fun _ => _)) _) (OwnFrom.and (Own.from (boxed_own _ _ (fun _ => _)) _) (OwnFrom.and (Own.from (boxed_own _ _ (fun pre => .int .i64 (rc pre : Int))) _) (ownFrom_below (Nat.le_refl _) (by omega)))))))
    (fun c => OwnFrom.and (ownFrom_pure _ _) (OwnFrom.and (Own.from (boxed_own _ _ (fun pre => .int .i64 ((lastp pre : Int) + 1 - (n : Int)))) _) (OwnFrom.and (Own.from (boxed_own _ _ (fun _ => _)) _) (ownFrom_below (Nat.le_refl _) (by omega)))))
    ⟨by intro q hq; rw [List.prefix_nil.1 hq]; exact h, bn', b4', b5', b6', hB1⟩
    (fun x => { tmps := #[.pointer (some ⟨p, 0, none⟩), .int .i64 (n : Int), undef, .pointer (some ⟨w.heap.size, 0, none⟩), .pointer (some ⟨w.heap.size + 1, 0, none⟩), .pointer (some ⟨w.heap.size + 1 + 1, 0, none⟩), .pointer (some ⟨w.heap.size + 1 + 1 + 1, 0, none⟩), .int .i64 (x.1 : Int), .bool (tk L x.1), .int .i64 (n : Int), .bool false, .pointer (some ⟨p, 0, none⟩), .func (.func 37) #[] #[.pointer (some ⟨w.heap.size + 4, 0, none⟩), .pointer (some ⟨w.heap.size + 4 + 1, 0, none⟩)], .int .i64 (x.1 : Int), .bool (tk L x.1), undef, undef, undef, undef, undef, undef, undef, undef, undef, undef], defers := [] }) ?assign ?body ?done ?stop
  case assign =>
    intro l x W K hK
    gi_wp2
    exact hK
  case body =>
    rintro l pre x W ⟨hall, dn, d4, d5, d6, hB⟩ hlt
    have hsz := hB.size
    have hrl := rc_le pre
    have cn := dn.cell
    have c4 := d4.cell
    have z4 := d4.frozen
    have c5 := d5.cell
    have z5 := d5.frozen
    have c6 := d6.cell
    have z6 := d6.frozen
    have hxl := x.2
    have hn1 := hall pre (List.prefix_refl _)
    have hpx : ∀ q, q <+: pre ++ [x] → rc (pre ++ [x]) < n → rc q < n := fun q hq hlast => by
      rcases List.prefix_concat_iff.1 hq with rfl | hq
      · exact hlast
      · exact hall q hq
    cases ht : tk L x.1 with
    | true =>
      have e0 := rc_hit pre x ht
      gi_wp2
      refine ⟨KeepsOthers.setCell _ _ _, (KeepS.refl _ _).setCell _ _ (by simp; omega), fun q hq => hpx q hq (by omega), boxed_setOther dn _ (by omega), boxed_setOther d4 _ (by omega), boxed_setOther d5 _ (by omega), by rw [e0]; exact d6.set _, hB.setCell (p := ⟨w.heap.size + 1 + 1 + 1, 0, none⟩) (by simp; omega) _⟩
    | false =>
      have e0 := rc_miss pre x ht
      by_cases hr : rc pre + 1 = n
      · have e1 : ((rc pre : Int) + 1 == (n : Int)) = true := by rw [beq_iff_eq]; omega
        gi_wp2
        refine ⟨((KeepsOthers.setCell _ _ _).trans (KeepsOthers.setCell _ _ _)).trans (KeepsOthers.setCell _ _ _), ⟨rfl, pre, x, rfl, hall, by omega⟩, ?_, ?_, ?_⟩
        · rw [lastp_snoc]; exact boxed_setOther ((boxed_setOther d4 _ (by omega)).set _) _ (by omega)
        · exact (boxed_setOther (boxed_setOther d5 _ (by omega)) _ (by omega)).set _
        · exact ((hB.setCell (p := ⟨w.heap.size + 1 + 1 + 1, 0, none⟩) (by simp; omega) _).setCell (p := ⟨w.heap.size + 1, 0, none⟩) (by simp) _).setCell (p := ⟨w.heap.size + 1 + 1, 0, none⟩) (by simp; omega) _
      · have e1 : ((rc pre : Int) + 1 == (n : Int)) = false := by rw [beq_eq_false_iff_ne]; omega
        gi_wp2
        refine ⟨KeepsOthers.setCell _ _ _, (KeepS.refl _ _).setCell _ _ (by simp; omega), fun q hq => hpx q hq (by omega), boxed_setOther dn _ (by omega), boxed_setOther d4 _ (by omega), boxed_setOther d5 _ (by omega), by rw [e0]; exact d6.set _, hB.setCell (p := ⟨w.heap.size + 1 + 1 + 1, 0, none⟩) (by simp; omega) _⟩
  case done =>
    rintro D ys W hD rfl ⟨hall, dn, d4, d5, d6, hB⟩ hK
    have c4 := d4.cell
    have z4 := d4.frozen
    have c5 := d5.cell
    have z5 := d5.frozen
    gi_wp2
    have hK' := (KeepsOthers.setCell (W.setCell ⟨w.heap.size + 1, 0, none⟩ (.int .i64 0)) ⟨w.heap.size + 1 + 1, 0, none⟩ (.bool false)).same D _ ((KeepsOthers.setCell W ⟨w.heap.size + 1, 0, none⟩ (.int .i64 0)).same D _ hK rfl) rfl
    refine ⟨by simp, .inl ⟨_, _, rfl, run_takeDeferred hK', ?_⟩⟩
    have g4 := (boxed_setOther (d4.set (.int .i64 0)) (.bool false) (show w.heap.size + 1 ≠ w.heap.size + 1 + 1 by omega)).kept (grownBy_putObj' _ D (.deferred none)) (by simp; omega)
    have g5 := ((boxed_setOther d5 (.int .i64 0) (show w.heap.size + 1 + 1 ≠ w.heap.size + 1 by omega)).set (.bool false)).kept (grownBy_putObj' _ D (.deferred none)) (by simp; omega)
    have q4 := g4.cell
    have q5 := g5.cell
    refine ⟨.tuple #[.int .i64 0, .bool false], by simp [results, Try.f28, go_sem, q4, q5], .inr ⟨?_, rfl⟩, ?_⟩
    · intro k' hk'
      refine not_freeAt L n L.length (fun j hj => ?_) k' hk'
      rw [← rc_rnd L hL j hj]
      exact hall _ (rnd_prefix L hL 0 j L.length hj)
    · exact ((hB.setCell (p := ⟨w.heap.size + 1, 0, none⟩) (by simp) _).setCell (p := ⟨w.heap.size + 1 + 1, 0, none⟩) (by simp; omega) _).trans (belowK_b (w := w) (Nat.le_refl _) _ D _ _ (by omega) hK' rfl rfl)
  case stop =>
    rintro D c pre W hD hpre ⟨⟨rfl, pre', x, rfl, hall, hx⟩, d4, d5, hB⟩ hK
    rw [lastp_snoc] at d4
    gi_wp2
    refine ⟨by simp, .inl ⟨_, _, rfl, run_takeDeferred hK, ?_⟩⟩
    have g4 := d4.kept (grownBy_putObj' _ D (.deferred none)) (by simp; omega)
    have g5 := d5.kept (grownBy_putObj' _ D (.deferred none)) (by simp; omega)
    have q4 := g4.cell
    have q5 := g5.cell
    obtain ⟨e1, e2⟩ := rnd_of_prefix L hL 0 L.length _ hpre
    rw [e1] at hx
    rw [List.length_append, List.length_singleton] at e1 e2 hx
    rw [rc_rnd L hL _ e2] at hx
    rw [rnd_succ] at e1
    obtain ⟨ea, eb⟩ := List.append_inj e1 (by rw [rnd_length])
    have ex : x.1 = pre'.length := by
      have : x = ⟨(0 + pre'.length) % L.length, Nat.mod_lt _ hL⟩ := by simpa using eb
      rw [this]; show (0 + pre'.length) % L.length = _
      rw [Nat.zero_add]; exact Nat.mod_eq_of_lt (by omega)
    have hrl := runc_le L (pre'.length + 1)
    have ev : (x.1 : Int) + 1 - (n : Int) = ((pre'.length + 1 - n : Nat) : Int) := by omega
    refine ⟨.tuple #[.int .i64 ((x.1 : Int) + 1 - (n : Int)), .bool true], by simp [results, Try.f28, go_sem, q4, q5], .inl ⟨pre'.length + 1 - n, by omega, freeAt_of L n _ hx (by omega), ?_, by rw [ev]⟩, ?_⟩
    · intro k' hk'
      refine not_freeAt L n pre'.length (fun j hj => ?_) k' (by omega)
      rw [← rc_rnd L hL j (by omega)]
      apply hall
      rw [ea]
      exact rnd_prefix L hL 0 j pre'.length hj
    · exact hB.trans (belowK_b (w := w) (Nat.le_refl _) W D _ _ (by omega) hK rfl rfl)
set_option maxHeartbeats 1000000 in
theorem ints_eq (w : World) (v1 v2 : Value) (l : List Int) (h1 : IsInts w v1 l) (h2 : IsInts w v2 l) (hl : l.length ≤ 1000000) :
    Calls Try.prog 20 #[v1, v2] w fun e w' => e = .returned (.bool true) ∧ Below w.heap.size w w' := by
  have H1 := Lib.hid h1
  have H2 := Lib.hid h2
  obtain ⟨a1, C1, rfl⟩ := h1.slice
  obtain ⟨a2, C2, rfl⟩ := h2.slice
  clear h1 h2
  go_enter Try.func20, Try.ntmps20
  go_wp2
  go_loopw [5] (fun i wr => ∃ k : Nat, k ≤ l.length ∧ i = .int .i64 (k : Int) ∧ ∃ m, wr = w.drewN m) (fun i _ => l.length - (intOf i).toNat)
  case atStart => exact ⟨0, by omega, rfl, 0, rfl⟩
  case round =>
    obtain ⟨k, hk, rfl, m, rfl⟩ := hrel
    by_cases hlt : k < l.length
    · have hlt' : (k : Int) < (l.length : Int) := by omega
      have h0 : (0 : Int) ≤ (k : Int) := by omega
      rcases H1.out with ⟨_, e⟩ | ⟨g1, D1, e1, c1⟩
      · rw [e] at hlt; simp at hlt
      rcases H2.out with ⟨_, e⟩ | ⟨g2, D2, e2, c2⟩
      · rw [e] at hlt; simp at hlt
      obtain ⟨x, hx⟩ : ∃ x, l[k]? = some x := ⟨_, List.getElem?_eq_getElem hlt⟩
      have d1 : (w.drewN m).cell? ⟨g1, k, none⟩ = some (.int .i64 x) := c1 k x hx
      have d2 : (w.drewN m).cell? ⟨g2, k, none⟩ = some (.int .i64 x) := c2 k x hx
      simp only [Value.slice.injEq, true_and] at e1 e2
      obtain ⟨rfl, rfl⟩ := e1
      obtain ⟨rfl, rfl⟩ := e2
      clear c1 c2 H1 H2
      obtain ⟨w1, HW⟩ : ∃ w1, Hid (w.drewN m = w1) := ⟨_, rfl⟩
      rw [HW.out] at d1 d2 ⊢
      go_wp2
      go_quiet (fail)
      go_wp2
      refine ⟨⟨k + 1, by omega, by go_num, m + nq, ?_⟩, by simp [intOf]; omega⟩
      rw [← HW.out]; simp [World.drewN, Nat.add_assoc]
    · obtain rfl : k = l.length := by omega
      go_wp2
      go_ret
      exact ⟨rfl, below_drew _ _⟩
end Go.Proofs.Ytdjoiabbchnhaaa
