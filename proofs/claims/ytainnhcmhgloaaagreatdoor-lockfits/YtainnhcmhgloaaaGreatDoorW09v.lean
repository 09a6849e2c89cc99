/-
  Package lock: rows of numbers sorted, and each once; slices.Concat; the contract of Behind.
-/
import Derived.Test.YtainnhcmhgloaaaGreatDoorGC
import Derived.Test.YtainnhcmhgloaaaGreatDoorGB
import Derived.Sort.OwnSortedInts
namespace Go.Proofs.YtainnhcmhgloaaaGreatDoor
open Go.RowKit Go.Shelf Go.MapKept Go.Maps Go.Sort Go.Lib

theorem compact_memI {d : Array Int} {x : Int} : ∀ m, x ∈ compactUpTo d m ↔ ∃ i, i < m ∧ d[i]! = x
  | 0 => by unfold compactUpTo; simp
  | m + 1 => by
    rw [compactUpTo_succ, List.mem_append, compact_memI m]
    constructor
    · rintro (⟨i, hi, h⟩ | h)
      · exact ⟨i, by omega, h⟩
      · split at h
        · exact ⟨m, by omega, (List.mem_singleton.1 h).symm⟩
        · cases h
    · rintro ⟨i, hi, h⟩
      by_cases him : i < m
      · exact .inl ⟨i, him, h⟩
      · obtain rfl : i = m := by omega
        by_cases hk : keeps d i = true
        · rw [if_pos hk]; exact .inr (by simp [h])
        · refine .inl ?_
          unfold keeps at hk
          simp at hk
          exact ⟨i - 1, by omega, by rw [← h]; exact hk.2.symm⟩
section
variable {w w' w0 : World} {o o' o2 : Nat → Nat} {i j g m1 m2 m3 b : Nat} {N N1 N2 : List En} {HL : List Ho} {WL H W : Hs} {n0 : ByteArray} {e : En} {u v : Value} {ss zs l1 l2 : List Int}
theorem c_sortI (h : Row w o i 3 1 v ss.length (ss.map (Value.int .i64))) (hl : ss.length ≤ 2000) :
    Calls Tryz.prog 40 #[v] w fun r w' => r = .returned (.tuple #[]) ∧ Row w' o i 3 1 v ss.length ((ss.mergeSort leI).map (Value.int .i64)) ∧ Stp o i w o w' := by
  rcases h.row.2 with ⟨rfl, h0⟩ | ⟨gb, cap, cur, rfl, hbase, hgb, r1, r2, r3, r4⟩
  · have hss : ss = [] := List.eq_nil_of_length_eq_zero h0
    subst hss
    refine (l9_slices_Sort_int_none none 0 w).mono ?_
    rintro r w' ⟨rfl, rfl⟩
    exact ⟨rfl, by simpa using h, Stp.refl o i _⟩
  · have hH : Holds (Value.int .i64) w gb 0 ss.toArray := holds_of_blockI hgb (by simpa using r4)
    have hgl : gb < w.heap.size := (Array.getElem?_eq_some_iff.1 hgb).1
    refine (l9_slices_Sort_int gb 0 cap ss w hH hgl (by omega)).mono ?_
    rintro r w' ⟨rfl, nn, os, rfl⟩
    exact ⟨rfl, ⟨ownsRow_sortedI (by simp) (Nat.zero_le _) hgb r1 r2 r3, h.own⟩, Stp.ofGrown (grownBy_sortedI _) o i (fun k hk => by cases hk; exact h.own _ rfl)⟩
theorem c_compactI (h : Row w o i 3 1 v zs.length (zs.map (Value.int .i64))) (hl : zs.length ≤ 2000) :
    Calls Tryz.prog 41 #[v] w fun r w' => ∃ v', r = .returned v' ∧ Row w' o i 3 1 v' (compact zs).length ((compact zs).map (Value.int .i64)) ∧ Stp o i w o w' := by
  rcases h.row.2 with ⟨rfl, h0⟩ | ⟨gb, cap, cur, rfl, hbase, hgb, r1, r2, r3, r4⟩
  · have hss : zs = [] := List.eq_nil_of_length_eq_zero h0
    subst hss
    refine (l9_slices_Compact_int_empty none 0 w).mono ?_
    rintro r w' ⟨rfl, rfl⟩
    exact ⟨_, rfl, h, Stp.refl o i _⟩
  · have hH : Holds (Value.int .i64) w gb 0 zs.toArray := holds_of_blockI hgb (by simpa using r4)
    have hcl := compact_length_le zs
    refine (l9_slices_Compact_int gb 0 cap zs w hH (by omega) r1).mono ?_
    rintro r w' ⟨rfl, q, rfl⟩
    have hR := ownsRow_sortedI (w := w) (base := 0) (g := gb) (cap := cap) (n := q) (os := #[]) (ss := zs) (ts := compact zs ++ List.replicate (zs.length - (compact zs).length) 0) (by simp; omega) (Nat.zero_le _) hgb r1 r2 r3
    rw [grow_empty] at hR
    have hG := grownBy_sortedI (w := w) (g := gb) (n := q) (os := #[]) (compact zs ++ List.replicate (zs.length - (compact zs).length) 0).toArray
    rw [grow_empty] at hG
    refine ⟨_, rfl, ⟨?_, fun k hk => by cases hk; exact h.own _ rfl⟩, Stp.ofGrown hG o i (fun k hk => by cases hk; exact h.own _ rfl)⟩
    rcases hR.2 with ⟨hr, _⟩ | ⟨gb', cap', cur', hr, hb', hg', s1, s2, s3, s4⟩
    · cases hr
    · cases hr
      refine ⟨by simp, .inr ⟨_, _, cur', rfl, hb', hg', by omega, s2, s3, ?_⟩⟩
      have := congrArg (List.take (compact zs).length) s4
      rw [List.take_take, Nat.min_eq_left (by omega), List.map_append, List.take_append_of_le_length (by simp), List.take_of_length_le (l := List.map (Value.int .i64) (compact zs)) (by simp)] at this
      rw [Nat.mul_one]; exact this
/-- sorted, each once: the list that rises -/
theorem compact_rise (l : List Int) : compact (l.mergeSort leI) = riseI l := by
  have hs : (l.mergeSort leI).Pairwise (fun a b => a ≤ b) := by
    have := List.pairwise_mergeSort (le := leI) (fun a b c h1 h2 => by simp [leI] at h1 h2 ⊢; omega) (fun a b => by simp [leI]; omega) l
    exact this.imp (fun h => by simpa [leI] using h)
  have hp : (l.mergeSort leI).Perm l := List.mergeSort_perm l _
  generalize l.mergeSort leI = L at hs hp
  have hle : ∀ a b, a ≤ b → b < L.length → L.toArray[a]! ≤ L.toArray[b]! := fun a b hab hb => by
    rcases Nat.lt_or_ge a b with h | h
    · have := List.pairwise_iff_getElem.1 hs a b (by omega) hb h
      simpa [List.getElem!_toArray, getElem!_pos, show a < L.length by omega, hb] using this
    · obtain rfl : a = b := by omega
      exact Int.le_refl _
  have hri : ∀ m, m ≤ L.length → (compactUpTo L.toArray m).Pairwise (· < ·) := by
    intro m
    induction m with
    | zero => intro _; simp [compactUpTo]
    | succ m ih =>
      intro hm
      rw [compactUpTo_succ]
      by_cases hk : keeps L.toArray m = true
      · rw [if_pos hk, List.pairwise_append]
        refine ⟨ih (by omega), by simp, fun a ha c hc => ?_⟩
        obtain rfl := List.mem_singleton.1 hc
        obtain ⟨q, hq, rfl⟩ := (compact_memI m).1 ha
        unfold keeps at hk
        rw [decide_eq_true_eq] at hk
        rcases hk with h0 | h0
        · omega
        · have h2 := hle q (m - 1) (by omega) (by omega)
          have h3 := hle (m - 1) m (by omega) (by omega)
          omega
      · rw [if_neg hk, List.append_nil]; exact ih (by omega)
  refine rise_unique (hri _ (Nat.le_refl _)) (riseI_rise l) (fun z => ?_)
  rw [mem_riseI]
  show z ∈ compactUpTo L.toArray L.length ↔ _
  rw [compact_memI, ← hp.mem_iff, List.mem_iff_getElem]
  constructor
  · rintro ⟨q, hq, rfl⟩; exact ⟨q, hq, by simp [getElem!_pos, hq]⟩
  · rintro ⟨q, hq, rfl⟩; exact ⟨q, hq, by simp [getElem!_pos, hq]⟩
/-- who has a block, where all from b on are one's own -/
def ob9 (b : Nat) : Nat → Nat := fun k => if k < b then 0 else 1
theorem ob_row {n sz : Nat} {t : TypeId} {xs : List Value} (h : w.ownsRow b t sz v n xs) : Row w (ob9 b) 1 t sz v n xs :=
  ⟨ownsRow_base_a h (Nat.zero_le _), fun k hk => by have := (h.lt k hk).1; unfold ob9; rw [if_neg (by omega)]⟩
theorem row_ob {n sz : Nat} {t : TypeId} {xs : List Value} (h : Row w (ob9 b) 1 t sz v n xs) : w.ownsRow b t sz v n xs := by
  refine ⟨h.row.1, ?_⟩
  rcases h.row.2 with h1 | ⟨gb, cap, cur, rfl, _, r⟩
  · exact .inl h1
  · refine .inr ⟨gb, cap, cur, rfl, ?_, r⟩
    have := h.own gb rfl
    unfold ob9 at this
    by_cases hl : gb < b
    · rw [if_pos hl] at this; cases this
    · omega
theorem stp_ob (h : Stp (ob9 b) 1 w o' w') (hb : b ≤ w.heap.size) : Below b w w' :=
  ⟨h.os, h.tape, h.output, h.size, fun k hk => h.blk k (by omega) (by unfold ob9; rw [if_pos hk]; decide)⟩
theorem gives_ob (hb : b ≤ w.heap.size) : gives (ob9 b) w.heap.size 1 = ob9 b := by
  funext k
  unfold gives ob9
  by_cases h : k < w.heap.size
  · rw [if_pos h]
  · rw [if_neg h, if_neg (by omega)]
theorem enc_one9 (l : List Int) : ∀ u ∈ l.map (Value.int .i64), u.oneCell' = true := by
  intro u hu
  obtain ⟨x, _, rfl⟩ := List.mem_map.1 hu
  rfl
theorem append_own9 (h : w.ownsRow b 3 1 v l1.length (l1.map (Value.int .i64))) (hb : b ≤ w.heap.size) (hu : Row w o2 j 3 1 u l2.length (l2.map (Value.int .i64))) (hl : l1.length + l2.length ≤ 5000) (ty : TypeId) :
    ∃ v' w', (Builtin.append_ #[36, 36] ty #[v, u]).run Tryz.prog w = .ok v' w' ∧ w'.ownsRow b 3 1 v' (l1 ++ l2).length ((l1 ++ l2).map (Value.int .i64)) ∧ Below b w w' := by
  obtain ⟨i0, hi, hz0, hz1, hz2⟩ := info_parts info_int
  obtain ⟨v', w', a1, a2, a3⟩ := Row.appendRow9 (ty := ty) (ob_row h) hu Tryz.underlying36 hi hz0 hz1 hz2 rfl (by decide) (enc_one9 _) (by simp [maxLen]; omega) (by omega)
  rw [gives_ob hb] at a2 a3
  rw [List.length_append, List.map_append]
  exact ⟨v', w', a1, row_ob a2, stp_ob a3 hb⟩
theorem c_grow9 (w : World) (n : Nat) (hn : n ≤ 5000) : Calls Tryz.prog 74 #[.slice none 0 0, .int .i64 (n : Int)] w fun r w' => ∃ z, r = .returned z ∧ w'.ownsRow w.heap.size 3 1 z 0 [] ∧ Below w.heap.size w w' := by
  rcases Nat.eq_zero_or_pos n with rfl | h
  · refine (Any8.slices_Grow_room grow9 none 0 0 0 w (Nat.le_refl _) (by omega) (by omega) (by omega)).mono ?_
    rintro r w' ⟨rfl, rfl⟩
    exact ⟨_, rfl, World.ownsRow_nil _ _ _ _, Below.refl _ _⟩
  · obtain ⟨i0, hi, hz0, hz1, hz2⟩ := info_parts info_int
    refine (Any8.slices_Grow_grow grow9 i0 (.int .i64 0) hi hz0 (by rw [hz1]; decide) none 0 0 n [] w (Nat.le_refl _) (by omega) (by rw [hz2]; omega) (by omega) (by simp) (fun _ => rfl) (fun a h => by cases h)).mono ?_
    rintro r w' ⟨rfl, rfl⟩
    refine ⟨_, rfl, ⟨by simp, .inr ⟨_, _, _, rfl, Nat.le_refl _, (MapKept.heap_alloc w.drew _).1, Nat.zero_le _, ?_, ?_, by simp⟩⟩, (Below.refl _ w).drew.alloc (Nat.le_refl _) _⟩
    · exact grownCap_le_maxLen w _ _ _ (by simp [maxLen]; omega)
    · have := grownCap_ge w n 0 (grow9_ren.t 25)
      have e : (Value.int .i64 0).cells.size = 1 := rfl
      rw [Array.size_append, Array.size_append, size_zeroCells, size_zeroCells, e]
      simp; omega
/-- slices.Concat of rows that lie apart -/
theorem c_concat9 (w : World) (gb : Nat) (Q : List (Value × List Int)) (hq : ∀ (k : Nat) (x : Value × List Int), Q[k]? = some x → w.cell? ⟨gb, k, none⟩ = some x.1 ∧ ∃ (o : Nat → Nat) (j : Nat), Row w o j 3 1 x.1 x.2.length (x.2.map (Value.int .i64))) (hl : (Q.flatMap (·.2)).length ≤ 2000) (hQ : Q.length ≤ 100) :
    Calls Tryz.prog 39 #[.slice (some ⟨gb, 0, none⟩) Q.length Q.length] w fun r w' => ∃ z, r = .returned z ∧ w'.ownsRow w.heap.size 3 1 z (Q.flatMap (·.2)).length ((Q.flatMap (·.2)).map (Value.int .i64)) ∧ Below w.heap.size w w' := by
  have HQ := Lib.hid hq; have HL := Lib.hid hl
  have hstep : ∀ (k : Nat) (x : Value × List Int), Q[k]? = some x → (Q.take (k + 1)).flatMap (·.2) = (Q.take k).flatMap (·.2) ++ x.2 := fun k x hx => by
    rw [List.take_add_one, hx, List.flatMap_append]; simp
  have hpart : ∀ k, ((Q.take k).flatMap (·.2)).length ≤ (Q.flatMap (·.2)).length := fun k => by
    conv => rhs; rw [← List.take_append_drop k Q]
    rw [List.flatMap_append, List.length_append]; omega
  have HST := Lib.hid hstep; have HPT := Lib.hid hpart
  have CG := Lib.hid c_grow9
  clear hq hl hstep hpart
  go_enter Tryz.func39, Tryz.ntmps39
  go_wp2_with fail
  go_loopw [3, 11] (fun u c wr => ∃ k : Nat, k ≤ Q.length ∧ c = .int .i64 (k : Int) ∧ u = .int .i64 ((((Q.take k).flatMap (·.2)).length : Nat) : Int) ∧ Below w.heap.size w wr) (fun _ c _ => Q.length - (intOf c).toNat)
  case atStart => exact ⟨0, by omega, rfl, rfl, Below.refl _ _⟩
  case round =>
    obtain ⟨k, hk, rfl, rfl, hb⟩ := hrel
    by_cases hlt : k < Q.length
    · have c1 : (k : Int) < (Q.length : Int) := by omega
      have c2 : (0 : Int) ≤ (k : Int) := by omega
      obtain ⟨x, hx⟩ : ∃ x, Q[k]? = some x := ⟨_, List.getElem?_eq_getElem hlt⟩
      obtain ⟨d0, o, j, hr⟩ := HQ.out k x hx
      have d1 : wr.cell? ⟨gb, k, none⟩ = some x.1 := (hb.cell (World.block_lt_of_cell? w _ d0)).trans d0
      obtain ⟨xa, xc, hxv⟩ : ∃ a C, x.1 = .slice a x.2.length C := by
        rcases hr.val with ⟨h1, h0, _⟩ | ⟨gq, C, h1, _⟩
        · exact ⟨_, _, by rw [h1, h0]⟩
        · exact ⟨_, _, h1⟩
      rw [hxv] at d1
      have e1 := HST.out k x hx
      have e2 := HPT.out k
      have e3 := HPT.out (k + 1)
      have e4 := HL.out
      rw [e1, List.length_append] at e3
      have e5 := congrArg List.length e1
      rw [List.length_append] at e5
      have HE := Lib.hid e5
      generalize hA : ((Q.take k).flatMap (·.2)).length = A at *
      generalize hX : x.2.length = X at *
      have e6 : (0 : Int) ≤ (A : Int) := by omega
      have e7 : (A : Int) + (X : Int) ≤ 2000 := by omega
      have e8 : (0 : Int) ≤ (A : Int) + (X : Int) := by omega
      have HB := Lib.hid hb
      clear hr hb d0 hxv e1 e2 e3 e4 e5 hA hX
      go_wp2_with fail
      exact ⟨⟨k + 1, by omega, by go_num, by rw [HE.out]; go_num, HB.out⟩, by simp [intOf]; omega⟩
    · obtain rfl : k = Q.length := by omega
      rw [List.take_length]
      have hn := HL.out
      have CG2 := Lib.hid (CG.out wr (Q.flatMap (·.2)).length (by omega))
      have HB := Lib.hid hb
      generalize hA : (Q.flatMap (·.2)).length = A at CG2 ⊢
      have HA := Lib.hid hA
      clear hb CG hA
      go_wp2_with fail
      refine CG2.out.mono ?_; rintro r w1 ⟨z, rfl, hrow, b1⟩
      have HR := Lib.hid hrow; have HB1 := Lib.hid (HB.out.trans (b1.mono HB.out.size)); have HSZ := Lib.hid HB.out.size
      clear hrow b1
      go_wp2_with fail
      go_loopw [6, 27] (fun u c w2 => ∃ k : Nat, k ≤ Q.length ∧ c = .int .i64 (k : Int) ∧ w2.ownsRow w.heap.size 3 1 u ((Q.take k).flatMap (·.2)).length (((Q.take k).flatMap (·.2)).map (Value.int .i64)) ∧ Below w.heap.size w w2) (fun _ c _ => Q.length - (intOf c).toNat)
      case atStart => exact ⟨0, by omega, rfl, ownsRow_base_a HR.out HSZ.out, HB1.out⟩
      case round =>
        obtain ⟨k, hk, rfl, hrow, hb⟩ := hrel
        by_cases hlt : k < Q.length
        · have c1 : (k : Int) < (Q.length : Int) := by omega
          have c2 : (0 : Int) ≤ (k : Int) := by omega
          obtain ⟨x, hx⟩ : ∃ x, Q[k]? = some x := ⟨_, List.getElem?_eq_getElem hlt⟩
          obtain ⟨d0, o, j, hr⟩ := HQ.out k x hx
          rename World => w2
          have d1 : w2.cell? ⟨gb, k, none⟩ = some x.1 := (hb.cell (World.block_lt_of_cell? w _ d0)).trans d0
          have e1 := HST.out k x hx
          have e3 := HPT.out (k + 1)
          have e4 := HL.out
          rw [e1, List.length_append] at e3
          obtain ⟨v5, w5, hap, R5, B5⟩ := append_own9 (ty := 36) hrow hb.size (hr.reads hb) (by omega)
          have HAP := Lib.hid hap; have HR5 := Lib.hid R5; have HB5 := Lib.hid (hb.trans B5); have HE := Lib.hid e1
          clear hr hb d0 e1 e3 e4 hap R5 B5 hrow
          generalize x.1 = xv at *
          go_wp2_with (at_builtin; refine wpList_append_run rfl (.tmp 31) (.tmp 32) _ _ rfl _ _ rfl rfl _ _ HAP.out ?_)
          exact ⟨⟨k + 1, by omega, by go_num, by rw [HE.out]; exact HR5.out, HB5.out⟩, by simp [intOf]; omega⟩
        · obtain rfl : k = Q.length := by omega
          rw [List.take_length] at hrow
          have HR5 := Lib.hid hrow; have HB5 := Lib.hid hb
          clear hrow hb
          go_wp2_with fail
          go_ret
          exact ⟨u6, rfl, by simpa [List.length_flatMap] using HR5.out, HB5.out⟩
/-- the row of those ahead -/
theorem row_ahead {a : Option Addr} {n c p : Nat} {xs : List Value} {t : TypeId} (h : Row w o i t 1 (.slice a n c) n xs) (hp : p ≤ n) : Row w o i t 1 (.slice a p c) p (xs.take p) := by
  refine ⟨⟨by rw [List.length_take, h.row.1]; omega, ?_⟩, fun k hk => h.own k (by cases a <;> simp_all [Value.ownBlock])⟩
  rcases h.row.2 with ⟨h1, h2⟩ | ⟨gb, cap, cur, h1, h3, h4, h5, h6, h7, h8⟩
  · cases h1
    obtain rfl : p = 0 := by omega
    exact .inl ⟨rfl, rfl⟩
  · cases h1
    refine .inr ⟨gb, _, cur, rfl, h3, h4, by omega, h6, h7, ?_⟩
    rw [Nat.mul_one] at h8 ⊢
    rw [← h8, List.take_take, Nat.min_eq_left (by omega)]
set_option maxRecDepth 100000 in
set_option maxHeartbeats 4000000 in
theorem c_Behind (h : T9 w o j g H W) (hL : Laid9 w) (hB : H.length + W.length ≤ 800) (x : Int) :
    Calls Tryz.prog 16 #[ptr9 g, .int .i64 x] w fun r w' => ∃ v, r = .returned v ∧ w'.ownsRow w.heap.size 3 1 v (behI H W x).length ((behI H W x).map (Value.int .i64)) ∧ Below w.heap.size w w' := by
  obtain ⟨m1, m2, m3, N, HL, WL, T, A⟩ := h.ex
  have hCB : Calls Tryz.prog 38 #[ptr9 g, .int .i64 x] w fun r w' => ∃ v u, r = .returned (.tuple #[v, u]) ∧ ∃ (l1 l2 : List Int) (o1 o2 : Nat → Nat) (j1 j2 : Nat), (∀ b, b ∈ l1 ++ l2 ↔ b ∈ behL H W x) ∧ l1.length + l2.length ≤ 800 ∧ Row w' o1 j1 3 1 v l1.length (l1.map (Value.int .i64)) ∧ Row w' o2 j2 3 1 u l2.length (l2.map (Value.int .i64)) ∧ Below w.heap.size w w' := by
    rcases forP_cases W x with hno | ⟨y, hy, rfl⟩
    · refine (c_before_no T x (fun y hy => hno y (A.wm.mem_iff.1 hy))).mono ?_
      rintro r w' ⟨rfl, b⟩
      exact ⟨_, _, rfl, [], [], o, o, j, j, fun b => by rw [behL_none hno]; simp, by simp, Row.nil _ _ _ _ _, Row.nil _ _ _ _ _, b⟩
    · refine (c_before T A (by omega) hL hy).mono ?_
      rintro r w' ⟨v, a, p, c, rfl, l, l1, l2, e, un, he, hn, hqv, hsp, rfl, hl, hrow, b⟩
      have hq : e.q = l1.map (·.owner) ++ y.owner :: l2.map (·.owner) := by rw [A.q_len he, hn, hsp]; simp
      have hR := (T.reads b).er e he
      rw [hqv] at hR
      have hun : un = e.q.length := by
        rcases hR.row.2 with ⟨h1, h2⟩ | ⟨g', cap, cur, h1, _⟩
        · cases h1; exact h2.symm
        · cases h1; rfl
      subst hun
      have hA := row_ahead (p := l1.length) hR (by rw [hq]; simp)
      have ht : (e.q.map encI9).take l1.length = (l1.map (·.owner)).map (Value.int .i64) := by
        rw [← List.map_take, hq, List.take_left' (by simp)]; rfl
      rw [ht] at hA
      have hbd := A.bounds he
      have hlen : l.length ≤ e.hs.length := by rw [hl.length_eq]; exact Nat.le_trans (List.length_filter_le _ _) (by simp)
      have hl1 : l1.length ≤ W.length := by
        have := congrArg List.length hsp
        rw [List.length_append] at this
        have h2 : (nameL W y.name).length ≤ W.length := List.length_filter_le _ _
        omega
      refine ⟨_, _, rfl, l, l1.map (·.owner), ob9 w.heap.size, o, 1, j, fun b => ?_, by rw [List.length_map]; omega, ob_row hrow, by simpa using hA, b⟩
      rw [behL_some A.ok hy hsp, List.mem_append, List.mem_append]
      refine or_congr ?_ Iff.rfl
      rw [hl.mem_iff, List.mem_filter, List.mem_map, List.mem_map]
      constructor
      · rintro ⟨⟨p, hp, rfl⟩, h2⟩
        have hm := (A.mem he p.1 p.2).1 hp
        refine ⟨⟨p.1, p.2, e.name⟩, List.mem_filter.2 ⟨mem_nameL.2 ⟨hm, hn⟩, ?_⟩, rfl⟩
        unfold badP at h2
        rw [hsM_mem (hs_nodup (T.eh e he)) hp] at h2
        exact h2
      · rintro ⟨z, hz, rfl⟩
        obtain ⟨h1, h2⟩ := List.mem_filter.1 hz
        obtain ⟨h3, h4⟩ := mem_nameL.1 h1
        have hp : (z.owner, z.mode) ∈ e.hs := (A.mem he z.owner z.mode).2 (by rw [hn, ← h4]; exact h3)
        refine ⟨⟨_, hp, rfl⟩, ?_⟩
        unfold badP
        rw [hsM_mem (hs_nodup (T.eh e he)) hp]
        exact h2
  have HCB := Lib.hid hCB
  clear hCB T A h hL hB
  unfold ptr9 at *
  go_enter Tryz.func16, Tryz.ntmps16
  go_wp2_with fail
  refine HCB.out.mono ?_; rintro r w1 ⟨v, u, rfl, l1, l2, o1, o2, j1, j2, hmem, hlen, r1, r2, b1⟩
  have sl : ∀ {v : Value} {l : List Int} {o : Nat → Nat} {j : Nat}, Row w1 o j 3 1 v l.length (l.map (Value.int .i64)) → ∃ a C, v = .slice a l.length C := fun r => by
    rcases r.val with ⟨h1, h0, _⟩ | ⟨gq, C, h1, _⟩
    · exact ⟨_, _, by rw [h1, h0]⟩
    · exact ⟨_, _, h1⟩
  obtain ⟨va, vc, rfl⟩ := sl r1
  obtain ⟨ua, uc, rfl⟩ := sl r2
  generalize hv : Value.slice va l1.length vc = v at *
  generalize hu : Value.slice ua l2.length uc = u at *
  have bA : Below w1.heap.size w1 (w1.alloc (.cells #[v, u] 36)) := (Below.refl _ w1).alloc (Nat.le_refl _) _
  have CC := c_concat9 (w1.alloc (.cells #[v, u] 36)) w1.heap.size [(v, l1), (u, l2)] (fun k x hx => by
    have hA := At.new w1 #[v, u] 36
    rcases k with _ | _ | k
    · cases hx; exact ⟨hA.cell 0, o1, j1, r1.reads bA⟩
    · cases hx; exact ⟨hA.cell 1, o2, j2, r2.reads bA⟩
    · simp at hx) (by simp; omega) (by simp)
  simp only [List.flatMap_cons, List.flatMap_nil, List.append_nil, List.length_cons, List.length_nil, Nat.zero_add, Nat.reduceAdd] at CC
  have HCC := Lib.hid CC; have HM := Lib.hid hmem; have HN := Lib.hid hlen
  have HB1 := Lib.hid (b1.trans (bA.mono b1.size))
  clear HCB CC hmem hlen r1 r2 b1 bA sl
  subst hv hu
  go_wp2_with fail
  refine HCC.out.mono ?_; rintro r w2 ⟨z, rfl, hrow, b2⟩
  have HB2 := Lib.hid (HB1.out.trans (b2.mono HB1.out.size))
  have HB0 := Lib.hid HB1.out.size
  have HSZ2 := Lib.hid b2.size
  clear HCC b2
  generalize (w1.alloc (.cells #[.slice va l1.length vc, .slice ua l2.length uc] 36)).heap.size = bs at *
  have CS := Lib.hid (c_sortI (ob_row hrow) (by rw [List.length_append]; have := HN.out; omega))
  clear hrow
  go_wp2_with fail
  refine CS.out.mono ?_; rintro r w3 ⟨rfl, r3, s3⟩
  have r3' : Row w3 (ob9 bs) 1 3 1 z ((l1 ++ l2).mergeSort leI).length (((l1 ++ l2).mergeSort leI).map (Value.int .i64)) := by rw [List.length_mergeSort]; exact r3
  have CP := Lib.hid (c_compactI r3' (by rw [List.length_mergeSort, List.length_append]; have := HN.out; omega))
  have S3 := Lib.hid s3
  clear r3 s3 CS
  go_wp2_with fail
  refine CP.out.mono ?_; rintro r w4 ⟨z2, rfl, r4, s4⟩
  have e4 : compact ((l1 ++ l2).mergeSort leI) = behI H W x := by
    rw [compact_rise]
    refine rise_unique (riseI_rise _) (riseI_rise _) (fun q => ?_)
    unfold behI; rw [mem_riseI, mem_riseI]; exact HM.out q
  rw [e4] at r4
  have bs' := S3.out.trans s4
  have HF := Lib.hid (show w4.ownsRow w.heap.size 3 1 z2 (behI H W x).length ((behI H W x).map (Value.int .i64)) ∧ Below w.heap.size w w4 from ⟨ownsRow_base_a (row_ob r4) HB0.out, HB2.out.trans ((stp_ob bs' HSZ2.out).mono HB0.out)⟩)
  clear CP r3' r4 e4 S3 s4 bs'
  go_wp2_with fail
  go_ret
  exact ⟨_, rfl, HF.out.1, HF.out.2⟩
end
end Go.Proofs.YtainnhcmhgloaaaGreatDoor
