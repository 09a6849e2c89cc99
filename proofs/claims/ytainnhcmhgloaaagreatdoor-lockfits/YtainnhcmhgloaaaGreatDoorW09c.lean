/-
  Package lock: a queue's row: one more in it, one less: slices.Insert and slices.Delete over rows of an owner.
-/
import Derived.Test.YtainnhcmhgloaaaGreatDoorW09b
namespace Go.Proofs.YtainnhcmhgloaaaGreatDoor
open Go.RowKit Go.Shelf Go.MapKept Go.Maps Go.Sort

theorem setCells_block (g : Nat) (e : TypeId) : ∀ (vs : List Value) (off : Nat) (w : World) (cur : Array Value), At w g cur e →
    ∃ cur', At (w.setCells g off vs) g cur' e ∧ cur'.size = cur.size ∧ (∀ k, cur'[k]? = if off ≤ k ∧ k < off + vs.length ∧ k < cur.size then vs[k - off]? else cur[k]?) ∧ Only g w (w.setCells g off vs)
  | [], off, w, cur, h => ⟨cur, h, rfl, fun k => by rw [if_neg (by simp; omega)], ⟨rfl, rfl, rfl, rfl, fun _ _ => rfl⟩⟩
  | v :: r, off, w, cur, h => by
    obtain ⟨cur', h1, h2, h3, h4⟩ := setCells_block g e r (off + 1) (w.setCell ⟨g, off, none⟩ v) _ (h.set off v)
    have o1 := only_setCell w g off v
    refine ⟨cur', h1, by rw [h2]; simp, fun k => ?_, ⟨h4.os.trans o1.os, h4.tape.trans o1.tape, h4.output.trans o1.output, h4.size.trans o1.size, fun k hk => (h4.blk k hk).trans (o1.blk k hk)⟩⟩
    rw [h3 k]
    simp only [Array.size_setIfInBounds, List.length_cons, Array.getElem?_setIfInBounds]
    by_cases hk : k = off
    · subst hk
      by_cases hs : k < cur.size
      · rw [if_neg (by omega), if_pos rfl, if_pos hs, if_pos ⟨Nat.le_refl _, by omega, hs⟩]; simp
      · rw [if_neg (by omega), if_pos rfl, if_neg hs, if_neg (by omega)]
        exact (Array.getElem?_eq_none (by omega)).symm
    · by_cases hin : off + 1 ≤ k ∧ k < off + 1 + r.length ∧ k < cur.size
      · rw [if_pos hin, if_pos ⟨by omega, by omega, hin.2.2⟩, show k - off = (k - (off + 1)) + 1 by omega, List.getElem?_cons_succ]
      · rw [if_neg hin, if_neg (fun x => hk x.symm), if_neg (fun x => hin ⟨by omega, by omega, x.2.2⟩)]
structure RowStep (w : World) (o : Nat → Nat) (j : Nat) (v : Value) (w' : World) (o' : Nat → Nat) (v' : Value) (l' : List Int) : Prop where
  row : Row w' o' j 3 1 v' l'.length (l'.map encI9)
  os : w'.os = w.os
  tape : w'.tape = w.tape
  output : w'.output = w.output
  size : w.heap.size ≤ w'.heap.size
  blk : ∀ k, k < w.heap.size → v.ownBlock ≠ some k → w'.heap[k]? = w.heap[k]?
  own : ∀ k, k < w.heap.size → o' k = o k
  new : ∀ r, v'.ownBlock = some r → v.ownBlock = some r ∨ w.heap.size ≤ r
section
variable {w w' w2 : World} {o o' : Nat → Nat} {i j g n C : Nat} {v v' : Value} {l l' : List Int}
theorem RowStep.stp (h : RowStep w o j v w' o' v' l') (hv : ∀ r, v.ownBlock = some r → o r = j) : Stp o j w o' w' :=
  ⟨h.os, h.tape, h.output, h.size, fun k hk hne => h.blk k hk (fun e => hne (hv k e)), h.own⟩
/-- the same row, in place: cells from off on are written -/
theorem RowStep.inPlace (h : Row w o j 3 1 (.slice (some ⟨g, 0, none⟩) n C) n (l.map encI9)) (vs : List Value) (off q : Nat) (_hC : off + vs.length ≤ C) (hl : l'.length ≤ C)
    (hv : ∀ k, k < l'.length → (l'.map encI9)[k]? = if off ≤ k ∧ k < off + vs.length then vs[k - off]? else (l.map encI9)[k]?) : RowStep w o j (.slice (some ⟨g, 0, none⟩) n C) ((w.drewN q).setCells g off vs) o (.slice (some ⟨g, 0, none⟩) l'.length C) l' := by
  obtain ⟨⟨hll, hr⟩, ho⟩ := h
  rcases hr with ⟨hr, _⟩ | ⟨g', cap, cur, hv', hb, hg, h1, h2, h3, h4⟩
  · cases hr
  · cases hv'
    obtain ⟨cur', a1, a2, a3, a4⟩ := setCells_block g 3 vs off (w.drewN q) cur hg
    have hln : l.length = n := by simpa using hll
    refine ⟨⟨⟨by simp, .inr ⟨g, C, cur', rfl, Nat.zero_le _, a1, hl, h2, by rw [a2]; exact h3, ?_⟩⟩, ho⟩, a4.os, a4.tape, a4.output, Nat.le_of_eq a4.size.symm, fun k _ hk => a4.blk k (fun e => hk (by rw [e]; rfl)), fun _ _ => rfl, fun r hr => .inl hr⟩
    apply List.ext_getElem?
    intro k
    rw [List.getElem?_take]
    by_cases hk : k < l'.length
    · rw [if_pos (by omega), hv k hk, Array.getElem?_toList, a3 k]
      have hks : k < cur.size := by omega
      by_cases hin : off ≤ k ∧ k < off + vs.length
      · rw [if_pos hin, if_pos ⟨hin.1, hin.2, hks⟩]
      · rw [if_neg hin, if_neg (fun x => hin ⟨x.1, x.2.1⟩)]
        have := hv k hk
        rw [if_neg hin] at this
        have hsome : ((l.map encI9)[k]?).isSome = true := by
          rw [← this]; simp [hk]
        have hkl : k < l.length := by
          rcases Nat.lt_or_ge k l.length with h | h
          · exact h
          · rw [List.getElem?_eq_none (by simpa using h)] at hsome; cases hsome
        rw [← h4, List.getElem?_take, if_pos (by omega), Array.getElem?_toList]
    · rw [if_neg (by omega), List.getElem?_eq_none (by simp; omega)]
/-- a new row -/
theorem RowStep.fresh (_hv : Row w o j 3 1 v l.length (l.map encI9)) (q : Nat) (cur : Array Value) (cap : Nat) (hcs : cur.size = cap) (hl : l'.length ≤ cap) (hcap : cap ≤ maxLen) (hpre : cur.toList.take l'.length = l'.map encI9) :
    RowStep w o j v ((w.drewN q).alloc (.cells cur 3)) (gives o w.heap.size j) (.slice (some ⟨w.heap.size, 0, none⟩) l'.length cap) l' := by
  have ba : Below w.heap.size w ((w.drewN q).alloc (.cells cur 3)) := (below_drewN w q).alloc (Nat.le_refl _) _
  refine ⟨⟨⟨by simp, .inr ⟨w.heap.size, cap, cur, rfl, Nat.zero_le _, At.new (w.drewN q) cur _, hl, hcap, by rw [hcs]; simp, by simpa using hpre⟩⟩, fun r hr => by simp [Value.ownBlock] at hr; subst hr; exact gives_new (Nat.le_refl _)⟩, ba.os, ba.tape, ba.output, ba.size, fun k hk _ => ba.block k hk, fun k hk => gives_old hk, fun r hr => .inr (by simp [Value.ownBlock] at hr; omega)⟩
theorem RowStep.thenOnly (h : RowStep w o j v w' o' v' l') {gg : Nat} (hw : Only gg w' w2) (hgg : w.heap.size ≤ gg) (hrow : Row w2 o' j 3 1 v' l'.length (l'.map encI9)) : RowStep w o j v w2 o' v' l' :=
  ⟨hrow, hw.os.trans h.os, hw.tape.trans h.tape, hw.output.trans h.output, by rw [hw.size]; exact h.size, fun k hk hne => (hw.blk k (by omega)).trans (h.blk k hk hne), h.own, h.new⟩
end
section
variable {w w' w2 W : World} {o o' o2 : Nat → Nat} {i j g n C : Nat} {v v' v2 : Value} {l l' l2 : List Int}
theorem RowStep.before (b : Below w.heap.size w W) (h : RowStep W o j v w' o' v' l') : RowStep w o j v w' o' v' l' :=
  ⟨h.row, h.os.trans b.os, h.tape.trans b.tape, h.output.trans b.output, Nat.le_trans b.size h.size, fun k hk hne => (h.blk k (Nat.lt_of_lt_of_le hk b.size) hne).trans (b.block k hk), fun k hk => h.own k (Nat.lt_of_lt_of_le hk b.size), fun r hr => (h.new r hr).imp id (fun x => Nat.le_trans b.size x)⟩
theorem RowStep.trans (h : RowStep w o j v w' o' v' l') (h2 : RowStep w' o' j v' w2 o2 v2 l2) : RowStep w o j v w2 o2 v2 l2 := by
  refine ⟨h2.row, h2.os.trans h.os, h2.tape.trans h.tape, h2.output.trans h.output, Nat.le_trans h.size h2.size, fun k hk hne => (h2.blk k (Nat.lt_of_lt_of_le hk h.size) (fun e => ?_)).trans (h.blk k hk hne), fun k hk => (h2.own k (Nat.lt_of_lt_of_le hk h.size)).trans (h.own k hk), fun r hr => ?_⟩
  · rcases h.new k e with e1 | e1
    · exact hne e1
    · omega
  · rcases h2.new r hr with e1 | e1
    · exact h.new r e1
    · exact .inr (Nat.le_trans h.size e1)
theorem shape_at9 {B : Nat} {cs : Array Value} {T : TypeId} (h : At W B cs T) : W.shape? B = some (T, cs.size) := by
  unfold At at h
  simp [World.shape?, h]
theorem zeroCells9 (k : Nat) : (Builtin.zeroCells (Value.int .i64 0).cells k).toList = (List.replicate k 0).map encI9 := by
  apply List.ext_getElem?
  intro q
  simp only [Builtin.zeroCells, Array.toList_map, Array.toList_range, List.getElem?_map, List.getElem?_replicate]
  have e1 : (Value.int .i64 0).cells.size = 1 := rfl
  rw [e1, Nat.mul_one]
  by_cases h : q < k
  · rw [List.getElem?_range h, if_pos h]
    simp [Nat.mod_one, encI9, Value.cells]
  · rw [List.getElem?_eq_none (by simp; omega), if_neg h]; rfl
theorem enc_one : ∀ (l : List Int), ∀ u ∈ l.map encI9, u.oneCell' = true := by
  intro l u hu
  obtain ⟨x, _, rfl⟩ := List.mem_map.1 hu
  rfl
set_option maxHeartbeats 1000000 in
theorem c_insert (h : Row w o j 3 1 v l.length (l.map encI9)) (hl : l.length ≤ 1000) (i : Nat) (hi : i ≤ l.length) (x : Int) :
    Calls Tryz.prog 80 #[v, .int .i64 (i : Int), .slice (some ⟨w.heap.size, 0, none⟩) 1 1] (w.alloc (.cells #[.int .i64 x] 3)) fun e w' => ∃ v' o', e = .returned v' ∧ RowStep w o j v w' o' v' (l.take i ++ x :: l.drop i) := by
  have b1 : Below w.heap.size w (w.alloc (.cells #[.int .i64 x] 3)) := (Below.refl _ w).alloc (Nat.le_refl _) _
  have hW := h.reads b1
  have hAv : At (w.alloc (.cells #[.int .i64 x] 3)) w.heap.size #[.int .i64 x] 3 := At.new w _ _
  obtain ⟨vb, hvb⟩ : ∃ vb, w.heap.size = vb := ⟨_, rfl⟩
  rw [hvb] at hAv ⊢
  have hvs : ∀ (q : Nat) (u : Value), [Value.int .i64 x][q]? = some u → (w.alloc (.cells #[.int .i64 x] 3)).cell? ⟨vb, 0 + q, none⟩ = some u := fun q u hu => by
    rw [Nat.zero_add]
    match q with
    | 0 => exact (hAv.cell 0).trans (by simpa using hu)
    | q + 1 => simp at hu
  have h1v : ∀ u ∈ [Value.int .i64 x], u.oneCell' = true := by intro u hu; simp at hu; subst hu; rfl
  generalize w.alloc (.cells #[.int .i64 x] 3) = W at *
  have hlen : (l.take i ++ x :: l.drop i).length = l.length + 1 := by simp; omega
  have back : ∀ {w' : World} {o' : Nat → Nat} {v' : Value}, RowStep W o j v w' o' v' (l.take i ++ x :: l.drop i) → RowStep w o j v w' o' v' (l.take i ++ x :: l.drop i) := fun hs => hs.before b1
  rcases hW.row.2 with ⟨rfl, h0⟩ | ⟨g, C, cur, rfl, _, hg, k1, k2, k3, k4⟩
  · have hl0 : l = [] := List.eq_nil_of_length_eq_zero h0
    subst hl0
    obtain rfl : i = 0 := by simpa using hi
    refine (Any2.slices_Insert_int_end_grow insert9 none 0 0 vb 0 1 1 [] [.int .i64 x] W (by omega) (by omega) (by omega) (by omega) rfl rfl (fun _ => rfl) (fun a ha => by cases ha) hvs h1v).mono ?_
    rintro e w' ⟨rfl, rfl⟩
    have hf := RowStep.fresh (l' := [x]) hW 1 (([] ++ [Value.int .i64 x]).toArray ++ Builtin.zeroCells (Value.int .i64 0).cells (grownCap W 1 0 3 - 1)) (grownCap W 1 0 3) (by
      have := grownCap_ge W 1 0 3
      have e2 : (Builtin.zeroCells (Value.int .i64 0).cells (grownCap W 1 0 3 - 1)).size = grownCap W 1 0 3 - 1 := by
        rw [← Array.length_toList, zeroCells9]; simp
      simp [e2]; omega) (grownCap_ge W 1 0 3) (grownCap_le_maxLen W 1 0 3 (by decide)) (by simp [encI9])
    exact ⟨_, _, rfl, back hf⟩
  · have hc : ∀ (q : Nat) (u : Value), (l.map encI9)[q]? = some u → W.cell? ⟨g, 0 + q, none⟩ = some u := fun q u hu => by
      rw [Nat.zero_add, Lib.cell_of_heap hg, ← Array.getElem?_toList, ← hu, ← k4, List.getElem?_take]
      have : q < l.length := by
        rcases Nat.lt_or_ge q l.length with h | h
        · exact h
        · rw [List.getElem?_eq_none (by simpa using h)] at hu; cases hu
      rw [if_pos (by omega)]
    have hsome : ∀ q, q < C → (W.cell? ⟨g, q, none⟩).isSome = true := fun q hq => by
      rw [Lib.cell_of_heap hg]; simp; omega
    have hfz : ∀ q, W.frozen? ⟨g, q, none⟩ = false := fun q => Lib.frozen_of_heap hg q
    have hvg : vb ≠ g := fun e => by
      have h1 := h.lt (g := g) rfl
      omega
    have hC63 : C ≤ 9223372036854775807 := k2
    rcases Nat.lt_or_ge i l.length with hlt | hge
    · rcases Nat.lt_or_ge l.length C with hroom | hfull
      · refine (Any2.slices_Insert_int_shift insert9 g 0 l.length C i vb 0 1 1 (l.map encI9) [.int .i64 x] W hlt (by omega) (by omega) hC63 hvg (by simp) rfl hc (fun q hq => by rw [Nat.zero_add]; exact hsome q (by omega)) (fun q _ => by rw [Nat.zero_add]; exact hfz q) hvs (enc_one l) h1v 3 3 1 C (shape_at9 hAv) (by rw [shape_at9 hg, k3, Nat.mul_one]) (by omega) (hAv.fz 0) (hAv.fz 1)).mono ?_
        rintro e w' ⟨rfl, rfl⟩
        have s1 := RowStep.inPlace (l' := l.take (i + 1) ++ l.drop i) hW ((l.map encI9).drop i) (0 + (i + 1)) 1 (by simp; omega) (by simp; omega) (fun k hk => by
          have hk' : k < l.length + 1 := by simp at hk; omega
          simp only [List.length_drop, List.length_map]
          by_cases hin : 0 + (i + 1) ≤ k
          · rw [if_pos ⟨hin, by omega⟩, List.map_append, List.getElem?_append_right (by simp; omega)]
            simp only [List.length_map, List.length_take, List.map_drop]
            congr 1; omega
          · rw [if_neg (by omega), List.map_append, List.getElem?_append_left (by simp; omega), List.map_take, List.getElem?_take, if_pos (by omega)])
        have s2 := RowStep.inPlace (l' := l.take i ++ x :: l.drop i) s1.row [.int .i64 x] (0 + i) 0 (by simp; omega) (by rw [hlen]; omega) (fun k hk => by
          simp only [List.length_singleton]
          by_cases hin : 0 + i ≤ k ∧ k < 0 + i + 1
          · obtain rfl : k = i := by omega
            rw [if_pos hin, List.map_append, List.getElem?_append_right (by simp; omega)]
            simp [encI9, Nat.min_eq_left (Nat.le_of_lt hlt)]
          · rw [if_neg hin, List.map_append, List.map_append]
            rcases Nat.lt_or_ge k i with h1 | h1
            · rw [List.getElem?_append_left (by simp; omega), List.getElem?_append_left (by simp; omega)]
              simp only [List.map_take, List.getElem?_take]
              rw [if_pos h1, if_pos (by omega)]
            · rw [List.getElem?_append_right (by simp; omega), List.getElem?_append_right (by simp; omega)]
              simp only [List.length_map, List.length_take, List.map_cons]
              rw [show k - min i l.length = (k - min (i + 1) l.length) + 1 by omega, List.getElem?_cons_succ])
        have el : (l.take (i + 1) ++ l.drop i).length = l.length + 1 := by simp; omega
        have s3 := back (s1.trans s2)
        rw [hlen] at s3
        exact ⟨_, _, rfl, s3⟩
      · refine (Any2.slices_Insert_int_grow insert9 g 0 l.length C i vb 0 1 1 (l.map encI9) [.int .i64 x] W hlt (by omega) (by omega) (by omega) (by omega) (by simp) rfl hc hvs (enc_one l) h1v).mono ?_
        rintro e w' ⟨rfl, rfl⟩
        have hge1 := grownCap_ge W (l.length + 1) C 3
        have hle1 := grownCap_le_maxLen W (l.length + 1) C 3 (by simp [maxLen]; omega)
        obtain ⟨cap, hcap⟩ : ∃ cap, grownCap W (l.length + 1) C 3 = cap := ⟨_, rfl⟩
        have ecap : grownCap W (l.length + 1) C (insert9_ren.t 3) = cap := hcap
        rw [hcap] at hge1 hle1
        rw [ecap]
        have zsz : ∀ k, (Builtin.zeroCells (Value.int .i64 0).cells k).size = k := fun k => by rw [← Array.length_toList, zeroCells9]; simp
        have s1 := RowStep.fresh (l' := l.take i ++ List.replicate (l.length + 1 - i) 0) hW 0 (((l.map encI9).take i).toArray ++ Builtin.zeroCells (Value.int .i64 0).cells (l.length + 1 - i) ++ Builtin.zeroCells (Value.int .i64 0).cells (cap - (l.length + 1))) cap (by simp [zsz]; omega) (by simp; omega) hle1 (by
          rw [Array.toList_append, Array.toList_append, zeroCells9, List.take_append_of_le_length (by simp <;> omega), List.take_of_length_le (by simp <;> omega)]
          simp [List.map_take])
        have e1 : (l.take i ++ List.replicate (l.length + 1 - i) (0 : Int)).length = l.length + 1 := by simp; omega
        have s2 := RowStep.inPlace (l' := l.take i ++ x :: List.replicate (l.length - i) 0) s1.row [.int .i64 x] i 1 (by simp; omega) (by simp; omega) (fun k hk => by
          simp only [List.length_singleton]
          by_cases hin : i ≤ k ∧ k < i + 1
          · obtain rfl : k = i := by omega
            rw [if_pos hin, List.map_append, List.getElem?_append_right (by simp; omega)]
            simp [encI9, Nat.min_eq_left (Nat.le_of_lt hlt)]
          · rw [if_neg hin, List.map_append, List.map_append]
            rcases Nat.lt_or_ge k i with h1 | h1
            · rw [List.getElem?_append_left (by simp; omega), List.getElem?_append_left (by simp; omega)]
            · rw [List.getElem?_append_right (by simp; omega), List.getElem?_append_right (by simp; omega)]
              simp only [List.length_map, List.length_take, List.map_cons]
              obtain ⟨z, hz⟩ : ∃ z, k - min i l.length = z + 1 := ⟨k - min i l.length - 1, by omega⟩
              have hzl : z < l.length - i := by simp at hk; omega
              rw [hz, List.getElem?_cons_succ]
              simp only [List.map_replicate, List.getElem?_replicate]
              rw [if_pos hzl, if_pos (by omega)])
        have e2 : (l.take i ++ x :: List.replicate (l.length - i) (0 : Int)).length = l.length + 1 := by simp; omega
        have s3 := RowStep.inPlace (l' := l.take i ++ x :: l.drop i) s2.row ((l.map encI9).drop i) (i + 1) 1 (by simp; omega) (by rw [hlen]; omega) (fun k hk => by
          rw [hlen] at hk
          simp only [List.length_drop, List.length_map]
          by_cases hin : i + 1 ≤ k
          · rw [if_pos ⟨hin, by omega⟩, List.map_append, List.getElem?_append_right (by simp; omega)]
            simp only [List.length_map, List.length_take, List.map_drop, List.map_cons]
            rw [show k - min i l.length = (k - (i + 1)) + 1 by omega, List.getElem?_cons_succ]
          · rw [if_neg (by omega), List.map_append, List.map_append]
            rcases Nat.lt_or_ge k i with h1 | h1
            · rw [List.getElem?_append_left (by simp; omega), List.getElem?_append_left (by simp; omega)]
            · obtain rfl : k = i := by omega
              rw [List.getElem?_append_right (by simp; omega), List.getElem?_append_right (by simp; omega)]
              simp [Nat.min_eq_left (Nat.le_of_lt hlt)])
        have s4 := back (s1.trans (s2.trans s3))
        rw [hlen] at s4
        exact ⟨_, _, rfl, s4⟩
    · obtain rfl : i = l.length := by omega
      have el : l.take l.length ++ x :: l.drop l.length = l ++ [x] := by simp
      rw [el] at back ⊢
      rcases Nat.lt_or_ge l.length C with hroom | hfull
      · refine (Any2.slices_Insert_int_end_room insert9 g 0 l.length C vb 0 1 1 [.int .i64 x] W (by omega) (by omega) hC63 rfl (fun q hq => by rw [Nat.zero_add]; exact hsome _ (by omega)) (fun q _ => by rw [Nat.zero_add]; exact hfz _) hvs h1v).mono ?_
        rintro e w' ⟨rfl, rfl⟩
        have s1 := RowStep.inPlace (l' := l ++ [x]) hW [.int .i64 x] (0 + l.length) 0 (by simp; omega) (by simp; omega) (fun k hk => by
          simp only [List.length_singleton]
          by_cases hin : 0 + l.length ≤ k ∧ k < 0 + l.length + 1
          · obtain rfl : k = l.length := by omega
            rw [if_pos hin, List.map_append, List.getElem?_append_right (by simp)]; simp [encI9]
          · have : k < l.length := by simp at hk; omega
            rw [if_neg hin, List.map_append, List.getElem?_append_left (by simpa using this)])
        have s2 := back s1
        rw [show (l ++ [x]).length = l.length + 1 by simp] at s2
        exact ⟨_, _, rfl, s2⟩
      · refine (Any2.slices_Insert_int_end_grow insert9 (some ⟨g, 0, none⟩) l.length C vb 0 1 1 (l.map encI9) [.int .i64 x] W (by omega) (by omega) (by omega) (by omega) (by simp) rfl (fun h => by cases h) (fun a ha q u hu => by cases ha; have := hc q u hu; rw [add_zero']; rwa [Nat.zero_add] at this) hvs h1v).mono ?_
        rintro e w' ⟨rfl, rfl⟩
        have hge1 := grownCap_ge W (l.length + 1) C 3
        have hle1 := grownCap_le_maxLen W (l.length + 1) C 3 (by simp [maxLen]; omega)
        obtain ⟨cap, hcap⟩ : ∃ cap, grownCap W (l.length + 1) C 3 = cap := ⟨_, rfl⟩
        have ecap : grownCap W (l.length + 1) C (insert9_ren.t 3) = cap := hcap
        rw [hcap] at hge1 hle1
        rw [ecap]
        have zsz : ∀ k, (Builtin.zeroCells (Value.int .i64 0).cells k).size = k := fun k => by rw [← Array.length_toList, zeroCells9]; simp
        have s1 := RowStep.fresh (l' := l ++ [x]) hW 1 ((l.map encI9 ++ [Value.int .i64 x]).toArray ++ Builtin.zeroCells (Value.int .i64 0).cells (cap - (l.length + 1))) cap (by simp [zsz]; omega) (by simp; omega) hle1 (by
          rw [Array.toList_append, List.take_append_of_le_length (by simp), List.take_of_length_le (by simp)]
          simp [encI9])
        have s2 := back s1
        rw [show (l ++ [x]).length = l.length + 1 by simp] at s2
        exact ⟨_, _, rfl, s2⟩
/-- slices.Delete, of one place or of the first ones -/
theorem c_delete (h : Row w o j 3 1 v l.length (l.map encI9)) (hl : l.length ≤ 1000) (i k : Nat) (hik : i ≤ k) (hk : k ≤ l.length) :
    Calls Tryz.prog 83 #[v, .int .i64 (i : Int), .int .i64 (k : Int)] w fun e w' => ∃ v', e = .returned v' ∧ RowStep w o j v w' o v' (l.take i ++ l.drop k) := by
  rcases h.row.2 with ⟨rfl, h0⟩ | ⟨g, C, cur, rfl, _, hg, k1, k2, k3, k4⟩
  · have hl0 : l = [] := List.eq_nil_of_length_eq_zero h0
    subst hl0
    obtain rfl : k = 0 := by simpa using hk
    obtain rfl : i = 0 := by omega
    refine (l9_slices_Delete_int_empty none 0 w).mono ?_
    rintro e w' ⟨rfl, rfl⟩
    exact ⟨_, rfl, h, rfl, rfl, rfl, Nat.le_refl _, fun _ _ _ => rfl, fun _ _ => rfl, fun r hr => .inl hr⟩
  · have hc : ∀ q, q < l.length → w.cell? ⟨g, 0 + q, none⟩ = some (.int .i64 (l.getD q 0)) := fun q hq => by
      rw [Nat.zero_add, Lib.cell_of_heap hg, ← Array.getElem?_toList]
      have : (l.map encI9)[q]? = some (.int .i64 (l.getD q 0)) := by
        rw [List.getElem?_map, List.getElem?_eq_getElem hq]; simp [encI9, List.getD, hq]
      rw [← this, ← k4, List.getElem?_take, if_pos (by omega)]
    have hC63 : C ≤ 9223372036854775807 := k2
    refine (l9_slices_Delete_int_cells g 0 l.length C i k l w (Nat.le_refl _) k1 hC63 hik hk hc (fun q _ => Lib.frozen_of_heap hg _)).mono ?_
    rintro e w' ⟨rfl, q, rfl⟩
    have hlen : (l.take i ++ l.drop k).length = l.length - (k - i) := by simp; omega
    have s1 := RowStep.inPlace (l' := l.take i ++ l.drop k) h (((l.take l.length).take i ++ (l.take l.length).drop k ++ List.replicate (k - i) 0).map (Value.int .i64)) 0 q (by simp; omega) (by rw [hlen]; omega) (fun z hz => by
      rw [hlen] at hz
      simp only [List.take_length, List.length_map, List.length_append, List.length_take, List.length_drop, List.length_replicate]
      rw [if_pos ⟨Nat.zero_le _, by omega⟩, Nat.sub_zero]
      show _ = (List.map encI9 _)[z]?
      rw [List.map_append (l₁ := l.take i ++ l.drop k), List.getElem?_append_left (by simp; omega)])
    rw [hlen] at s1
    exact ⟨_, rfl, s1⟩
theorem c_index (h : Row w o j 3 1 v l.length (l.map encI9)) (hl : l.length ≤ 1000) (x : Int) :
    Calls Tryz.prog 73 #[v, .int .i64 x] w fun e w' => e = .returned (.int .i64 (Lib.idxOf l x)) ∧ w' = w := by
  rcases h.row.2 with ⟨rfl, h0⟩ | ⟨g, C, cur, rfl, _, hg, k1, k2, k3, k4⟩
  · have hl0 : l = [] := List.eq_nil_of_length_eq_zero h0
    subst hl0
    exact l9_slices_Index_int_empty none 0 x w
  · have hc : ∀ q, q < l.length → w.cell? ⟨g, 0 + q, none⟩ = some (.int .i64 (l.getD q 0)) := fun q hq => by
      rw [Nat.zero_add, Lib.cell_of_heap hg, ← Array.getElem?_toList]
      have : (l.map encI9)[q]? = some (.int .i64 (l.getD q 0)) := by
        rw [List.getElem?_map, List.getElem?_eq_getElem hq]; simp [encI9, List.getD, hq]
      rw [← this, ← k4, List.getElem?_take, if_pos (by omega)]
    have := l9_slices_Index_int g 0 l.length C l x w (Nat.le_refl _) (by omega) hc
    rw [List.take_length] at this
    exact this
end
end Go.Proofs.YtainnhcmhgloaaaGreatDoor
