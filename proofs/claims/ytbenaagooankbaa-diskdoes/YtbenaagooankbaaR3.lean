/-
  The document's disk (budwoodref04): the contracts of New, Dirty, Copy.
-/
import Derived.Test.YtbenaagooankbaaR2
import Derived.Laws.OwnMore
namespace Go.Proofs.Ytbenaagooankbaa
open Go.RowKit Go.ChangeMaps

section
variable {w w' : World} {o o' : Nat → Nat} {i j p : Nat} {vl vw : Value} {S : List ByteArray} {Ws : Wrs}
/-- append(v, u...), u a row too, nil or not -/
theorem Row.appendRow {P : Program} {t ty : TypeId} {ti : TypeInfo} {z : Value} {bytes e sz n m : Nat} {v u : Value} {xs ys : List Value} {o2 : Nat → Nat} (h : Row w o i e sz v n xs) (hu : Row w o2 j e sz u m ys) (ht : P.underlying t = some (.slice e)) (hi : P.info? e = some ti) (hz : ti.zero = some z) (hsize : ti.size = sz) (hby : ti.bytes = bytes)
    (hzs : z.cells.size = sz) (hsz : 0 < sz) (h1 : ∀ u ∈ ys, u.oneCell' = true) (h63 : n + m ≤ maxLen) (hbytes : (n + m) * bytes ≤ 140737488355328) :
    ∃ v' w', (Builtin.append_ #[t, t] ty #[v, u]).run P w = .ok v' w' ∧ Row w' (gives o w.heap.size i) i e sz v' (n + m) (xs ++ ys) ∧ Stp o i w (gives o w.heap.size i) w' ∧ w.grownBy w' v.ownBlock ∧ (v'.ownBlock = v.ownBlock ∨ v'.ownBlock = some w.heap.size) := by
  rcases hu.val with ⟨rfl, rfl, rfl⟩ | ⟨g, C, rfl, _, hlt, hc, _⟩
  · have := run_append_owned_none (P := P) (w := w) 0 t ty e ti sz ht hi v n xs h.row
    refine ⟨v, w, this, ?_, (Stp.refl o i w).gives _ (Nat.le_refl _), ⟨rfl, rfl, rfl, Nat.le_refl _, fun _ _ _ => rfl⟩, .inl rfl⟩
    rw [Nat.add_zero, List.append_nil]
    exact ⟨h.row, fun g hg => gives_mine (h.own g hg)⟩
  · exact h.append ht hi hz hsize hby hzs hsz ⟨g, 0, none⟩ m C ys hu.len (fun t u ht => by rw [add_zero']; exact hc t u ht) h1 h63 hbytes
theorem strs_one (l : List ByteArray) : ∀ u ∈ l.map Value.string, u.oneCell' = true := by
  intro u hu
  obtain ⟨x, _, rfl⟩ := List.mem_map.1 hu
  rfl
/-- other pages -/
theorem IsN.wroteL {vl' : Value} {S' : List ByteArray} (h : IsN w o i p vl vw S Ws) (hg : w.grownBy w' vl.ownBlock) (hr : Row w' o' i 9 1 vl' S'.length (S'.map Value.string)) (hl : vl'.ownBlock = vl.ownBlock ∨ vl'.ownBlock = some w.heap.size)
    (ho : ∀ k, k < w.heap.size → o' k = o k) (hlen : S.length ≤ S'.length) (hn2 : S'.length ≤ 1024) (hsz : ∀ s ∈ S', s.size = 256) : IsN (w'.setCell ⟨p, 0, none⟩ vl') o' i p vl' vw S' Ws := by
  have hp := (hg.block p h.ltp (fun e => h.npl e.symm)).trans h.hp
  have hne : vl'.ownBlock ≠ some p := by
    intro e
    rcases hl with h1 | h1
    · exact h.npl (h1.symm.trans e)
    · have := h1.symm.trans e; have hlt := h.ltp; cases this; omega
  refine ⟨heap_setCell_at _ _ _ _ _ _ hp, ⟨ownsRow_same hr.row (fun g hg => Below.heap_setCell _ _ _ _ (fun e => hne (by rw [hg]; exact congrArg some e))), hr.own⟩, ?_, (ho p h.ltp).trans h.op, hn2, hsz, fun x hx => ⟨Nat.lt_of_lt_of_le (h.ws x hx).1 hlen, (h.ws x hx).2⟩⟩
  refine ⟨ownsRow_same h.hv.row (fun g hg1 => ?_), fun g hg1 => (ho g (h.hv.lt hg1)).trans (h.hv.own g hg1)⟩
  exact (Below.heap_setCell _ _ _ _ (fun e => h.npv (by rw [hg1]; exact congrArg some e))).trans (hg.block g (h.hv.lt hg1) (fun e => h.nlv e.symm hg1))
set_option maxHeartbeats 1000000 in
theorem rnew_ok (w : World) (o : Nat → Nat) (i : Nat) (n : Nat) (h1 : 1 ≤ n) (h2 : n ≤ 1024) :
    Calls Try.prog 6 #[.int .i64 (n : Int)] w fun e w' => ∃ p o', e = .returned (.tuple #[.pointer (some ⟨p, 0, none⟩), .int .i64 0]) ∧ IsR w' o' i p (List.replicate n blank) [] ∧ Stp o i w o' w' := by
  have C := Lib.hid fun w => rseal_ok ⟨#[]⟩ w (by decide)
  have hb := blank_size
  rw [show pageOf ⟨#[]⟩ = blank from rfl] at C
  generalize blank = Q at *
  have a1 : (1 : Int) ≤ (n : Int) := by omega
  have a2 : (n : Int) ≤ 1024 := by omega
  go_enter Try.func6, Try.ntmps6
  go_wp2_with fail
  refine (C.out _).mono ?_; rintro e w1 ⟨rfl, b1⟩
  have hN0 : IsN (w.alloc (.cells #[.slice none 0 0, .slice none 0 0] 60)) (gives o w.heap.size i) i w.heap.size (.slice none 0 0) (.slice none 0 0) [] [] :=
    ⟨heap_alloc_new w _, Row.nil _ _ _ _ _, Row.nil _ _ _ _ _, gives_new (Nat.le_refl _), by simp, fun s hs => by simp at hs, fun x hx => by simp at hx⟩
  have N1 := Lib.hid (hN0.reads b1)
  have S1 := Lib.hid ((stp_new o i w (.cells #[.slice none 0 0, .slice none 0 0] 60)).trans (Stp.ofBelow b1 _ i))
  clear hN0 b1 C
  generalize gives o w.heap.size i = o1 at *
  generalize w.heap.size = p at *
  go_wp2_with fail
  go_loopw [7] (fun c wr => ∃ (t : Nat) (o' : Nat → Nat) (vl : Value), t ≤ n ∧ c = .int .i64 (t : Int) ∧ IsN wr o' i p vl (.slice none 0 0) (List.replicate t Q) [] ∧ Stp o i w o' wr) (fun c _ => n - (intOf c).toNat)
  case atStart => exact ⟨0, o1, _, by omega, rfl, N1.out, S1.out⟩
  case round =>
    obtain ⟨t, o2, vl, ht, rfl, hN, hS⟩ := hrel
    clear N1 S1
    by_cases hlt : t < n
    · have h0 : (t : Int) < (n : Int) := by omega
      have hl0 : (List.replicate t Q).length = t := List.length_replicate
      obtain ⟨i0, hi, hz0, hz1, hz2⟩ := info_parts info_str
      have hNa := hN.alloc (.cells #[.string Q] 9)
      obtain ⟨v', w5, hap, hR5, hS5, hG5, hL5⟩ := hNa.hl.append (ty := 47) Try.underlying47 hi hz0 hz1 hz2 rfl (by decide) ⟨wr.heap.size, 0, none⟩ 1 1 [.string Q] rfl (cell_new_one wr _ _) (by intro u hu; simp at hu; subst hu; rfl) (by simp [maxLen]; omega) (by simp; omega)
      obtain ⟨g5, C5, rfl⟩ : ∃ g C, v' = .slice (some ⟨g, 0, none⟩) ((List.replicate t Q).length + 1) C := by
        rcases hR5.val with ⟨_, h, _⟩ | ⟨g, C, h, _⟩
        · omega
        · exact ⟨g, C, h⟩
      obtain ⟨a, C, _, _, rfl, _⟩ := hN.slots
      have er : List.replicate t Q ++ [Q] = List.replicate (t + 1) Q := by rw [List.replicate_succ']
      have hR6 : Row w5 (gives o2 (wr.alloc (.cells #[.string Q] 9)).heap.size i) i 9 1 (.slice (some ⟨g5, 0, none⟩) ((List.replicate t Q).length + 1) C5) (List.replicate (t + 1) Q).length ((List.replicate (t + 1) Q).map Value.string) := by
        rw [← er, List.map_append, List.length_append]; exact hR5
      have HN := Lib.hid (hNa.wroteL (S' := List.replicate (t + 1) Q) hG5 hR6 hL5 (fun k hk => gives_old hk) (by simp) (by simp; omega) (fun s hs => by rw [(List.mem_replicate.1 hs).2]; exact hb))
      have st5 := Lib.hid (((hS.trans (Stp.alloc o2 i wr _)).trans hS5).trans (Stp.setCell _ i w5 p 0 (.slice (some ⟨g5, 0, none⟩) ((List.replicate t Q).length + 1) C5) ((hS5.own p hNa.ltp).trans hNa.op)))
      have cp5 := (World.cell?_of_block (hG5.block p hNa.ltp (fun e => hNa.npl e.symm)) (a := ⟨p, 0, none⟩)).trans hNa.c0
      have fp5 := (World.frozen?_of_block (hG5.block p hNa.ltp (fun e => hNa.npl e.symm)) (a := ⟨p, 0, none⟩)).trans (hNa.fz 0)
      have c0 := hN.c0
      have HAP := Lib.hid hap
      rw [hl0] at c0 cp5 HAP HN st5
      clear hap hR5 hS5 hG5 hL5 hR6 er hi hz0 hz1 hz2 hNa hN hS hl0
      go_wp2_with (at_builtin; refine wpList_append_run rfl (.tmp 29) (.tmp 31) _ _ rfl _ _ rfl rfl _ _ HAP.out ?_)
      exact ⟨⟨t + 1, _, _, by omega, by go_num, HN.out, st5.out⟩, by simp [intOf]; omega⟩
    · obtain rfl : t = n := by omega
      have HN := Lib.hid hN; have HS := Lib.hid hS
      clear hN hS
      go_wp2
      go_ret2
      exact ⟨p, o2, rfl, ⟨_, _, HN.out⟩, HS.out⟩
set_option maxHeartbeats 1000000 in
theorem rdirty_any (H : IsR w o i p S Ws) (j : Nat) (hji : j ≠ i) (hW : Ws.length ≤ 100000) :
    Calls Try.prog 14 #[.pointer (some ⟨p, 0, none⟩)] w fun e w' => ∃ u o', e = .returned u ∧ OInts w' o' j u (dirtyOf Ws) ∧ Stp o j w o' w' := by
  obtain ⟨vl, vw, H⟩ := H
  obtain ⟨a, C, b, D, rfl, rfl⟩ := H.slots
  have HH := Lib.hid H
  have s1 := stp_new o j w (.cells #[] 3)
  have r1 := Lib.hid (show OInts _ _ j _ (dirtyOf (Ws.take 0)) from Row.made w o j 3 1)
  have S1 := Lib.hid s1
  clear H s1
  go_enter Try.func14, Try.ntmps14
  go_wp2
  generalize gives o w.heap.size j = o1 at *
  go_loopw [3, 4] (fun u c wr => ∃ (t : Nat) (o' : Nat → Nat), t ≤ Ws.length ∧ c = .int .i64 (t : Int) ∧ OInts wr o' j u (dirtyOf (Ws.take t)) ∧ Stp o j w o' wr) (fun _ c _ => Ws.length - (intOf c).toNat)
  case atStart => exact ⟨0, o1, by omega, rfl, r1.out, S1.out⟩
  case round =>
    obtain ⟨t, o2, ht, rfl, hU, hS⟩ := hrel
    have hN := HH.out.other hS (fun e => hji e.symm)
    have c1 := hN.c1
    clear r1 S1
    by_cases hlt : t < Ws.length
    · have h0 : (t : Int) < (Ws.length : Int) := by omega
      have h00 : (0 : Int) ≤ (t : Int) := by omega
      obtain ⟨⟨k, s⟩, hx⟩ : ∃ x, Ws[t]? = some x := ⟨_, List.getElem?_eq_getElem hlt⟩
      obtain ⟨g, rfl, d0, d1⟩ := hN.wat t _ hx
      have HX := Lib.hid (show dirtyOf (Ws.take (t + 1)) = dirtyOf (Ws.take t) ++ [(k : Int)] by simp [dirtyOf, List.take_add_one, hx])
      obtain ⟨v1, w10, o10, hap1, hR1, hS1⟩ := OInts.append hU (k : Int) (by simp [dirtyOf]; omega)
      have HU := Lib.hid hR1; have HS := Lib.hid (hS.trans hS1); have HAP := Lib.hid hap1
      dsimp only at d0 d1
      clear hU hS hN hap1 hR1 hS1 HH
      go_wp2_with (at_builtin; refine wpList_append_run rfl (.tmp 15) (.tmp 24) _ _ rfl _ _ rfl rfl _ _ HAP.out ?_)
      exact ⟨⟨t + 1, o10, by omega, by go_num, by rw [HX.out]; exact HU.out, HS.out⟩, by simp [intOf]; omega⟩
    · obtain rfl : t = Ws.length := by omega
      rw [List.take_length] at hU
      have HU := Lib.hid hU; have HS := Lib.hid hS
      clear hU hS hN HH
      go_wp2
      go_ret
      exact ⟨_, o2, rfl, HU.out, HS.out⟩
end
section
variable {P : Program}
/-- append(T{}, u...) in a region that draws its order: u a row, nil or not -/
theorem step_copyRow {ops : Array Oper} {oo : Oper} {a : Act} {K : Act → World → Prop} {Q : Exit → Act → World → Prop} {E : Prop} {W : World} {o2 : Nat → Nat} {i e sz m c g bytes : Nat} {b : Option Addr} {ys : List Value} {ti : TypeInfo} {z : Value} (hgd : oo.guard = none) (sl x : Operand) (t : TypeId)
    (ho : oo.op = .call { callee := .builtin .append, args := #[sl, x], argTypes := #[t, t] }) (hs : a.eval sl = .slice (some ⟨g, 0, none⟩) 0 0) (hx : a.eval x = .slice b m c)
    (hg : W.heap[g]? = some (.cells #[] e (0, 0))) (hu : Row W o2 i e sz (.slice b m c) m ys)
    (ht : P.underlying t = some (.slice e)) (hi : P.info? e = some ti) (hz : ti.zero = some z) (hsize : ti.size = sz) (hby : ti.bytes = bytes) (hzs : z.cells.size = sz) (hsz : 0 < sz) (h1 : ∀ u ∈ ys, u.oneCell' = true) (h63 : m ≤ maxLen) (hbytes : m * bytes ≤ 140737488355328)
    (h : ∀ b' c' W', W'.ownsRow 0 e sz (.slice b' m c') m ys → W.grownBy W' (some g) → (∀ k, (Value.slice b' m c').ownBlock = some k → k = g ∨ k = W.heap.size) → K (a.put oo.dst (.slice b' m c')) W') :
    if Region.wanted oo (yielded ops a.tmps) = true then Oper.wp P oo a W K Q else E := by
  have hr : Row W (fun _ => 0) 0 e sz (.slice (some ⟨g, 0, none⟩) 0 0) 0 [] := ⟨⟨by simp, .inr ⟨g, 0, #[], rfl, Nat.zero_le _, hg, Nat.le_refl _, by decide, by simp, by simp⟩⟩, fun _ _ => rfl⟩
  obtain ⟨v', W', hap, hR, _, hG, hL⟩ := hr.appendRow (ty := oo.type) hu ht hi hz hsize hby hzs hsz h1 (by omega) (by rw [Nat.zero_add]; exact hbytes)
  rw [Nat.zero_add, List.nil_append] at hR
  obtain ⟨b', c', rfl⟩ : ∃ b' c', v' = .slice b' m c' := by
    rcases hR.val with ⟨rfl, h, _⟩ | ⟨g, C, rfl, _⟩
    · exact ⟨none, 0, by rw [h]⟩
    · exact ⟨_, _, rfl⟩
  refine step_append_run hgd sl x t t ho _ _ hs hx _ _ hap (h b' c' W' hR.row hG (fun k hk => ?_))
  rcases hL with h | h
  · rw [h] at hk; cases hk; exact .inl rfl
  · rw [h] at hk; cases hk; exact .inr rfl
end
theorem fresh_at (W : World) (x : Obj) (k : Nat) (h : k = W.heap.size) : (W.alloc x).heap[k]? = some x := by subst h; exact heap_alloc_new W x
theorem fresh_on (W : World) (x y : Obj) (k : Nat) (h : W.heap[k]? = some y) : (W.alloc x).heap[k]? = some y := (Below.heap_alloc W x k (Array.getElem?_eq_some_iff.1 h).1).trans h
theorem fresh_drew {W : World} {k : Nat} {y : Obj} (h : W.heap[k]? = some y) : W.drew.heap[k]? = some y := h
theorem fresh_grown {W W' : World} {g k : Nat} {y : Obj} (hg : W.grownBy W' (some g)) (h : W.heap[k]? = some y) (hne : k ≠ g) : W'.heap[k]? = some y := (hg.block k (Array.getElem?_eq_some_iff.1 h).1 (fun e => hne (by cases e; rfl))).trans h
theorem bel_alloc {w W : World} (h : Below w.heap.size w W) (x : Obj) : Below w.heap.size w (W.alloc x) := h.alloc h.size x
theorem bel_drew {w W : World} (h : Below w.heap.size w W) : Below w.heap.size w W.drew := h.drew
theorem bel_grown {w W W' : World} {g : Nat} (h : Below w.heap.size w W) (hg : W.grownBy W' (some g)) (hge : w.heap.size ≤ g) : Below w.heap.size w W' := h.grown hg h.size (fun k e => by cases e; exact hge)
section
variable {w w' : World} {o o' : Nat → Nat} {i j p : Nat} {vl vw : Value} {S : List ByteArray} {Ws : Wrs}
theorem row_grown {W W' : World} {e sz n g : Nat} {v : Value} {xs : List Value} (h : W.ownsRow 0 e sz v n xs) (hg : W.grownBy W' (some g)) (hne : ∀ k, v.ownBlock = some k → k ≠ g) : W'.ownsRow 0 e sz v n xs :=
  ownsRow_same h (fun k hk => hg.block k (h.lt k hk).2 (fun e => hne k hk (by cases e; rfl)))
theorem row_alloc {W : World} {e sz n : Nat} {v : Value} {xs : List Value} (h : W.ownsRow 0 e sz v n xs) (x : Obj) : (W.alloc x).ownsRow 0 e sz v n xs :=
  ownsRow_same h (fun k hk => Below.heap_alloc W x k (h.lt k hk).2)
theorem rcopy_end {W : World} {vA vB : Value} (H : IsN w o i p vl vw S Ws) (j : Nat) (hb : Below w.heap.size w W) (rA : W.ownsRow 0 9 1 vA S.length (S.map Value.string)) (rB : W.ownsRow 0 68 2 vB Ws.length (wcells Ws)) (hA : ∀ k, vA.ownBlock = some k → w.heap.size ≤ k) (hB : ∀ k, vB.ownBlock = some k → w.heap.size ≤ k) :
    IsR (W.alloc (.cells #[vA, vB] 60)) (gives o w.heap.size j) j W.heap.size S Ws ∧ Stp o j w (gives o w.heap.size j) (W.alloc (.cells #[vA, vB] 60)) :=
  ⟨⟨vA, vB, heap_alloc_new W _, ⟨row_alloc rA _, fun g hg => gives_new (hA g hg)⟩, ⟨row_alloc rB _, fun g hg => gives_new (hB g hg)⟩, gives_new hb.size, H.n2, H.sz, H.ws⟩, (Stp.ofBelow (bel_alloc hb _) o j).gives _ (Nat.le_refl _)⟩
set_option maxHeartbeats 1000000 in
theorem rcopy_any (H : IsR w o i p S Ws) (j : Nat) (hji : j ≠ i) (hW : Ws.length ≤ 100000) :
    Calls Try.prog 8 #[.pointer (some ⟨p, 0, none⟩)] w fun e w' => ∃ q o', e = .returned (.pointer (some ⟨q, 0, none⟩)) ∧ IsR w' o' j q S Ws ∧ Stp o j w o' w' := by
  obtain ⟨vl, vw, H⟩ := H
  obtain ⟨a, C, b, D, rfl, rfl⟩ := H.slots
  have hn2 := H.n2
  obtain ⟨i0, hi, hz0, hz1, hz2⟩ := info_parts info_str
  obtain ⟨i1, ki, kz0, kz1, kz2⟩ := info_parts info_rwrite
  have HN := Lib.hid (fun W (h : Below w.heap.size w W) => H.reads h)
  have hB0 : Below w.heap.size w w.drew := (Below.refl _ w).drew
  have KP := Lib.hid (fun W (h : Below w.heap.size w W) => (And.intro (H.reads h).c0 (And.intro (H.reads h).c1 h)))
  go_enter Try.func8, Try.ntmps8
  go_wp2_with fail
  go_region_held3 (fun W => W.cell? ⟨p, 0, none⟩ = some (.slice a S.length C) ∧ W.cell? ⟨p, 1, none⟩ = some (.slice b Ws.length D) ∧ Below w.heap.size w W)
    ((refine KP.out _ ?_; (first | exact hB0 | (repeat (first | assumption | exact Below.refl _ _ | (go_split_ands; assumption) | refine bel_drew ?_ | refine bel_alloc ?_ _ | (refine bel_grown ?_ (by assumption) (by omega)))))))
    (first
      | (refine step_copyRow (oo := ⟨some 8, _, _, _, _, _⟩) rfl (.tmp 3) (.tmp 7) _ rfl rfl rfl (by repeat (first | (with_reducible refine fresh_drew ?_) | ((with_reducible refine fresh_at _ _ _ ?_); (first | rfl | (simp; done) | omega)) | (with_reducible refine fresh_on _ _ _ _ ?_) | ((with_reducible refine fresh_grown (by assumption) ?_ ?_); rotate_left; omega))) (HN.out _ (by first | assumption | (go_split_ands; assumption))).hl Try.underlying47 hi hz0 hz1 hz2 rfl (by decide) (strs_one S) (by simp [maxLen]; omega) (by omega) ?_; intro bA cA WA rA gA lA; have sA := gA.size; (try simp at sA))
      | (refine step_copyRow (oo := ⟨some 14, _, _, _, _, _⟩) rfl (.tmp 9) (.tmp 13) _ rfl rfl rfl (by repeat (first | (with_reducible refine fresh_drew ?_) | ((with_reducible refine fresh_at _ _ _ ?_); (first | rfl | (simp; done) | omega)) | (with_reducible refine fresh_on _ _ _ _ ?_) | ((with_reducible refine fresh_grown (by assumption) ?_ ?_); rotate_left; omega))) (HN.out _ (by first | assumption | (go_split_ands; assumption))).hv Try.underlying58 ki kz0 kz1 kz2 rfl (by decide) (wcells_one Ws) (by simp [maxLen]; omega) (by omega) ?_; intro bB cB WB rB gB lB; have sB := gB.size; (try simp at sB)))
  all_goals
    have hbB : Below w.heap.size w WB := by (repeat (first | assumption | exact Below.refl _ _ | (with_reducible refine bel_drew ?_) | (with_reducible refine bel_alloc ?_ _) | (refine bel_grown ?_ (by assumption) (by omega))))
    have rA2 : WB.ownsRow 0 9 1 (.slice bA S.length cA) S.length (S.map Value.string) := by
      first
        | exact row_grown rA gB (fun k hk => by have := lA k hk; simp at this; omega)
        | exact row_grown (row_alloc rA _) gB (fun k hk => by have := (rA.lt k hk).2; omega)
    have HE := Lib.hid (rcopy_end H j hbB rA2 rB (fun k hk => by have := lA k hk; (try simp at this); omega) (fun k hk => by have := lB k hk; (try simp at this); omega))
    clear rA rB rA2 gA gB lA lB hbB HN KP H
    go_wp2
    go_ret
    exact ⟨_, _, rfl, HE.out.1, HE.out.2⟩
end
end Go.Proofs.Ytbenaagooankbaa
