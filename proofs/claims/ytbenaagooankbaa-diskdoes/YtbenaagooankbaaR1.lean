/-
  The document's disk (budwoodref04): where it lies in memory; the contracts of Raw, Read, Write.
-/
import Derived.Test.YtbenaagooankbaaH1
import Derived.Deep.AppendLies
namespace Go.Proofs.Ytbenaagooankbaa
open Go.RowKit Go.ChangeMaps

section
variable {P : Program}
/-- an append in a region that draws its order, by its run equation -/
theorem step_append_run {ops : Array Oper} {o : Oper} {a : Act} {K : Act → World → Prop} {Q : Exit → Act → World → Prop} {E : Prop} {w : World} (hgd : o.guard = none) (sl x : Operand) (t u : TypeId)
    (ho : o.op = .call { callee := .builtin .append, args := #[sl, x], argTypes := #[t, u] }) (v xv : Value) (hs : a.eval sl = v) (hx : a.eval x = xv) (v' : Value) (w' : World)
    (hr : (Builtin.append_ #[t, u] o.type #[v, xv]).run P w = .ok v' w') (h : K (a.put o.dst v') w') : if Region.wanted o (yielded ops a.tmps) = true then Oper.wp P o a w K Q else E := by
  have hw : Region.wanted o (yielded ops a.tmps) = true := by simp [Region.wanted, hgd]
  rw [if_pos hw]
  unfold Oper.wp execOp
  simp only [ho, resolve, invoke, builtin, Sem.run_bind, Sem.run_pure, Result.andThen_ok, List.map_toArray, List.map_cons, List.map_nil, hs, hx, hr]
  exact h
end

/-- the document's disk, of the owner i: block p has its pages (vl) and its writes (vw) -/
structure IsN (w : World) (o : Nat → Nat) (i p : Nat) (vl vw : Value) (S : List ByteArray) (Ws : Wrs) : Prop where
  hp : w.heap[p]? = some (.cells #[vl, vw] 60 (0, 0))
  hl : Row w o i 9 1 vl S.length (S.map Value.string)
  hv : Row w o i 68 2 vw Ws.length (wcells Ws)
  op : o p = i
  n2 : S.length ≤ 1024
  sz : ∀ s ∈ S, s.size = 256
  ws : ∀ x ∈ Ws, x.1 < S.length ∧ x.2.size = 256
section
variable {w w' : World} {o o' : Nat → Nat} {i j p : Nat} {vl vw : Value} {S : List ByteArray} {Ws : Wrs}
theorem IsN.c0 (h : IsN w o i p vl vw S Ws) : w.cell? ⟨p, 0, none⟩ = some vl := by simp [World.cell?, h.hp]
theorem IsN.c1 (h : IsN w o i p vl vw S Ws) : w.cell? ⟨p, 1, none⟩ = some vw := by simp [World.cell?, h.hp]
theorem IsN.fz (h : IsN w o i p vl vw S Ws) (k : Nat) : w.frozen? ⟨p, k, none⟩ = false := by simp [World.frozen?, h.hp]
theorem IsN.ltp (h : IsN w o i p vl vw S Ws) : p < w.heap.size := (Array.getElem?_eq_some_iff.1 h.hp).1
theorem IsN.npl (h : IsN w o i p vl vw S Ws) : vl.ownBlock ≠ some p := fun e => by
  rcases h.hl.row.2 with ⟨rfl, _⟩ | ⟨g, C, cur, rfl, _, hg, _⟩
  · cases e
  · cases e; rw [h.hp] at hg; cases hg
theorem IsN.npv (h : IsN w o i p vl vw S Ws) : vw.ownBlock ≠ some p := fun e => by
  rcases h.hv.row.2 with ⟨rfl, _⟩ | ⟨g, C, cur, rfl, _, hg, _⟩
  · cases e
  · cases e; rw [h.hp] at hg; cases hg
theorem IsN.nlv (h : IsN w o i p vl vw S Ws) {g : Nat} (h1 : vl.ownBlock = some g) : vw.ownBlock ≠ some g := fun e => by
  rcases h.hv.row.2 with ⟨rfl, _⟩ | ⟨g', C, cur, rfl, _, hg, _⟩
  · cases e
  · cases e
    rcases h.hl.row.2 with ⟨rfl, _⟩ | ⟨g', C, cur, rfl, _, hg', _⟩
    · cases h1
    · cases h1; rw [hg] at hg'; cases hg'
theorem IsN.other (h : IsN w o j p vl vw S Ws) (s : Stp o i w o' w') (hne : j ≠ i) : IsN w' o' j p vl vw S Ws :=
  ⟨(s.blk p h.ltp (by rw [h.op]; exact hne)).trans h.hp, h.hl.other s hne, h.hv.other s hne, (s.own p h.ltp).trans h.op, h.n2, h.sz, h.ws⟩
theorem IsN.reads (h : IsN w o i p vl vw S Ws) (b : Below w.heap.size w w') : IsN w' o i p vl vw S Ws :=
  ⟨(b.block p h.ltp).trans h.hp, h.hl.reads b, h.hv.reads b, h.op, h.n2, h.sz, h.ws⟩
theorem IsN.alloc (h : IsN w o i p vl vw S Ws) (x : Obj) : IsN (w.alloc x) o i p vl vw S Ws := h.reads ((Below.refl _ w).alloc (Nat.le_refl _) x)
theorem IsN.drew (h : IsN w o i p vl vw S Ws) : IsN w.drew o i p vl vw S Ws := ⟨h.hp, ⟨ownsRow_same h.hl.row (fun _ _ => rfl), h.hl.own⟩, ⟨ownsRow_same h.hv.row (fun _ _ => rfl), h.hv.own⟩, h.op, h.n2, h.sz, h.ws⟩
theorem IsN.slots (h : IsN w o i p vl vw S Ws) : ∃ a C b D, vl = .slice a S.length C ∧ vw = .slice b Ws.length D := by
  have h1 : ∃ a C, vl = .slice a S.length C := by
    rcases h.hl.val with ⟨rfl, h, _⟩ | ⟨g, C, rfl, _⟩
    · exact ⟨none, 0, by rw [h]⟩
    · exact ⟨_, _, rfl⟩
  have h2 : ∃ a C, vw = .slice a Ws.length C := by
    rcases h.hv.val with ⟨rfl, h, _⟩ | ⟨g, C, rfl, _⟩
    · exact ⟨none, 0, by rw [h]⟩
    · exact ⟨_, _, rfl⟩
  obtain ⟨a, C, rfl⟩ := h1
  obtain ⟨b, D, rfl⟩ := h2
  exact ⟨a, C, b, D, rfl, rfl⟩
/-- where page k is -/
theorem IsN.lat {a : Option Addr} {C : Nat} (h : IsN w o i p (.slice a S.length C) vw S Ws) (k : Nat) (s : ByteArray) (hs : S[k]? = some s) : ∃ g, a = some ⟨g, 0, none⟩ ∧ w.cell? ⟨g, k, none⟩ = some (.string s) ∧ w.frozen? ⟨g, k, none⟩ = false := by
  have hlt := (List.getElem?_eq_some_iff.1 hs).1
  rcases h.hl.val with ⟨_, h, _⟩ | ⟨g, C', hv, _, _, hc, hf⟩
  · omega
  · cases hv
    exact ⟨g, rfl, hc k _ (by rw [List.getElem?_map, hs]; rfl), hf k⟩
theorem IsN.wat {b : Option Addr} {D : Nat} (h : IsN w o i p vl (.slice b Ws.length D) S Ws) (t : Nat) (x : Nat × ByteArray) (hx : Ws[t]? = some x) : ∃ g, b = some ⟨g, 0, none⟩ ∧ w.cell? ⟨g, t * 2, none⟩ = some (.int .i64 (x.1 : Int)) ∧ w.cell? ⟨g, t * 2 + 1, none⟩ = some (.string x.2) := by
  have hlt := (List.getElem?_eq_some_iff.1 hx).1
  obtain ⟨h1, h2⟩ := wcells_get Ws t x hx
  rcases h.hv.val with ⟨_, h, _⟩ | ⟨g, C', hv, _, _, hc, _⟩
  · omega
  · cases hv
    exact ⟨g, rfl, hc _ _ h1, hc _ _ h2⟩
/-- L[k] = s -/
theorem IsN.setL {g C : Nat} (h : IsN w o i p (.slice (some ⟨g, 0, none⟩) S.length C) vw S Ws) (k : Nat) (s : ByteArray) (hk : k < S.length) (hs : s.size = 256) :
    IsN (w.setCell ⟨g, k, none⟩ (.string s)) o i p (.slice (some ⟨g, 0, none⟩) S.length C) vw (S.set k s) Ws ∧ Stp o i w o (w.setCell ⟨g, k, none⟩ (.string s)) := by
  have og : o g = i := h.hl.own g rfl
  have hng : ∀ b, b ≠ g → (w.setCell ⟨g, k, none⟩ (.string s)).heap[b]? = w.heap[b]? := fun b hb => Below.heap_setCell _ _ _ _ hb
  refine ⟨⟨(hng p (fun e => h.npl (by rw [e]; rfl))).trans h.hp, ?_, ⟨ownsRow_same h.hv.row (fun b hb => hng b (fun e => h.nlv rfl (by rw [hb, e]))), h.hv.own⟩, h.op, by simpa using h.n2, ?_, fun x hx => by rw [List.length_set]; exact h.ws x hx⟩, Stp.setCell o i w g k _ og⟩
  · have := h.hl.set k (.string s) hk
    rw [List.length_set, List.map_set]; exact this
  · intro y hy
    rcases List.mem_or_eq_of_mem_set hy with hy | rfl
    · exact h.sz y hy
    · exact hs
/-- other writes -/
theorem IsN.wrote {vw' : Value} {Ws' : Wrs} (h : IsN w o i p vl vw S Ws) (hg : w.grownBy w' vw.ownBlock) (hr : Row w' o' i 68 2 vw' Ws'.length (wcells Ws')) (hl : vw'.ownBlock = vw.ownBlock ∨ vw'.ownBlock = some w.heap.size ∨ vw'.ownBlock = none)
    (ho : ∀ k, k < w.heap.size → o' k = o k) (hw : ∀ x ∈ Ws', x.1 < S.length ∧ x.2.size = 256) : IsN (w'.setCell ⟨p, 1, none⟩ vw') o' i p vl vw' S Ws' := by
  have hp := (hg.block p h.ltp (fun e => h.npv e.symm)).trans h.hp
  have hne : vw'.ownBlock ≠ some p := by
    intro e
    rcases hl with h1 | h1 | h1
    · exact h.npv (h1.symm.trans e)
    · have := h1.symm.trans e; have hlt := h.ltp; cases this; omega
    · rw [h1] at e; cases e
  refine ⟨heap_setCell_at _ _ _ _ _ _ hp, ?_, ⟨ownsRow_same hr.row (fun g hg => Below.heap_setCell _ _ _ _ (fun e => hne (by rw [hg]; exact congrArg some e))), hr.own⟩, (ho p h.ltp).trans h.op, h.n2, h.sz, hw⟩
  refine ⟨ownsRow_same h.hl.row (fun g hg1 => ?_), fun g hg1 => (ho g (h.hl.lt hg1)).trans (h.hl.own g hg1)⟩
  exact (Below.heap_setCell _ _ _ _ (fun e => h.npl (by rw [hg1]; exact congrArg some e))).trans (hg.block g (h.hl.lt hg1) (fun e => h.nlv hg1 e.symm))
theorem IsN.cleared (h : IsN w o i p vl vw S Ws) : IsN (w.setCell ⟨p, 1, none⟩ (.slice none 0 0)) o i p vl (.slice none 0 0) S [] :=
  h.wrote ⟨rfl, rfl, rfl, Nat.le_refl _, fun _ _ _ => rfl⟩ (Row.nil _ _ _ _ _) (.inr (.inr rfl)) (fun _ _ => rfl) (fun x hx => by simp at hx)
end
/-- .. wherever its rows lie -/
def IsR (w : World) (o : Nat → Nat) (i p : Nat) (S : List ByteArray) (Ws : Wrs) : Prop := ∃ vl vw, IsN w o i p vl vw S Ws
section
variable {w w' : World} {o o' : Nat → Nat} {i j p : Nat} {S : List ByteArray} {Ws : Wrs}
theorem IsR.other (h : IsR w o j p S Ws) (s : Stp o i w o' w') (hne : j ≠ i) : IsR w' o' j p S Ws := by obtain ⟨m, v, h⟩ := h; exact ⟨m, v, h.other s hne⟩
theorem IsR.reads (h : IsR w o i p S Ws) (b : Below w.heap.size w w') : IsR w' o i p S Ws := by obtain ⟨m, v, h⟩ := h; exact ⟨m, v, h.reads b⟩
theorem IsR.drew (h : IsR w o i p S Ws) : IsR w.drew o i p S Ws := by obtain ⟨m, v, h⟩ := h; exact ⟨m, v, h.drew⟩

set_option maxHeartbeats 400000 in
theorem rraw_out (H : IsR w o i p S Ws) (x : Int) (hx : x < 0 ∨ (S.length : Int) ≤ x) :
    Calls Try.prog 19 #[.pointer (some ⟨p, 0, none⟩), .int .i64 x] w fun e w' => e = .returned (.string ⟨#[]⟩) ∧ w = w' := by
  obtain ⟨vl, vw, H⟩ := H
  obtain ⟨a, C, b, D, rfl, rfl⟩ := H.slots
  have c0 := H.c0
  have hm := H.n2
  clear H
  by_cases h0 : x < 0
  · clear hx
    go_enter Try.func19, Try.ntmps19
    go_wp2
    go_ret
    exact ⟨rfl, rfl⟩
  · have h1 := hx.resolve_left h0
    have h2 : (0 : Int) ≤ x := by omega
    clear hx h0
    go_enter Try.func19, Try.ntmps19
    go_wp2
    go_ret
    exact ⟨rfl, rfl⟩
set_option maxHeartbeats 400000 in
theorem rraw_in (H : IsR w o i p S Ws) (k : Nat) (s : ByteArray) (hs : S[k]? = some s) (hW : Ws.length ≤ 1000000) :
    Calls Try.prog 19 #[.pointer (some ⟨p, 0, none⟩), .int .i64 (k : Int)] w fun e w' => e = .returned (.string (rawAt Ws k s)) ∧ w = w' := by
  obtain ⟨vl, vw, H⟩ := H
  obtain ⟨a, C, b, D, rfl, rfl⟩ := H.slots
  have c0 := H.c0
  have c1 := H.c1
  have hm := H.n2
  have hk := (List.getElem?_eq_some_iff.1 hs).1
  obtain ⟨g, rfl, cg, _⟩ := H.lat k s hs
  have h1 : (0 : Int) ≤ (k : Int) := by omega
  have h2 : (k : Int) < (S.length : Int) := by omega
  have HH := Lib.hid H
  clear H hs
  go_enter Try.func19, Try.ntmps19
  go_wp2
  go_loop [5, 6] (fun u c => ∃ t : Nat, t ≤ Ws.length ∧ u = .string (rawAt (Ws.take t) k s) ∧ c = .int .i64 (t : Int)) (fun _ c => Ws.length - (intOf c).toNat)
  case atStart => exact ⟨0, by omega, rfl, rfl⟩
  case round =>
    obtain ⟨t, ht, rfl, rfl⟩ := hrel
    by_cases hlt : t < Ws.length
    · have h3 : (t : Int) < (Ws.length : Int) := by omega
      have h4 : (0 : Int) ≤ (t : Int) := by omega
      obtain ⟨⟨k', s'⟩, hx⟩ : ∃ x, Ws[t]? = some x := ⟨_, List.getElem?_eq_getElem hlt⟩
      obtain ⟨g', rfl, d0, d1⟩ := HH.out.wat t _ hx
      have HX := Lib.hid (show rawAt (Ws.take (t + 1)) k s = if k' = k then s' else rawAt (Ws.take t) k s by rw [List.take_add_one, hx]; exact rawAt_snoc _ _ _ _)
      clear HH hx
      generalize rawAt (Ws.take t) k s = R at *
      by_cases e : k' = k
      · subst e
        go_wp2
        exact ⟨⟨t + 1, by omega, by rw [HX.out, if_pos rfl], by go_num⟩, by simp [intOf]; omega⟩
      · have e' : ((k' : Int) == (k : Int)) = false := by rw [beq_eq_false_iff_ne]; omega
        go_wp2
        exact ⟨⟨t + 1, by omega, by rw [HX.out, if_neg e], by go_num⟩, by simp [intOf]; omega⟩
    · obtain rfl : t = Ws.length := by omega
      rw [List.take_length]
      go_wp2
      go_ret
      exact ⟨rfl, rfl⟩
set_option maxHeartbeats 400000 in
theorem rread_out (H : IsR w o i p S Ws) (x : Int) (hx : x < 0 ∨ (S.length : Int) ≤ x) :
    Calls Try.prog 17 #[.pointer (some ⟨p, 0, none⟩), .int .i64 x] w fun e w' => e = .returned (.tuple #[.string ⟨#[]⟩, .int .i64 1]) ∧ w = w' := by
  obtain ⟨vl, vw, H⟩ := H
  obtain ⟨a, C, b, D, rfl, rfl⟩ := H.slots
  have c0 := H.c0
  have hm := H.n2
  clear H
  by_cases h0 : x < 0
  · clear hx
    go_enter Try.func17, Try.ntmps17
    go_wp2
    go_ret2
    exact ⟨rfl, rfl⟩
  · have h1 := hx.resolve_left h0
    have h2 : (0 : Int) ≤ x := by omega
    clear hx h0
    go_enter Try.func17, Try.ntmps17
    go_wp2
    go_ret2
    exact ⟨rfl, rfl⟩
theorem ropen_both (p : ByteArray) (w : World) (h : p.size = 256) :
    Calls Try.prog 33 #[.string p] w fun e w' => e = .returned (.tuple #[.string (readOf p), .int .i64 (errOf p)]) ∧ Below w.heap.size w w' := by
  unfold readOf errOf
  cases ho : okPage p
  · simpa using ropen_sum p w h ho
  · simpa using ropen_ok p w h ho
set_option maxHeartbeats 400000 in
theorem rread_in (H : IsR w o i p S Ws) (k : Nat) (s : ByteArray) (hs : S[k]? = some s) (hW : Ws.length ≤ 1000000) :
    Calls Try.prog 17 #[.pointer (some ⟨p, 0, none⟩), .int .i64 (k : Int)] w fun e w' => e = .returned (.tuple #[.string (readOf (rawAt Ws k s)), .int .i64 (errOf (rawAt Ws k s))]) ∧ Below w.heap.size w w' := by
  have C1 := Lib.hid (rraw_in H k s hs hW)
  obtain ⟨vl, vw, H⟩ := H
  have C2 := Lib.hid (fun w => ropen_both (rawAt Ws k s) w (rawAt_size Ws k s (fun x hx => (H.ws x hx).2) (H.sz s (List.mem_of_getElem? hs))))
  obtain ⟨a, C, b, D, rfl, rfl⟩ := H.slots
  have c0 := H.c0
  have hm := H.n2
  have hk := (List.getElem?_eq_some_iff.1 hs).1
  have h1 : (0 : Int) ≤ (k : Int) := by omega
  have h2 : (k : Int) < (S.length : Int) := by omega
  clear H hs
  generalize rawAt Ws k s = R at *
  generalize readOf R = R2 at *
  generalize errOf R = E2 at *
  go_enter Try.func17, Try.ntmps17
  go_wp2_with fail
  refine C1.out.mono ?_; rintro e w1 ⟨rfl, rfl⟩
  go_wp2_with fail
  refine (C2.out _).mono ?_; rintro e w1 ⟨rfl, b1⟩
  go_wp2
  go_ret2
  exact ⟨rfl, b1⟩
set_option maxHeartbeats 400000 in
theorem rwrite_arg (H : IsR w o i p S Ws) (x : Int) (hx : x < 0 ∨ (S.length : Int) ≤ x) (s : ByteArray) :
    Calls Try.prog 29 #[.pointer (some ⟨p, 0, none⟩), .int .i64 x, .string s] w fun e w' => e = .returned (.int .i64 1) ∧ Below w.heap.size w w' := by
  obtain ⟨vl, vw, H⟩ := H
  obtain ⟨a, C, b, D, rfl, rfl⟩ := H.slots
  have c0 := H.c0
  have hm := H.n2
  clear H
  by_cases h0 : x < 0
  · clear hx
    go_enter Try.func29, Try.ntmps29
    go_wp2
    go_ret
    exact ⟨rfl, Below.refl _ _⟩
  · have h1 := hx.resolve_left h0
    have h2 : (0 : Int) ≤ x := by omega
    clear hx h0
    go_enter Try.func29, Try.ntmps29
    go_wp2
    go_ret
    exact ⟨rfl, Below.refl _ _⟩
set_option maxHeartbeats 400000 in
theorem rwrite_big (H : IsR w o i p S Ws) (k : Nat) (hk : k < S.length) (s : ByteArray) (hs : 252 < s.size) (hs2 : s.size ≤ 1000000) :
    Calls Try.prog 29 #[.pointer (some ⟨p, 0, none⟩), .int .i64 (k : Int), .string s] w fun e w' => e = .returned (.int .i64 2) ∧ Below w.heap.size w w' := by
  obtain ⟨vl, vw, H⟩ := H
  obtain ⟨a, C, b, D, rfl, rfl⟩ := H.slots
  have c0 := H.c0
  have hm := H.n2
  have C1 := Lib.hid (rseal_big s w hs hs2)
  have h1 : (0 : Int) ≤ (k : Int) := by omega
  have h2 : (k : Int) < (S.length : Int) := by omega
  clear H hs
  go_enter Try.func29, Try.ntmps29
  go_wp2_with fail
  refine C1.out.mono ?_; rintro e w1 ⟨rfl, rfl⟩
  go_wp2
  go_ret
  exact ⟨rfl, Below.refl _ _⟩
theorem info_rwrite : (Try.prog.info? 68).map (fun i => (i.zero, i.size, i.bytes)) = some (some (.agg #[.int .i64 0, .string ⟨#[]⟩]), 2, 24) := by kernel_rfl
set_option maxHeartbeats 1000000 in
theorem rwrite_ok (H : IsR w o i p S Ws) (k : Nat) (hk : k < S.length) (s : ByteArray) (hs : s.size ≤ 252) (hW : Ws.length ≤ 100000) :
    Calls Try.prog 29 #[.pointer (some ⟨p, 0, none⟩), .int .i64 (k : Int), .string s] w fun e w' => ∃ o', e = .returned (.int .i64 0) ∧ IsR w' o' i p S (Ws ++ [(k, pageOf s)]) ∧ Stp o i w o' w' := by
  obtain ⟨vl, vw, H⟩ := H
  obtain ⟨a, C, b, D, rfl, rfl⟩ := H.slots
  have c0 := H.c0
  have hm := H.n2
  have C1 := Lib.hid (rseal_ok s w hs)
  have h1 : (0 : Int) ≤ (k : Int) := by omega
  have h2 : (k : Int) < (S.length : Int) := by omega
  have hps := pageOf_size s hs
  generalize pageOf s = Q at *
  have HH := Lib.hid H
  clear H hs
  go_enter Try.func29, Try.ntmps29
  go_wp2_with fail
  refine C1.out.mono ?_; rintro e w1 ⟨rfl, b1⟩
  have H1 := HH.out.reads b1
  have c1 := H1.c1
  have H4 := H1.alloc (.cells #[.int .i64 (k : Int), .string Q] 68)
  have st4 := (Stp.ofBelow b1 o i).trans (Stp.alloc o i w1 (.cells #[.int .i64 (k : Int), .string Q] 68))
  obtain ⟨i0, hi, hz0, hz1, hz2⟩ := info_parts info_rwrite
  obtain ⟨v', w5, hap, hR5, hS5, hG5, hL5⟩ := H4.hv.append (ty := 58) Try.underlying58 hi hz0 hz1 hz2 rfl (by decide) ⟨w1.heap.size, 0, none⟩ 1 1 [.int .i64 (k : Int), .string Q] rfl (cell_two_new w1 _ _ _) (by intro u hu; simp at hu; rcases hu with rfl | rfl <;> rfl) (by simp [maxLen]; omega) (by omega)
  obtain ⟨g5, C5, rfl⟩ : ∃ g C, v' = .slice (some ⟨g, 0, none⟩) (Ws.length + 1) C := by
    rcases hR5.val with ⟨_, h, _⟩ | ⟨g, C, h, _⟩
    · omega
    · exact ⟨g, C, h⟩
  have HAP := Lib.hid hap; clear hap
  have cp5 := (World.cell?_of_block (hG5.block p H4.ltp (fun e => H4.npv e.symm)) (a := ⟨p, 1, none⟩)).trans H4.c1
  have fp5 := (World.frozen?_of_block (hG5.block p H4.ltp (fun e => H4.npv e.symm)) (a := ⟨p, 1, none⟩)).trans (H4.fz 1)
  have e1 : wcells Ws ++ [.int .i64 (k : Int), .string Q] = wcells (Ws ++ [(k, Q)]) := by rw [wcells_append]; rfl
  have H5 := Lib.hid (H4.wrote (Ws' := Ws ++ [(k, Q)]) hG5 (by rw [e1] at hR5; simpa using hR5) (by rcases hL5 with h | h; exact .inl h; exact .inr (.inl h)) (fun k hk => gives_old hk) (by
    intro x hx
    rcases List.mem_append.1 hx with hx | hx
    · exact H4.ws x hx
    · simp at hx; subst hx; exact ⟨hk, hps⟩))
  have st5 := Lib.hid ((st4.trans hS5).trans (Stp.setCell _ i w5 p 1 (.slice (some ⟨g5, 0, none⟩) (Ws.length + 1) C5) ((hS5.own p H4.ltp).trans H4.op)))
  clear H1 H4 st4 hR5 hS5 hG5 hL5 e1 hi hz0 hz1 hz2 HH c0
  go_wp2_with (at_builtin; refine wpList_append_run rfl (.tmp 32) (.tmp 36) _ _ rfl _ _ rfl rfl _ _ HAP.out ?_)
  go_ret
  exact ⟨_, rfl, ⟨_, _, H5.out⟩, st5.out⟩
end
end Go.Proofs.Ytbenaagooankbaa
