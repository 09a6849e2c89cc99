/-
  Package disk: the contracts of Write, Sync, Crash, Dirty.
-/
import Derived.Test.YtdbniiggbjmfoaaD2
namespace Go.Proofs.Ytdbniiggbjmfoaa
open Go.RowKit Go.ChangeMaps

theorem info_write : (Try.prog.info? 96).map (fun i => (i.zero, i.size, i.bytes)) = some (some (.agg #[.int .i64 0, .string ⟨#[]⟩]), 2, 24) := by kernel_rfl
theorem info_int : (Try.prog.info? 3).map (fun i => (i.zero, i.size, i.bytes)) = some (some (.int .i64 0), 1, 8) := by kernel_rfl
theorem cell_two_new (w : World) (a b : Value) (t : TypeId) : ∀ (j : Nat) (u : Value), [a, b][j]? = some u → (w.alloc (.cells #[a, b] t)).cell? (Addr.add ⟨w.heap.size, 0, none⟩ j) = some u := by
  intro j u h
  rw [add_zero', World.cell?_alloc_at _ _ _ _ rfl]
  match j with
  | 0 => simpa using h
  | 1 => simpa using h
  | j + 2 => simp at h
theorem heap_setCell_at (w : World) (b j : Nat) (c : Array Value) (t : TypeId) (v : Value) (h : w.heap[b]? = some (.cells c t (0, 0))) : (w.setCell ⟨b, j, none⟩ v).heap[b]? = some (.cells (c.setIfInBounds j v) t (0, 0)) := by
  obtain ⟨hlt, hk⟩ := Array.getElem?_eq_some_iff.1 h
  show (w.heap.modify b _)[b]? = _
  rw [Array.getElem?_eq_getElem (by rw [Array.size_modify]; exact hlt), Array.getElem_modify_self, hk]
  rfl
section
variable {w w' : World} {o o' : Nat → Nat} {i p m : Nat} {v v' : Value} {L : Pgs} {Ws Ws' : Wrs}
/-- other writes: x.f = v' -/
theorem IsM.wrote (h : IsM w o i p m v L Ws) (hg : w.grownBy w' v.ownBlock) (hr : Row w' o' i 96 2 v' Ws'.length (wcells Ws')) (hl : v'.ownBlock = v.ownBlock ∨ v'.ownBlock = some w.heap.size ∨ v'.ownBlock = none)
    (ho : ∀ k, k < w.heap.size → o' k = o k) (hw : ∀ x ∈ Ws', x.1 < L.length ∧ x.2.size = 256) : IsM (w'.setCell ⟨p, 1, none⟩ v') o' i p m v' L Ws' := by
  have hp := (hg.block p h.ltp (fun e => h.npv e.symm)).trans h.hp
  have hne : v'.ownBlock ≠ some p := by
    intro e
    rcases hl with h1 | h1 | h1
    · exact h.npv (h1.symm.trans e)
    · have := h1.symm.trans e; have hlt := h.ltp; cases this; omega
    · rw [h1] at e; cases e
  refine ⟨heap_setCell_at _ _ _ _ _ _ hp, ?_, ⟨ownsRow_same hr.row (fun g hg => Below.heap_setCell _ _ _ _ (fun e => hne (by rw [hg]; exact congrArg some e))), hr.own⟩, (ho p h.ltp).trans h.op, (ho m h.ltm).trans h.om, h.n1, h.n2, h.sz, hw⟩
  exact (Below.heap_setCell _ _ _ _ (fun e => h.npm e.symm)).trans ((hg.block m h.ltm (fun e => h.nmv e.symm)).trans h.hm)
theorem IsM.cleared (h : IsM w o i p m v L Ws) : IsM (w.setCell ⟨p, 1, none⟩ (.slice none 0 0)) o i p m (.slice none 0 0) L [] :=
  h.wrote ⟨rfl, rfl, rfl, Nat.le_refl _, fun _ _ _ => rfl⟩ (Row.nil _ _ _ _ _) (.inr (.inr rfl)) (fun _ _ => rfl) (fun x hx => by simp at hx)
end

section
variable {w : World} {o : Nat → Nat} {i p m : Nat} {v : Value} {L : Pgs} {Ws : Wrs} {S : List ByteArray}
set_option maxRecDepth 100000 in
set_option maxHeartbeats 400000 in
theorem write_arg' (H : IsM w o i p m v L Ws) (x : Int) (hx : x < 0 ∨ (L.length : Int) ≤ x) (s : ByteArray) :
    Calls Try.prog 45 #[.pointer (some ⟨p, 0, none⟩), .int .i64 x, .string s] w fun e w' => e = .returned (.int .i64 1) ∧ Below w.heap.size w w' := by
  have cp := H.c0
  have hlk := look_miss (P := Try.prog) true H.hm Try.underlying54 Try.underlying3 (zero_state w) x hx
  simp only [stv, if_true] at hlk
  clear H hx
  go_enter Try.func45, Try.ntmps45
  go_wp2
  go_ret
  exact ⟨rfl, by first | exact (Below.refl _ _).alloc (Nat.le_refl _) _ | exact ((Below.refl _ _).alloc (Nat.le_refl _) _).setCell (Nat.le_refl _) _⟩
set_option maxRecDepth 100000 in
set_option maxHeartbeats 400000 in
theorem write_big' (H : IsM w o i p m v L Ws) (k : Nat) (hk : k < L.length) (s : ByteArray) (hs : 252 < s.size) :
    Calls Try.prog 45 #[.pointer (some ⟨p, 0, none⟩), .int .i64 (k : Int), .string s] w fun e w' => e = .returned (.int .i64 2) ∧ Below w.heap.size w w' := by
  have cp := H.c0
  obtain ⟨⟨qa, qb⟩, hq⟩ : ∃ q, L[k]? = some q := ⟨_, List.getElem?_eq_getElem hk⟩
  have hlk := look_hit (P := Try.prog) true H.hm Try.underlying54 Try.underlying3 k _ hq
  have C := Lib.hid fun w => seal_big s w hs
  simp only [stv, if_true] at hlk
  clear H hk hs
  go_enter Try.func45, Try.ntmps45
  go_wp2_with fail
  refine (C.out _).mono ?_; rintro e w1 ⟨rfl, rfl⟩
  go_wp2
  go_ret
  exact ⟨rfl, by first | exact (Below.refl _ _).alloc (Nat.le_refl _) _ | exact ((Below.refl _ _).alloc (Nat.le_refl _) _).setCell (Nat.le_refl _) _⟩
set_option maxRecDepth 100000 in
set_option maxHeartbeats 1000000 in
theorem write_ok' (H : IsM w o i p m v L Ws) (k : Nat) (qa qb : ByteArray) (hk : L[k]? = some (qa, qb)) (s : ByteArray) (hs : s.size ≤ 252) (hW : Ws.length ≤ 100000) :
    Calls Try.prog 45 #[.pointer (some ⟨p, 0, none⟩), .int .i64 (k : Int), .string s] w fun e w' => ∃ o' v', e = .returned (.int .i64 0) ∧ IsM w' o' i p m v' (L.set k (qa, pageOf s)) (Ws ++ [(k, pageOf s)]) ∧ Stp o i w o' w' := by
  have cp := H.c0
  have hlk := look_hit (P := Try.prog) true H.hm Try.underlying54 Try.underlying3 k (qa, qb) hk
  simp only [stv, if_true] at hlk
  have C := Lib.hid fun w => seal_ok s w hs
  have hq := H.sz _ (List.mem_of_getElem? hk)
  have hkl : k < L.length := (List.getElem?_eq_some_iff.1 hk).1
  have hps := pageOf_size s hs
  generalize pageOf s = Q at *
  have HH := Lib.hid H; clear H
  go_enter Try.func45, Try.ntmps45
  go_wp2_with fail
  refine (C.out _).mono ?_; rintro e w1 ⟨rfl, b1⟩
  have hb1 : w1.heap[w.heap.size]? = some (.cells #[.string qa, .string qb] 59 (0, 0)) := (b1.block w.heap.size (by simp)).trans (heap_alloc_new w _)
  have hB2 : Below w.heap.size w (w1.setCell ⟨w.heap.size, 1, none⟩ (.string Q)) := (((Below.refl _ w).alloc (Nat.le_refl _) _).trans (b1.mono (by simp))).setCell (Nat.le_refl _) _
  have hb2 := heap_setCell_at w1 w.heap.size 1 _ _ (.string Q) hb1
  have c1 : w1.cell? ⟨w.heap.size, 1, none⟩ = some (.string qb) := by simp [World.cell?, hb1]
  have f1 : w1.frozen? ⟨w.heap.size, 1, none⟩ = false := by simp [World.frozen?, hb1]
  have c20 : (w1.setCell ⟨w.heap.size, 1, none⟩ (.string Q)).cell? ⟨w.heap.size, 0, none⟩ = some (.string qa) := by simp [World.cell?, hb2]
  have c21 : (w1.setCell ⟨w.heap.size, 1, none⟩ (.string Q)).cell? ⟨w.heap.size, 1, none⟩ = some (.string Q) := by simp [World.cell?, hb2]
  have H2 := HH.out.reads hB2
  have st2 := Lib.hid (Stp.ofBelow hB2 o i)
  clear hlk cp b1 hb1 hb2 hB2 C HH
  generalize hw2 : w1.setCell ⟨w.heap.size, 1, none⟩ (.string Q) = w2 at *
  generalize w.heap.size = B at *
  go_wp2_with fail
  clear c1 f1 hw2
  have cp := H2.c0
  have hpt := put_hit (P := Try.prog) H2.drew.hm Try.underlying54 Try.underlying3 k (qa, Q) hkl
  simp only [stv] at hpt
  have H3 := H2.drew.put k (qa, Q) ⟨hq.1, hps⟩
  have st3 := (st2.out.trans (Stp.drew o i w2)).trans (stp_setBlock H2.drew.hm (.map (ents 0 (L.set k (qa, Q))).toArray L.length) o i H2.om)
  clear H2 st2
  generalize hW3 : setBlock w2.drew m (.map (ents 0 (L.set k (qa, Q))).toArray L.length) = W3 at *
  go_still_tail 6, (by kernel_rfl)
  change wpList _ _ _ _ _ w2.drew
  have cv := H3.c1
  have H4 := H3.alloc (.cells #[.int .i64 (k : Int), .string Q] 96)
  have st4 := st3.trans (Stp.alloc o i W3 (.cells #[.int .i64 (k : Int), .string Q] 96))
  obtain ⟨i0, hi, hz0, hz1, hz2⟩ := info_parts info_write
  obtain ⟨v', w5, hap, hR5, hS5, hG5, hL5⟩ := H4.hv.append (ty := 55) Try.underlying55 hi hz0 hz1 hz2 rfl (by decide) ⟨W3.heap.size, 0, none⟩ 1 1 [.int .i64 (k : Int), .string Q] rfl (cell_two_new W3 _ _ _) (by intro u hu; simp at hu; rcases hu with rfl | rfl <;> rfl) (by simp [maxLen]; omega) (by omega)
  obtain ⟨g5, C5, rfl⟩ : ∃ g C, v' = .slice (some ⟨g, 0, none⟩) (Ws.length + 1) C := by
    rcases hR5.val with ⟨_, h, _⟩ | ⟨g, C, h, _⟩
    · omega
    · exact ⟨g, C, h⟩
  have HAP := Lib.hid hap; clear hap
  have cp5 := (World.cell?_of_block (hG5.block p H4.ltp (fun e => H4.npv e.symm)) (a := ⟨p, 1, none⟩)).trans H4.c1
  have fp5 := (World.frozen?_of_block (hG5.block p H4.ltp (fun e => H4.npv e.symm)) (a := ⟨p, 1, none⟩)).trans (H4.fz 1)
  have e1 : wcells Ws ++ [.int .i64 (k : Int), .string Q] = wcells (Ws ++ [(k, Q)]) := by rw [wcells_append]; rfl
  have H5 := Lib.hid (H4.wrote (Ws' := Ws ++ [(k, Q)]) hG5 (by rw [e1] at hR5; simpa using hR5) (by rcases hL5 with h | h; exact .inl h; exact .inr (.inl h)) (fun k hk => gives_old hk) (by
    intro x hx
    rcases List.mem_append.1 hx with hx | hx
    · exact H4.ws x hx
    · simp at hx; subst hx; exact ⟨by simpa using hkl, hps⟩))
  have st5 := Lib.hid ((st4.trans hS5).trans (Stp.setCell _ i w5 p 1 (.slice (some ⟨g5, 0, none⟩) (Ws.length + 1) C5) ((hS5.own p H4.ltp).trans H4.op)))
  clear H3 H4 st3 st4 hR5 hS5 hG5 hL5 e1 hi hz0 hz1 hz2
  go_wp2_with (at_builtin; refine wpList_append_run rfl (.tmp 42) (.tmp 46) _ _ rfl _ _ rfl rfl _ _ HAP.out ?_)
  go_ret
  exact ⟨_, _, rfl, H5.out, st5.out⟩
end

/-- numbers in a row that i does not own -/
def FInts (w : World) (o : Nat → Nat) (i : Nat) (a : Option Addr) (len : Nat) (fs : List Int) : Prop :=
  fs.length = len ∧ ∀ t x, fs[t]? = some x → ∃ b off, a = some ⟨b, off, none⟩ ∧ w.cell? ⟨b, off + t, none⟩ = some (.int .i64 x) ∧ o b ≠ i
theorem FInts.stp {w w' : World} {o o' : Nat → Nat} {i : Nat} {a : Option Addr} {len : Nat} {fs : List Int} (h : FInts w o i a len fs) (s : Stp o i w o' w') : FInts w' o' i a len fs :=
  ⟨h.1, fun t x hx => by
    obtain ⟨b, off, e, hc, ho⟩ := h.2 t x hx
    have hlt := World.block_lt_of_cell? w _ hc
    exact ⟨b, off, e, (World.cell?_of_block (s.blk b hlt ho) (a := ⟨b, off + t, none⟩)).trans hc, by rw [s.own b hlt]; exact ho⟩⟩
section
variable {w : World} {o : Nat → Nat} {i p m : Nat} {v : Value} {L : Pgs} {Ws : Wrs} {S : List ByteArray}
theorem IsM.slot (H : IsM w o i p m v L Ws) : ∃ a C, v = .slice a Ws.length C := by
  rcases H.hv.val with ⟨rfl, h, _⟩ | ⟨g, C, rfl, _⟩
  · exact ⟨none, 0, by rw [h]⟩
  · exact ⟨_, _, rfl⟩
theorem IsM.wat {a : Option Addr} {C : Nat} (H : IsM w o i p m (.slice a Ws.length C) L Ws) (t : Nat) (x : Nat × ByteArray) (hx : Ws[t]? = some x) : ∃ g, a = some ⟨g, 0, none⟩ ∧ w.cell? ⟨g, t * 2, none⟩ = some (.int .i64 (x.1 : Int)) ∧ w.cell? ⟨g, t * 2 + 1, none⟩ = some (.string x.2) := by
  have hlt := (List.getElem?_eq_some_iff.1 hx).1
  obtain ⟨h1, h2⟩ := wcells_get Ws t x hx
  rcases H.hv.val with ⟨_, h, _⟩ | ⟨g, C', hv, _, _, hc, _⟩
  · omega
  · cases hv
    exact ⟨g, rfl, hc _ _ h1, hc _ _ h2⟩
theorem stl_eq (L : Pgs) (x : Nat × ByteArray) (f : Int) (q : ByteArray × ByteArray) (hq : L[x.1]? = some q) : stl L x f = L.set x.1 (leftOf f x.2 q.1, leftOf f x.2 q.1) := by
  unfold stl; rw [List.getD_eq_getElem?_getD, hq]; rfl
theorem stlN_step (L : Pgs) (Ws : Wrs) (fs : List Int) (t : Nat) (x : Nat × ByteArray) (f : Int) (q : ByteArray × ByteArray) (hx : Ws[t]? = some x) (hf : fs.getD t 0 = f) (hq : (stlN L Ws fs t)[x.1]? = some q) :
    stlN L Ws fs (t + 1) = (stlN L Ws fs t).set x.1 (leftOf f x.2 q.1, leftOf f x.2 q.1) := by
  simp only [stlN]
  rw [hf, List.getD_eq_getElem?_getD, hx]
  exact stl_eq _ x f q hq

end
end Go.Proofs.Ytdbniiggbjmfoaa
