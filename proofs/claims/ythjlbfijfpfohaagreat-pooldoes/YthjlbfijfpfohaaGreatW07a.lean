/-
  Package pool: the contracts of the small calls: dirty, mayWrite, held, Pins, Sure, padded.
-/
import Derived.Test.YthjlbfijfpfohaaGreatM07a
namespace Go.Proofs.YthjlbfijfpfohaaGreat
open Go.RowKit Go.ChangeMaps Go.MapKept

section
variable {w w' : World} {o o' : Nat → Nat} {i j g pd m n t ck b : Nat} {su : Int} {E : List En} {a : Pl}
theorem At.drewN {B : Nat} {cs : Array Value} {T : TypeId} (h : At w B cs T) (q : Nat) : At (w.drewN q) B cs T := h
set_option maxRecDepth 100000 in
theorem pdirty (h : At w b (plv a) 74) :
    Calls Tryz.prog 33 #[.pointer (some ⟨b, 0, none⟩)] w fun e w' => e = .returned (.bool a.dirty) ∧ w = w' := by
  have c4 : w.cell? ⟨b, 4, none⟩ = some (.int .i64 a.first) := h.cell 4
  unfold Pl.dirty
  clear h
  go_enter Tryz.func33, Tryz.ntmps33
  go_wp2
  go_ret
  exact ⟨rfl, rfl⟩
set_option maxRecDepth 100000 in
set_option maxHeartbeats 400000 in
theorem pmay {cs : Array Value} (hp : At w g cs 63) (hs : cs[3]? = some (.int .i64 su)) (h : At w b (plv a) 74) :
    Calls Tryz.prog 53 #[.pointer (some ⟨g, 0, none⟩), .pointer (some ⟨b, 0, none⟩)] w fun e w' => e = .returned (.bool (a.may su)) ∧ ∃ q, w' = w.drewN q := by
  have c3 : w.cell? ⟨b, 3, none⟩ = some (.int .i64 a.last) := h.cell 3
  have p3 : w.cell? ⟨g, 3, none⟩ = some (.int .i64 su) := (hp.cell 3).trans hs
  have CD := Lib.hid (fun q : Nat => pdirty (h.drewN q))
  unfold Pl.may
  cases hd : a.dirty with
  | true =>
    rw [hd] at CD
    clear h hp hs hd
    go_enter Tryz.func53, Tryz.ntmps53
    go_wp2_with fail
    go_quiet ((go_at_call 33; exact Calls.quiet_of_same ((CD.out _).mono (fun e w' h => ⟨h.1, h.2.symm⟩))))
    go_wp2
    go_ret
    exact ⟨rfl, _, rfl⟩
  | false =>
    rw [hd] at CD
    clear h hp hs hd
    go_enter Tryz.func53, Tryz.ntmps53
    go_wp2_with fail
    go_quiet ((go_at_call 33; exact Calls.quiet_of_same ((CD.out _).mono (fun e w' h => ⟨h.1, h.2.symm⟩))))
    go_wp2
    go_ret
    exact ⟨rfl, _, rfl⟩
set_option maxRecDepth 100000 in
theorem pheld_none (h : IsE w o j g pd m n su t E ck) (k : Int) (hk : ∀ e ∈ E, (e.a.page : Int) ≠ k) :
    Calls Tryz.prog 50 #[.pointer (some ⟨g, 0, none⟩), .int .i64 k] w fun e w' => e = .returned (.tuple #[.pointer none, .int .i64 7]) ∧ w = w' := by
  have c2 : w.cell? ⟨g, 2, none⟩ = some (.map (some m)) := h.hp.cell 2
  have lk := h.lookNo true k hk
  simp only [if_true] at lk
  clear h hk
  go_enter Tryz.func50, Tryz.ntmps50
  go_wp2
  go_ret2
  exact ⟨rfl, rfl⟩
set_option maxRecDepth 100000 in
theorem pheld_state (h : IsE w o j g pd m n su t E ck) {e : En} (he : e ∈ E) (h0 : e.a.pins = 0) :
    Calls Tryz.prog 50 #[.pointer (some ⟨g, 0, none⟩), .int .i64 (e.a.page : Int)] w fun e w' => e = .returned (.tuple #[.pointer none, .int .i64 9]) ∧ w = w' := by
  have c2 : w.cell? ⟨g, 2, none⟩ = some (.map (some m)) := h.hp.cell 2
  have c1 : w.cell? ⟨e.b, 1, none⟩ = some (.int .i64 (e.a.pins : Int)) := (h.hb e he).cell 1
  rw [h0] at c1
  have lk := h.look true he
  simp only [if_true] at lk
  generalize (e.a.page : Int) = k at *
  generalize e.b = b at *
  clear h he h0
  go_enter Tryz.func50, Tryz.ntmps50
  go_wp2
  go_ret2
  exact ⟨rfl, rfl⟩
set_option maxRecDepth 100000 in
theorem pheld_ok (h : IsE w o j g pd m n su t E ck) {e : En} (he : e ∈ E) (h0 : e.a.pins ≠ 0) :
    Calls Tryz.prog 50 #[.pointer (some ⟨g, 0, none⟩), .int .i64 (e.a.page : Int)] w fun x w' => x = .returned (.tuple #[.pointer (some ⟨e.b, 0, none⟩), .int .i64 0]) ∧ w = w' := by
  have c2 : w.cell? ⟨g, 2, none⟩ = some (.map (some m)) := h.hp.cell 2
  have c1 : w.cell? ⟨e.b, 1, none⟩ = some (.int .i64 (e.a.pins : Int)) := (h.hb e he).cell 1
  have hz : ((e.a.pins : Int) == 0) = false := by rw [beq_eq_false_iff_ne]; omega
  have lk := h.look true he
  simp only [if_true] at lk
  generalize (e.a.page : Int) = k at *
  generalize (e.a.pins : Int) = k2 at *
  generalize e.b = b at *
  clear h he h0
  go_enter Tryz.func50, Tryz.ntmps50
  go_wp2
  go_ret2
  exact ⟨rfl, rfl⟩
set_option maxRecDepth 100000 in
theorem ppins_none (h : IsE w o j g pd m n su t E ck) (k : Int) (hk : ∀ e ∈ E, (e.a.page : Int) ≠ k) :
    Calls Tryz.prog 15 #[.pointer (some ⟨g, 0, none⟩), .int .i64 k] w fun e w' => e = .returned (.int .i64 0) ∧ w = w' := by
  have c2 : w.cell? ⟨g, 2, none⟩ = some (.map (some m)) := h.hp.cell 2
  have lk := h.lookNo true k hk
  simp only [if_true] at lk
  clear h hk
  go_enter Tryz.func15, Tryz.ntmps15
  go_wp2
  go_ret
  exact ⟨rfl, rfl⟩
set_option maxRecDepth 100000 in
theorem ppins_some (h : IsE w o j g pd m n su t E ck) {e : En} (he : e ∈ E) :
    Calls Tryz.prog 15 #[.pointer (some ⟨g, 0, none⟩), .int .i64 (e.a.page : Int)] w fun x w' => x = .returned (.int .i64 (e.a.pins : Int)) ∧ w = w' := by
  have c2 : w.cell? ⟨g, 2, none⟩ = some (.map (some m)) := h.hp.cell 2
  have c1 : w.cell? ⟨e.b, 1, none⟩ = some (.int .i64 (e.a.pins : Int)) := (h.hb e he).cell 1
  have lk := h.look true he
  simp only [if_true] at lk
  generalize (e.a.page : Int) = k at *
  generalize (e.a.pins : Int) = k2 at *
  generalize e.b = b at *
  clear h he
  go_enter Tryz.func15, Tryz.ntmps15
  go_wp2
  go_ret
  exact ⟨rfl, rfl⟩
set_option maxRecDepth 100000 in
theorem psure (h : IsE w o j g pd m n su t E ck) (s : Int) :
    Calls Tryz.prog 30 #[.pointer (some ⟨g, 0, none⟩), .int .i64 s] w fun x w' => x = .returned (.tuple #[]) ∧ IsE w' o j g pd m n (max su s) t E ck ∧ Stp o j w o w' := by
  have c3 : w.cell? ⟨g, 3, none⟩ = some (.int .i64 su) := h.hp.cell 3
  have z3 := h.hp.fz 3
  have HP := Lib.hid (h.putSure (max su s)); have HS := Lib.hid (Stp.setCell o j w g 3 (.int .i64 (max su s)) h.op)
  clear h
  by_cases hlt : su < s
  · have e : max su s = s := by omega
    rw [e] at HP HS ⊢
    clear e
    go_enter Tryz.func30, Tryz.ntmps30
    go_wp2
    go_end0
    exact ⟨rfl, HP.out, HS.out⟩
  · have e : max su s = su := by omega
    rw [e] at HP HS ⊢
    clear e
    go_enter Tryz.func30, Tryz.ntmps30
    go_wp2
    go_end0
    exact ⟨rfl, HP.out, HS.out⟩
/-- copy(b[:], s), b the newest block, of whatever type -/
theorem run_copy_bytes7 {P : Program} (w : World) (dT sT ty elem T : TypeId) (dLen dCap : Nat) (s : ByteArray) (l : List UInt8)
    (hu : P.underlying dT = some (.slice elem)) (hs : (P.info? elem).map (·.size) = some 1) (hle : s.size ≤ dLen) (hfit : s.size ≤ l.length) :
    (Builtin.copy_ #[dT, sT] ty #[.slice (some ⟨w.heap.size, 0, none⟩) dLen dCap, .string s]).run P (w.alloc (.cells (brow l) T)) =
      .ok (goInt s.size) (w.alloc (.cells (brow (spliceB l 0 s.data.toList)) T)) := by
  rw [Lib.run_copy_row_string (w.alloc (.cells (brow l) T)) dT sT ty elem w.heap.size 0 dLen dCap s (brow l) T hu hs (heap_alloc_new w _) hle (by rw [brow_size]; omega)]
  have e : ((brow l).toList.take 0 ++ Lib.byteCells s.data.toList ++ (brow l).toList.drop (0 + s.size)).toArray = brow (spliceB l 0 s.data.toList) := by
    simp [brow, Lib.byteCells, spliceB]
  rw [e, setRow_alloc_new]
theorem run_string_bytes7 {P : Program} (w : World) (src dst e T : TypeId) (n c : Nat) (l : List UInt8) (hl : l.length = n) (hs : P.underlying src = some (.slice e)) (he : P.underlying e = some (.int .u8)) (hd : P.underlying dst = some .string) :
    (convert src dst (.slice (some ⟨w.heap.size, 0, none⟩) n c)).run P (w.alloc (.cells (brow l) T)) = .ok (.string ⟨l.toArray⟩) (w.alloc (.cells (brow l) T)) := by
  subst hl
  refine run_convert_bytes_back _ src dst e _ c l hs he hd ?_
  intro j hj
  have ea : Addr.add ⟨w.heap.size, 0, none⟩ j = ⟨w.heap.size, j, none⟩ := by simp [Addr.add]; exact fun h => h.symm
  rw [ea, World.cell?_alloc_at _ _ _ _ rfl, brow_get, List.getElem?_eq_getElem hj]; rfl
theorem zero252 : Tryz.zeroCells108 = brow (List.replicate 252 0) := by kernel_rfl
theorem pad_splice (s : ByteArray) (n : Nat) : (⟨(spliceB (List.replicate n 0) 0 s.data.toList).toArray⟩ : ByteArray) = padOf s n := by
  unfold padOf spliceB
  rw [List.take_zero, List.nil_append, List.drop_replicate, Nat.zero_add, Lib.size_eq]
set_option maxRecDepth 100000 in
theorem padded_any (s : ByteArray) (w : World) (hs : s.size ≤ 252) :
    Calls Tryz.prog 52 #[.string s] w fun e w' => e = .returned (.string (padOf s 252)) ∧ Below w.heap.size w w' := by
  obtain ⟨ib, hi, hz0, hz1, hz2⟩ := Tryz.info_byte
  have hinfo : (Tryz.prog.info? 5).map (·.size) = some 1 := by rw [hi]; simp [hz1]
  have hcp := run_copy_bytes7 (P := Tryz.prog) w 103 9 3 5 108 252 252 s (List.replicate 252 0) Tryz.underlying103 hinfo hs (by simpa using hs)
  rw [← zero252] at hcp
  have hst := run_string_bytes7 (P := Tryz.prog) w 103 9 5 108 252 252 (spliceB (List.replicate 252 0) 0 s.data.toList) (by rw [spliceB_length _ _ _ (by rw [← Lib.size_eq]; simpa using hs)]; simp) Tryz.underlying103 Tryz.underlying5 Tryz.underlying9
  rw [← pad_splice s 252]
  generalize spliceB (List.replicate 252 0) 0 s.data.toList = l at *
  clear hi hz0 hz1 hz2 hinfo hs
  go_enter Tryz.func52, Tryz.ntmps52
  go_wp2
  go_ret
  exact ⟨rfl, (Below.refl _ w).alloc (Nat.le_refl _) _⟩
end
end Go.Proofs.YthjlbfijfpfohaaGreat
