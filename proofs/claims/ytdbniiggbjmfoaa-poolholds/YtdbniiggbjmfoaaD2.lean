/-
  Package disk: the contracts of New, Write, Sync, Crash, Dirty, Copy.
-/
import Derived.Test.YtdbniiggbjmfoaaK1
import Derived.Laws.AppendOwn
import Derived.OwnWalk
import Derived.Lib.LazyBuf
import Derived.Deep.RegionHeld3
import Derived.Deep.DeepCutAuto
import Derived.Laws.Externs
import Derived.Shelf.SlMaps.Clone
namespace Go.Proofs.Ytdbniiggbjmfoaa
open Go.RowKit Go.ChangeMaps

/-- a disk of the owner i: pages as they stay, and writes -/
def IsD (w : World) (o : Nat → Nat) (i p : Nat) (S : List ByteArray) (Ws : Wrs) : Prop := ∃ m v, IsM w o i p m v (lay S Ws) Ws
def blank : ByteArray := pageOf ⟨#[]⟩
theorem blank_size : blank.size = 256 := pageOf_size _ (by decide)
section
variable {w w' : World} {o o' : Nat → Nat} {i j p : Nat} {S : List ByteArray} {Ws : Wrs}
theorem IsD.other (h : IsD w o j p S Ws) (s : Stp o i w o' w') (hne : j ≠ i) : IsD w' o' j p S Ws := by obtain ⟨m, v, h⟩ := h; exact ⟨m, v, h.other s hne⟩
theorem IsD.reads (h : IsD w o i p S Ws) (b : Below w.heap.size w w') : IsD w' o i p S Ws := by obtain ⟨m, v, h⟩ := h; exact ⟨m, v, h.reads b⟩
theorem IsD.drew (h : IsD w o i p S Ws) : IsD w.drew o i p S Ws := by obtain ⟨m, v, h⟩ := h; exact ⟨m, v, h.drew⟩
theorem IsD.n1 (h : IsD w o i p S Ws) : 1 ≤ S.length := by obtain ⟨m, v, h⟩ := h; have := h.n1; rwa [lay_length] at this
theorem IsD.n2 (h : IsD w o i p S Ws) : S.length ≤ 1024 := by obtain ⟨m, v, h⟩ := h; have := h.n2; rwa [lay_length] at this
theorem IsD.ws (h : IsD w o i p S Ws) : ∀ x ∈ Ws, x.1 < S.length ∧ x.2.size = 256 := by obtain ⟨m, v, h⟩ := h; have := h.ws; rwa [lay_length] at this
theorem IsD.ltp (h : IsD w o i p S Ws) : p < w.heap.size := by obtain ⟨m, v, h⟩ := h; exact h.ltp
theorem IsD.sz (h : IsD w o i p S Ws) : ∀ s ∈ S, s.size = 256 := by
  obtain ⟨m, v, h⟩ := h
  intro s hs
  obtain ⟨k, hk⟩ := List.mem_iff_getElem?.1 hs
  exact (h.sz (s, rawAt Ws k s) (List.mem_of_getElem? (i := k) (by rw [lay_get, hk]; rfl))).1
end

theorem run_makeMap_some (t k e : TypeId) (w : World) (n : Int) (h : Try.prog.underlying t = some (.map k e)) : (Instr.makeMap t (some (.int .i64 n))).run Try.prog w = .ok (.map (some w.heap.size)) (w.alloc (.map #[] 0)) := by
  simp [Instr.makeMap, run_underlying h, asInt, Result.andThen, go_sem]

set_option maxRecDepth 100000 in
set_option maxHeartbeats 400000 in
theorem dnew_arg (w : World) (n : Int) (h : n < 1 ∨ 1024 < n) :
    Calls Try.prog 7 #[.int .i64 n] w fun e w' => e = .returned (.tuple #[.pointer none, .int .i64 1]) ∧ w = w' := by
  by_cases h0 : n < 1
  · clear h
    go_enter Try.func7, Try.ntmps7
    go_wp2
    go_ret2
    exact ⟨rfl, rfl⟩
  · have h1 := h.resolve_left h0
    clear h
    go_enter Try.func7, Try.ntmps7
    go_wp2
    go_ret2
    exact ⟨rfl, rfl⟩

theorem lay_new (n : Nat) (s : ByteArray) : lay (List.replicate n s) [] = List.replicate n (s, s) := by rw [lay_none, List.map_replicate]

set_option maxRecDepth 100000 in
set_option maxHeartbeats 1000000 in
theorem dnew_ok (w : World) (o : Nat → Nat) (i : Nat) (n : Nat) (h1 : 1 ≤ n) (h2 : n ≤ 1024) :
    Calls Try.prog 7 #[.int .i64 (n : Int)] w fun e w' => ∃ p o', e = .returned (.tuple #[.pointer (some ⟨p, 0, none⟩), .int .i64 0]) ∧ IsD w' o' i p (List.replicate n blank) [] ∧ Stp o i w o' w' := by
  have C := Lib.hid fun w => seal_ok ⟨#[]⟩ w (by decide)
  have hb := blank_size
  rw [show pageOf ⟨#[]⟩ = blank from rfl] at C
  generalize blank = Q at *
  have a1 : (1 : Int) ≤ (n : Int) := by omega
  have a2 : (n : Int) ≤ 1024 := by omega
  have hmm := fun w => run_makeMap_some 54 3 59 w (n : Int) Try.underlying54
  go_enter Try.func7, Try.ntmps7
  go_wp2_with fail
  refine (C.out _).mono ?_; rintro e w1 ⟨rfl, b1⟩
  go_wp2_with fail
  have hp0 : ((w1.alloc (.map #[] 0)).alloc (.cells #[.map (some w1.heap.size), .slice none 0 0] 57)).heap[w1.heap.size + 1]? = some (.cells #[.map (some w1.heap.size), .slice none 0 0] 57 (0, 0)) := by
    have := heap_alloc_new (w1.alloc (.map #[] 0)) (.cells #[.map (some w1.heap.size), .slice none 0 0] 57)
    rwa [World.size_alloc] at this
  have hm0 : IsMap ((w1.alloc (.map #[] 0)).alloc (.cells #[.map (some w1.heap.size), .slice none 0 0] 57)) w1.heap.size [] := by
    unfold IsMap
    rw [Below.heap_alloc _ _ _ (by simp)]
    exact heap_alloc_new w1 _
  have hB0 := Lib.hid (b1.trans (((Below.refl w.heap.size w1).alloc b1.size (.map #[] 0)).alloc (by have := b1.size; simp; omega) (.cells #[.map (some w1.heap.size), .slice none 0 0] 57)))
  have hms : w.heap.size ≤ w1.heap.size := b1.size
  clear b1 C
  generalize (w1.alloc (.map #[] 0)).alloc (.cells #[.map (some w1.heap.size), .slice none 0 0] 57) = W0 at *
  generalize w1.heap.size = m at *
  have HM := Lib.hid hm0; have HP := Lib.hid hp0; clear hm0 hp0
  go_loopw [26] (fun c wr => ∃ t : Nat, t ≤ n ∧ c = .int .i64 (t : Int) ∧ IsMap wr m (List.replicate t (Q, Q)) ∧ wr.heap[m + 1]? = some (.cells #[.map (some m), .slice none 0 0] 57 (0, 0)) ∧ Below w.heap.size w wr) (fun c _ => n - (intOf c).toNat)
  case atStart => exact ⟨0, by omega, rfl, HM.out, HP.out, hB0.out⟩
  case round =>
    obtain ⟨t, ht, rfl, hm, hp, hB⟩ := hrel
    clear HM HP hB0
    by_cases hlt : t < n
    · have h0 : (t : Int) < (n : Int) := by omega
      have cp : wr.cell? ⟨m + 1, 0, none⟩ = some (.map (some m)) := by simp [World.cell?, hp]
      have hpt := put_new (P := Try.prog) hm Try.underlying54 Try.underlying3 (Q, Q)
      have hm1 := Lib.hid (isMap_set hm (List.replicate t (Q, Q) ++ [(Q, Q)]))
      have hp1 := Lib.hid ((heap_setBlock_other hm (.map (ents 0 (List.replicate t (Q, Q) ++ [(Q, Q)])).toArray (List.replicate t (Q, Q) ++ [(Q, Q)]).length) (show m + 1 ≠ m by omega)).trans hp)
      have hB1 := Lib.hid (show Below w.heap.size w (setBlock wr m (.map (ents 0 (List.replicate t (Q, Q) ++ [(Q, Q)])).toArray (List.replicate t (Q, Q) ++ [(Q, Q)]).length)) from
        hB.trans ⟨rfl, rfl, rfl, by simp [setBlock], fun k hk => heap_setBlock_other hm _ (by omega)⟩)
      rw [List.length_replicate] at hpt
      have er : List.replicate t (Q, Q) ++ [(Q, Q)] = List.replicate (t + 1) (Q, Q) := by rw [List.replicate_succ']
      rw [er] at hm1 hp1 hB1 hpt
      simp only [stv] at hpt
      clear hp hm hB er
      generalize setBlock wr m (.map (ents 0 (List.replicate (t + 1) (Q, Q))).toArray (List.replicate (t + 1) (Q, Q)).length) = W1 at *
      go_wp2
      exact ⟨⟨t + 1, by omega, by go_num, hm1.out, hp1.out, hB1.out⟩, by simp [intOf]; omega⟩
    · obtain rfl : t = n := by omega
      go_wp2
      go_ret2
      refine ⟨m + 1, gives o w.heap.size i, rfl, ⟨m, _, ⟨hp, by rw [lay_new]; exact hm, Row.nil _ _ _ _ _, gives_new (by omega), gives_new hms, by rw [lay_length, List.length_replicate]; exact h1, by rw [lay_length, List.length_replicate]; exact h2, ?_, fun x hx => by simp at hx⟩⟩, (Stp.ofBelow hB o i).gives _ (Nat.le_refl _)⟩
      intro q hq
      rw [lay_new] at hq
      rw [(List.mem_replicate.1 hq).2]; exact ⟨hb, hb⟩
end Go.Proofs.Ytdbniiggbjmfoaa
