/-
  The document's pool: where it lies in memory: its block, its row of places, a block a place; the contracts of find, may, bad, Pins.
-/
import Derived.Test.YthjlbfijfpfohaaGreatW07p
namespace Go.Proofs.YthjlbfijfpfohaaGreat
open Go.RowKit Go.MapKept

/-- a place as the document has it, and its block b -/
structure Qn where
  pg : Nat
  s : ByteArray
  pins : Nat
  d : Bool
  fi : Int
  la : Int
  b : Nat
def qlv (e : Qn) : Array Value := #[.int .i64 (e.pg : Int), .string e.s, .int .i64 (e.pins : Int), .bool e.d, .int .i64 e.fi, .int .i64 e.la]
def qptr (e : Qn) : Value := .pointer (some ⟨e.b, 0, none⟩)
structure IsQ (w : World) (o : Nat → Nat) (j g x n : Nat) (su : Int) (v : Value) (E : List Qn) : Prop where
  hp : At w g #[.pointer (some ⟨x, 0, none⟩), .int .i64 (n : Int), .int .i64 su, v] 66
  hv : Row w o j 77 1 v E.length (E.map qptr)
  hb : ∀ e ∈ E, At w e.b (qlv e) 76
  op : o g = j
  ob : ∀ e ∈ E, o e.b = j
  nb : (E.map (·.b)).Nodup
  nk : (E.map (·.pg)).Nodup
section
variable {w w' : World} {o o' : Nat → Nat} {i j g x n : Nat} {su : Int} {v : Value} {E : List Qn}
theorem IsQ.reads (h : IsQ w o j g x n su v E) (b : Below w.heap.size w w') : IsQ w' o j g x n su v E :=
  ⟨h.hp.reads b, h.hv.reads b, fun e he => (h.hb e he).reads b, h.op, h.ob, h.nb, h.nk⟩
theorem IsQ.other (h : IsQ w o j g x n su v E) (s : Stp o i w o' w') (hne : j ≠ i) : IsQ w' o' j g x n su v E :=
  ⟨(s.blk g h.hp.lt (by rw [h.op]; exact hne)).trans h.hp, h.hv.other s hne, fun e he => (s.blk e.b (h.hb e he).lt (by rw [h.ob e he]; exact hne)).trans (h.hb e he), (s.own g h.hp.lt).trans h.op, fun e he => (s.own e.b (h.hb e he).lt).trans (h.ob e he), h.nb, h.nk⟩
theorem IsQ.ngb (h : IsQ w o j g x n su v E) {e : Qn} (he : e ∈ E) : g ≠ e.b := fun y => by
  have a := h.hp; have b := h.hb e he; unfold At at a b; rw [y, b] at a
  simp only [Option.some.injEq, Obj.cells.injEq] at a
  exact absurd a.2.1 (by decide)
/-- the row's cells -/
theorem IsQ.slot (h : IsQ w o j g x n su v E) : ∃ a C, v = .slice a E.length C := by
  rcases h.hv.val with ⟨rfl, e, _⟩ | ⟨gb, C, rfl, _⟩
  · exact ⟨none, 0, by rw [e]⟩
  · exact ⟨_, C, rfl⟩
theorem IsQ.at' (h : IsQ w o j g x n su v E) {k : Nat} {e : Qn} (hk : E[k]? = some e) : ∃ gb C, v = .slice (some ⟨gb, 0, none⟩) E.length C ∧ w.cell? ⟨gb, k, none⟩ = some (qptr e) := by
  rcases h.hv.val with ⟨_, e0, _⟩ | ⟨gb, C, rfl, _, _, hc, _⟩
  · have := (List.getElem?_eq_some_iff.1 hk).1; omega
  · exact ⟨gb, C, rfl, hc k _ (by rw [List.getElem?_map, hk]; rfl)⟩
set_option maxRecDepth 100000 in
set_option maxHeartbeats 1000000 in
theorem qfind_none (h : IsQ w o j g x n su v E) (k : Int) (hl : E.length ≤ 1000) (hk : ∀ e ∈ E, (e.pg : Int) ≠ k) :
    Calls Tryz.prog 36 #[.pointer (some ⟨g, 0, none⟩), .int .i64 k] w fun e w' => e = .returned (.int .i64 (-1)) ∧ w = w' := by
  obtain ⟨va, vC, rfl⟩ := h.slot
  have HH := Lib.hid h; have HK := Lib.hid hk
  have c3 : w.cell? ⟨g, 3, none⟩ = some (.slice va E.length vC) := h.hp.cell 3
  clear h hk
  go_enter Tryz.func36, Tryz.ntmps36
  go_wp2_with fail
  go_loopw [5] (fun u wr => ∃ i : Nat, i ≤ E.length ∧ u = .int .i64 (i : Int) ∧ wr = w) (fun u _ => E.length - (intOf u).toNat)
  case atStart => exact ⟨0, by omega, rfl, rfl⟩
  case round =>
    obtain ⟨i, hi, rfl, rfl⟩ := hrel
    by_cases hlt : i < E.length
    · have h1 : (i : Int) < (E.length : Int) := by omega
      have h0 : (0 : Int) ≤ (i : Int) := by omega
      have he := List.getElem?_eq_getElem hlt
      obtain ⟨gb, C, hv, cc⟩ := HH.out.at' he
      cases hv
      have hm := List.mem_of_getElem? he
      have c0 : wr.cell? ⟨E[i].b, 0, none⟩ = some (.int .i64 (E[i].pg : Int)) := (HH.out.hb _ hm).cell 0
      have hne : ((E[i].pg : Int) == k) = false := by rw [beq_eq_false_iff_ne]; exact HK.out _ hm
      unfold qptr at cc
      generalize (E[i].pg : Int) = pg at *
      generalize E[i].b = eb at *
      clear he hm
      go_wp2_with fail
      exact ⟨⟨i + 1, by omega, by go_num, trivial⟩, by simp [intOf]; omega⟩
    · have h1 : ¬ (i : Int) < (E.length : Int) := by omega
      go_wp2_with fail
      go_ret
      exact ⟨rfl, rfl⟩
set_option maxRecDepth 100000 in
set_option maxHeartbeats 1000000 in
theorem qfind_some (h : IsQ w o j g x n su v E) {t : Nat} {e : Qn} (ht : E[t]? = some e) (hl : E.length ≤ 1000) :
    Calls Tryz.prog 36 #[.pointer (some ⟨g, 0, none⟩), .int .i64 (e.pg : Int)] w fun y w' => y = .returned (.int .i64 (t : Int)) ∧ w = w' := by
  obtain ⟨va, vC, rfl⟩ := h.slot
  have HH := Lib.hid h
  have c3 : w.cell? ⟨g, 3, none⟩ = some (.slice va E.length vC) := h.hp.cell 3
  have htl := (List.getElem?_eq_some_iff.1 ht).1
  have hne : ∀ i (hi : i < E.length), i ≠ t → (E[i].pg : Int) ≠ (e.pg : Int) := fun i hi hit y => hit (by
    have e1 : E[t] = e := (List.getElem?_eq_some_iff.1 ht).2
    have h2 := h.nk
    rw [List.nodup_iff_pairwise_ne, List.pairwise_map, List.pairwise_iff_getElem] at h2
    rcases Nat.lt_trichotomy i t with hlt | heq | hgt
    · have := h2 i t hi htl hlt; rw [e1] at this; omega
    · exact heq
    · have := h2 t i htl hi hgt; rw [e1] at this; omega)
  have HN := Lib.hid hne; have HT := Lib.hid ht
  clear h hne ht
  generalize hk : (e.pg : Int) = k at *
  go_enter Tryz.func36, Tryz.ntmps36
  go_wp2_with fail
  go_loopw [5] (fun u wr => ∃ i : Nat, i ≤ t ∧ u = .int .i64 (i : Int) ∧ wr = w) (fun u _ => E.length - (intOf u).toNat)
  case atStart => exact ⟨0, by omega, rfl, rfl⟩
  case round =>
    obtain ⟨i, hi, rfl, rfl⟩ := hrel
    have hlt : i < E.length := by omega
    have h1 : (i : Int) < (E.length : Int) := by omega
    have h0 : (0 : Int) ≤ (i : Int) := by omega
    by_cases hit : i = t
    · subst hit
      obtain ⟨gb, C, hv, cc⟩ := HH.out.at' HT.out
      cases hv
      have c0 : wr.cell? ⟨e.b, 0, none⟩ = some (.int .i64 k) := by rw [← hk]; exact (HH.out.hb _ (List.mem_of_getElem? HT.out)).cell 0
      have hkk : (k == k) = true := by simp
      unfold qptr at cc
      go_wp2_with fail
      go_ret
      exact ⟨rfl, rfl⟩
    · have he := List.getElem?_eq_getElem hlt
      obtain ⟨gb, C, hv, cc⟩ := HH.out.at' he
      cases hv
      have hm := List.mem_of_getElem? he
      have c0 : wr.cell? ⟨E[i].b, 0, none⟩ = some (.int .i64 (E[i].pg : Int)) := (HH.out.hb _ hm).cell 0
      have hne : ((E[i].pg : Int) == k) = false := by rw [beq_eq_false_iff_ne]; exact HN.out i hlt hit
      unfold qptr at cc
      generalize (E[i].pg : Int) = pg at *
      generalize E[i].b = eb at *
      clear he hm
      go_wp2_with fail
      exact ⟨⟨i + 1, by omega, by go_num, trivial⟩, by simp [intOf]; omega⟩
set_option maxRecDepth 100000 in
set_option maxHeartbeats 1000000 in
theorem qmay (h : IsQ w o j g x n su v E) {e : Qn} (he : e ∈ E) :
    Calls Tryz.prog 55 #[.pointer (some ⟨g, 0, none⟩), .pointer (some ⟨e.b, 0, none⟩)] w fun y w' => y = .returned (.bool (e.d && decide (e.la ≤ su))) ∧ ∃ q, w' = w.drewN q := by
  have c2 : w.cell? ⟨g, 2, none⟩ = some (.int .i64 su) := h.hp.cell 2
  have c3 : w.cell? ⟨e.b, 3, none⟩ = some (.bool e.d) := (h.hb e he).cell 3
  have c5 : w.cell? ⟨e.b, 5, none⟩ = some (.int .i64 e.la) := (h.hb e he).cell 5
  cases hd : e.d with
  | true =>
    rw [hd] at c3
    clear h he hd
    go_enter Tryz.func55, Tryz.ntmps55
    go_wp2_with fail
    go_quiet (fail)
    go_wp2
    go_ret
    exact ⟨rfl, _, rfl⟩
  | false =>
    rw [hd] at c3
    clear h he hd
    go_enter Tryz.func55, Tryz.ntmps55
    go_wp2_with fail
    go_quiet (fail)
    go_wp2
    go_ret
    exact ⟨rfl, _, rfl⟩
set_option maxRecDepth 100000 in
set_option maxHeartbeats 1000000 in
theorem qbad_none (h : IsQ w o j g x n su v E) (k : Int) (hl : E.length ≤ 1000) (hk : ∀ e ∈ E, (e.pg : Int) ≠ k) :
    Calls Tryz.prog 51 #[.pointer (some ⟨g, 0, none⟩), .int .i64 k] w fun e w' => e = .returned (.int .i64 7) ∧ w = w' := by
  have C := Lib.hid (qfind_none h k hl hk)
  clear h hk
  go_enter Tryz.func51, Tryz.ntmps51
  go_wp2_with fail
  refine C.out.mono ?_; rintro e _ ⟨rfl, rfl⟩
  go_wp2_with fail
  go_ret
  exact ⟨rfl, rfl⟩
set_option maxRecDepth 100000 in
set_option maxHeartbeats 1000000 in
theorem qbad_some (h : IsQ w o j g x n su v E) {t : Nat} {e : Qn} (ht : E[t]? = some e) (hl : E.length ≤ 1000) :
    Calls Tryz.prog 51 #[.pointer (some ⟨g, 0, none⟩), .int .i64 (e.pg : Int)] w fun y w' => y = .returned (.int .i64 (if e.pins = 0 then 9 else 0)) ∧ w = w' := by
  have C := Lib.hid (qfind_some h ht hl)
  obtain ⟨gb, C', rfl, cc⟩ := h.at' ht
  have c3 : w.cell? ⟨g, 3, none⟩ = some (.slice (some ⟨gb, 0, none⟩) E.length C') := h.hp.cell 3
  have c2 : w.cell? ⟨e.b, 2, none⟩ = some (.int .i64 (e.pins : Int)) := (h.hb _ (List.mem_of_getElem? ht)).cell 2
  have htl := (List.getElem?_eq_some_iff.1 ht).1
  have h1 : (t : Int) < (E.length : Int) := by omega
  have h0 : (0 : Int) ≤ (t : Int) := by omega
  have h00 : ¬ (t : Int) < 0 := by omega
  unfold qptr at cc
  by_cases hp : e.pins = 0
  · rw [if_pos hp]
    rw [hp] at c2
    clear h ht hp
    go_enter Tryz.func51, Tryz.ntmps51
    go_wp2_with fail
    refine C.out.mono ?_; rintro e _ ⟨rfl, rfl⟩
    go_wp2_with fail
    go_ret
    exact ⟨rfl, rfl⟩
  · rw [if_neg hp]
    have hz : ((e.pins : Int) == 0) = false := by rw [beq_eq_false_iff_ne]; omega
    generalize (e.pins : Int) = pn at *
    clear h ht hp
    go_enter Tryz.func51, Tryz.ntmps51
    go_wp2_with fail
    refine C.out.mono ?_; rintro e _ ⟨rfl, rfl⟩
    go_wp2_with fail
    go_ret
    exact ⟨rfl, rfl⟩
set_option maxRecDepth 100000 in
set_option maxHeartbeats 1000000 in
theorem qpins_none (h : IsQ w o j g x n su v E) (k : Int) (hl : E.length ≤ 1000) (hk : ∀ e ∈ E, (e.pg : Int) ≠ k) :
    Calls Tryz.prog 16 #[.pointer (some ⟨g, 0, none⟩), .int .i64 k] w fun e w' => e = .returned (.int .i64 0) ∧ w = w' := by
  have C := Lib.hid (qfind_none h k hl hk)
  clear h hk
  go_enter Tryz.func16, Tryz.ntmps16
  go_wp2_with fail
  refine C.out.mono ?_; rintro e _ ⟨rfl, rfl⟩
  go_wp2_with fail
  go_ret
  exact ⟨rfl, rfl⟩
set_option maxRecDepth 100000 in
set_option maxHeartbeats 1000000 in
theorem qpins_some (h : IsQ w o j g x n su v E) {t : Nat} {e : Qn} (ht : E[t]? = some e) (hl : E.length ≤ 1000) :
    Calls Tryz.prog 16 #[.pointer (some ⟨g, 0, none⟩), .int .i64 (e.pg : Int)] w fun y w' => y = .returned (.int .i64 (e.pins : Int)) ∧ w = w' := by
  have C := Lib.hid (qfind_some h ht hl)
  obtain ⟨gb, C', rfl, cc⟩ := h.at' ht
  have c3 : w.cell? ⟨g, 3, none⟩ = some (.slice (some ⟨gb, 0, none⟩) E.length C') := h.hp.cell 3
  have c2 : w.cell? ⟨e.b, 2, none⟩ = some (.int .i64 (e.pins : Int)) := (h.hb _ (List.mem_of_getElem? ht)).cell 2
  have htl := (List.getElem?_eq_some_iff.1 ht).1
  have h1 : (t : Int) < (E.length : Int) := by omega
  have h0 : (0 : Int) ≤ (t : Int) := by omega
  have h00 : ¬ (t : Int) < 0 := by omega
  unfold qptr at cc
  generalize (e.pins : Int) = pn at *
  clear h ht
  go_enter Tryz.func16, Tryz.ntmps16
  go_wp2_with fail
  refine C.out.mono ?_; rintro e _ ⟨rfl, rfl⟩
  go_wp2_with fail
  go_ret
  exact ⟨rfl, rfl⟩
end
end Go.Proofs.YthjlbfijfpfohaaGreat
