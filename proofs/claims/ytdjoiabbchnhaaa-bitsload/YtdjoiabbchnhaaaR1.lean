/-
  The document's pages: where they lie in memory; the contracts of New, has, Is, TakeAt, Give, Take.
-/
import Derived.Test.YtdjoiabbchnhaaaK4
namespace Go.Proofs.Ytdjoiabbchnhaaa
open Go.RowKit Go.Shelf

/-- block p: where the pages are; block b: a bool a page -/
structure IsR (w : World) (p b : Nat) (L : List Bool) : Prop where
  hp : w.heap[p]? = some (.cells #[.slice (some ⟨b, 0, none⟩) L.length L.length] 56 (0, 0))
  hb : w.heap[b]? = some (.cells (L.map Value.bool).toArray 4 (0, 0))
  n1 : 1 ≤ L.length
  n2 : L.length ≤ 1024
theorem IsR.cs {w : World} {p b : Nat} {L : List Bool} (h : IsR w p b L) : w.cell? ⟨p, 0, none⟩ = some (.slice (some ⟨b, 0, none⟩) L.length L.length) := by simp [World.cell?, h.hp]
theorem IsR.cb {w : World} {p b : Nat} {L : List Bool} (h : IsR w p b L) (j : Nat) (hj : j < L.length) : w.cell? ⟨b, j, none⟩ = some (.bool (tk L j)) := by
  have := tk_eq L j hj
  simp [World.cell?, h.hb, this]
theorem IsR.fz {w : World} {p b : Nat} {L : List Bool} (h : IsR w p b L) (j : Nat) : w.frozen? ⟨b, j, none⟩ = false := by simp [World.frozen?, h.hb]
theorem IsR.ltp {w : World} {p b : Nat} {L : List Bool} (h : IsR w p b L) : p < w.heap.size := (Array.getElem?_eq_some_iff.1 h.hp).1
theorem IsR.ltb {w : World} {p b : Nat} {L : List Bool} (h : IsR w p b L) : b < w.heap.size := (Array.getElem?_eq_some_iff.1 h.hb).1
theorem IsR.ne {w : World} {p b : Nat} {L : List Bool} (h : IsR w p b L) : p ≠ b := fun e => by
  have h1 := h.hp; have h2 := h.hb; subst e; rw [h1] at h2; simp at h2
theorem IsR.kept {w w' : World} {p b : Nat} {L : List Bool} (h : IsR w p b L) (e1 : w'.heap[p]? = w.heap[p]?) (e2 : w'.heap[b]? = w.heap[b]?) : IsR w' p b L := ⟨e1.trans h.hp, e2.trans h.hb, h.n1, h.n2⟩
theorem IsR.grew {w w' : World} {p b : Nat} {L : List Bool} (h : IsR w p b L) (bel : Below w.heap.size w w') : IsR w' p b L := h.kept (bel.block p h.ltp) (bel.block b h.ltb)
theorem IsR.grown {w w' : World} {p b c : Nat} {L : List Bool} (h : IsR w p b L) (g : w.grownBy w' (some c)) (hp : p ≠ c) (hb : b ≠ c) : IsR w' p b L := h.kept (g.block p h.ltp (by simp [hp])) (g.block b h.ltb (by simp [hb]))
theorem IsR.set {w : World} {p b : Nat} {L : List Bool} (h : IsR w p b L) (i : Nat) (x : Bool) : IsR (w.setCell ⟨b, i, none⟩ (.bool x)) p b (L.set i x) := by
  refine ⟨?_, ?_, by rw [List.length_set]; exact h.n1, by rw [List.length_set]; exact h.n2⟩
  · rw [Below.heap_setCell _ _ _ _ h.ne, List.length_set]; exact h.hp
  · rw [heap_setCell_same _ _ _ _ _ _ h.hb]
    congr 2
    rw [List.map_set]
    simp
theorem info_bool : (Try.prog.info? 4).map (fun i => (i.zero, i.size, i.bytes)) = some (some (.bool false), 1, 1) := by kernel_rfl
theorem madeCells_bools (n : Nat) : madeCells (Value.bool false).cells n = ((List.replicate n false).map Value.bool).toArray := by
  apply Array.ext
  · simp [madeCells]
  · intro i h1 h2
    simp [madeCells, Value.cells, Nat.mod_one]
set_option maxHeartbeats 400000 in
theorem rnew_arg (w : World) (n : Int) (h : n < 1 ∨ 1024 < n) :
    Calls Try.prog 10 #[.int .i64 n] w fun e w' => e = .returned (.tuple #[.pointer none, .int .i64 1]) ∧ w = w' := by
  by_cases h0 : n < 1
  · clear h
    go_enter Try.func10, Try.ntmps10
    go_wp2
    go_ret2
    exact ⟨rfl, rfl⟩
  · have h1 := h.resolve_left h0
    clear h
    go_enter Try.func10, Try.ntmps10
    go_wp2
    go_ret2
    exact ⟨rfl, rfl⟩
set_option maxHeartbeats 400000 in
theorem rnew_ok (w : World) (n : Nat) (h1 : 1 ≤ n) (h2 : n ≤ 1024) :
    Calls Try.prog 10 #[.int .i64 (n : Int)] w fun e w' => e = .returned (.tuple #[.pointer (some ⟨w.heap.size + 1, 0, none⟩), .int .i64 0]) ∧ IsR w' (w.heap.size + 1) w.heap.size (List.replicate n false) ∧ Below w.heap.size w w' := by
  have a1 : (1 : Int) ≤ (n : Int) := by omega
  have a2 : (n : Int) ≤ 1024 := by omega
  obtain ⟨i0, hi, hz0, hz1, hz2⟩ := info_parts info_bool
  have hm := run_make (P := Try.prog) w 54 4 i0 (.bool false) Try.underlying54 hi hz0 .i64 .i64 (n : Int) (n : Int) (by omega) (by omega) (by rw [hz2]; omega) (by omega)
  rw [hz1, Int.toNat_natCast, Nat.mul_one, madeCells_bools] at hm
  go_enter Try.func10, Try.ntmps10
  go_wp2
  go_ret2
  have er : Array.replicate n (Value.bool false) = ((List.replicate n false).map Value.bool).toArray := by simp
  rw [er]
  refine ⟨rfl, ⟨?_, ?_, by simpa using h1, by simpa using h2⟩, ((Below.refl _ w).alloc (Nat.le_refl _) _).alloc (by simp) _⟩
  · have := World.alloc_heap_new (w.alloc (.cells ((List.replicate n false).map Value.bool).toArray 4)) (.cells #[.slice (some ⟨w.heap.size, 0, none⟩) n n] 56)
    rw [World.size_alloc] at this
    rw [List.length_replicate]
    exact this
  · rw [Below.heap_alloc _ _ _ (by simp)]
    exact World.alloc_heap_new w _
set_option maxHeartbeats 400000 in
theorem rhas_yes (w : World) (p b : Nat) (L : List Bool) (H : IsR w p b L) (i : Nat) (h : i < L.length) :
    Calls Try.prog 34 #[.pointer (some ⟨p, 0, none⟩), .int .i64 (i : Int)] w fun e w' => e = .returned (.bool true) ∧ w = w' := by
  have cs := H.cs
  have h0 : (0 : Int) ≤ (i : Int) := by omega
  have h1 : (i : Int) < (L.length : Int) := by omega
  go_enter Try.func34, Try.ntmps34
  go_wp2
  go_ret
  exact ⟨by simp [h1], rfl⟩
set_option maxHeartbeats 400000 in
theorem rhas_no (w : World) (p b : Nat) (L : List Bool) (H : IsR w p b L) (i : Int) (h : i < 0 ∨ (L.length : Int) ≤ i) :
    Calls Try.prog 34 #[.pointer (some ⟨p, 0, none⟩), .int .i64 i] w fun e w' => e = .returned (.bool false) ∧ w = w' := by
  have cs := H.cs
  by_cases h0 : i < 0
  · clear h
    go_enter Try.func34, Try.ntmps34
    go_wp2
    go_ret
    exact ⟨by simp, rfl⟩
  · have h1 : (L.length : Int) ≤ i := h.resolve_left h0
    clear h
    go_enter Try.func34, Try.ntmps34
    go_wp2
    go_ret
    exact ⟨by simp [h1], rfl⟩
set_option maxHeartbeats 400000 in
theorem ris_in (w : World) (p b : Nat) (L : List Bool) (H : IsR w p b L) (i : Nat) (h : i < L.length) :
    Calls Try.prog 26 #[.pointer (some ⟨p, 0, none⟩), .int .i64 (i : Int)] w fun e w' => e = .returned (.bool (tk L i)) ∧ w = w' := by
  have cs := H.cs
  have cb := H.cb i h
  have C1 := Lib.hid (rhas_yes w p b L H i h)
  have h0 : (0 : Int) ≤ (i : Int) := by omega
  have h1 : (i : Int) < (L.length : Int) := by omega
  clear H
  go_enter Try.func26, Try.ntmps26
  go_wp2_with (go_at_call 34; refine C1.out.mono ?_; rintro e w' ⟨rfl, rfl⟩)
  go_ret
  exact ⟨rfl, rfl⟩
set_option maxHeartbeats 400000 in
theorem ris_out (w : World) (p b : Nat) (L : List Bool) (H : IsR w p b L) (i : Int) (h : i < 0 ∨ (L.length : Int) ≤ i) :
    Calls Try.prog 26 #[.pointer (some ⟨p, 0, none⟩), .int .i64 i] w fun e w' => e = .returned (.bool false) ∧ w = w' := by
  have C1 := Lib.hid (rhas_no w p b L H i h)
  clear H h
  go_enter Try.func26, Try.ntmps26
  go_wp2_with (go_at_call 34; refine C1.out.mono ?_; rintro e w' ⟨rfl, rfl⟩)
  go_ret
  exact ⟨rfl, rfl⟩
set_option maxHeartbeats 400000 in
theorem rtakeAt_arg (w : World) (p b : Nat) (L : List Bool) (H : IsR w p b L) (i : Int) (h : i < 0 ∨ (L.length : Int) ≤ i) :
    Calls Try.prog 14 #[.pointer (some ⟨p, 0, none⟩), .int .i64 i] w fun e w' => e = .returned (.int .i64 1) ∧ w = w' := by
  have C1 := Lib.hid (rhas_no w p b L H i h)
  clear H h
  go_enter Try.func14, Try.ntmps14
  go_wp2_with (go_at_call 34; refine C1.out.mono ?_; rintro e w' ⟨rfl, rfl⟩)
  go_ret
  exact ⟨rfl, rfl⟩
set_option maxHeartbeats 400000 in
theorem rtakeAt_twice (w : World) (p b : Nat) (L : List Bool) (H : IsR w p b L) (i : Nat) (h : i < L.length) (ht : tk L i = true) :
    Calls Try.prog 14 #[.pointer (some ⟨p, 0, none⟩), .int .i64 (i : Int)] w fun e w' => e = .returned (.int .i64 8) ∧ w = w' := by
  have cs := H.cs
  have cb := H.cb i h
  rw [ht] at cb
  have C1 := Lib.hid (rhas_yes w p b L H i h)
  have h0 : (0 : Int) ≤ (i : Int) := by omega
  have h1 : (i : Int) < (L.length : Int) := by omega
  clear H
  go_enter Try.func14, Try.ntmps14
  go_wp2_with (go_at_call 34; refine C1.out.mono ?_; rintro e w' ⟨rfl, rfl⟩)
  go_ret
  exact ⟨rfl, rfl⟩
set_option maxHeartbeats 400000 in
theorem rtakeAt_ok (w : World) (p b : Nat) (L : List Bool) (H : IsR w p b L) (i : Nat) (h : i < L.length) (ht : tk L i = false) :
    Calls Try.prog 14 #[.pointer (some ⟨p, 0, none⟩), .int .i64 (i : Int)] w fun e w' => e = .returned (.int .i64 0) ∧ IsR w' p b (L.set i true) ∧ w.grownBy w' (some b) := by
  have cs := H.cs
  have cb := H.cb i h
  have fz := H.fz i
  rw [ht] at cb
  have C1 := Lib.hid (rhas_yes w p b L H i h)
  have HF := Lib.hid (H.set i true)
  have h0 : (0 : Int) ≤ (i : Int) := by omega
  have h1 : (i : Int) < (L.length : Int) := by omega
  clear H
  go_enter Try.func14, Try.ntmps14
  go_wp2_with (go_at_call 34; refine C1.out.mono ?_; rintro e w' ⟨rfl, rfl⟩)
  go_ret
  exact ⟨rfl, HF.out, grownBy_setCell_any _ _ _ _⟩
set_option maxHeartbeats 400000 in
theorem rgive_arg (w : World) (p b : Nat) (L : List Bool) (H : IsR w p b L) (i : Int) (h : i < 0 ∨ (L.length : Int) ≤ i) :
    Calls Try.prog 16 #[.pointer (some ⟨p, 0, none⟩), .int .i64 i] w fun e w' => e = .returned (.int .i64 1) ∧ w = w' := by
  have C1 := Lib.hid (rhas_no w p b L H i h)
  clear H h
  go_enter Try.func16, Try.ntmps16
  go_wp2_with (go_at_call 34; refine C1.out.mono ?_; rintro e w' ⟨rfl, rfl⟩)
  go_ret
  exact ⟨rfl, rfl⟩
set_option maxHeartbeats 400000 in
theorem rgive_none (w : World) (p b : Nat) (L : List Bool) (H : IsR w p b L) (i : Nat) (h : i < L.length) (ht : tk L i = false) :
    Calls Try.prog 16 #[.pointer (some ⟨p, 0, none⟩), .int .i64 (i : Int)] w fun e w' => e = .returned (.int .i64 7) ∧ w = w' := by
  have cs := H.cs
  have cb := H.cb i h
  rw [ht] at cb
  have C1 := Lib.hid (rhas_yes w p b L H i h)
  have h0 : (0 : Int) ≤ (i : Int) := by omega
  have h1 : (i : Int) < (L.length : Int) := by omega
  clear H
  go_enter Try.func16, Try.ntmps16
  go_wp2_with (go_at_call 34; refine C1.out.mono ?_; rintro e w' ⟨rfl, rfl⟩)
  go_ret
  exact ⟨rfl, rfl⟩
set_option maxHeartbeats 400000 in
theorem rgive_ok (w : World) (p b : Nat) (L : List Bool) (H : IsR w p b L) (i : Nat) (h : i < L.length) (ht : tk L i = true) :
    Calls Try.prog 16 #[.pointer (some ⟨p, 0, none⟩), .int .i64 (i : Int)] w fun e w' => e = .returned (.int .i64 0) ∧ IsR w' p b (L.set i false) ∧ w.grownBy w' (some b) := by
  have cs := H.cs
  have cb := H.cb i h
  have fz := H.fz i
  rw [ht] at cb
  have C1 := Lib.hid (rhas_yes w p b L H i h)
  have HF := Lib.hid (H.set i false)
  have h0 : (0 : Int) ≤ (i : Int) := by omega
  have h1 : (i : Int) < (L.length : Int) := by omega
  clear H
  go_enter Try.func16, Try.ntmps16
  go_wp2_with (go_at_call 34; refine C1.out.mono ?_; rintro e w' ⟨rfl, rfl⟩)
  go_ret
  exact ⟨rfl, HF.out, grownBy_setCell_any _ _ _ _⟩
set_option maxHeartbeats 400000 in
theorem rtake_arg (w : World) (p b : Nat) (L : List Bool) (H : IsR w p b L) (i : Int) (h : i < 0 ∨ (L.length : Int) ≤ i) :
    Calls Try.prog 12 #[.pointer (some ⟨p, 0, none⟩), .int .i64 i] w fun e w' => e = .returned (.tuple #[.int .i64 0, .int .i64 1]) ∧ w = w' := by
  have C1 := Lib.hid (rhas_no w p b L H i h)
  clear H h
  go_enter Try.func12, Try.ntmps12
  go_wp2_with (go_at_call 34; refine C1.out.mono ?_; rintro e w' ⟨rfl, rfl⟩)
  go_ret2
  exact ⟨rfl, rfl⟩
set_option maxHeartbeats 1000000 in
theorem rtake_any (w : World) (p b : Nat) (L : List Bool) (H : IsR w p b L) (fr : Nat) (hfr : fr < L.length) :
    Calls Try.prog 12 #[.pointer (some ⟨p, 0, none⟩), .int .i64 (fr : Int)] w fun e w' =>
      (∃ k, k < L.length ∧ (∀ s, s < k → tk L ((fr + s) % L.length) = true) ∧ tk L ((fr + k) % L.length) = false ∧ e = .returned (.tuple #[.int .i64 (((fr + k) % L.length : Nat) : Int), .int .i64 0]) ∧
        IsR w' p b (L.set ((fr + k) % L.length) true) ∧ w.grownBy w' (some b)) ∨
      ((∀ s, s < L.length → tk L ((fr + s) % L.length) = true) ∧ e = .returned (.tuple #[.int .i64 0, .int .i64 6]) ∧ w = w') := by
  have cs := H.cs
  have HH := Lib.hid H
  have hn2 := H.n2
  have C1 := Lib.hid (rhas_yes w p b L H fr hfr)
  clear H
  go_enter Try.func12, Try.ntmps12
  go_wp2_with (go_at_call 34; refine C1.out.mono ?_; rintro e w' ⟨rfl, rfl⟩)
  clear C1
  go_loop [6] (fun i => ∃ s : Nat, fr + s ≤ L.length ∧ i = .int .i64 ((fr + s : Nat) : Int) ∧ Hid (∀ s', s' < s → tk L ((fr + s') % L.length) = true)) (fun i => L.length - (intOf i).toNat)
  case atStart => exact ⟨0, by omega, rfl, fun s' h => by omega⟩
  case round =>
    obtain ⟨s, hs, rfl, HT⟩ := hrel
    by_cases hlt : fr + s < L.length
    · have h0 : (0 : Int) ≤ ((fr + s : Nat) : Int) := by omega
      have h1 : ((fr + s : Nat) : Int) < (L.length : Int) := by omega
      have cb := HH.out.cb (fr + s) hlt
      have HM := Lib.hid (Nat.mod_eq_of_lt hlt)
      cases ht : tk L (fr + s)
      · rw [ht] at cb
        have C1 := Lib.hid (rtakeAt_ok w p b L HH.out (fr + s) hlt ht)
        obtain ⟨j, HJ⟩ : ∃ j, Hid (fr + s = j) := ⟨_, rfl⟩
        rw [HJ.out] at h0 h1 cb C1 ⊢
        go_wp2_with (go_at_call 14; refine C1.out.mono ?_; rintro e w' ⟨rfl, hi, hg⟩)
        go_ret2
        refine .inl ⟨s, by omega, HT.out, ?_, ?_, ?_, hg⟩
        · rw [HM.out]; exact ht
        · rw [HM.out, HJ.out]; rfl
        · rw [HM.out, HJ.out]; exact hi
      · rw [ht] at cb
        obtain ⟨j, HJ⟩ : ∃ j, Hid (fr + s = j) := ⟨_, rfl⟩
        rw [HJ.out] at h0 h1 cb ⊢
        have hjl : j ≤ 1024 := by omega
        go_wp2
        have e1 := HJ.out
        refine ⟨⟨s + 1, by omega, by go_num, fun s' h' => ?_⟩, by simp [intOf]; omega⟩
        by_cases e : s' = s
        · subst e; rw [HM.out]; exact ht
        · exact HT.out s' (by omega)
    · have e1 : fr + s = L.length := by omega
      rw [e1]
      have HT' : Hid (∀ s', s' < L.length - fr → tk L ((fr + s') % L.length) = true) := fun s' h' => HT.out s' (by omega)
      clear HT
      go_wp2
      go_loop [7] (fun i => ∃ t : Nat, t ≤ fr ∧ i = .int .i64 (t : Int) ∧ Hid (∀ s', s' < L.length - fr + t → tk L ((fr + s') % L.length) = true)) (fun i => fr - (intOf i).toNat)
      case atStart => exact ⟨0, by omega, rfl, fun s' h => HT'.out s' (by omega)⟩
      case round =>
        obtain ⟨t, ht0, rfl, HT⟩ := hrel
        by_cases hlt : t < fr
        · have h0 : (0 : Int) ≤ (t : Int) := by omega
          have h1 : (t : Int) < (L.length : Int) := by omega
          have h2 : (t : Int) < (fr : Int) := by omega
          have cb := HH.out.cb t (by omega)
          have HM := Lib.hid (show (fr + (L.length - fr + t)) % L.length = t by rw [show fr + (L.length - fr + t) = t + L.length by omega, Nat.add_mod_right]; exact Nat.mod_eq_of_lt (by omega))
          cases ht : tk L t
          · rw [ht] at cb
            have C1 := Lib.hid (rtakeAt_ok w p b L HH.out t (by omega) ht)
            go_wp2_with (go_at_call 14; refine C1.out.mono ?_; rintro e w' ⟨rfl, hi, hg⟩)
            go_ret2
            refine .inl ⟨L.length - fr + t, by omega, HT.out, ?_, ?_, ?_, hg⟩
            · rw [HM.out]; exact ht
            · rw [HM.out]; rfl
            · rw [HM.out]; exact hi
          · rw [ht] at cb
            go_wp2
            refine ⟨⟨t + 1, by omega, by go_num, fun s' h' => ?_⟩, by simp [intOf]; omega⟩
            by_cases e : s' = L.length - fr + t
            · subst e; rw [HM.out]; exact ht
            · exact HT.out s' (by omega)
        · obtain rfl : t = fr := by omega
          go_wp2
          go_ret2
          refine .inr ⟨fun s hs => HT.out s (by omega), rfl, rfl⟩
end Go.Proofs.Ytdjoiabbchnhaaa
