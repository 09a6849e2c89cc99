/-
  The document's pool: a place comes to the row's end; a place that is in no row is written.
-/
import Derived.Test.YthjlbfijfpfohaaGreatZ07k
namespace Go.Proofs.YthjlbfijfpfohaaGreat
open Go.RowKit Go.MapKept
section
variable {w w' : World} {o o' : Nat → Nat} {i j g x n q : Nat} {su : Int} {v : Value} {E : List Qn} {S : List ByteArray} {Ws : Wrs}
theorem IsQ.rowNe (h : IsQ w o j g x n su v E) {b : Nat} {cs : Array Value} {T : TypeId} (hb : At w b cs T) (hT : T ≠ 77) : ∀ gb, v.ownBlock = some gb → gb ≠ b := fun gb hg y => by
  rcases h.hv.row.2 with ⟨rfl, _⟩ | ⟨g2, C, cur, rfl, _, hgb, _⟩
  · cases hg
  · cases hg
    unfold At at hb
    rw [← y, hgb] at hb
    simp only [Option.some.injEq, Obj.cells.injEq] at hb
    exact hT hb.2.1.symm
/-- a cell of a block that is no part of the pool is written -/
theorem IsQ.far (h : IsQ w o j g x n su v E) {b : Nat} {cs : Array Value} (hb : At w b cs 76) (hE : ∀ e ∈ E, e.b ≠ b) (c : Nat) (u : Value) : IsQ (w.setCell ⟨b, c, none⟩ u) o j g x n su v E := by
  have hg : b ≠ g := fun y => by
    have a := h.hp; unfold At at a hb; rw [← y, hb] at a
    simp only [Option.some.injEq, Obj.cells.injEq] at a
    exact absurd a.2.1 (by decide)
  exact ⟨h.hp.setOther c u hg, ⟨ownsRow_same h.hv.row (fun gb hgb => Below.heap_setCell w ⟨b, c, none⟩ u gb (h.rowNe hb (by decide) gb hgb)), h.hv.own⟩, fun e he => (h.hb e he).setOther c u (hE e he).symm, h.op, h.ob, h.nb, h.nk⟩
/-- p.L = append(p.L, x) -/
theorem IsQ.push (h : IsQ w o j g x n su v E) (e : Qn) (hA : At w e.b (qlv e) 76) (ho : o e.b = j) (hb : ∀ y ∈ E, y.b ≠ e.b) (hpg : ∀ y ∈ E, y.pg ≠ e.pg) (hl : E.length ≤ 1000) :
    ∃ v' w' o', (Builtin.append_ #[64, 64] 64 #[v, .slice (some ⟨w.heap.size, 0, none⟩) 1 1]).run Tryz.prog (w.alloc (.cells #[.pointer (some ⟨e.b, 0, none⟩)] 77)) = .ok v' w' ∧
      IsQ (w'.setCell ⟨g, 3, none⟩ v') o' j g x n su v' (E ++ [e]) ∧ Stp o j w o' (w'.setCell ⟨g, 3, none⟩ v') ∧ At w' g #[.pointer (some ⟨x, 0, none⟩), .int .i64 (n : Int), .int .i64 su, v] 66 ∧ At (w'.setCell ⟨g, 3, none⟩ v') e.b (qlv e) 76 := by
  obtain ⟨i0, hi, hz0, hz1, hz2⟩ := info_parts info_place
  have b0 : Below w.heap.size w (w.alloc (.cells #[.pointer (some ⟨e.b, 0, none⟩)] 77)) := (Below.refl _ w).alloc (Nat.le_refl _) _
  have s0 : Stp o j w o (w.alloc (.cells #[.pointer (some ⟨e.b, 0, none⟩)] 77)) := Stp.ofBelow b0 o j
  have h1 := h.reads b0
  have hA1 := hA.reads b0
  obtain ⟨v', w', hap, hR, hS, hG, hown⟩ := Row.append (P := Tryz.prog) (t := 64) (ty := 64) h1.hv Tryz.underlying64 hi hz0 hz1 hz2 rfl (by decide) ⟨w.heap.size, 0, none⟩ 1 1 [.pointer (some ⟨e.b, 0, none⟩)] rfl (by
    intro k u hu
    rw [add_zero', World.cell?_alloc_at _ _ _ _ rfl]
    match k with
    | 0 => simpa using hu
    | k + 1 => simp at hu) (by intro u hu; simp at hu; subst hu; rfl) (by simp [maxLen]; omega) (by omega)
  have keep : ∀ {b : Nat} {cs : Array Value} {T : TypeId}, At (w.alloc (.cells #[.pointer (some ⟨e.b, 0, none⟩)] 77)) b cs T → T ≠ 77 → At w' b cs T := fun hb hT => (hG.block _ hb.lt (fun y => h1.rowNe hb hT _ y.symm rfl)).trans hb
  have A' := keep h1.hp (by decide)
  have he' := keep hA1 (by decide)
  have hge : g ≠ e.b := fun y => by
    have a := h.hp; unfold At at a hA; rw [y, hA] at a
    simp only [Option.some.injEq, Obj.cells.injEq] at a
    exact absurd a.2.1 (by decide)
  have hrow : ∀ gb, v'.ownBlock = some gb → gb ≠ g := fun gb hgb y => by
    rcases hR.row.2 with ⟨rfl, _⟩ | ⟨g2, C, cur, rfl, _, hgb2, _⟩
    · cases hgb
    · cases hgb
      unfold At at A'
      rw [← y, hgb2] at A'
      simp only [Option.some.injEq, Obj.cells.injEq] at A'
      exact absurd A'.2.1 (by decide)
  have sA := s0.trans hS
  have own' : ∀ {b : Nat} {cs : Array Value} {T : TypeId}, At w b cs T → o b = j → gives o (w.alloc (.cells #[.pointer (some ⟨e.b, 0, none⟩)] 77)).heap.size j b = j := fun hb ho => (sA.own _ hb.lt).trans ho
  have sC := sA.trans (Stp.setCell _ j w' g 3 v' (own' h.hp h.op))
  have hap' := hap
  refine ⟨v', w', _, hap', ⟨A'.set 3 v', ?_, fun y hy => ?_, own' h.hp h.op, fun y hy => ?_, ?_, ?_⟩, sC, A', he'.setOther 3 v' hge⟩
  · have hR' : Row w' (gives o (w.alloc (.cells #[.pointer (some ⟨e.b, 0, none⟩)] 77)).heap.size j) j 77 1 v' (E ++ [e]).length ((E ++ [e]).map qptr) := by
      rw [List.length_append, List.map_append]; exact hR
    exact ⟨ownsRow_same hR'.row (fun gb hgb => Below.heap_setCell w' ⟨g, 3, none⟩ v' gb (hrow gb hgb)), hR'.own⟩
  · rcases List.mem_append.1 hy with hy | hy
    · exact (keep (h1.hb y hy) (by decide)).setOther 3 v' (h.ngb hy)
    · obtain rfl := List.mem_singleton.1 hy
      exact he'.setOther 3 v' hge
  · rcases List.mem_append.1 hy with hy | hy
    · exact own' (h.hb y hy) (h.ob y hy)
    · obtain rfl := List.mem_singleton.1 hy
      exact own' hA ho
  · rw [List.map_append]
    exact List.nodup_append.2 ⟨h.nb, by simp, fun a ha c hc => by
      obtain ⟨y, hy, rfl⟩ := List.mem_map.1 ha
      simp at hc; subst hc; exact hb y hy⟩
  · rw [List.map_append]
    exact List.nodup_append.2 ⟨h.nk, by simp, fun a ha c hc => by
      obtain ⟨y, hy, rfl⟩ := List.mem_map.1 ha
      simp at hc; subst hc; exact hpg y hy⟩
def Qn.bump (e : Qn) : Qn := { e with pins := e.pins + 1 }
theorem erase_ne (hn : (E.map (·.b)).Nodup) {t : Nat} {e : Qn} (ht : E[t]? = some e) : ∀ y ∈ E.eraseIdx t, y.b ≠ e.b := by
  intro y hy
  have htl := (List.getElem?_eq_some_iff.1 ht).1
  have e1 : E[t] = e := (List.getElem?_eq_some_iff.1 ht).2
  obtain ⟨k, hk, rfl⟩ := List.mem_iff_getElem.1 hy
  rw [List.length_eraseIdx_of_lt htl] at hk
  rw [List.nodup_iff_pairwise_ne, List.pairwise_map, List.pairwise_iff_getElem] at hn
  rw [List.getElem_eraseIdx]
  split
  · have := hn k t (by omega) htl (by assumption)
    rw [e1] at this; exact this
  · have := hn t (k + 1) htl (by omega) (by omega)
    rw [e1] at this; exact fun h => this h.symm
theorem erase_nk (hn : (E.map (·.pg)).Nodup) {t : Nat} {e : Qn} (ht : E[t]? = some e) : ∀ y ∈ E.eraseIdx t, y.pg ≠ e.pg := by
  intro y hy
  have htl := (List.getElem?_eq_some_iff.1 ht).1
  have e1 : E[t] = e := (List.getElem?_eq_some_iff.1 ht).2
  obtain ⟨k, hk, rfl⟩ := List.mem_iff_getElem.1 hy
  rw [List.length_eraseIdx_of_lt htl] at hk
  rw [List.nodup_iff_pairwise_ne, List.pairwise_map, List.pairwise_iff_getElem] at hn
  rw [List.getElem_eraseIdx]
  split
  · have := hn k t (by omega) htl (by assumption)
    rw [e1] at this; exact this
  · have := hn t (k + 1) htl (by omega) (by omega)
    rw [e1] at this; exact fun h => this h.symm
set_option maxRecDepth 100000 in
set_option maxHeartbeats 2000000 in
theorem qpin_in (h : IsQ w o j g x n su v E) (D : IsR w o q x S Ws) (hqj : q ≠ j) (hl : E.length ≤ 1000) {t : Nat} {e : Qn} (ht : E[t]? = some e) (hk : e.pg < S.length) (hp : e.pins ≤ 1000000) :
    Calls Tryz.prog 25 #[.pointer (some ⟨g, 0, none⟩), .int .i64 (e.pg : Int)] w fun y w' => y = .returned (.tuple #[.string e.s, .int .i64 0]) ∧ ∃ v' o', IsQ w' o' j g x n su v' (E.eraseIdx t ++ [e.bump]) ∧ IsR w' o' q x S Ws ∧ Stp o j w o' w' := by
  have bA : Below w.heap.size w (w.alloc (.cells #[.int .i64 (e.pg : Int), .string ⟨#[]⟩, .int .i64 0, .bool false, .int .i64 0, .int .i64 0] 76)) := (Below.refl _ w).alloc (Nat.le_refl _) _
  have CF := Lib.hid (qfind_some h ht hl)
  have hA := h.reads bA
  have CC := Lib.hid (qcut hA ht hl)
  obtain ⟨gb, C', rfl, cc⟩ := hA.at' ht
  have HD := Lib.hid D
  obtain ⟨vl, vw, D'⟩ := D
  obtain ⟨a, C, b, DD, rfl, rfl⟩ := D'.slots
  have c0 := D'.c0
  have e0 : w.cell? ⟨g, 0, none⟩ = some (.pointer (some ⟨x, 0, none⟩)) := h.hp.cell 0
  have e3 := hA.hp.cell 3
  have e3' : (w.alloc (.cells #[.int .i64 (e.pg : Int), .string ⟨#[]⟩, .int .i64 0, .bool false, .int .i64 0, .int .i64 0] 76)).cell? ⟨g, 3, none⟩ = some (.slice (some ⟨gb, 0, none⟩) E.length C') := e3
  have k0 : ¬ (e.pg : Int) < 0 := by omega
  have k1 : ¬ (S.length : Int) ≤ (e.pg : Int) := by omega
  have htl := (List.getElem?_eq_some_iff.1 ht).1
  have p0 : (0 : Int) ≤ (e.pins : Int) := by omega
  have p9 : (e.pins : Int) ≤ 1000000 := by omega
  have t0 : (0 : Int) ≤ (t : Int) := by omega
  have t1 : (t : Int) < (E.length : Int) := by omega
  have hm := List.mem_of_getElem? ht
  have HA := Lib.hid hA; have BA := Lib.hid bA; have HT := Lib.hid ht; have HM := Lib.hid hm
  have hge := Lib.hid (fun y : e.b = g => hA.ngb hm y.symm)
  have hlen : (E.eraseIdx t).length ≤ 1000 := by rw [List.length_eraseIdx_of_lt htl]; omega
  have HLE := Lib.hid hlen
  unfold qptr at cc
  clear h hA D' bA ht hm hk hlen htl e3
  go_enter Tryz.func25, Tryz.ntmps25
  go_wp2_with fail
  refine CF.out.mono ?_; rintro y W5 ⟨rfl, rfl⟩
  clear CF
  go_wp2_with fail
  refine CC.out.mono ?_; rintro y W6 ⟨rfl, v6, o6, Q6, S6, K6⟩
  have Ae : At W6 e.b (qlv e) 76 := (K6.2 e.b (HA.out.hb e HM.out).lt (HA.out.ob e HM.out) hge.out).trans (HA.out.hb e HM.out)
  have oe : o6 e.b = j := (S6.own e.b (HA.out.hb e HM.out).lt).trans (HA.out.ob e HM.out)
  have b2 : W6.cell? ⟨e.b, 2, none⟩ = some (.int .i64 (e.pins : Int)) := Ae.cell 2
  have z2 := Ae.fz 2
  have hne := erase_ne HA.out.nb HT.out
  have hnk := erase_nk HA.out.nk HT.out
  have Q7 := Q6.far Ae hne 2 (.int .i64 ((e.pins : Int) + 1))
  have A7 : At (W6.setCell ⟨e.b, 2, none⟩ (.int .i64 ((e.pins : Int) + 1))) e.b (qlv e.bump) 76 := Ae.set 2 (.int .i64 ((e.pins : Int) + 1))
  have S7 := Stp.setCell o6 j W6 e.b 2 (.int .i64 ((e.pins : Int) + 1)) oe
  obtain ⟨v8, w8, o8, hap, Q8, S8, A8, B8⟩ := Q7.push e.bump A7 oe hne hnk HLE.out
  obtain ⟨a8, C8, e8⟩ := Q8.slot
  obtain ⟨n8, hn8⟩ : ∃ n8, (E.eraseIdx t ++ [e.bump]).length = n8 := ⟨_, rfl⟩
  rw [hn8] at e8
  clear hn8
  subst e8
  have HAP := Lib.hid hap; have HQ8 := Lib.hid Q8
  have HS := Lib.hid ((((Stp.ofBelow BA.out o j).trans S6).trans S7).trans S8)
  have HD8 := Lib.hid (HD.out.other HS.out hqj)
  obtain ⟨a6, C6, e6⟩ := Q6.slot
  subst e6
  have g3 : (W6.setCell ⟨e.b, 2, none⟩ (.int .i64 ((e.pins : Int) + 1))).cell? ⟨g, 3, none⟩ = some (.slice a6 (E.eraseIdx t).length C6) := Q7.hp.cell 3
  have z8 := And.intro (A8.fz 3) (show w8.cell? ⟨g, 3, none⟩ = some (.slice a6 (E.eraseIdx t).length C6) from A8.cell 3)
  have f1 : (w8.setCell ⟨g, 3, none⟩ (.slice a8 n8 C8)).cell? ⟨e.b, 1, none⟩ = some (.string e.s) := B8.cell 1
  clear Q6 S6 K6 Ae oe hne hnk Q7 A7 S7 Q8 S8 A8 B8 hap CC HA HT HM hge BA HD cc
  have HG3 := Lib.hid g3; have HZ8 := Lib.hid z8; have HF1 := Lib.hid f1
  clear g3 z8 f1
  go_upto_region 14 with fail
  clear c0 e0 e3' k0 k1 t0 t1
  generalize hpn : (e.pins : Int) = pn at *
  clear hpn
  go_upto_region 15 with fail
  generalize W6.setCell ⟨e.b, 2, none⟩ (.int .i64 (pn + 1)) = W7 at *
  have g3 := HG3.out; obtain ⟨z8, d8⟩ := HZ8.out; have f1 := HF1.out
  clear b2 z2 HG3 HZ8 HF1
  go_wp2_with (at_builtin; refine wpList_append_run rfl (.tmp 73) (.tmp 75) _ _ rfl _ _ rfl rfl _ _ HAP.out ?_)
  go_ret2
  exact ⟨rfl, _, o8, HQ8.out, HD8.out, HS.out⟩
end
end Go.Proofs.YthjlbfijfpfohaaGreat
