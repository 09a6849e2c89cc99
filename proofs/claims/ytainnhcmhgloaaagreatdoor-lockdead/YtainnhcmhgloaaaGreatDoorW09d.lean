/-
  Package lock: the contracts of quit, entryOf.
-/
import Derived.Test.YtainnhcmhgloaaaGreatDoorK09c
namespace Go.Proofs.YtainnhcmhgloaaaGreatDoor
open Go.RowKit Go.Shelf Go.MapKept Go.Maps Go.Sort

section
variable {w w' W2 : World} {o o' : Nat → Nat} {i j g m1 m2 m3 : Nat} {N N1 N2 : List En} {HL : List Ho} {WL H W : Hs} {n0 : ByteArray} {pre : List Int} {e : En}
/-- an entry's queue is written: its row ahead, its cell then -/
theorem IsT.queueStep (T : IsT w o j g m1 m2 m3 (N1 ++ e :: N2) HL WL) {v' : Value} {q' : List Int} (R : RowStep w o j e.qv W2 o' v' q') :
    IsT (W2.setCell ⟨e.b, 2, none⟩ v') o' j g m1 m2 m3 (N1 ++ { e with qv := v', q := q' } :: N2) HL WL ∧ Stp o j w o' (W2.setCell ⟨e.b, 2, none⟩ v') ∧ At W2 e.b (encs e) 70 := by
  have he : e ∈ N1 ++ e :: N2 := by simp
  obtain ⟨tg, g0, g1, g2, g3, g4, g5⟩ := T.tg
  have ge := g4 e he
  have nq : e.qv.ownBlock ≠ some e.b := fun x => by
    have := ge.2.2 _ x
    rw [ge.1] at this; cases this
  have hA : At W2 e.b (encs e) 70 := (T.eb e he).same (R.blk e.b (T.eb e he).lt nq)
  have oc := only_setCell W2 e.b 2 v'
  have nv : ∀ r, v'.ownBlock = some r → r ≠ e.b := fun r hr x => by
    rcases R.new r hr with h1 | h1
    · exact nq (by rw [← x]; exact h1)
    · have := (T.eb e he).lt; omega
  refine ⟨T.setQueue v' q' (hA.set 2 v') ⟨ownsRow_same R.row.row (fun r hr => oc.blk r (nv r hr)), R.row.own⟩ (fun k hk h1 h2 => (oc.blk k h1).trans (R.blk k hk h2)) R.own R.new, ?_, hA⟩
  exact (R.stp (fun r hr => (T.er e he).own r hr)).trans (oc.stp ((R.own _ (T.eb e he).lt).trans (T.oe e he).1))
theorem Row.isSlice {v : Value} {n : Nat} {xs : List Value} (h : Row w o j 3 1 v n xs) : ∃ a n c, v = .slice a n c := by
  rcases h.row.2 with ⟨rfl, _⟩ | ⟨g, cap, cur, rfl, _⟩
  · exact ⟨_, _, _, rfl⟩
  · exact ⟨_, _, _, rfl⟩
theorem RowStep.isSlice {v v' : Value} {l' : List Int} (R : RowStep w o j v W2 o' v' l') : ∃ a n c, v' = .slice a n c := by
  rcases R.row.row.2 with ⟨rfl, _⟩ | ⟨g, cap, cur, rfl, _⟩
  · exact ⟨_, _, _, rfl⟩
  · exact ⟨_, _, _, rfl⟩
theorem idx_mid {l1 l2 : List Int} {x : Int} (h : ∀ y ∈ l1, y ≠ x) : Lib.idxOf (l1 ++ x :: l2) x = (l1.length : Int) := by
  have h1 := Lib.idxOf_hit (l1 ++ x :: l2) (l1 ++ x :: l2).length l1.length x (by simp) (Nat.le_refl _) (by simp [List.getD]) (fun k hk => by
    simp only [List.getD, List.getElem?_append_left hk, List.getElem?_eq_getElem hk, Option.getD_some]
    exact h _ (List.getElem_mem hk))
  rw [List.take_length] at h1
  exact h1
theorem WL_del {w : World} {m : Nat} {L1 L2 : Hs} {y : Has9} (M : MapAt (.int .i64) w m ((L1 ++ y :: L2).map wkv)) :
    ∃ w', (Builtin.delete_ #[52, 3] 0 #[.map (some m), .int .i64 y.owner]).run Tryz.prog w = .ok (.tuple #[]) w' ∧ MapAt (.int .i64) w' m ((L1 ++ L2).map wkv) ∧ Only m w w' := by
  rw [List.map_append, List.map_cons] at M
  obtain ⟨w', h1, h2, h3⟩ := MapAt.del (k := .int .i64 y.owner) (v0 := (wkv y).2) M Tryz.underlying52 Tryz.underlying3 0
  exact ⟨w', h1, by rw [List.map_append]; exact h2, h3⟩
theorem Abs.q_len (A : Abs N HL WL H W n0 []) (he : e ∈ N) : e.q = (nameL W e.name).map (·.owner) := by
  have := A.qn e he
  simpa using this
set_option maxRecDepth 100000 in
set_option maxHeartbeats 2000000 in
theorem c_quit (T : IsT w o j g m1 m2 m3 (N1 ++ e :: N2) HL WL) (A : Abs (N1 ++ e :: N2) HL WL H W n0 []) {y : Has9} (hy : y ∈ W) (hn : y.name = e.name) (hl : W.length ≤ 1000) :
    Calls Tryz.prog 52 #[ptr9 g, ptr9 e.b, .int .i64 y.owner] w fun r w' => r = .returned (.tuple #[]) ∧ ∃ qv q WL', IsT w' o j g m1 m2 m3 (N1 ++ { e with qv := qv, q := q } :: N2) HL WL' ∧ Abs (N1 ++ { e with qv := qv, q := q } :: N2) HL WL' H (woA W y.owner) n0 [] ∧ Stp o j w o w' := by
  have he : e ∈ N1 ++ e :: N2 := by simp
  have nd := T.nnd
  obtain ⟨l1, l2, hsp⟩ := List.append_of_mem (mem_nameL.2 ⟨hy, hn⟩)
  obtain ⟨L1, L2, hWL⟩ := List.append_of_mem (A.wm.mem_iff.2 hy)
  have hq : e.q = l1.map (·.owner) ++ y.owner :: l2.map (·.owner) := by rw [A.q_len he, hsp]; simp
  have hno : ∀ z ∈ l1.map (·.owner), z ≠ y.owner := fun z hz x => by
    have h2 := nameL_owners A.ok.wn e.name
    rw [hsp] at h2
    obtain ⟨u, hu, rfl⟩ := List.mem_map.1 hz
    exact mid_ne (x := y) h2 (.inl hu) x
  have hql : e.q.length ≤ 1000 := by
    rw [A.q_len he, List.length_map]; exact Nat.le_trans (List.length_filter_le _ _) hl
  have hix : Lib.idxOf e.q y.owner = (l1.length : Int) := by rw [hq, idx_mid hno]; simp
  have hll : l1.length + 1 ≤ e.q.length := by rw [hq]; simp
  have htd : e.q.take l1.length ++ e.q.drop (l1.length + 1) = (l1 ++ l2).map (·.owner) := by
    rw [hq]
    have e1 : (l1.map (·.owner)).length = l1.length := by simp
    rw [← e1, List.take_left, List.drop_append, List.drop_of_length_le (by omega), List.nil_append, show (l1.map (·.owner)).length + 1 - (l1.map (·.owner)).length = 1 by omega]
    simp
  have CI := Lib.hid (c_index (T.er e he) hql y.owner)
  rw [hix] at CI
  have CD := Lib.hid (c_delete (T.er e he) hql l1.length (l1.length + 1) (by omega) hll)
  rw [show ((l1.length + 1 : Nat) : Int) = (l1.length : Int) + 1 by omega] at CD
  have b2 : w.cell? ⟨e.b, 2, none⟩ = some e.qv := (T.eb e he).cell 2
  have b22 : w.cell? ⟨e.b, 2, none⟩ = some e.qv := b2
  have HT := Lib.hid T
  have fin : ∀ (W2 : World) (v' : Value) (q' : List Int), q' = (l1 ++ l2).map (·.owner) → RowStep w o j e.qv W2 o v' q' → ∃ w4, (Builtin.delete_ #[52, 3] 0 #[.map (some m3), .int .i64 y.owner]).run Tryz.prog (W2.setCell ⟨e.b, 2, none⟩ v') = .ok (.tuple #[]) w4 ∧ (W2.setCell ⟨e.b, 2, none⟩ v').cell? ⟨g, 2, none⟩ = some (.map (some m3)) ∧ W2.cell? ⟨e.b, 2, none⟩ = some e.qv ∧ W2.frozen? ⟨e.b, 2, none⟩ = false ∧
      ∃ qv q WL', IsT w4 o j g m1 m2 m3 (N1 ++ { e with qv := qv, q := q } :: N2) HL WL' ∧ Abs (N1 ++ { e with qv := qv, q := q } :: N2) HL WL' H (woA W y.owner) n0 [] ∧ Stp o j w o w4 := by
    intro W2 v' q' e1 R
    obtain ⟨T2, S2, hA2⟩ := HT.out.queueStep R
    rw [hWL] at T2
    obtain ⟨w4, h1, h2, h3⟩ := WL_del T2.hw
    have T3 := T2.setWaits _ h3 h2
    have A3 := A.quit nd v' hWL hsp
    rw [← e1] at A3
    exact ⟨w4, h1, T2.hp.cell 2, hA2.cell 2, hA2.fz 2, v', q', _, T3, A3, S2.trans (h3.stp T2.og.2.2.2)⟩
  have HF := Lib.hid fin
  have hkb : (l1.length : Int) ≤ 1000 := by omega
  have hkb0 : (0 : Int) ≤ (l1.length : Int) := by omega
  obtain ⟨ua, un, uc, hqv⟩ := (T.er e he).isSlice
  rw [hqv] at CI CD b2 b22
  have HQV := Lib.hid hqv
  clear hqv fin T A nd hno hql hix hll hq hsp hWL he hy hn
  have HTD := Lib.hid htd
  clear htd
  unfold ptr9 at *
  generalize e.b = eb at *
  generalize l1.length = k at *
  generalize y.owner = yo at *
  go_enter Tryz.func52, Tryz.ntmps52
  go_wp2_with fail
  refine CI.out.mono ?_; rintro x w1 ⟨rfl, rfl⟩
  go_wp2_with fail
  refine CD.out.mono ?_; rintro x W2 ⟨v', rfl, R⟩
  obtain ⟨qa, qn, qc, rfl⟩ := R.isSlice
  obtain ⟨w4, hr4, c4, d2, z2, HX⟩ := HF.out W2 _ _ HTD.out (by rw [HQV.out]; exact R)
  rw [HQV.out] at d2
  have HXX := Lib.hid HX
  have HR4 := Lib.hid hr4; have HC4 := Lib.hid c4
  clear HX R HF HTD CI CD hr4 c4 b2 b22
  go_upto_region 2 with fail
  generalize W2.setCell ⟨eb, 2, none⟩ (.slice qa qn qc) = W3 at *
  have hr4 := HR4.out; have c4 := HC4.out
  clear HR4 HC4 d2 z2
  go_wp2_with fail
  go_end0
  exact ⟨rfl, HXX.out⟩
end
end Go.Proofs.YtainnhcmhgloaaaGreatDoor
