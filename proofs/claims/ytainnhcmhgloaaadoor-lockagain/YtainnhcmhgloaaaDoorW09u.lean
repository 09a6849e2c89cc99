/-
  Package lock: Held's walk.
-/
import Derived.Test.YtainnhcmhgloaaaDoorW09t
namespace Go.Proofs.YtainnhcmhgloaaaDoor
open Go.RowKit Go.Shelf Go.MapKept Go.Maps Go.Sort Go.Lib
theorem step_append_run9 {P : Program} {ops : Array Oper} {o : Oper} {a : Act} {K : Act → World → Prop} {Q : Exit → Act → World → Prop} {E : Prop} {w : World} (hgd : o.guard = none) (sl x : Operand) (t u : TypeId)
    (ho : o.op = .call { callee := .builtin .append, args := #[sl, x], argTypes := #[t, u] }) (v xv : Value) (hs : a.eval sl = v) (hx : a.eval x = xv) (v' : Value) (w' : World)
    (hr : (Builtin.append_ #[t, u] o.type #[v, xv]).run P w = .ok v' w') (h : K (a.put o.dst v') w') : if Region.wanted o (yielded ops a.tmps) = true then Oper.wp P o a w K Q else E := by
  have hw : Region.wanted o (yielded ops a.tmps) = true := by simp [Region.wanted, hgd]
  rw [if_pos hw]
  unfold Oper.wp execOp
  simp only [ho, resolve, invoke, builtin, Sem.run_bind, Sem.run_pure, Result.andThen_ok, List.map_toArray, List.map_cons, List.map_nil, hs, hx, hr]
  exact h
section
variable {w w' w0 : World} {o o' o0 : Nat → Nat} {i j z g m1 m2 m3 : Nat} {N N1 N2 : List En} {HL : List Ho} {WL H W H0 W0 : Hs} {n0 : ByteArray} {e : En} {v : Value}
theorem IsT.lookHolder (T : IsT w o j g m1 m2 m3 N HL WL) (A : Abs N HL WL H W n0 []) (he : e ∈ N) (x : Int) : (Instr.lookup 69 (.map (some e.hb)) (.int .i64 x) false).run Tryd.prog w = .ok (.int .i64 (modeP H x e.name : Int)) w := by
  rw [← A.mode he (hs_nodup (T.eh e he)) x]
  rcases hs_cases e.hs x with hno | ⟨p, hp, rfl⟩
  · rw [hsM_none hno]
    exact (T.eh e he).lookNo Tryd.underlying69 Tryd.underlying3 (show IsKey (.int .i64) (.int .i64 x) from rfl) (fun y hy e => by obtain ⟨p, hp, rfl⟩ := List.mem_map.1 hy; exact hno p hp (by simpa [hskv] using e)) (Tryd.zeroValue3 w) false
  · rw [hsM_mem (hs_nodup (T.eh e he)) hp]
    exact (T.eh e he).look Tryd.underlying69 Tryd.underlying3 (List.mem_map.2 ⟨p, hp, rfl⟩) false
set_option maxRecDepth 100000 in
set_option maxHeartbeats 8000000 in
theorem c_Held (h : T9 w o j g H W) (hB : H.length ≤ 800) (x : Int) :
    Calls Tryd.prog 12 #[ptr9 g, .int .i64 x] w fun r w' => ∃ v, r = .returned v ∧ w'.ownsRow w.heap.size 32 2 v (heldN H x).length ((heldN H x).flatMap (heldF H x)) ∧ Below w.heap.size w w' := by
  obtain ⟨m1, m2, m3, N, HL, WL, T, A⟩ := h.ex
  obtain ⟨v, lk, CK, CC⟩ := c_ownS T A (by omega) x
  have g1 : w.cell? ⟨g, 1, none⟩ = some (.map (some m2)) := T.hp.cell 1
  have hlen : (heldN H x).length ≤ 800 := by
    unfold heldN
    rw [List.length_map, List.length_mergeSort, List.length_map]
    exact Nat.le_trans (List.length_filter_le _ _) hB
  have hkey : ∀ n ∈ heldN H x, n.size ≤ 300 ∧ ∃ e ∈ N, e.name = n ∧ ∀ W', Below w.heap.size w W' → (Instr.lookup 46 (.map v) (.string n) false).run Tryd.prog W' = .ok (ptr9 e.b) W' ∧ W'.cell? ⟨e.b, 1, none⟩ = some (.map (some e.hb)) ∧ (Instr.lookup 69 (.map (some e.hb)) (.int .i64 x) false).run Tryd.prog W' = .ok (.int .i64 (modeP H x n : Int)) W' := fun n hn => by
    obtain ⟨y, hy, rfl, rfl⟩ := mem_heldN hn
    obtain ⟨h', hh, ho⟩ := A.ox y hy
    have hv : v = some h'.b := by
      have := T.hh.look Tryd.underlying47 Tryd.underlying3 (List.mem_map.2 ⟨h', hh, rfl⟩) false
      simp only [Bool.false_eq_true, if_false] at this
      have l2 : (Instr.lookup 47 (.map (some m2)) (.int .i64 y.owner) false).run Tryd.prog w = .ok (.map (some h'.b)) w := by rw [← ho]; exact this
      rw [lk] at l2
      simpa using l2
    subst hv
    obtain ⟨p, hp, hpn⟩ := List.mem_map.1 ((A.om h' hh).mem_iff.2 (List.mem_map.2 ⟨y, mem_ownL.2 ⟨hy, ho.symm⟩, rfl⟩))
    obtain ⟨e, he, h1, h2⟩ := A.ob h' hh p hp
    have hen : e.name = y.name := h1.trans hpn
    refine ⟨(A.ok.hm y hy).2.2.2.2, e, he, hen, fun W' b => ⟨?_, ((T.reads b).eb e he).cell 1, ?_⟩⟩
    · have := ((T.reads b).ho h' hh).look Tryd.underlying46 Tryd.underlying9 (List.mem_map.2 ⟨p, hp, rfl⟩) false
      simp only [Bool.false_eq_true, if_false] at this
      rw [← hpn, h2]; exact this
    · have := (T.reads b).lookHolder A he y.owner
      rw [hen] at this; exact this
  have HKY := Lib.hid hkey; have HCK := Lib.hid CK; have HCC := Lib.hid CC
  clear hkey CK CC T A h hB
  unfold ptr9 at *
  generalize hKK : heldN H x = K at *
  have HKK := Lib.hid hKK
  clear hKK
  go_enter Tryd.func12, Tryd.ntmps12
  go_wp2_with fail
  refine HCK.out.mono ?_; rintro r w1 ⟨rfl, rfl⟩
  go_wp2_with fail
  refine HCC.out.mono ?_; rintro r w1 ⟨nv, rfl, hrow, b1⟩
  obtain ⟨na, nn, nc, rfl⟩ : ∃ a n c, nv = .slice a n c := by
    rcases hrow.2 with ⟨rfl, _⟩ | ⟨g, cap, cur, rfl, _⟩ <;> exact ⟨_, _, _, rfl⟩
  have hnn : nn = K.length := by
    rcases hrow.2 with ⟨h1, h2⟩ | ⟨g', cap, cur, h1, _⟩
    · cases h1; exact h2.symm
    · cases h1; rfl
  subst hnn
  have Q1 : Row w1 (fun _ => 0) 0 9 1 (.slice na K.length nc) K.length (K.map Value.string) := ⟨ownsRow_base_a hrow (Nat.zero_le _), fun _ _ => rfl⟩
  have HQ := Lib.hid Q1; have HB1 := Lib.hid b1
  clear Q1 hrow b1 HCK HCC lk g1
  go_wp2_with fail
  go_loopw [6, 19] (fun u c wr => ∃ k, k ≤ K.length ∧ c = .int .i64 (k : Int) ∧ wr.ownsRow w1.heap.size 32 2 u k ((K.take k).flatMap (heldF H x)) ∧ Below w1.heap.size w1 wr) (fun _ c _ => K.length - (intOf c).toNat)
  case atStart => exact ⟨0, by omega, rfl, World.ownsRow_nil _ _ _ _, Below.refl _ _⟩
  case round =>
    obtain ⟨k, hk, rfl, hrow, hb⟩ := hrel
    have HR := Lib.hid hrow; have HBr := Lib.hid hb
    by_cases hlt : k < K.length
    · have c1 : (k : Int) < (K.length : Int) := by omega
      have c2 : (0 : Int) ≤ (k : Int) := by omega
      obtain ⟨n, hn⟩ : ∃ n, K[k]? = some n := ⟨_, List.getElem?_eq_getElem hlt⟩
      have htk : K.take (k + 1) = K.take k ++ [n] := by rw [List.take_add_one, hn]; rfl
      obtain ⟨hn3, e, _, _, hE⟩ := HKY.out n (List.mem_of_getElem? hn)
      have hbw : Below w.heap.size w wr := HB1.out.trans (hb.mono HB1.out.size)
      obtain ⟨gq, hua, cq⟩ := row_cellS (HQ.out.reads hb) hn
      subst hua
      obtain ⟨f1, f2, f3⟩ := hE wr hbw
      have HE := Lib.hid hE; have HBW := Lib.hid hbw; have HTK := Lib.hid htk
      have CL := Lib.hid (fun w => c_clone n (by omega) w)
      have HK8 : k ≤ 1000 := by omega
      clear hrow hb hn htk hn3 hE hbw
      unfold ptr9 at *
      go_wp2_with fail
      have q0 := HE.out wr.drew HBW.out.drew
      go_region_held3 (fun W => (Instr.lookup 46 (.map v) (.string n) false).run Tryd.prog W = .ok (.pointer (some ⟨e.b, 0, none⟩)) W ∧ W.cell? ⟨e.b, 1, none⟩ = some (.map (some e.hb)) ∧ (Instr.lookup 69 (.map (some e.hb)) (.int .i64 x) false).run Tryd.prog W = .ok (.int .i64 (modeP H x n : Int)) W) (first | exact q0 | exact q1 | exact q2 | exact q3)
        (first
        | (go_at_call 24; ((with_reducible refine (CL.out _).mono ?_); rintro e1 v1 ⟨rfl, b1⟩; have hb2 : Below wr.heap.size wr v1 := ⟨b1.os, b1.tape, b1.output, b1.size, fun q hq => b1.block q hq⟩; have hbw2 := HBW.out.trans (hb2.mono HBW.out.size); have q1 := HE.out v1 hbw2; have q2 := HE.out (v1.alloc (.cells #[.string n, .int .i64 (modeP H x n : Int)] 32)) (hbw2.alloc hbw2.size _); obtain ⟨v5, w5, hap, R5, B5⟩ := hold_append (ownsRow_same HR.out (fun q hq => hb2.block q (HR.out.lt q hq).2)) (Nat.le_trans HBr.out.size hb2.size) n (modeP H x n : Int) HK8; have q3 := HE.out w5 (hbw2.trans (B5.mono HB1.out.size)); have HAP := Lib.hid hap; have HNEW := Lib.hid (And.intro R5 ((HBr.out.trans (hb2.mono HBr.out.size)).trans B5)); clear hap R5 B5 hb2 hbw2 b1))
        | (refine step_append_run9 (o := ⟨some 36, _, _, _, _, _⟩) rfl (.tmp 23) (.tmp 35) _ _ rfl _ _ rfl rfl _ _ HAP.out ?_))
      all_goals (try go_wp2_with fail)
      all_goals exact ⟨⟨k + 1, by omega, by go_num, by rw [HTK.out, List.flatMap_append]; simpa [heldF] using HNEW.out.1, HNEW.out.2⟩, by simp [intOf]; omega⟩
    · obtain rfl : k = K.length := by omega
      clear hrow hb
      go_wp2_with fail
      go_ret
      have hr := HR.out
      rw [List.take_length] at hr
      refine ⟨_, rfl, ?_, HB1.out.trans (HBr.out.mono HB1.out.size)⟩
      exact ownsRow_base_a hr HB1.out.size
end
end Go.Proofs.YtainnhcmhgloaaaDoor
