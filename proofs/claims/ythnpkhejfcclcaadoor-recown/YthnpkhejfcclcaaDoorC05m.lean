/-
  The law package's Cut.
-/
import Derived.Test.YthnpkhejfcclcaaDoorC05l
import Derived.StillTailTactics
namespace Go.Proofs.YthnpkhejfcclcaaDoor
open Go.RowKit
theorem alloc_drew5 (w : World) (x : Obj) : w.drew.alloc x = (w.alloc x).drew := rfl
theorem step_append_run5 {P : Program} {ops : Array Oper} {o : Oper} {a : Act} {K : Act → World → Prop} {Q : Exit → Act → World → Prop} {E : Prop} {w : World} (hgd : o.guard = none) (sl x : Operand) (t u : TypeId)
    (ho : o.op = .call { callee := .builtin .append, args := #[sl, x], argTypes := #[t, u] }) (v xv : Value) (hs : a.eval sl = v) (hx : a.eval x = xv) (v' : Value) (w' : World)
    (hr : (Builtin.append_ #[t, u] o.type #[v, xv]).run P w = .ok v' w') (h : K (a.put o.dst v') w') : if Region.wanted o (yielded ops a.tmps) = true then Oper.wp P o a w K Q else E := by
  have hw : Region.wanted o (yielded ops a.tmps) = true := by simp [Region.wanted, hgd]
  rw [if_pos hw]
  unfold Oper.wp execOp
  simp only [ho, resolve, invoke, builtin, Sem.run_bind, Sem.run_pure, Result.andThen_ok, List.map_toArray, List.map_cons, List.map_nil, hs, hx, hr]
  exact h
set_option maxRecDepth 100000 in
set_option maxHeartbeats 4000000 in
theorem cut_any (r : RecP) (a : Option Addr) (C : Nat) (w : World) (hP : PairsAt w a r.pairs) (hl : r.pairs.length ≤ maxLen) (h1 : r.key.size ≤ maxLen) (h2 : r.value.size ≤ maxLen) (h3 : ∀ p ∈ r.pairs, p.1.size ≤ maxLen ∧ p.2.size ≤ maxLen) :
    Calls Tryd.prog 10 #[recV r a C] w (RecOut w (cutP r)) := by
  obtain ⟨k, t, ke, va, pa, un, nu, pr⟩ := r
  unfold maxLen at *
  obtain ⟨R, HR⟩ : ∃ R, Hid (cutP ⟨k, t, ke, va, pa, un, nu, pr⟩ = R) := ⟨_, rfl⟩
  rw [HR.out]
  dsimp only [recV] at *
  obtain ⟨n1, p1, p2, p3, p4⟩ := cut60_at ke
  obtain ⟨n2, q1, q2, q3, q4⟩ := cut60_at va
  have HG := Lib.hid (show R = ⟨k, t, ke.extract 0 n1, va.extract 0 n2, pa, un, nu, (pr.take 40).map cutPr⟩ by rw [← HR.out, p4, q4]; rfl)
  clear p4 q4 HR
  have HP := Lib.hid hP; have H3 := Lib.hid h3
  clear hP h3
  have X0 := box8_new QT w k t (ke.extract 0 n1) (va.extract 0 n2) pa un nu (.slice a pr.length C)
  have Bx := (Below.refl w.heap.size w).alloc (Nat.le_refl _) (.cells #[.int .i64 k, .int .i64 t, .string (ke.extract 0 n1), .string (va.extract 0 n2), .int .i64 pa, .int .i64 un, .int .i64 nu, .slice a pr.length C] QT)
  have X1 := box8_new QT (w.alloc (.cells #[.int .i64 k, .int .i64 t, .string (ke.extract 0 n1), .string (va.extract 0 n2), .int .i64 pa, .int .i64 un, .int .i64 nu, .slice a pr.length C] QT)) 0 0 ⟨#[]⟩ ⟨#[]⟩ 0 0 0 (.slice none 0 0)
  have HX0 := Lib.hid X0; have HBx := Lib.hid Bx; have HX1 := Lib.hid X1
  clear X0 Bx X1
  go_enter Tryd.func10, Tryd.ntmps10
  go_wp2_with fail
  have ba := (Below.refl (w.alloc (.cells #[.int .i64 k, .int .i64 t, .string (ke.extract 0 n1), .string (va.extract 0 n2), .int .i64 pa, .int .i64 un, .int .i64 nu, .slice a pr.length C] QT)).heap.size _).alloc (Nat.le_refl _) (.cells #[.int .i64 0, .int .i64 0, .string ⟨#[]⟩, .string ⟨#[]⟩, .int .i64 0, .int .i64 0, .int .i64 0, .slice none 0 0] QT)
  have Y0 := HX0.out.below ba HX0.out.lt
  have By := HBx.out.trans (ba.mono HBx.out.size)
  have Y1 := HX1.out
  have es : ((w.alloc (.cells #[.int .i64 k, .int .i64 t, .string (ke.extract 0 n1), .string (va.extract 0 n2), .int .i64 pa, .int .i64 un, .int .i64 nu, .slice a pr.length C] QT)).alloc (.cells #[.int .i64 0, .int .i64 0, .string ⟨#[]⟩, .string ⟨#[]⟩, .int .i64 0, .int .i64 0, .int .i64 0, .slice none 0 0] QT)).heap.size = w.heap.size + 1 + 1 := by simp
  have e1 : (w.alloc (.cells #[.int .i64 k, .int .i64 t, .string (ke.extract 0 n1), .string (va.extract 0 n2), .int .i64 pa, .int .i64 un, .int .i64 nu, .slice a pr.length C] QT)).heap.size = w.heap.size + 1 := by simp
  rw [e1] at Y1
  clear ba HX0 HX1 HBx
  generalize (w.alloc (.cells #[.int .i64 k, .int .i64 t, .string (ke.extract 0 n1), .string (va.extract 0 n2), .int .i64 pa, .int .i64 un, .int .i64 nu, .slice a pr.length C] QT)).alloc (.cells #[.int .i64 0, .int .i64 0, .string ⟨#[]⟩, .string ⟨#[]⟩, .int .i64 0, .int .i64 0, .int .i64 0, .slice none 0 0] QT) = W2 at *
  have bb := (Below.refl W2.heap.size W2).alloc (Nat.le_refl _) (.cells #[] 47)
  have hrow : (W2.alloc (.cells #[] 47)).ownsRow w.heap.size 47 2 (.slice (some ⟨w.heap.size + 1 + 1, 0, none⟩) 0 0) ([] : Prs).length (pcells []) :=
    ⟨rfl, .inr ⟨w.heap.size + 1 + 1, 0, #[], rfl, by omega, by rw [← es]; exact heap_alloc_new W2 _, Nat.le_refl _, by decide, by simp, by simp [pcells]⟩⟩
  have I0 := Lib.hid (show InC w (W2.alloc (.cells #[] 47)) w.heap.size (w.heap.size + 1) k t (ke.extract 0 n1) (va.extract 0 n2) pa un nu (.slice a pr.length C) (.slice (some ⟨w.heap.size + 1 + 1, 0, none⟩) 0 0) [] from
    ⟨Y0.below bb Y0.lt, Y1.below bb Y1.lt, hrow, By.trans (bb.mono By.size), by omega⟩)
  clear Y0 Y1 By es e1 bb hrow
  generalize W2.alloc (.cells #[] 47) = W3 at *
  obtain ⟨B0, HB0⟩ : ∃ B0, Hid (w.heap.size = B0) := ⟨_, rfl⟩
  rw [HB0.out] at I0 ⊢
  generalize B0 + 1 + 1 = B2 at *
  generalize B0 + 1 = B1 at *
  generalize ke.extract 0 n1 = KE at *
  generalize va.extract 0 n2 = VA at *
  have hpl : (pr.length : Int) ≤ 9223372036854775807 := by omega
  go_loopw [3, 4] (fun v c wr => ∃ n : Nat, n ≤ pr.length ∧ n ≤ 40 ∧ c = .int .i64 (n : Int) ∧ InC w wr B0 B1 k t KE VA pa un nu (.slice a pr.length C) v ((pr.take n).map cutPr)) (fun _ c _ => pr.length - (intOf c).toNat)
  case atStart => exact ⟨0, by omega, by omega, rfl, I0.out⟩
  case round =>
    obtain ⟨n, hn, hn2, rfl, hI⟩ := hrel
    clear I0
    obtain ⟨va', vC, rfl, hPA, hFr⟩ := row_pairs hI.row
    have hlen : ((pr.take n).map cutPr).length = n := by rw [List.length_map, List.length_take]; omega
    rw [hlen] at hI
    rw [hlen]
    have HI := Lib.hid hI
    have c7 := hI.x0.c7
    by_cases hc : n < pr.length ∧ n < 40
    · obtain ⟨hc1, hc2⟩ := hc
      have d1 : (n : Int) < (pr.length : Int) := by omega
      have d2 : (n : Int) < 40 := by omega
      have d0 : (0 : Int) ≤ (n : Int) := by omega
      obtain ⟨⟨pk, pv⟩, hp⟩ : ∃ p, pr[n]? = some p := ⟨_, List.getElem?_eq_getElem hc1⟩
      obtain ⟨g, off, rfl, f0, f1⟩ := HP.out.below (show Below w.heap.size w wr by rw [HB0.out]; exact hI.bel) n _ hp
      obtain ⟨s1, s2⟩ := H3.out _ (List.mem_of_getElem? hp)
      dsimp only at f0 f1 s1 s2
      obtain ⟨m1, r1, r2, r3, r4⟩ := cut60_at pk
      obtain ⟨m2, t1, t2, t3, t4⟩ := cut60_at pv
      have HT := Lib.hid (show (pr.take (n + 1)).map cutPr = (pr.take n).map cutPr ++ [(pk.extract 0 m1, pv.extract 0 m2)] by rw [List.take_add_one, hp, r4, t4]; simp [cutPr])
      clear r4 t4 hp hPA hFr hI
      have bp := (Below.refl wr.heap.size wr).alloc (Nat.le_refl _) (.cells #[.string pk, .string pv] 47)
      have HIp := Lib.hid (HI.out.below bp)
      clear bp
      go_upto_region 8 with fail
      have k0 : (wr.alloc (.cells #[.string pk, .string pv] 47)).cell? ⟨wr.heap.size, 0, none⟩ = some (.string pk) := by rw [World.cell?_alloc_at _ _ _ _ rfl]; rfl
      have k1 : (wr.alloc (.cells #[.string pk, .string pv] 47)).cell? ⟨wr.heap.size, 1, none⟩ = some (.string pv) := by rw [World.cell?_alloc_at _ _ _ _ rfl]; rfl
      clear c7 f0 f1
      have lt4 : wr.heap.size < (wr.alloc (.cells #[.string pk, .string pv] 47)).heap.size := by simp
      -- the box of the pair is no row's block
      have nb : ∀ x, (Value.slice va' n vC).ownBlock = some x → x < wr.heap.size := fun x hx => (HI.out.row.lt x (by rw [← hlen] at hx ⊢; exact hx)).2
      generalize wr.alloc (.cells #[.string pk, .string pv] 47) = W4 at *
      generalize wr.heap.size = Bp at *
      have HId := HIp.out.below (show Below W4.heap.size W4 W4.drew from (Below.refl _ W4).drew)
      obtain ⟨g5, C5, w5, hap, hI5, hG5⟩ := HId.append (pk.extract 0 m1) (pv.extract 0 m2) (by rw [hlen]; omega)
      rw [hlen] at hap hI5
      rw [← HT.out] at hI5
      have K0 := Lib.hid (show W4.drew.cell? ⟨Bp, 0, none⟩ = some (.string pk) ∧ W4.drew.cell? ⟨Bp, 1, none⟩ = some (.string pv) from ⟨k0, k1⟩)
      have bq := (Below.refl W4.drew.heap.size W4.drew).alloc (Nat.le_refl _) (.cells #[.string (pk.extract 0 m1), .string (pv.extract 0 m2)] 47)
      have K1 := Lib.hid (And.intro ((bq.cell (p := ⟨Bp, 0, none⟩) lt4).trans K0.out.1) ((bq.cell (p := ⟨Bp, 1, none⟩) lt4).trans K0.out.2))
      have hGb := hG5.block Bp (Nat.lt_of_lt_of_le lt4 bq.size) (fun e => by have := nb Bp e.symm; omega)
      have K2 := Lib.hid (And.intro ((World.cell?_of_block hGb (a := ⟨Bp, 0, none⟩)).trans K1.out.1) ((World.cell?_of_block hGb (a := ⟨Bp, 1, none⟩)).trans K1.out.2))
      rw [alloc_drew5] at hap K1
      rw [show W4.drew.heap.size = W4.heap.size from rfl] at hap
      have HAP := Lib.hid hap; have HI5 := Lib.hid hI5
      clear HId hap hI5 HIp HI HT hlen hG5 hGb bq nb k0 k1
      go_region_held3 (fun W => W.cell? ⟨Bp, 0, none⟩ = some (.string pk) ∧ W.cell? ⟨Bp, 1, none⟩ = some (.string pv)) (first | exact K0.out | exact K1.out | exact K2.out)
        ((refine step_append_run5 (o := ⟨some 56, _, _, _, _, _⟩) rfl (.tmp 39) (.tmp 55) _ _ rfl _ _ rfl rfl _ _ HAP.out ?_))
      all_goals
        go_wp2
        exact ⟨⟨n + 1, by omega, by omega, by go_num, HI5.out⟩, by simp [intOf]; omega⟩
    · have HRr := Lib.hid (show R = ⟨k, t, KE, VA, pa, un, nu, (pr.take n).map cutPr⟩ by
        rw [HG.out]
        by_cases h40 : n = 40
        · rw [h40]
        · rw [show n = pr.length by omega, List.take_length, List.take_of_length_le (show pr.length ≤ 40 by omega)])
      have z7 := hI.x0.fz 7
      have Y0 := hI.x0.set7 (.slice va' n vC)
      have Y1 := hI.x1.far (p := ⟨B0, 7, none⟩) (.slice va' n vC) (Nat.ne_of_gt hI.lt)
      have n0 := box_row_ne' hI.x0 (show wr.ownsRow B0 47 2 (.slice va' n vC) ((pr.take n).map cutPr).length _ from hI.row)
      have n1 := box_row_ne' hI.x1 (show wr.ownsRow B0 47 2 (.slice va' n vC) ((pr.take n).map cutPr).length _ from hI.row)
      have PA : PairsAt (put8 (wr.setCell ⟨B0, 7, none⟩ (.slice va' n vC)) B1 k t KE VA pa un nu (.slice va' n vC)) va' ((pr.take n).map cutPr) := by
        intro i p hp
        obtain ⟨b, off, rfl, q0, q1⟩ := hPA i p hp
        have e0 : b ≠ B0 := fun e => n0 (by subst e; rfl)
        have e1 : b ≠ B1 := fun e => n1 (by subst e; rfl)
        have hh : (put8 (wr.setCell ⟨B0, 7, none⟩ (.slice (some ⟨b, off, none⟩) n vC)) B1 k t KE VA pa un nu (.slice (some ⟨b, off, none⟩) n vC)).heap[b]? = wr.heap[b]? := (put8_far _ _ _ _ _ _ _ _ _ _ _ e1).trans (Below.heap_setCell _ _ _ _ e0)
        exact ⟨b, off, rfl, (World.cell?_of_block hh (a := ⟨b, off + i * 2, none⟩)).trans q0, (World.cell?_of_block hh (a := ⟨b, off + i * 2 + 1, none⟩)).trans q1⟩
      have BB := put8_bel (hI.bel.setCell (p := ⟨B0, 7, none⟩) (Nat.le_refl _) (.slice va' n vC)) B1 k t KE VA pa un nu (.slice va' n vC) (Nat.le_of_lt hI.lt)
      have HPA := Lib.hid PA; have HBB := Lib.hid BB; have G0 := Lib.hid Y0; have G1 := Lib.hid Y1; have HFr := Lib.hid hFr; have HLn := Lib.hid hlen
      have D0 := Lib.hid (Y1.put k t KE VA pa un nu (.slice va' n vC))
      clear PA BB Y0 Y1 n0 n1 hPA hFr hI HI HG hlen
      have done : ∀ (W : World), wr.setCell ⟨B0, 7, none⟩ (.slice va' n vC) = W → Hid True := fun _ _ => trivial
      by_cases hc1 : n < pr.length
      · have d1 : (n : Int) < (pr.length : Int) := by omega
        have d2 : decide ((n : Int) < 40) = false := by rw [decide_eq_false_iff_not]; omega
        clear hc done
        go_upto_region 10 with fail
        generalize wr.setCell ⟨B0, 7, none⟩ (.slice va' n vC) = W6 at *
        have c0 := G0.out.c0; have c1 := G0.out.c1; have c2 := G0.out.c2; have c3 := G0.out.c3; have c4 := G0.out.c4; have c5 := G0.out.c5; have c6 := G0.out.c6; have c7 := G0.out.c7
        have m0 := G1.out.c0; have m1 := G1.out.c1; have m2 := G1.out.c2; have m3 := G1.out.c3; have m4 := G1.out.c4; have m5 := G1.out.c5; have m6 := G1.out.c6; have m7 := G1.out.c7
        have z0 := G1.out.fz 0; have z1 := G1.out.fz 1; have z2 := G1.out.fz 2; have z3 := G1.out.fz 3; have z4 := G1.out.fz 4; have z5 := G1.out.fz 5; have z6 := G1.out.fz 6; have z7 := G1.out.fz 7
        clear G0 G1
        go_wp2
        refine bodyPost_ret (v := recV ⟨k, t, KE, VA, pa, un, nu, (pr.take n).map cutPr⟩ va' vC) ?_ rfl ?_
        · obtain ⟨WW, hW⟩ : ∃ W, put8 W6 B1 k t KE VA pa un nu (.slice va' n vC) = W := ⟨_, rfl⟩
          have D := D0.out
          rw [hW] at D
          unfold put8 at hW
          rw [hW]
          have f0 := D.c0; have f1 := D.c1; have f2 := D.c2; have f3 := D.c3; have f4 := D.c4; have f5 := D.c5; have f6 := D.c6; have f7 := D.c7
          clear hW D
          simp only [recV, HLn.out]
          simp [results, Tryd.results10, go_sem, f0, f1, f2, f3, f4, f5, f6, f7]
        · rw [HRr.out]
          exact ⟨va', vC, rfl, HPA.out, by rw [HB0.out]; exact HBB.out, by rw [HB0.out]; exact HFr.out⟩
      · have d1 : (pr.length : Int) ≤ (n : Int) := by omega
        clear hc done
        go_upto_region 10 with fail
        generalize wr.setCell ⟨B0, 7, none⟩ (.slice va' n vC) = W6 at *
        have c0 := G0.out.c0; have c1 := G0.out.c1; have c2 := G0.out.c2; have c3 := G0.out.c3; have c4 := G0.out.c4; have c5 := G0.out.c5; have c6 := G0.out.c6; have c7 := G0.out.c7
        have m0 := G1.out.c0; have m1 := G1.out.c1; have m2 := G1.out.c2; have m3 := G1.out.c3; have m4 := G1.out.c4; have m5 := G1.out.c5; have m6 := G1.out.c6; have m7 := G1.out.c7
        have z0 := G1.out.fz 0; have z1 := G1.out.fz 1; have z2 := G1.out.fz 2; have z3 := G1.out.fz 3; have z4 := G1.out.fz 4; have z5 := G1.out.fz 5; have z6 := G1.out.fz 6; have z7 := G1.out.fz 7
        clear G0 G1
        go_wp2
        refine bodyPost_ret (v := recV ⟨k, t, KE, VA, pa, un, nu, (pr.take n).map cutPr⟩ va' vC) ?_ rfl ?_
        · obtain ⟨WW, hW⟩ : ∃ W, put8 W6 B1 k t KE VA pa un nu (.slice va' n vC) = W := ⟨_, rfl⟩
          have D := D0.out
          rw [hW] at D
          unfold put8 at hW
          rw [hW]
          have f0 := D.c0; have f1 := D.c1; have f2 := D.c2; have f3 := D.c3; have f4 := D.c4; have f5 := D.c5; have f6 := D.c6; have f7 := D.c7
          clear hW D
          simp only [recV, HLn.out]
          simp [results, Tryd.results10, go_sem, f0, f1, f2, f3, f4, f5, f6, f7]
        · rw [HRr.out]
          exact ⟨va', vC, rfl, HPA.out, by rw [HB0.out]; exact HBB.out, by rw [HB0.out]; exact HFr.out⟩
end Go.Proofs.YthnpkhejfcclcaaDoor
