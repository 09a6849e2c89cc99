/-
  The law package's Cut.
-/
import Derived.Test.YtajbnfobmnibjaaA10
import Derived.Deep.RegionHeld3
namespace Go.Proofs.Ytajbnfobmnibjaa
open Go.RowKit

theorem alloc_drew10 (w : World) (x : Obj) : w.drew.alloc x = (w.alloc x).drew := rfl
theorem step_append_run10 {P : Program} {ops : Array Oper} {o : Oper} {a : Act} {K : Act → World → Prop} {Q : Exit → Act → World → Prop} {E : Prop} {w : World} (hgd : o.guard = none) (sl x : Operand) (t u : TypeId)
    (ho : o.op = .call { callee := .builtin .append, args := #[sl, x], argTypes := #[t, u] }) (v xv : Value) (hs : a.eval sl = v) (hx : a.eval x = xv) (v' : Value) (w' : World)
    (hr : (Builtin.append_ #[t, u] o.type #[v, xv]).run P w = .ok v' w') (h : K (a.put o.dst v') w') : if Region.wanted o (yielded ops a.tmps) = true then Oper.wp P o a w K Q else E := by
  have hw : Region.wanted o (yielded ops a.tmps) = true := by simp [Region.wanted, hgd]
  rw [if_pos hw]
  unfold Oper.wp execOp
  simp only [ho, resolve, invoke, builtin, Sem.run_bind, Sem.run_pure, Result.andThen_ok, List.map_toArray, List.map_cons, List.map_nil, hs, hx, hr]
  exact h
/-- the law's Cut at work: the leaf's box, the result's box, the row that is made -/
structure InCut (w0 w : World) (B0 B1 : Nat) (lv : Value) (hi : ByteArray) (nx : Int) (v : Value) (l : Prs) : Prop where
  x0 : At w B0 #[lv, .string hi, .int .i64 nx] 24
  x1 : At w B1 #[.slice none 0 0, .string ⟨#[]⟩, .int .i64 0] 24
  row : OwnP w0.heap.size w v l
  bel : Below w0.heap.size w0 w
  ge : w0.heap.size ≤ B1
section
variable {w0 w w' : World} {B0 B1 : Nat} {lv : Value} {hi : ByteArray} {nx : Int} {v : Value} {l : Prs}
theorem InCut.reads (h : InCut w0 w B0 B1 lv hi nx v l) (b : Below w.heap.size w w') : InCut w0 w' B0 B1 lv hi nx v l :=
  ⟨h.x0.reads b, h.x1.reads b, own_below h.row b, h.bel.trans (b.mono h.bel.size), h.ge⟩
theorem InCut.append (h : InCut w0 w B0 B1 lv hi nx v l) (a b : ByteArray) (hl : l.length ≤ 100000) :
    ∃ g C w', (Builtin.append_ #[22, 22] 22 #[v, .slice (some ⟨w.heap.size, 0, none⟩) 1 1]).run Try.prog (w.alloc (.cells #[.string a, .string b] 44)) = .ok (.slice (some ⟨g, 0, none⟩) (l.length + 1) C) w' ∧
      InCut w0 w' B0 B1 lv hi nx (.slice (some ⟨g, 0, none⟩) (l.length + 1) C) (l ++ [(a, b)]) ∧ (w.alloc (.cells #[.string a, .string b] 44)).grownBy w' v.ownBlock := by
  obtain ⟨g, C, w', hr, ho, hg⟩ := OwnP.append h.row a b hl h.bel.size
  have ba := (Below.refl w.heap.size w).alloc (Nat.le_refl _) (.cells #[.string a, .string b] 44)
  have h1 := h.reads ba
  exact ⟨g, C, w', hr, ⟨h1.x0.grown hg (own_other h1.row h1.x0 (by decide)), h1.x1.grown hg (own_other h1.row h1.x1 (by decide)), ho, below_grown h1.row h1.bel hg, h.ge⟩, hg⟩
end
set_option maxRecDepth 100000 in
set_option maxHeartbeats 4000000 in
theorem cut10 (a : Option Addr) (C : Nat) (l : LfP) (w : World) (hA : ArgLeaf w a l) :
    Calls Try.prog 10 #[lfV a C l] w fun e w' => ∃ a' C', e = .returned (lfV a' C' (cutLf l)) ∧ PrAt w' a' C' (cutLf l).pairs ∧ Below w.heap.size w w' := by
  obtain ⟨⟨hP, hl, h3⟩, h1⟩ := hA
  obtain ⟨pr, hi, nx⟩ := l
  unfold maxLen at *
  dsimp only [lfV] at *
  obtain ⟨n1, p1, p2, p3, p4⟩ := cutT_at hi 40 40 rfl
  obtain ⟨R, HR⟩ : ∃ R, Hid ((pr.take 60).map cutPr10 = R) := ⟨_, rfl⟩
  have HG := Lib.hid (show cutLf ⟨pr, hi, nx⟩ = ⟨R, hi.extract 0 n1, nx⟩ by rw [p4, ← HR.out]; rfl)
  rw [HG.out]
  clear p4
  have HP := Lib.hid hP; have H3 := Lib.hid h3
  clear hP h3
  have X0 := At.new w #[.slice a pr.length C, .string hi, .int .i64 nx] 24
  have b0 := (Below.refl w.heap.size w).alloc (Nat.le_refl _) (.cells #[.slice a pr.length C, .string hi, .int .i64 nx] 24)
  have b1 := (Below.refl (w.alloc (.cells #[.slice a pr.length C, .string hi, .int .i64 nx] 24)).heap.size _).alloc (Nat.le_refl _) (.cells #[.slice none 0 0, .string ⟨#[]⟩, .int .i64 0] 24)
  have X1 := At.new (w.alloc (.cells #[.slice a pr.length C, .string hi, .int .i64 nx] 24)) #[.slice none 0 0, .string ⟨#[]⟩, .int .i64 0] 24
  have X0 := Lib.hid (X0.reads b1)
  rw [show (w.alloc (.cells #[.slice a pr.length C, .string hi, .int .i64 nx] 24)).heap.size = w.heap.size + 1 by simp] at X1 b1
  have HBz := Lib.hid (b0.trans (b1.mono (Nat.le_succ _)))
  have X1 := Lib.hid X1
  clear b0 b1
  go_enter Try.func10, Try.ntmps10
  go_upto_region 1 with fail
  generalize (w.alloc (.cells #[.slice a pr.length C, .string hi, .int .i64 nx] 24)).alloc (.cells #[.slice none 0 0, .string ⟨#[]⟩, .int .i64 0] 24) = W2 at *
  have b2 := (Below.refl W2.heap.size W2).alloc (Nat.le_refl _) (.cells #[] 44)
  have I0 := Lib.hid (show InCut w (W2.alloc (.cells #[] 44)) w.heap.size (w.heap.size + 1) (.slice a pr.length C) hi nx (.slice (some ⟨W2.heap.size, 0, none⟩) 0 0) [] from
    ⟨X0.out.reads b2, X1.out.reads b2, own_fresh _ _ _ _ HBz.out.size, HBz.out.trans (b2.mono HBz.out.size), by omega⟩)
  clear b2 X0 X1 HBz
  go_upto_region 2 with fail
  generalize W2.alloc (.cells #[] 44) = W3 at *
  generalize W2.heap.size = B2 at *
  obtain ⟨B0, HB0⟩ : ∃ B0, Hid (w.heap.size = B0) := ⟨_, rfl⟩
  obtain ⟨B1, HB1⟩ : ∃ B1, Hid (B0 + 1 = B1) := ⟨_, rfl⟩
  rw [HB0.out] at I0 ⊢
  rw [HB1.out] at I0 ⊢
  have hpl : (pr.length : Int) ≤ 9223372036854775807 := by omega
  go_wp2_with fail
  go_loopw [3, 4] (fun v c wr => ∃ n : Nat, n ≤ pr.length ∧ n ≤ 60 ∧ c = .int .i64 (n : Int) ∧ InCut w wr B0 B1 (.slice a pr.length C) hi nx v ((pr.take n).map cutPr10)) (fun _ c _ => pr.length - (intOf c).toNat)
  case atStart => exact ⟨0, by omega, by omega, rfl, I0.out⟩
  case round =>
    obtain ⟨n, hn, hn2, rfl, hI⟩ := hrel
    clear I0
    obtain ⟨va, vC, rfl, hPA, hFr⟩ := OwnP.prAt hI.row
    have hlen : ((pr.take n).map cutPr10).length = n := by rw [List.length_map, List.length_take]; omega
    rw [hlen] at hI ⊢
    have HI := Lib.hid hI
    have c7 := hI.x0.cell 0
    simp only [List.getElem?_toArray, List.getElem?_cons_zero] at c7
    by_cases hc : n < pr.length ∧ n < 60
    · obtain ⟨hc1, hc2⟩ := hc
      have d1 : (n : Int) < (pr.length : Int) := by omega
      have d2 : (n : Int) < 60 := by omega
      have d0 : (0 : Int) ≤ (n : Int) := by omega
      obtain ⟨⟨pk, pv⟩, hp⟩ : ∃ p, pr[n]? = some p := ⟨_, List.getElem?_eq_getElem hc1⟩
      obtain ⟨g, off, rfl, f0, f1⟩ := HP.out.below hI.bel n _ hp
      obtain ⟨s1, s2⟩ := H3.out _ (List.mem_of_getElem? hp)
      dsimp only at f0 f1 s1 s2
      obtain ⟨m1, r1, r2, r3, r4⟩ := cutT_at pk 40 40 rfl
      obtain ⟨m2, t1, t2, t3, t4⟩ := cutT_at pv 60 60 rfl
      have HT := Lib.hid (show (pr.take (n + 1)).map cutPr10 = (pr.take n).map cutPr10 ++ [(pk.extract 0 m1, pv.extract 0 m2)] by rw [List.take_add_one, hp, r4, t4]; simp [cutPr10])
      clear r4 t4 hp hPA hFr hI
      have bp := (Below.refl wr.heap.size wr).alloc (Nat.le_refl _) (.cells #[.string pk, .string pv] 44)
      have HIp := Lib.hid (HI.out.reads bp)
      have XP := At.new wr #[.string pk, .string pv] 44
      clear bp
      go_upto_region 6 with fail
      have k0 := XP.cell 0
      have k1 := XP.cell 1
      simp only [List.getElem?_toArray, List.getElem?_cons_zero, List.getElem?_cons_succ] at k0 k1
      clear c7 f0 f1
      have lt4 := XP.lt
      have nb : ∀ x, (Value.slice va n vC).ownBlock = some x → x < wr.heap.size := fun x hx => (World.ownsRow.lt HI.out.row x hx).2
      generalize wr.alloc (.cells #[.string pk, .string pv] 44) = W4 at *
      generalize wr.heap.size = Bp at *
      have HId := HIp.out.reads (show Below W4.heap.size W4 W4.drew from (Below.refl _ W4).drew)
      obtain ⟨g5, C5, w5, hap, hI5, hG5⟩ := HId.append (pk.extract 0 m1) (pv.extract 0 m2) (by rw [hlen]; omega)
      rw [hlen] at hap hI5
      rw [← HT.out] at hI5
      have K0 := Lib.hid (show W4.drew.cell? ⟨Bp, 0, none⟩ = some (.string pk) ∧ W4.drew.cell? ⟨Bp, 1, none⟩ = some (.string pv) from ⟨k0, k1⟩)
      have bq := (Below.refl W4.drew.heap.size W4.drew).alloc (Nat.le_refl _) (.cells #[.string (pk.extract 0 m1), .string (pv.extract 0 m2)] 44)
      have K1 := Lib.hid (And.intro ((bq.cell (p := ⟨Bp, 0, none⟩) lt4).trans K0.out.1) ((bq.cell (p := ⟨Bp, 1, none⟩) lt4).trans K0.out.2))
      have hGb := hG5.block Bp (Nat.lt_of_lt_of_le lt4 bq.size) (fun e => by have := nb Bp e.symm; omega)
      have K2 := Lib.hid (And.intro ((World.cell?_of_block hGb (a := ⟨Bp, 0, none⟩)).trans K1.out.1) ((World.cell?_of_block hGb (a := ⟨Bp, 1, none⟩)).trans K1.out.2))
      rw [alloc_drew10] at hap K1
      rw [show W4.drew.heap.size = W4.heap.size from rfl] at hap
      have HAP := Lib.hid hap; have HI5 := Lib.hid hI5
      clear HId hap hI5 HIp HI HT hlen hG5 hGb bq nb k0 k1 XP
      go_region_held3 (fun W => W.cell? ⟨Bp, 0, none⟩ = some (.string pk) ∧ W.cell? ⟨Bp, 1, none⟩ = some (.string pv)) (first | exact K0.out | exact K1.out | exact K2.out)
        ((refine step_append_run10 (o := ⟨some 40, _, _, _, _, _⟩) rfl (.tmp 23) (.tmp 39) _ _ rfl _ _ rfl rfl _ _ HAP.out ?_))
      all_goals
        go_wp2
        exact ⟨⟨n + 1, by omega, by omega, by go_num, HI5.out⟩, by simp [intOf]; omega⟩
    · have HRr := Lib.hid (show (pr.take n).map cutPr10 = R by
        rw [← HR.out]
        by_cases h40 : n = 60
        · rw [h40]
        · rw [show n = pr.length by omega, List.take_length, List.take_of_length_le (show pr.length ≤ 60 by omega)])
      rw [HRr.out] at hlen HI hPA
      have c0 := HI.out.x0.cell 1; have c1 := HI.out.x0.cell 2
      have d0 := HI.out.x1.cell 0; have d1 := HI.out.x1.cell 1; have d2 := HI.out.x1.cell 2
      have z0 := HI.out.x1.fz 0; have z1 := HI.out.x1.fz 1; have z2 := HI.out.x1.fz 2
      have D := HI.out.x1.put3 (u := .slice va n vC) (v := .string (hi.extract 0 n1)) (t := .int .i64 nx)
      have BF := Lib.hid (below_put3 (u := .slice va n vC) (v := .string (hi.extract 0 n1)) (t := .int .i64 nx) HI.out.bel HI.out.ge)
      have PF := Lib.hid (PrAt.put3 HI.out.x1 hPA (.slice va n vC) (.string (hi.extract 0 n1)) (.int .i64 nx))
      have f0 := D.cell 0; have f1 := D.cell 1; have f2 := D.cell 2
      simp only [List.getElem?_toArray, List.getElem?_cons_zero, List.getElem?_cons_succ] at c0 c1 d0 d1 d2 f0 f1 f2
      have HLn := Lib.hid hlen
      clear D hPA hFr hI HI HP H3 HR HG HRr
      by_cases hc1 : n < pr.length
      · have e1 : (n : Int) < (pr.length : Int) := by omega
        have e2 : decide ((n : Int) < 60) = false := by rw [decide_eq_false_iff_not]; omega
        clear hc
        go_upto_region 7 with fail
        go_region
        all_goals
          go_wp2
          refine bodyPost_ret (v := .agg #[.slice va n vC, .string (hi.extract 0 n1), .int .i64 nx]) ?_ rfl ?_
          · simp [results, Try.results10, go_sem, f0, f1, f2]
          · exact ⟨va, vC, by rw [← HLn.out] <;> rfl, PF.out.below (Below.refl _ _).drew, BF.out.drew⟩
      · have e1 : ¬ (n : Int) < (pr.length : Int) := by omega
        clear hc
        go_upto_region 7 with fail
        go_region
        all_goals
          go_wp2
          refine bodyPost_ret (v := .agg #[.slice va n vC, .string (hi.extract 0 n1), .int .i64 nx]) ?_ rfl ?_
          · simp [results, Try.results10, go_sem, f0, f1, f2]
          · exact ⟨va, vC, by rw [← HLn.out] <;> rfl, PF.out.below (Below.refl _ _).drew, BF.out.drew⟩
end Go.Proofs.Ytajbnfobmnibjaa
