/-
  The document's answer for layer 5 (budwoodref05): the contract of guess, of kinds above 5.
-/
import Derived.Test.YthnpkhejfcclcaaDoorC05i
namespace Go.Proofs.YthnpkhejfcclcaaDoor
open Go.RowKit
theorem wpList_append_run5 {P : Program} {ops : Array Oper} {rest : List Oper} {o : Oper} {a : Act} {Q : Exit → Act → World → Prop} {w : World} (hgd : o.guard = none) (sl x : Operand) (t u : TypeId)
    (ho : o.op = .call { callee := .builtin .append, args := #[sl, x], argTypes := #[t, u] }) (v xv : Value) (hs : a.eval sl = v) (hx : a.eval x = xv) (v' : Value) (w' : World)
    (hr : (Builtin.append_ #[t, u] o.type #[v, xv]).run P w = .ok v' w') (h : wpList P ops Q rest (a.put o.dst v') w') : wpList P ops Q (o :: rest) a w := by
  refine wpList_plain hgd fun K hK => ?_
  unfold Oper.wp execOp
  simp only [ho, resolve, invoke, builtin, Sem.run_bind, Sem.run_pure, Result.andThen_ok, List.map_toArray, List.map_cons, List.map_nil, hs, hx, hr]
  exact hK _ _ h
/-- guess, in its loop -/
structure InG (w0 w : World) (B0 B1 : Nat) (k pa un nu : Int) (v : Value) (pr : Prs) : Prop where
  x0 : Box8 RT w B0 0 0 ⟨#[]⟩ ⟨#[]⟩ 0 0 0 (.slice none 0 0)
  x1 : Box8 RT w B1 k 0 ⟨#[]⟩ ⟨#[]⟩ pa un nu v
  row : w.ownsRow B0 47 2 v pr.length (pcells pr)
  bel : Below B0 w0 w
  lt : B0 < B1
theorem cell_two5 (w : World) (a b : Value) (t : TypeId) : ∀ (j : Nat) (u : Value), [a, b][j]? = some u → (w.alloc (.cells #[a, b] t)).cell? (Addr.add ⟨w.heap.size, 0, none⟩ j) = some u := by
  intro j u h
  rw [add_zero', World.cell?_alloc_at _ _ _ _ rfl]
  match j with
  | 0 => simpa using h
  | 1 => simpa using h
  | j + 2 => simp at h
section
variable {w0 w : World} {B0 B1 : Nat} {k pa un nu : Int} {v : Value} {pr : Prs}
theorem box_row_ne {B : Nat} {a b : Int} {c d : ByteArray} {e f g : Int} {u : Value} (x : Box8 RT w B a b c d e f g u) (h : w.ownsRow B0 47 2 v pr.length (pcells pr)) : v.ownBlock ≠ some B := fun e => by
  have hx : w.heap[B]? = _ := x
  rcases h.2 with ⟨rfl, _⟩ | ⟨g, C, cur, rfl, _, hg, _⟩
  · cases e
  · cases e; rw [hx] at hg; cases hg
theorem InG.append (h : InG w0 w B0 B1 k pa un nu v pr) (p q : ByteArray) (hl : pr.length ≤ 100000) :
    ∃ g C w', (Builtin.append_ #[22, 22] 22 #[v, .slice (some ⟨w.heap.size, 0, none⟩) 1 1]).run Tryd.prog (w.alloc (.cells #[.string p, .string q] 47)) = .ok (.slice (some ⟨g, 0, none⟩) (pr.length + 1) C) w' ∧
      w'.cell? ⟨B1, 7, none⟩ = some v ∧ w'.frozen? ⟨B1, 7, none⟩ = false ∧ InG w0 (w'.setCell ⟨B1, 7, none⟩ (.slice (some ⟨g, 0, none⟩) (pr.length + 1) C)) B0 B1 k pa un nu (.slice (some ⟨g, 0, none⟩) (pr.length + 1) C) (pr ++ [(p, q)]) := by
  obtain ⟨i0, hi, hz0, hz1, hz2⟩ := info_parts info_pair
  have ba := (Below.refl w.heap.size w).alloc (Nat.le_refl _) (.cells #[.string p, .string q] 47)
  have y0 := h.x0.below ba h.x0.lt
  have y1 := h.x1.below ba h.x1.lt
  have r1 := h.row.alloc (.cells #[.string p, .string q] 47)
  have n0 := box_row_ne y0 r1
  have n1 := box_row_ne y1 r1
  obtain ⟨v', w', hr, h2, h3, _, h5⟩ := run_append_own_at (P := Tryd.prog) (w.alloc (.cells #[.string p, .string q] 47)) B0 22 22 47 i0 _ 2 32 Tryd.underlying22 hi hz0 hz1 hz2 rfl (by decide) v pr.length (pcells pr) r1 ⟨w.heap.size, 0, none⟩ 1 1 [.string p, .string q] rfl (cell_two5 w _ _ _) (by intro u hu; simp at hu; rcases hu with rfl | rfl <;> rfl) (by simp [maxLen]; omega) (by omega) (Nat.le_of_lt y0.lt)
  have hx0 : Box8 RT w' B0 0 0 ⟨#[]⟩ ⟨#[]⟩ 0 0 0 (.slice none 0 0) := (h3.block B0 y0.lt (fun e => n0 e.symm)).trans y0
  have hx1 : Box8 RT w' B1 k 0 ⟨#[]⟩ ⟨#[]⟩ pa un nu v := (h3.block B1 y1.lt (fun e => n1 e.symm)).trans y1
  obtain ⟨g, C, rfl⟩ : ∃ g C, v' = .slice (some ⟨g, 0, none⟩) (pr.length + 1) C := by
    rcases h2.2 with ⟨_, h⟩ | ⟨g, C, cur, h, _⟩
    · omega
    · exact ⟨g, C, h⟩
  have e1 : pcells pr ++ [.string p, .string q] = pcells (pr ++ [(p, q)]) := by rw [pcells_append]; rfl
  rw [e1] at h2
  have hne : g ≠ B1 := by
    rcases h5 with hh | hh
    · intro e; subst e; exact n1 hh.symm
    · have : g = (w.alloc (.cells #[.string p, .string q] 47)).heap.size := by simpa [Value.ownBlock] using hh
      have := y1.lt; omega
  refine ⟨g, C, w', hr, hx1.c7, hx1.fz 7, ⟨hx0.far _ (Nat.ne_of_lt h.lt), hx1.set7 _, ?_, ?_, h.lt⟩⟩
  · have : (pr ++ [(p, q)]).length = pr.length + 1 := by simp
    rw [this]
    exact ownsRow_same h2 (fun b hb => Below.heap_setCell _ _ _ _ (by cases hb; exact hne))
  · have b1 : Below B0 w0 (w.alloc (.cells #[.string p, .string q] 47)) := h.bel.trans (ba.mono (Nat.le_of_lt h.x0.lt))
    have b2 : Below B0 w0 w' := b1.grown h3 (Nat.le_of_lt y0.lt) (fun b hb => by
      rcases r1.2 with ⟨rfl, _⟩ | ⟨g', C', cur, rfl, hb', _⟩
      · cases hb
      · cases hb; exact hb')
    exact b2.setCell (Nat.le_of_lt h.lt) _
/-- the world behind '*x = r', of eight cells -/
def put8 (w : World) (B : Nat) (k t : Int) (ke va : ByteArray) (pa un nu : Int) (v : Value) : World :=
  (((((((w.setCell ⟨B, 0, none⟩ (.int .i64 k)).setCell ⟨B, 1, none⟩ (.int .i64 t)).setCell ⟨B, 2, none⟩ (.string ke)).setCell ⟨B, 3, none⟩ (.string va)).setCell ⟨B, 4, none⟩ (.int .i64 pa)).setCell ⟨B, 5, none⟩ (.int .i64 un)).setCell ⟨B, 6, none⟩ (.int .i64 nu)).setCell ⟨B, 7, none⟩ v
theorem Box8.set0 {ty : TypeId} {w : World} {B : Nat} {k t : Int} {ke va : ByteArray} {pa un nu : Int} {v : Value} (h : Box8 ty w B k t ke va pa un nu v) (x : Int) : Box8 ty (w.setCell ⟨B, 0, none⟩ (.int .i64 x)) B x t ke va pa un nu v := heap_set5 _ _ _ _ _ _ h
theorem Box8.put {ty : TypeId} {w : World} {B : Nat} {k t : Int} {ke va : ByteArray} {pa un nu : Int} {v : Value} (h : Box8 ty w B k t ke va pa un nu v) (k' t' : Int) (ke' va' : ByteArray) (pa' un' nu' : Int) (v' : Value) : Box8 ty (put8 w B k' t' ke' va' pa' un' nu' v') B k' t' ke' va' pa' un' nu' v' :=
  (((((((h.set0 k').set1 t').set2 ke').set3 va').set4 pa').set5 un').set6 nu').set7 v'
theorem put8_far (w : World) (B b : Nat) (k t : Int) (ke va : ByteArray) (pa un nu : Int) (v : Value) (hne : b ≠ B) : (put8 w B k t ke va pa un nu v).heap[b]? = w.heap[b]? := by
  unfold put8
  iterate 8 rw [Below.heap_setCell _ _ _ _ hne]
theorem put8_bel {n : Nat} {w0 w : World} (h : Below n w0 w) (B : Nat) (k t : Int) (ke va : ByteArray) (pa un nu : Int) (v : Value) (hB : n ≤ B) : Below n w0 (put8 w B k t ke va pa un nu v) :=
  (((((((h.setCell hB _).setCell hB _).setCell hB _).setCell hB _).setCell hB _).setCell hB _).setCell hB _).setCell hB _
theorem InG.done {a : Option Addr} {C : Nat} (h : InG w0 w B0 B1 k pa un nu (.slice a pr.length C) pr) (hP : PairsAt w a pr) :
    Box8 RT (put8 w B0 k 0 ⟨#[]⟩ ⟨#[]⟩ pa un nu (.slice a pr.length C)) B0 k 0 ⟨#[]⟩ ⟨#[]⟩ pa un nu (.slice a pr.length C) ∧ PairsAt (put8 w B0 k 0 ⟨#[]⟩ ⟨#[]⟩ pa un nu (.slice a pr.length C)) a pr ∧ Below B0 w0 (put8 w B0 k 0 ⟨#[]⟩ ⟨#[]⟩ pa un nu (.slice a pr.length C)) := by
  refine ⟨h.x0.put _ _ _ _ _ _ _ _, ?_, put8_bel h.bel _ _ _ _ _ _ _ _ _ (Nat.le_refl _)⟩
  have n0 := box_row_ne h.x0 h.row
  intro i p hp
  obtain ⟨b, off, rfl, c0, c1⟩ := hP i p hp
  rcases h.row.2 with ⟨e, _⟩ | ⟨g, C', cur, e, _⟩
  · cases e
  · cases e
    have hne : b ≠ B0 := fun e => n0 (by rw [e]; rfl)
    exact ⟨b, 0, rfl, (World.cell?_of_block (put8_far _ _ _ _ _ _ _ _ _ _ _ hne) (a := ⟨b, 0 + i * 2, none⟩)).trans c0, (World.cell?_of_block (put8_far _ _ _ _ _ _ _ _ _ _ _ hne) (a := ⟨b, 0 + i * 2 + 1, none⟩)).trans c1⟩
end
theorem guess_none {s : ByteArray} {m : Nat} {A : Int} (h : m = 0 ∨ (s.size : Int) ≤ A) : guessPairs s m A = [] := by
  rcases h with rfl | h
  · rfl
  · cases m with
    | zero => rfl
    | succ m => simp only [guessPairs]; rw [if_neg (by omega)]
set_option maxRecDepth 100000 in
set_option maxHeartbeats 4000000 in
theorem rguess_high (s : ByteArray) (w : World) (hs : s.size ≤ 1000000) (hk : 5 < numAt s 0 1) :
    Calls Tryd.prog 43 #[.string s] w (RecOut w (guessP s)) := by
  have hg : guessP s = ⟨numAt s 0 1, 0, ⟨#[]⟩, ⟨#[]⟩, numAt s 1 6, numAt s 7 6, numAt s 13 6, if numAt s 0 1 = 7 then guessPairs s (numAt s 19 2).toNat 21 else []⟩ := by
    unfold guessP; rw [if_pos (by omega)]
  obtain ⟨R, HR⟩ : ∃ R, Hid (guessP s = R) := ⟨_, rfl⟩
  rw [HR.out] at hg ⊢
  have HG := Lib.hid hg
  clear hg
  have C0 := Lib.hid (fun W => rnumber_any s 0 1 W hs (by omega))
  have C1 := Lib.hid (fun W => rnumber_any s 1 6 W hs (by omega))
  have C2 := Lib.hid (fun W => rnumber_any s 7 6 W hs (by omega))
  have C3 := Lib.hid (fun W => rnumber_any s 13 6 W hs (by omega))
  have C4 := fun W => rnumber_any s 19 2 W hs (by omega)
  have hm := numAt2_lt s 19
  obtain ⟨many, hmany⟩ := Int.eq_ofNat_of_zero_le (numAt_nonneg s 19 2)
  rw [hmany] at C4 HG hm
  have C4 := Lib.hid C4
  rw [Int.toNat_natCast] at HG
  clear HR hmany
  generalize numAt s 0 1 = k at *
  generalize numAt s 1 6 = pa at *
  generalize numAt s 7 6 = un at *
  generalize numAt s 13 6 = nu at *
  have X0 := box8_new RT w 0 0 ⟨#[]⟩ ⟨#[]⟩ 0 0 0 (.slice none 0 0)
  have X1 := box8_new RT (w.alloc (.cells #[.int .i64 0, .int .i64 0, .string ⟨#[]⟩, .string ⟨#[]⟩, .int .i64 0, .int .i64 0, .int .i64 0, .slice none 0 0] RT)) k 0 ⟨#[]⟩ ⟨#[]⟩ pa un nu (.slice none 0 0)
  have Bz := (Below.refl w.heap.size w).alloc (Nat.le_refl _) (.cells #[.int .i64 0, .int .i64 0, .string ⟨#[]⟩, .string ⟨#[]⟩, .int .i64 0, .int .i64 0, .int .i64 0, .slice none 0 0] RT)
  have By := Bz.alloc (by simp) (.cells #[.int .i64 k, .int .i64 0, .string ⟨#[]⟩, .string ⟨#[]⟩, .int .i64 pa, .int .i64 un, .int .i64 nu, .slice none 0 0] RT)
  have X0' := X0.below ((Below.refl _ (w.alloc (.cells #[.int .i64 0, .int .i64 0, .string ⟨#[]⟩, .string ⟨#[]⟩, .int .i64 0, .int .i64 0, .int .i64 0, .slice none 0 0] RT))).alloc (Nat.le_refl _) (.cells #[.int .i64 k, .int .i64 0, .string ⟨#[]⟩, .string ⟨#[]⟩, .int .i64 pa, .int .i64 un, .int .i64 nu, .slice none 0 0] RT)) (by simp)
  have I0 := Lib.hid (show InG w _ w.heap.size _ k pa un nu (.slice none 0 0) [] from ⟨X0', X1, World.ownsRow_nil _ _ _ _, By, by simp⟩)
  clear X0 X1 Bz By X0'
  have e1 : (w.alloc (.cells #[.int .i64 0, .int .i64 0, .string ⟨#[]⟩, .string ⟨#[]⟩, .int .i64 0, .int .i64 0, .int .i64 0, .slice none 0 0] RT)).heap.size = w.heap.size + 1 := by simp
  rw [e1] at I0
  clear e1
  go_enter Tryd.func43, Tryd.ntmps43
  go_wp2_with (first | (go_at_call 53; ((with_reducible refine (C0.out _).mono ?_); rintro e w1 ⟨rfl, rfl⟩)) | (go_at_call 53; ((with_reducible refine (C1.out _).mono ?_); rintro e w1 ⟨rfl, rfl⟩)) | (go_at_call 53; ((with_reducible refine (C2.out _).mono ?_); rintro e w1 ⟨rfl, rfl⟩)) | (go_at_call 53; ((with_reducible refine (C3.out _).mono ?_); rintro e w1 ⟨rfl, rfl⟩)) | (go_at_call 53; ((with_reducible refine (C4.out _).mono ?_); rintro e w1 ⟨rfl, rfl⟩)))
  clear C0 C1 C2 C3 C4
  change Code.wp _ _ _ _ _ at *
  generalize (w.alloc (.cells #[.int .i64 0, .int .i64 0, .string ⟨#[]⟩, .string ⟨#[]⟩, .int .i64 0, .int .i64 0, .int .i64 0, .slice none 0 0] RT)).alloc (.cells #[.int .i64 k, .int .i64 0, .string ⟨#[]⟩, .string ⟨#[]⟩, .int .i64 pa, .int .i64 un, .int .i64 nu, .slice none 0 0] RT) = W0 at *
  have HB := Lib.hid (show w.heap.size < w.heap.size + 1 by omega)
  generalize hB0 : w.heap.size = B0 at *
  generalize B0 + 1 = B1 at *
  have HB0 := Lib.hid hB0; clear hB0
  have hm1 : (many : Int) < 65536 := hm
  go_loopw [5, 6] (fun at_ c wr => ∃ (n : Nat) (A : Int) (pr : Prs) (v : Value), n ≤ many ∧ at_ = .int .i64 A ∧ c = .int .i64 (n : Int) ∧ pr.length ≤ n ∧ (k ≠ 7 → pr = []) ∧ guessPairs s many 21 = pr ++ guessPairs s (many - n) A ∧ InG w wr B0 B1 k pa un nu v pr) (fun _ c _ => many - (intOf c).toNat)
  case atStart => exact ⟨0, 21, [], _, by omega, rfl, rfl, by simp, fun _ => rfl, rfl, I0.out⟩
  case round =>
    obtain ⟨n, A, pr, v, hn, rfl, rfl, hpl, hp7, hgp, hI⟩ := hrel
    clear I0
    have HGP := Lib.hid hgp; have HP7 := Lib.hid hp7
    clear hgp hp7
    obtain ⟨va, vC, rfl, hPA, hFr⟩ := row_pairs hI.row
    have HI := Lib.hid hI; have HPA := Lib.hid hPA; have HFr := Lib.hid hFr
    have c0 := hI.x1.c0; have c1 := hI.x1.c1; have c2 := hI.x1.c2; have c3 := hI.x1.c3; have c4 := hI.x1.c4; have c5 := hI.x1.c5; have c6 := hI.x1.c6; have c7 := hI.x1.c7
    have e0 := hI.x0.c0; have e1 := hI.x0.c1; have e2 := hI.x0.c2; have e3 := hI.x0.c3; have e4 := hI.x0.c4; have e5 := hI.x0.c5; have e6 := hI.x0.c6; have e7 := hI.x0.c7
    have z0 := hI.x0.fz 0; have z1 := hI.x0.fz 1; have z2 := hI.x0.fz 2; have z3 := hI.x0.fz 3; have z4 := hI.x0.fz 4; have z5 := hI.x0.fz 5; have z6 := hI.x0.fz 6; have z7 := hI.x0.fz 7
    clear hI hPA hFr
    by_cases h7 : k = 7
    · subst h7
      by_cases hc : n < many ∧ A < (s.size : Int)
      · obtain ⟨hc1, hc2⟩ := hc
        have d1 : (n : Int) < (many : Int) := by omega
        have CT := Lib.hid (fun W => rtx_any s A W hs)
        have CU := Lib.hid (fun W => rtx_any s (txAt s A).2.1 W hs)
        obtain ⟨m, hmn⟩ : ∃ m, many - n = m + 1 := ⟨many - n - 1, by omega⟩
        have hgu : guessPairs s (many - n) A = if (txAt s (txAt s A).2.1).2.2 ≠ 0 ∨ (txAt s A).2.1 = 0 then [] else ((txAt s A).1, (txAt s (txAt s A).2.1).1) :: guessPairs s (many - (n + 1)) (txAt s (txAt s A).2.1).2.1 := by
          rw [hmn, show many - (n + 1) = m by omega]
          simp only [guessPairs]
          rw [if_pos hc2]
        generalize txAt s (txAt s A).2.1 = u2 at *
        generalize txAt s A = u1 at *
        obtain ⟨a1, a2, a3⟩ := u1
        obtain ⟨b1, b2, b3⟩ := u2
        dsimp only at *
        by_cases hb : b3 ≠ 0 ∨ a2 = 0
        · rw [if_pos hb] at hgu
          have HRr := Lib.hid (show R = ⟨7, 0, ⟨#[]⟩, ⟨#[]⟩, pa, un, nu, pr⟩ by rw [HG.out, if_pos rfl, HGP.out, hgu, List.append_nil])
          clear hgu HG HGP hmn
          by_cases hb0 : b3 = 0
          · have ha2 : a2 = 0 := hb.resolve_left (fun h => h hb0)
            subst hb0 ha2
            clear hb
            go_wp2_with (first | (go_at_call 54; ((with_reducible refine (CT.out _).mono ?_); rintro e w1 ⟨rfl, rfl⟩)) | (go_at_call 54; ((with_reducible refine (CU.out _).mono ?_); rintro e w1 ⟨rfl, rfl⟩)))
            refine bodyPost_ret (v := recV ⟨7, 0, ⟨#[]⟩, ⟨#[]⟩, pa, un, nu, pr⟩ va vC) ?_ rfl ?_
            · obtain ⟨W, hW⟩ : ∃ W, put8 wr B0 7 0 ⟨#[]⟩ ⟨#[]⟩ pa un nu (.slice va pr.length vC) = W := ⟨_, rfl⟩
              have D := HI.out.done HPA.out
              rw [hW] at D
              unfold put8 at hW
              rw [hW]
              have f0 := D.1.c0; have f1 := D.1.c1; have f2 := D.1.c2; have f3 := D.1.c3; have f4 := D.1.c4; have f5 := D.1.c5; have f6 := D.1.c6; have f7 := D.1.c7
              clear hW D
              simp [results, Tryd.results43, go_sem, recV, f0, f1, f2, f3, f4, f5, f6, f7]
            · have D := HI.out.done HPA.out
              refine ⟨va, vC, by rw [HRr.out], by rw [HRr.out]; exact D.2.1, by rw [HB0.out]; exact D.2.2, by rw [HB0.out]; exact HFr.out⟩
          · have g3 : (b3 != 0) = true := by rw [bne_iff_ne]; exact hb0
            clear hb hb0
            go_wp2_with (first | (go_at_call 54; ((with_reducible refine (CT.out _).mono ?_); rintro e w1 ⟨rfl, rfl⟩)) | (go_at_call 54; ((with_reducible refine (CU.out _).mono ?_); rintro e w1 ⟨rfl, rfl⟩)))
            refine bodyPost_ret (v := recV ⟨7, 0, ⟨#[]⟩, ⟨#[]⟩, pa, un, nu, pr⟩ va vC) ?_ rfl ?_
            · obtain ⟨W, hW⟩ : ∃ W, put8 wr B0 7 0 ⟨#[]⟩ ⟨#[]⟩ pa un nu (.slice va pr.length vC) = W := ⟨_, rfl⟩
              have D := HI.out.done HPA.out
              rw [hW] at D
              unfold put8 at hW
              rw [hW]
              have f0 := D.1.c0; have f1 := D.1.c1; have f2 := D.1.c2; have f3 := D.1.c3; have f4 := D.1.c4; have f5 := D.1.c5; have f6 := D.1.c6; have f7 := D.1.c7
              clear hW D
              simp [results, Tryd.results43, go_sem, recV, f0, f1, f2, f3, f4, f5, f6, f7]
            · have D := HI.out.done HPA.out
              refine ⟨va, vC, by rw [HRr.out], by rw [HRr.out]; exact D.2.1, by rw [HB0.out]; exact D.2.2, by rw [HB0.out]; exact HFr.out⟩
        · rw [if_neg hb] at hgu
          have hb0 : b3 = 0 := by omega
          have ha2 : (a2 == 0) = false := by rw [beq_eq_false_iff_ne]; omega
          subst hb0
          obtain ⟨g5, C5, w5, hap, q7, qz, hI5⟩ := HI.out.append a1 b1 (by omega)
          have HAP := Lib.hid hap; have HI5 := Lib.hid hI5
          have HGN := Lib.hid (show guessPairs s many 21 = (pr ++ [(a1, b1)]) ++ guessPairs s (many - (n + 1)) b2 by rw [HGP.out, hgu]; simp)
          clear hgu HGP hmn hb hap hI5 HI HPA e0 e1 e2 e3 e4 e5 e6 e7 z0 z1 z2 z3 z4 z5 z6 z7 c1 c2 c3 c4 c5 c6
          go_wp2_with (first | (go_at_call 54; ((with_reducible refine (CT.out _).mono ?_); rintro e w1 ⟨rfl, rfl⟩)) | (go_at_call 54; ((with_reducible refine (CU.out _).mono ?_); rintro e w1 ⟨rfl, rfl⟩)) | (at_builtin; refine wpList_append_run5 rfl (.tmp 74) (.tmp 78) _ _ rfl _ _ rfl rfl _ _ HAP.out ?_))
          first
            | exact ⟨⟨n + 1, b2, _, _, by omega, rfl, by go_num, by simp; omega, fun h => absurd rfl h, HGN.out, HI5.out⟩, by simp [intOf]; omega⟩
            | (refine ⟨?_, by simp [intOf]; omega⟩; (repeat apply Exists.intro); exact ⟨⟨n + 1, b2, _, _, by omega, rfl, by go_num, by simp; omega, fun h => absurd rfl h, HGN.out, HI5.out⟩, rfl⟩)
      · have HRr := Lib.hid (show R = ⟨7, 0, ⟨#[]⟩, ⟨#[]⟩, pa, un, nu, pr⟩ by rw [HG.out, if_pos rfl, HGP.out, guess_none (by omega), List.append_nil])
        clear HG HGP
        by_cases hc1 : n < many
        · have d1 : (n : Int) < (many : Int) := by omega
          have d2 : decide (A < (s.size : Int)) = false := by rw [decide_eq_false_iff_not]; omega
          clear hc
          go_wp2_with fail
          refine bodyPost_ret (v := recV ⟨7, 0, ⟨#[]⟩, ⟨#[]⟩, pa, un, nu, pr⟩ va vC) ?_ rfl ?_
          · obtain ⟨W, hW⟩ : ∃ W, put8 wr B0 7 0 ⟨#[]⟩ ⟨#[]⟩ pa un nu (.slice va pr.length vC) = W := ⟨_, rfl⟩
            have D := HI.out.done HPA.out
            rw [hW] at D
            unfold put8 at hW
            rw [hW]
            have f0 := D.1.c0; have f1 := D.1.c1; have f2 := D.1.c2; have f3 := D.1.c3; have f4 := D.1.c4; have f5 := D.1.c5; have f6 := D.1.c6; have f7 := D.1.c7
            clear hW D
            simp [results, Tryd.results43, go_sem, recV, f0, f1, f2, f3, f4, f5, f6, f7]
          · have D := HI.out.done HPA.out
            refine ⟨va, vC, by rw [HRr.out], by rw [HRr.out]; exact D.2.1, by rw [HB0.out]; exact D.2.2, by rw [HB0.out]; exact HFr.out⟩
        · have d1 : (many : Int) ≤ (n : Int) := by omega
          clear hc
          go_wp2_with fail
          refine bodyPost_ret (v := recV ⟨7, 0, ⟨#[]⟩, ⟨#[]⟩, pa, un, nu, pr⟩ va vC) ?_ rfl ?_
          · obtain ⟨W, hW⟩ : ∃ W, put8 wr B0 7 0 ⟨#[]⟩ ⟨#[]⟩ pa un nu (.slice va pr.length vC) = W := ⟨_, rfl⟩
            have D := HI.out.done HPA.out
            rw [hW] at D
            unfold put8 at hW
            rw [hW]
            have f0 := D.1.c0; have f1 := D.1.c1; have f2 := D.1.c2; have f3 := D.1.c3; have f4 := D.1.c4; have f5 := D.1.c5; have f6 := D.1.c6; have f7 := D.1.c7
            clear hW D
            simp [results, Tryd.results43, go_sem, recV, f0, f1, f2, f3, f4, f5, f6, f7]
          · have D := HI.out.done HPA.out
            refine ⟨va, vC, by rw [HRr.out], by rw [HRr.out]; exact D.2.1, by rw [HB0.out]; exact D.2.2, by rw [HB0.out]; exact HFr.out⟩
    · have g7 : (k == 7) = false := by rw [beq_eq_false_iff_ne]; exact h7
      have hpr := HP7.out h7
      have HRr := Lib.hid (show R = ⟨k, 0, ⟨#[]⟩, ⟨#[]⟩, pa, un, nu, pr⟩ by rw [HG.out, if_neg h7, hpr])
      clear HG HGP hpr
      go_wp2_with fail
      refine bodyPost_ret (v := recV ⟨k, 0, ⟨#[]⟩, ⟨#[]⟩, pa, un, nu, pr⟩ va vC) ?_ rfl ?_
      · obtain ⟨W, hW⟩ : ∃ W, put8 wr B0 k 0 ⟨#[]⟩ ⟨#[]⟩ pa un nu (.slice va pr.length vC) = W := ⟨_, rfl⟩
        have D := HI.out.done HPA.out
        rw [hW] at D
        unfold put8 at hW
        rw [hW]
        have f0 := D.1.c0; have f1 := D.1.c1; have f2 := D.1.c2; have f3 := D.1.c3; have f4 := D.1.c4; have f5 := D.1.c5; have f6 := D.1.c6; have f7 := D.1.c7
        clear hW D
        simp [results, Tryd.results43, go_sem, recV, f0, f1, f2, f3, f4, f5, f6, f7]
      · have D := HI.out.done HPA.out
        refine ⟨va, vC, by rw [HRr.out], by rw [HRr.out]; exact D.2.1, by rw [HB0.out]; exact D.2.2, by rw [HB0.out]; exact HFr.out⟩
theorem rguess_any (s : ByteArray) (w : World) (hs : s.size ≤ 1000000) : Calls Tryd.prog 43 #[.string s] w (RecOut w (guessP s)) := by
  by_cases h : numAt s 0 1 ≤ 5
  · exact rguess_low s w hs h
  · exact rguess_high s w hs (by omega)
end Go.Proofs.YthnpkhejfcclcaaDoor
