/-
  Package lock: the contract of letCome.
-/
import Derived.Test.YtainnhcmhgloaaaGreatDoorW09d
namespace Go.Proofs.YtainnhcmhgloaaaGreatDoor
open Go.RowKit Go.Shelf Go.MapKept Go.Maps Go.Sort

theorem wpList_append_run {P : Program} {ops : Array Oper} {rest : List Oper} {o : Oper} {a : Act} {Q : Exit → Act → World → Prop} {w : World} (hgd : o.guard = none) (sl x : Operand) (t u : TypeId)
    (ho : o.op = .call { callee := .builtin .append, args := #[sl, x], argTypes := #[t, u] }) (v xv : Value) (hs : a.eval sl = v) (hx : a.eval x = xv) (v' : Value) (w' : World)
    (hr : (Builtin.append_ #[t, u] o.type #[v, xv]).run P w = .ok v' w') (h : wpList P ops Q rest (a.put o.dst v') w') : wpList P ops Q (o :: rest) a w := by
  refine wpList_plain hgd fun K hK => ?_
  unfold Oper.wp execOp
  simp only [ho, resolve, invoke, builtin, Sem.run_bind, Sem.run_pure, Result.andThen_ok, List.map_toArray, List.map_cons, List.map_nil, hs, hx, hr]
  exact hK _ _ h
theorem field_mode9 (a : ByteArray) (x : Int) (w : World) : (Instr.field 41 (.agg #[.string a, .int .i64 x]) 1).run Tryz.prog w = .ok (.int .i64 x) w := by kernel_rfl
section
variable {w w' w0 W2 : World} {o o' o0 : Nat → Nat} {i j g m1 m2 m3 : Nat} {N N1 N2 : List En} {HL : List Ho} {WL H W H0 W0 : Hs} {n0 : ByteArray} {pre : List Int} {e : En}
/-- entries of other names stay where they are -/
def Stays9 (nm : ByteArray) (N N' : List En) : Prop := ∀ n b, n ≠ nm → (n, b) ∈ N.map (fun e => (e.name, e.b)) → (n, b) ∈ N'.map (fun e => (e.name, e.b))
/-- u = append(u, x), of the owner i -/
theorem row_append9 {u : Value} {l : List Int} (h : Row w o i 3 1 u l.length (l.map encI9)) (x : Int) (hl : l.length ≤ 100000) :
    ∃ a n c w' o', (Builtin.append_ #[36, 36] 36 #[u, .slice (some ⟨w.heap.size, 0, none⟩) 1 1]).run Tryz.prog (w.alloc (.cells #[.int .i64 x] 3)) = .ok (.slice a n c) w' ∧ Row w' o' i 3 1 (.slice a n c) (l ++ [x]).length ((l ++ [x]).map encI9) ∧ Stp o i w o' w' := by
  obtain ⟨i0, hi, hz0, hz1, hz2⟩ := info_parts info_int
  have hal := Row.reads h ((Below.refl _ w).alloc (Nat.le_refl _) (.cells #[.int .i64 x] 3))
  obtain ⟨v', w', hap, hR, hS, _, _⟩ := Row.append (ty := 36) hal Tryz.underlying36 hi hz0 hz1 hz2 rfl (by decide) ⟨w.heap.size, 0, none⟩ 1 1 [.int .i64 x] rfl (cell_one_new w x) (by intro u hu; simp at hu; subst hu; rfl) (by simp [maxLen]; omega) (by omega)
  obtain ⟨a, n, c, rfl⟩ := Row.isSlice hR
  refine ⟨a, n, c, w', _, hap, ?_, (Stp.alloc o i w _).trans hS⟩
  rw [List.length_append, List.map_append]; exact hR
/-- a fresh owner's steps are nobody's -/
theorem Stp.fresh (a : Stp o j w o' w') {o2 : Nat → Nat} (b : Stp o' i w' o2 W2) (hf : ∀ k, k < w.heap.size → o k ≠ i) : Stp o j w o2 W2 :=
  ⟨b.os.trans a.os, b.tape.trans a.tape, b.output.trans a.output, Nat.le_trans a.size b.size,
   fun k hk hne => (b.blk k (Nat.lt_of_lt_of_le hk a.size) (by rw [a.own k hk]; exact hf k hk)).trans (a.blk k hk hne),
   fun k hk => (b.own k (Nat.lt_of_lt_of_le hk a.size)).trans (a.own k hk)⟩
theorem Laid9.stp (h : Laid9 w) (s : Stp o j w o' w') (h0 : o 0 ≠ j) : Laid9 w' := fun k hk => by
  have hb := s.blk 0 h.pos h0
  have := h k hk
  unfold World.cell? at this ⊢
  rw [hb]; exact this
/-- where letting come stands: k have come -/
structure LC (w0 : World) (o0 : Nat → Nat) (j i g m1 m2 m3 : Nat) (N1 N2 : List En) (e : En) (H0 W0 : Hs) (w : World) (o : Nat → Nat) (u : Value) (k : Nat) (hs : List (Int × Nat)) (HL : List Ho) (WL H W : Hs) : Prop where
  T : IsT w o j g m1 m2 m3 (N1 ++ { e with hs := hs } :: N2) HL WL
  A : Abs (N1 ++ { e with hs := hs } :: N2) HL WL H W e.name (e.q.take k)
  R : Row w o i 3 1 u (e.q.take k).length ((e.q.take k).map encI9)
  S : Stp o0 j w0 o w
  L : Laid9 w
  B : H.length + W.length ≤ 1000
  C : comeP e.name e.q.length H0 W0 = ((comeP e.name (e.q.length - k) H W).1, (comeP e.name (e.q.length - k) H W).2.1, e.q.take k ++ (comeP e.name (e.q.length - k) H W).2.2)
theorem holdP_len (H : Hs) (x : Has9) : (holdP H x).length ≤ H.length + 1 := by
  unfold holdP woN; rw [List.length_append]; have := List.length_filter_le (fun h : Has9 => decide (h.owner ≠ x.owner) || decide (h.name ≠ x.name)) H; simp only [List.length_singleton]; omega
theorem woA_len {W : Hs} {y : Has9} (hy : y ∈ W) : (woA W y.owner).length + 1 ≤ W.length := by
  unfold woA
  obtain ⟨l1, l2, rfl⟩ := List.append_of_mem hy
  rw [List.filter_append, List.filter_cons_of_neg (by simp)]
  have h1 := List.length_filter_le (fun h : Has9 => decide (h.owner ≠ y.owner)) l1
  have h2 := List.length_filter_le (fun h : Has9 => decide (h.owner ≠ y.owner)) l2
  simp only [List.length_append, List.length_cons]; omega
theorem LC.queue {u : Value} {k : Nat} {hs : List (Int × Nat)} (h : LC w0 o0 j i g m1 m2 m3 N1 N2 e H0 W0 w o u k hs HL WL H W) : (nameL W e.name).map (·.owner) = e.q.drop k := by
  have := h.A.qn { e with hs := hs } (by simp)
  rw [if_pos rfl] at this
  have h2 : e.q = e.q.take k ++ (nameL W e.name).map (·.owner) := this
  have h3 := List.take_append_drop k e.q
  conv at h2 => lhs; rw [← h3]
  exact (List.append_cancel_left h2).symm
theorem LC.reads {u : Value} {k : Nat} {hs : List (Int × Nat)} (h : LC w0 o0 j i g m1 m2 m3 N1 N2 e H0 W0 w o u k hs HL WL H W) (b : Below w.heap.size w w') : LC w0 o0 j i g m1 m2 m3 N1 N2 e H0 W0 w' o u k hs HL WL H W :=
  ⟨h.T.reads b, h.A, h.R.reads b, h.S.trans (Stp.ofBelow b o j), h.L.step b, h.B, h.C⟩
theorem row_cell9 {ua : Option Addr} {uc n : Nat} {q : List Int} (h : Row w o j 3 1 (.slice ua n uc) q.length (q.map encI9)) {k : Nat} {x : Int} (hx : q[k]? = some x) : ∃ gq, ua = some ⟨gq, 0, none⟩ ∧ w.cell? ⟨gq, k, none⟩ = some (.int .i64 x) := by
  rcases h.val with ⟨_, h0, _⟩ | ⟨gq, C, hv, _, _, hc, _⟩
  · have : q = [] := List.eq_nil_of_length_eq_zero h0
    rw [this] at hx; cases hx
  · cases hv
    exact ⟨gq, rfl, hc k _ (by rw [List.getElem?_map, hx]; rfl)⟩
theorem take_snoc {q : List Int} {k : Nat} {x : Int} {r : List Int} (h : q.drop k = x :: r) : q.take (k + 1) = q.take k ++ [x] := by
  have : q[k]? = some x := by
    have := List.getElem?_drop (xs := q) (i := k) (j := 0)
    rw [h] at this; simpa using this.symm
  rw [List.take_add_one, this]; rfl
set_option maxRecDepth 100000 in
set_option maxHeartbeats 4000000 in
theorem c_letCome (T : IsT w o j g m1 m2 m3 (N1 ++ e :: N2) HL WL) (A : Abs (N1 ++ e :: N2) HL WL H W n0 []) (hB : H.length + W.length ≤ 1000) (hnm : e.name.size ≤ 300) (hL : Laid9 w) (h0 : o 0 ≠ j) (hij : i ≠ j) (hf : ∀ k, k < w.heap.size → o k ≠ i) :
    Calls Tryz.prog 60 #[ptr9 g, ptr9 e.b] w fun r w' => ∃ v, r = .returned v ∧ ∃ N' HL' WL' o', IsT w' o' j g m1 m2 m3 N' HL' WL' ∧ Abs N' HL' WL' (comeP e.name e.q.length H W).1 (comeP e.name e.q.length H W).2.1 n0 [] ∧ Stp o j w o' w' ∧ Row w' o' i 3 1 v (comeP e.name e.q.length H W).2.2.length ((comeP e.name e.q.length H W).2.2.map encI9) ∧ Stays9 e.name (N1 ++ e :: N2) N' := by
  have he : e ∈ N1 ++ e :: N2 := by simp
  obtain ⟨ua, un, uc, hqv⟩ := (T.er e he).isSlice
  have hun : un = e.q.length := by
    have := (T.er e he).row.2
    rw [hqv] at this
    rcases this with ⟨h1, h2⟩ | ⟨g', cap, cur, h1, _⟩
    · cases h1; exact h2.symm
    · cases h1; rfl
  have b2 : w.cell? ⟨e.b, 2, none⟩ = some (.slice ua un uc) := by rw [← hqv]; exact (T.eb e he).cell 2
  have H0 : LC w o j i g m1 m2 m3 N1 N2 e H W w o (.slice none 0 0) 0 e.hs HL WL H W := ⟨T, by have := A.pre_any e.name; exact this, Row.nil _ _ _ _ _, Stp.refl _ _ _, hL, hB, by simp⟩
  have HH0 := Lib.hid H0; have HQV := Lib.hid hqv
  have hql : e.q.length ≤ 1000 := by rw [A.q_len he, List.length_map]; exact Nat.le_trans (List.length_filter_le _ _) (by omega)
  have HF := Lib.hid hf; have HNM := Lib.hid hnm; have H00 := Lib.hid h0; have HLW := Lib.hid hL
  clear T A hB hL hf hnm H0 hqv he h0
  subst hun
  unfold ptr9 at *
  go_enter Tryz.func60, Tryz.ntmps60
  go_upto_block 0 with fail
  go_cut [5] (fun u wx => ∃ k o' hs HL' WL' H' W', k ≤ e.q.length ∧ LC w o j i g m1 m2 m3 N1 N2 e H W wx o' u k hs HL' WL' H' W' ∧ comeP e.name (e.q.length - k) H' W' = (H', W', []))
  case first =>
    go_wp2_with fail
    go_loopw [5, 14] (fun u c wr => ∃ k o' hs HL' WL' H' W', k ≤ e.q.length ∧ c = .int .i64 (k : Int) ∧ LC w o j i g m1 m2 m3 N1 N2 e H W wr o' u k hs HL' WL' H' W') (fun _ c _ => e.q.length - (intOf c).toNat)
    case atStart => exact ⟨0, _, _, _, _, _, _, by omega, rfl, HH0.out⟩
    case round =>
      obtain ⟨k, o', hs, HL', WL', H', W', hk, rfl, hC⟩ := hrel
      have HC := Lib.hid hC
      by_cases hlt : k < e.q.length
      · have c1 : (k : Int) < (e.q.length : Int) := by omega
        have c2 : (0 : Int) ≤ (k : Int) := by omega
        obtain ⟨x, hx⟩ : ∃ x, e.q[k]? = some x := ⟨_, List.getElem?_eq_getElem hlt⟩
        have hdr : e.q.drop k = x :: e.q.drop (k + 1) := by
          obtain ⟨h1, h2⟩ := List.getElem?_eq_some_iff.1 hx
          rw [← h2]; exact (List.drop_eq_getElem_cons h1)
        obtain ⟨y, l, hy, hyx⟩ : ∃ y l, nameL W' e.name = y :: l ∧ y.owner = x := by
          have hq := hC.queue
          rw [hdr] at hq
          cases hw : nameL W' e.name with
          | nil => rw [hw] at hq; cases hq
          | cons y l => rw [hw] at hq; simp at hq; exact ⟨y, l, rfl, hq.1⟩
        subst hyx
        have hyW := mem_nameL.1 (show y ∈ nameL W' e.name by rw [hy]; simp)
        have hme : ({ e with hs := hs } : En) ∈ N1 ++ { e with hs := hs } :: N2 := by simp
        obtain ⟨gq, hua, cq⟩ := row_cell9 (ua := ua) (uc := uc) (n := e.q.length) (by have := hC.T.er _ hme; have h2 : Row wr o' j 3 1 e.qv e.q.length (e.q.map encI9) := this; rw [HQV.out] at h2; exact h2) hx
        have hyWL : y ∈ WL' := hC.A.wm.mem_iff.2 hyW.1
        have lk : (Instr.lookup 52 (.map (some m3)) (.int .i64 y.owner) false).run Tryz.prog wr = .ok (.agg #[.string y.name, .int .i64 (y.mode : Int)]) wr :=
          hC.T.hw.look Tryz.underlying52 Tryz.underlying3 (List.mem_map.2 ⟨y, hyWL, rfl⟩) false
        have g2 : wr.cell? ⟨g, 2, none⟩ = some (.map (some m3)) := hC.T.hp.cell 2
        have fm := field_mode9 y.name (y.mode : Int) wr
        have hbd := hC.A.bounds hme
        have hB := hC.B
        have hym := hC.A.ok.wm y hyW.1
        have CH := c_canHave (hC.T.eb _ hme) (hC.T.eh _ hme) (by omega) hbd.1 hbd.2.1 y.owner y.mode hym.2.1 hC.L
        rw [hC.A.can hme (hs_nodup (hC.T.eh _ hme)) y.owner y.mode hym.2.1] at CH
        have hye : (⟨y.owner, y.mode, e.name⟩ : Has9) = y := by rw [← hyW.2]
        have hye2 : (⟨y.owner, y.mode, ({ e with hs := hs } : En).name⟩ : Has9) = y := hye
        rw [hye2] at CH
        have CHH := Lib.hid CH
        subst hua
        cases hcan : canP H' y with
        | false =>
          rw [hcan] at CHH
          have HST := Lib.hid (comeP_no hy hcan (e.q.length - k))
          clear CH hcan hye hye2 hym hB hbd hyWL hme hyW hy hdr hx hC HH0
          unfold ptr9 at *
          go_wp2_with fail
          refine CHH.out.mono ?_; rintro z w1 ⟨rfl, b1⟩
          have HC1 := Lib.hid (HC.out.reads b1)
          clear b1 CHH lk g2 cq HC
          go_wp2_with fail
          go_meet
          exact ⟨k, _, _, _, _, _, _, hk, HC1.out, HST.out⟩
        | true =>
          rw [hcan] at CHH
          have HY := Lib.hid hy; have HCAN := Lib.hid hcan; have HYW := Lib.hid hyW; have HYE := Lib.hid hye; have HYM := Lib.hid hym; have HDR := Lib.hid hdr; have HWL := Lib.hid hyWL
          clear CH hcan hye hye2 hym hB hbd hyWL hme hyW hy hdr hx hC HH0
          unfold ptr9 at *
          go_wp2_with fail
          refine CHH.out.mono ?_; rintro z w1 ⟨rfl, b1⟩
          have hC1 := HC.out.reads b1
          have CHd := Lib.hid (c_hold hC1.T hC1.A y.owner y.mode ⟨HYM.out.1, HYM.out.2.1⟩ ⟨HYM.out.2.2.1, HYM.out.2.2.2.1⟩ HNM.out)
          have HC1 := Lib.hid hC1
          clear b1 CHH lk g2 cq HC hC1
          unfold ptr9 at *
          go_wp2_with fail
          refine CHd.out.mono ?_; rintro z w2 ⟨rfl, HL2, o2, T2, A2, S2⟩
          obtain ⟨L1, L2, hWL⟩ := List.append_of_mem HWL.out
          subst hWL
          obtain ⟨w3, hr3, M3, O3⟩ := WL_del T2.hw
          have T3 := T2.setWaits _ O3 M3
          have A3 := A2.come (e := { e with hs := hsPut hs y.owner y.mode }) T2.nnd (by simp) rfl HY.out
          have S3 := O3.stp T2.og.2.2.2
          have R3 := (HC1.out.R.other S2 hij).other S3 hij
          obtain ⟨qa, qn, qc, w4, o4, hap, R4, S4⟩ := row_append9 R3 y.owner (Nat.le_trans (List.length_take_le _ _) (by omega))
          have T4 := T3.other S4 (fun x => hij x.symm)
          have SS := ((HC1.out.S.trans S2).trans S3).fresh S4 HF.out
          have g2 : w2.cell? ⟨g, 2, none⟩ = some (.map (some m3)) := T2.hp.cell 2
          have etk := take_snoc HDR.out
          have HY2 := HYE.out
          have LL := Laid9.stp HLW.out SS H00.out
          have A4 := A3
          have hye3 : (⟨y.owner, y.mode, ({ e with hs := hs } : En).name⟩ : Has9) = y := HY2
          rw [hye3] at A4
          have HNEW := Lib.hid (show LC w o j i g m1 m2 m3 N1 N2 e H W w4 o4 (.slice qa qn qc) (k + 1) (hsPut hs y.owner y.mode) HL2 (L1 ++ L2) (holdP H' y) (woA W' y.owner) from
            ⟨T4, by rw [etk]; exact A4, by rw [etk]; exact R4, SS, LL, by have h1 := holdP_len H' y; have h2 := woA_len HYW.out.1; have h3 := HC1.out.B; omega, by
              have h1 := HC1.out.C
              rw [show e.q.length - k = (e.q.length - (k + 1)) + 1 by omega, comeP_yes HY.out HCAN.out] at h1
              rw [h1, etk]; simp⟩)
          have HCW := Lib.hid hap
          clear hye3 A4 LL HY2 etk SS T4 S4 R4 R3 S3 A3 T3 M3 O3 T2 A2 S2 HC1 CHd HYW HCAN HYE HYM HDR HWL HY hap
          go_wp2_with (at_builtin; refine wpList_append_run rfl (.tmp 40) (.tmp 42) _ _ rfl _ _ rfl rfl _ _ HCW.out ?_)
          exact ⟨⟨k + 1, _, _, _, _, _, _, by omega, by go_num, HNEW.out⟩, by simp [intOf]; omega⟩
      · obtain rfl : k = e.q.length := by omega
        clear hC
        go_wp2_with fail
        go_meet
        exact ⟨_, _, _, _, _, _, _, Nat.le_refl _, HC.out, by rw [Nat.sub_self]; rfl⟩
  case rest =>
    obtain ⟨k, o', hs, HL', WL', H', W', hk, hC, hstop⟩ := hcut
    clear HH0
    have hme : ({ e with hs := hs } : En) ∈ N1 ++ { e with hs := hs } :: N2 := by simp
    obtain ⟨qa, qn, qc, rfl⟩ := hC.R.isSlice
    have hqn : qn = k := by
      have hl : (e.q.take k).length = k := by simp; omega
      rcases hC.R.row.2 with ⟨h1, h2⟩ | ⟨g', cap, cur, h1, _⟩
      · cases h1; omega
      · cases h1; exact hl
    subst hqn
    have b2' : wc.cell? ⟨e.b, 2, none⟩ = some (.slice ua e.q.length uc) := by rw [← HQV.out]; exact (hC.T.eb _ hme).cell 2
    have CD := c_delete (hC.T.er _ hme) hql 0 qn (Nat.zero_le _) hk
    have CD2 : Calls Tryz.prog 83 #[.slice ua e.q.length uc, .int .i64 0, .int .i64 (qn : Int)] wc fun x w' => ∃ v', x = .returned v' ∧ RowStep wc o' j ({ e with hs := hs } : En).qv w' o' v' (e.q.drop qn) := by
      rw [← HQV.out]
      simpa using CD
    have CDD := Lib.hid CD2
    have HC := Lib.hid hC; have HST := Lib.hid hstop
    clear CD CD2 hC hstop b2
    unfold ptr9 at *
    go_wp2_with fail
    refine CDD.out.mono ?_; rintro z W2 ⟨v', rfl, R⟩
    obtain ⟨va, vn, vc, rfl⟩ := R.isSlice
    obtain ⟨T3, S3, hA3⟩ := HC.out.T.queueStep R
    have A3 := HC.out.A.shut HC.out.T.nnd (.slice va vn vc) n0
    have hpl : (e.q.take qn).length = qn := by simp; omega
    rw [hpl] at A3
    have d2 : W2.cell? ⟨e.b, 2, none⟩ = some (.slice ua e.q.length uc) := by rw [← HQV.out]; exact hA3.cell 2
    have z2 := hA3.fz 2
    have hres : comeP e.name e.q.length H W = (H', W', e.q.take qn) := by rw [HC.out.C, HST.out]; simp
    have hlist : (comeP e.name e.q.length H W).2.2.length = qn := by rw [hres]; exact hpl
    have R3 := HC.out.R.other S3 hij
    have S4 := HC.out.S.trans S3
    have HT3 := Lib.hid T3; have HA3 := Lib.hid A3; have HS4 := Lib.hid S4; have HR3 := Lib.hid R3; have HRES := Lib.hid hres; have HPL := Lib.hid hpl
    have hmb : ({ ({ e with hs := hs } : En) with qv := .slice va vn vc, q := e.q.drop qn } : En) ∈ N1 ++ { ({ e with hs := hs } : En) with qv := .slice va vn vc, q := e.q.drop qn } :: N2 := by simp
    have HM := Lib.hid hmb
    clear R CDD T3 A3 S3 hA3 hpl hres hlist R3 S4 b2' hmb hme
    go_upto_region 12 with fail
    generalize W2.setCell ⟨e.b, 2, none⟩ (.slice va vn vc) = W3 at *
    clear d2 z2
    have b1 : W3.cell? ⟨e.b, 1, none⟩ = some (.map (some e.hb)) := (HT3.out.eb _ HM.out).cell 1
    have ln := (HT3.out.eh _ HM.out).len (P := Tryz.prog) Tryz.underlying68 3
    rw [List.length_map] at ln
    have ln2 : (Builtin.len_ #[68] 3 #[.map (some e.hb)]).run Tryz.prog W3 = .ok (.int .i64 (hs.length : Int)) W3 := ln
    clear ln
    have HN := Lib.hid (show (N1 ++ { ({ e with hs := hs } : En) with qv := .slice va vn vc, q := e.q.drop qn } :: N2).map (fun e => (e.name, e.b)) = (N1 ++ e :: N2).map (fun e => (e.name, e.b)) by simp)
    by_cases hz : hs = []
    · subst hz
      have hl0 : ((([] : List (Int × Nat)).length : Nat) : Int) = 0 := rfl
      rw [hl0] at ln2
      have hwn : nameL W' e.name = [] := by
        cases hw : nameL W' e.name with
        | nil => rfl
        | cons y l =>
          exfalso
          have hq := HC.out.queue
          rw [hw] at hq
          have hlen : e.q.length - qn = (e.q.length - qn - 1) + 1 := by
            have := congrArg List.length hq; simp at this; omega
          have hcan : canP H' y = true := canP_iff.2 (fun h hh h1 _ => by
            have hp := (HC.out.A.hm { e with hs := [] } (by simp)).length_eq
            have hnil : nameL H' e.name = [] := List.eq_nil_of_length_eq_zero hp.symm
            have hyn := (mem_nameL.1 (show y ∈ nameL W' e.name by rw [hw]; simp)).2
            have : h ∈ nameL H' e.name := mem_nameL.2 ⟨hh, by rw [h1, hyn]⟩
            rw [hnil] at this; cases this)
          have h3 := HST.out
          rw [hlen, comeP_yes hw hcan] at h3
          simp at h3
      have Tn := HT3.out.hn
      rw [List.map_append, List.map_cons] at Tn
      have Tnd : MapAt .string W3.drew m1 _ := Tn.same (w' := W3.drew) rfl
      obtain ⟨w5, hr5, M5, O5⟩ := MapAt.del (P := Tryz.prog) (k := .string e.name) (v0 := ptr9 e.b) Tnd Tryz.underlying50 Tryz.underlying9 0
      have T5 := HT3.out.drew.cutName O5 (by rw [List.map_append]; exact M5)
      have A5 := HA3.out.cut_name HT3.out.nnd rfl hwn
      have S5 := (Stp.drew o' j W3).trans (O5.stp HT3.out.og.2.1)
      have R5 := HR3.out.other S5 hij
      have SS := HS4.out.trans S5
      have g0 : W3.drew.cell? ⟨g, 0, none⟩ = some (.map (some m1)) := HT3.out.hp.cell 0
      have b0 : W3.drew.cell? ⟨e.b, 0, none⟩ = some (.string e.name) := (HT3.out.eb _ HM.out).cell 0
      have HT5 := Lib.hid T5; have HA5 := Lib.hid A5; have HR5 := Lib.hid R5; have HSS := Lib.hid SS
      clear T5 A5 R5 SS S5 M5 O5 Tnd Tn hwn
      go_wp2_with fail
      go_still_tail 8, (by kernel_rfl)
      change wpList _ _ _ _ _ W3.drew
      go_wp2_with fail
      go_ret
      refine ⟨_, rfl, _, _, _, _, HT5.out, ?_, HSS.out, ?_, fun n b hne hnb => ?_⟩
      · rw [HRES.out]; exact HA5.out
      · rw [HRES.out]; exact HR5.out
      · rw [← HN.out] at hnb
        obtain ⟨x, hx, hx2⟩ := List.mem_map.1 hnb
        rcases mem_mid hx with rfl | hx
        · simp only [Prod.mk.injEq] at hx2; exact absurd hx2.1.symm hne
        · exact List.mem_map.2 ⟨x, List.mem_append.2 hx, hx2⟩
    · have hz2 : ((hs.length : Int) == 0) = false := by
        rw [beq_eq_false_iff_ne]; intro e1
        exact hz (List.eq_nil_of_length_eq_zero (by omega))
      clear hz
      generalize ((hs.length : Nat) : Int) = hl at *
      go_wp2_with fail
      go_ret
      refine ⟨_, rfl, _, _, _, _, HT3.out, ?_, HS4.out, ?_, fun n b hne hnb => ?_⟩
      · rw [HRES.out]; exact HA3.out
      · rw [HRES.out]; exact HR3.out
      · rw [HN.out]; exact hnb
end
end Go.Proofs.YtainnhcmhgloaaaGreatDoor
