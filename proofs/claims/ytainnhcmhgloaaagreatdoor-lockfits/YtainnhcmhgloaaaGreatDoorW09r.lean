/-
  Package lock: Drop. (Made by gen_W09r.py.)
-/
import Derived.Test.YtainnhcmhgloaaaGreatDoorW09q
import Derived.Laws.OwnMore
namespace Go.Proofs.YtainnhcmhgloaaaGreatDoor
open Go.RowKit Go.Shelf Go.MapKept Go.Maps Go.Sort Go.Lib

theorem fresh_owner9 (o : Nat → Nat) (n j q : Nat) : ∃ r, r ≠ j ∧ r ≠ q ∧ ∀ k, k < n → o k ≠ r := by
  have : ∃ M, ∀ k, k < n → o k ≤ M := by
    induction n with
    | zero => exact ⟨0, fun k h => absurd h (by omega)⟩
    | succ n ih =>
      obtain ⟨M, hM⟩ := ih
      refine ⟨M + o n, fun k hk => ?_⟩
      by_cases h : k < n
      · have := hM k h; omega
      · obtain rfl : k = n := by omega
        omega
  obtain ⟨M, hM⟩ := this
  exact ⟨M + j + q + 1, by omega, by omega, fun k hk e => by have := hM k hk; omega⟩
theorem info_str9 : (Tryz.prog.info? 9).map (fun i => (i.zero, i.size, i.bytes)) = some (some (.string ⟨#[]⟩), 1, 16) := by kernel_rfl
section
variable {w w' w0 : World} {o o' o0 : Nat → Nat} {i j z g m1 m2 m3 : Nat} {N N1 N2 : List En} {HL : List Ho} {WL H W H0 W0 : Hs} {n0 : ByteArray} {e : En} {v : Value} {ss zs : List (List UInt8)}
theorem Row.isSliceS {v : Value} {n : Nat} {xs : List Value} (h : Row w o j 9 1 v n xs) : ∃ a n c, v = .slice a n c := by
  rcases h.row.2 with ⟨rfl, _⟩ | ⟨g, cap, cur, rfl, _⟩
  · exact ⟨_, _, _, rfl⟩
  · exact ⟨_, _, _, rfl⟩
theorem row_cellS {ua : Option Addr} {uc n : Nat} {q : List ByteArray} (h : Row w o j 9 1 (.slice ua n uc) q.length (q.map Value.string)) {k : Nat} {x : ByteArray} (hx : q[k]? = some x) : ∃ gq, ua = some ⟨gq, 0, none⟩ ∧ w.cell? ⟨gq, k, none⟩ = some (.string x) := by
  rcases h.val with ⟨_, h0, _⟩ | ⟨gq, C, hv, _, _, hc, _⟩
  · have : q = [] := List.eq_nil_of_length_eq_zero h0
    rw [this] at hx; cases hx
  · cases hv
    exact ⟨gq, rfl, hc k _ (by rw [List.getElem?_map, hx]; rfl)⟩
theorem row_appendS {u : Value} {l : List ByteArray} (h : Row w o i 9 1 u l.length (l.map Value.string)) (x : ByteArray) (hl : l.length ≤ 100000) :
    ∃ a n c w' o', (Builtin.append_ #[79, 79] 79 #[u, .slice (some ⟨w.heap.size, 0, none⟩) 1 1]).run Tryz.prog (w.alloc (.cells #[.string x] 9)) = .ok (.slice a n c) w' ∧ Row w' o' i 9 1 (.slice a n c) (l ++ [x]).length ((l ++ [x]).map Value.string) ∧ Stp o i w o' w' ∧ (w.alloc (.cells #[.string x] 9)).grownBy w' u.ownBlock := by
  obtain ⟨i0, hi, hz0, hz1, hz2⟩ := info_parts info_str9
  have hal := Row.reads h ((Below.refl _ w).alloc (Nat.le_refl _) (.cells #[.string x] 9))
  obtain ⟨v', w', hap, hR, hS, hG, _⟩ := Row.append (ty := 79) hal Tryz.underlying79 hi hz0 hz1 hz2 rfl (by decide) ⟨w.heap.size, 0, none⟩ 1 1 [.string x] rfl (fun k u hu => by
      match k with
      | 0 => exact ((At.new w #[.string x] 9).cell 0).trans (by simpa using hu)
      | k + 1 => simp at hu) (by intro u hu; simp at hu; subst hu; rfl) (by simp [maxLen]; omega) (by omega)
  obtain ⟨a, n, c, rfl⟩ := Row.isSliceS hR
  refine ⟨a, n, c, w', _, hap, ?_, (Stp.alloc o i w _).trans hS, hG⟩
  rw [List.length_append, List.map_append]; exact hR
/-- append(v, u...), u a row too, nil or not -/
theorem Row.appendRow9 {P : Program} {t ty : TypeId} {ti : TypeInfo} {z : Value} {bytes e sz n m : Nat} {v u : Value} {xs ys : List Value} {o2 : Nat → Nat} (h : Row w o i e sz v n xs) (hu : Row w o2 j e sz u m ys) (ht : P.underlying t = some (.slice e)) (hi : P.info? e = some ti) (hz : ti.zero = some z) (hsize : ti.size = sz) (hby : ti.bytes = bytes)
    (hzs : z.cells.size = sz) (hsz : 0 < sz) (h1 : ∀ u ∈ ys, u.oneCell' = true) (h63 : n + m ≤ maxLen) (hbytes : (n + m) * bytes ≤ 140737488355328) :
    ∃ v' w', (Builtin.append_ #[t, t] ty #[v, u]).run P w = .ok v' w' ∧ Row w' (gives o w.heap.size i) i e sz v' (n + m) (xs ++ ys) ∧ Stp o i w (gives o w.heap.size i) w' := by
  rcases hu.val with ⟨rfl, rfl, rfl⟩ | ⟨g, C, rfl, _, hlt, hc, _⟩
  · have := run_append_owned_none (P := P) (w := w) 0 t ty e ti sz ht hi v n xs h.row
    refine ⟨v, w, this, ?_, (Stp.refl o i w).gives _ (Nat.le_refl _)⟩
    rw [Nat.add_zero, List.append_nil]
    exact ⟨h.row, fun g hg => gives_mine (h.own g hg)⟩
  · obtain ⟨v', w', a, b, c, _⟩ := h.append (ty := ty) ht hi hz hsize hby hzs hsz ⟨g, 0, none⟩ m C ys hu.len (fun t u ht => by rw [add_zero']; exact hc t u ht) h1 h63 hbytes
    exact ⟨v', w', a, b, c⟩
theorem namesU_len (l : List ByteArray) : (namesU l).length ≤ l.length := by
  unfold namesU
  rw [List.length_map]
  have := compact_length_le ((l.map (fun n => n.data.toList)).mergeSort leB)
  rw [List.length_mergeSort, List.length_map] at this
  exact this
/-- where Drop stands: k names are let go -/
structure DR (w0 : World) (o0 : Nat → Nat) (j i z g m1 m2 m3 : Nat) (x : Int) (K : List ByteArray) (nv : Value) (H0 W0 : Hs) (w : World) (o : Nat → Nat) (u : Value) (k : Nat) (cl : List Int) (H W : Hs) : Prop where
  T : ∃ N HL WL, IsT w o j g m1 m2 m3 N HL WL ∧ Abs N HL WL H W ⟨#[]⟩ [] ∧ ∀ n ∈ K.drop k, ∃ e ∈ N, e.name = n
  R : Row w o i 3 1 u cl.length (cl.map encI9)
  Q : Row w o z 9 1 nv K.length (K.map Value.string)
  S : Stp o0 j w0 o w
  L : Laid9 w
  B : H.length + W.length ≤ 900
  B2 : cl.length + W.length ≤ 1000
  C : dropP x K H0 W0 = ((dropP x (K.drop k) H W).1, (dropP x (K.drop k) H W).2.1, cl ++ (dropP x (K.drop k) H W).2.2)
theorem names_row {K : List (List UInt8)} {l : List ByteArray} {v : Value} (he : compact K = compact ((l.map (fun n => n.data.toList)).mergeSort leB)) (h : Row w o z 9 1 v (compact K).length ((compact K).map encStr)) : Row w o z 9 1 v (namesU l).length ((namesU l).map Value.string) := by
  rw [he] at h
  unfold namesU
  rw [List.length_map, List.map_map]; exact h
set_option maxRecDepth 100000 in
set_option maxHeartbeats 8000000 in
theorem c_Drop0 (h : T9 w o j g H W) (hL : Laid9 w) (h0 : o 0 ≠ j) (hB : H.length + W.length ≤ 800) (hij : i ≠ j) (hf : ∀ k, o k ≠ i) (hzj : z ≠ j) (hzi : z ≠ i) (hfz : ∀ k, o k ≠ z) (x : Int) :
    Calls Tryz.prog 24 #[ptr9 g, .int .i64 x] w fun r w' => ∃ v, r = .returned v ∧ ∃ o', T9 w' o' j g (dropP x (namesP H W x) H (woA W x)).1 (dropP x (namesP H W x) H (woA W x)).2.1 ∧ Stp o j w o' w' ∧ Row w' o' i 3 1 v (dropP x (namesP H W x) H (woA W x)).2.2.length ((dropP x (namesP H W x) H (woA W x)).2.2.map encI9) := by
  have hlt0 := h.lt
  obtain ⟨m1, m2, m3, N, HL, WL, T, A⟩ := h.ex
  obtain ⟨v, lk, CK, CC⟩ := c_own T A (by omega) x
  have g1 : w.cell? ⟨g, 1, none⟩ = some (.map (some m2)) := T.hp.cell 1
  have hwl : (woA W x).length ≤ W.length := List.length_filter_le _ _
  have hok := A.ok
  have hns : ∀ n ∈ namesP H W x, n.size ≤ 300 := fun n hn => by
    unfold namesP at hn
    rw [mem_namesU, List.mem_append] at hn
    rcases hn with hn | hn
    · obtain ⟨y, hy, rfl⟩ := List.mem_map.1 hn
      exact (hok.hm y (mem_ownL.1 hy).1).2.2.2.2
    · obtain ⟨y, hy, rfl⟩ := List.mem_map.1 hn
      exact (hok.wm y (forP_some (Option.mem_toList.1 hy)).1).2.2.2.2
  have H00 := Lib.hid h0; have HLW := Lib.hid hL; have HSZ := Lib.hid (show 0 < w.heap.size by omega)
  have HCK := Lib.hid CK; have HCC := Lib.hid CC
  unfold ptr9 at *
  go_enter Tryz.func24, Tryz.ntmps24
  go_wp2_with fail
  refine HCK.out.mono ?_; rintro r w1 ⟨rfl, rfl⟩
  go_wp2_with fail
  refine HCC.out.mono ?_; rintro r w1 ⟨u, ss, rfl, hp, hrow, b1⟩
  have T1 := (T.kept (w' := w) (o' := gives o w.heap.size z) (fun _ _ _ => rfl) (fun k hk => gives_old hk)).reads b1
  have R1 : Row w1 (gives o w.heap.size z) z 9 1 u ss.length (ss.map encStr) := ⟨ownsRow_base_a hrow (Nat.zero_le _), fun gb hg => gives_new (hrow.lt gb hg).1⟩
  have S1 : Stp o j w (gives o w.heap.size z) w1 := ⟨b1.os, b1.tape, b1.output, b1.size, fun k hk _ => b1.block k hk, fun k hk => gives_old hk⟩
  have g2 : w1.cell? ⟨g, 2, none⟩ = some (.map (some m3)) := T1.hp.cell 2
  generalize ho1 : gives o w.heap.size z = o1 at *
  have hssl : ss.length ≤ 1000 := by
    have h1 := hp.length_eq
    have h2 : (ownL H x).length ≤ H.length := List.length_filter_le _ _
    rw [List.length_map] at h1; omega
  rcases forP_cases W x with hno | ⟨y, hy, hyx⟩
  · have lk2 := T1.lookNoWait x (fun y hy => hno y (A.wm.mem_iff.1 hy)) true
    simp only [if_true] at lk2
    have b2 := (Below.refl w1.heap.size w1).alloc (Nat.le_refl _) (.cells #[.string ⟨#[]⟩, .int .i64 0] 41)
    have CS := Lib.hid (c_sortS (R1.reads b2) (by omega))
    have HT1 := Lib.hid (T1.reads b2); have HS1 := Lib.hid (S1.trans (Stp.ofBelow b2 o1 j))
    have hwo : woA W x = W := by unfold woA; exact List.filter_eq_self.2 (fun y hy => by simp [hno y hy])
    have hnm : namesP H W x = namesU ((ownL H x).map (·.name)) := by unfold namesP; rw [forP_none hno]; simp
    clear T1 R1 S1 hrow b1 b2
    go_wp2_with fail
    refine CS.out.mono ?_; rintro r w3 ⟨rfl, R3, S3⟩
    have CM := Lib.hid (c_compactS (zs := ss.mergeSort leB) (by rw [List.length_mergeSort]; exact R3) (by rw [List.length_mergeSort]; omega))
    clear R3 CS
    go_wp2_with fail
    refine CM.out.mono ?_; rintro r w4 ⟨nv, rfl, Q4, S4'⟩
    have e1 : compact (ss.mergeSort leB) = compact ((((ownL H x).map (·.name)).map (fun n => n.data.toList)).mergeSort leB) := by
      rw [List.map_map]; exact congrArg compact (mergeSort_of_perm hp)
    have Q4 := names_row e1 Q4
    rw [← hnm] at Q4
    have T4 := (HT1.out.other S3 (fun e => hzj e.symm)).other S4' (fun e => hzj e.symm)
    have S4 := (HS1.out.fresh S3 (fun k _ => hfz k)).fresh S4' (fun k _ => hfz k)
    have A4 := A
    rw [← hwo] at A4
    have HK4 : ∀ n ∈ (namesP H W x).drop 0, ∃ e ∈ N, e.name = n := fun n hn => by
      rw [List.drop_zero, hnm, mem_namesU] at hn
      obtain ⟨y, hy, rfl⟩ := List.mem_map.1 hn
      exact A.hx y (mem_ownL.1 hy).1
    generalize o1 = o4 at *
    obtain ⟨na, nn, nc, rfl⟩ := Row.isSliceS Q4
    have hnn : nn = (namesP H W x).length := by
      rcases Q4.row.2 with ⟨h1, h2⟩ | ⟨g', cap, cur, h1, _⟩
      · cases h1; exact h2.symm
      · cases h1; rfl
    subst hnn
    have HD0 : DR w o j i z g m1 m2 m3 x (namesP H W x) (.slice na (namesP H W x).length nc) H (woA W x) w4 o4 (.slice none 0 0) 0 [] H (woA W x) :=
      ⟨⟨_, _, _, T4, A4, HK4⟩, Row.nil _ _ _ _ _, Q4, S4, hL.stp S4 h0, by omega, by simp; omega, by simp⟩
    have HH0 := Lib.hid HD0
    have HNS := Lib.hid hns; have HHF := Lib.hid hf
    have hKb : (namesP H W x).length ≤ 1000 := by
      have h1 := namesU_len ((ownL H x).map (·.name) ++ (forP W x).toList.map (·.name))
      have h2 : (ownL H x).length ≤ H.length := List.length_filter_le _ _
      have h3 : (forP W x).toList.length ≤ 1 := by cases forP W x <;> simp
      rw [List.length_append, List.length_map, List.length_map] at h1
      unfold namesP; omega
    have hnd2 : (namesP H W x).Nodup := namesU_nodup _
    have HND2 := Lib.hid hnd2
    clear hnd2 HD0 T4 A4 HK4 Q4 S4 hL hns hf T A hB lk CC CK hwl hok hno hwo hnm e1 hp hssl lk2 g1 g2 HCK HCC CM HT1 HS1 S3 S4'
    generalize hKK : namesP H W x = K at *
    have HKK := Lib.hid hKK
    generalize hWA : woA W x = WA at *
    have HWA := Lib.hid hWA
    clear hKK hWA
    go_wp2_with fail
    go_loopw [8, 50] (fun u c wr => ∃ k o' cl H' W', k ≤ K.length ∧ c = .int .i64 (k : Int) ∧ DR w o j i z g m1 m2 m3 x K (.slice na K.length nc) H WA wr o' u k cl H' W') (fun _ c _ => K.length - (intOf c).toNat)
    case atStart => exact ⟨0, _, _, _, _, by omega, rfl, HH0.out⟩
    case round =>
      obtain ⟨k, o', cl, H', W', hk, rfl, hC⟩ := hrel
      have HC := Lib.hid hC
      by_cases hlt : k < K.length
      · have c1 : (k : Int) < (K.length : Int) := by omega
        have c2 : (0 : Int) ≤ (k : Int) := by omega
        obtain ⟨n, hn⟩ : ∃ n, K[k]? = some n := ⟨_, List.getElem?_eq_getElem hlt⟩
        have hdr : K.drop k = n :: K.drop (k + 1) := by
          obtain ⟨h1, h2⟩ := List.getElem?_eq_some_iff.1 hn
          rw [← h2]; exact (List.drop_eq_getElem_cons h1)
        obtain ⟨N', HL', WL', T', A', hKe⟩ := hC.T
        obtain ⟨e, he, hen⟩ := hKe n (by rw [hdr]; simp)
        subst hen
        obtain ⟨N1, N2, rfl⟩ := List.append_of_mem he
        obtain ⟨gq, hua, cq⟩ := row_cellS hC.Q hn
        subst hua
        have lk := T'.lookName he false
        simp only [Bool.false_eq_true, if_false] at lk
        have g0 : wr.cell? ⟨g, 0, none⟩ = some (.map (some m1)) := T'.hp.cell 0
        have CR := Lib.hid (c_release T' A' x)
        have HQ := Lib.hid (A'.q_len he); have HDR := Lib.hid hdr; have HKE := Lib.hid hKe; have HE300 := Lib.hid (HNS.out e.name (List.mem_of_getElem? hn))
        have HA' := Lib.hid A'
        clear hC T' A' hKe hn hdr he HH0
        unfold ptr9 at *
        go_wp2_with fail
        refine CR.out.mono ?_; rintro r w2 ⟨rfl, HL2, T2, A2, S2⟩
        have S02 := HC.out.S.trans S2
        have hwl2 : (woN H' x e.name).length ≤ H'.length := List.length_filter_le _ _
        have hBB := HC.out.B
        obtain ⟨i2, hi2j, _, hi2f⟩ := fresh_owner9 o' w2.heap.size j j
        have CLc := c_letCome (i := i2) T2 A2 (by omega) HE300.out (HLW.out.stp S02 H00.out) (by rw [S02.own 0 HSZ.out]; exact H00.out) hi2j hi2f
        have hq : ({ e with hs := e.hs.filter (fun p => decide (p.1 ≠ x)) } : En).q.length = (nameL W' e.name).length := by
          show e.q.length = _
          rw [HQ.out, List.length_map]
        rw [hq] at CLc
        have HLc := Lib.hid CLc
        have HS02 := Lib.hid S02; have HS2 := Lib.hid S2; have HB9 := Lib.hid hBB; have HW2 := Lib.hid hwl2
        clear CLc T2 A2 S2 S02 hwl2 hBB hq CR lk g0 cq
        unfold ptr9 at *
        go_wp2_with fail
        refine HLc.out.mono ?_; rintro r w3 ⟨v3, rfl, N3, HL3, WL3, o3, T3, A3, S3, R3, hst⟩
        have hlen := comeP_len e.name (nameL W' e.name).length (woN H' x e.name) W'
        generalize hcp : comeP e.name (nameL W' e.name).length (woN H' x e.name) W' = cp at *
        have hB2 := HC.out.B2
        have Rc := (HC.out.R.other HS2.out hij).other S3 hij
        have Qc := (HC.out.Q.other HS2.out hzj).other S3 hzj
        obtain ⟨i0, hi, hz0, hz1, hz2⟩ := info_parts info_int
        obtain ⟨v5, w5, hap, R5, S5⟩ := Row.appendRow9 (ty := 36) Rc R3 Tryz.underlying36 hi hz0 hz1 hz2 rfl (by decide) (enc_one _) (by simp [maxLen]; omega) (by omega)
        have T5 := T3.other S5 (fun e => hij e.symm)
        have Q5 := Qc.other S5 hzi
        have S05 := (HS02.out.trans S3).fresh S5 (fun k _ => HHF.out k)
        have HNEW := Lib.hid (show DR w o j i z g m1 m2 m3 x K (.slice (some ⟨gq, 0, none⟩) K.length nc) H WA w5 (gives o3 w3.heap.size i) v5 (k + 1) (cl ++ cp.2.2) cp.1 cp.2.1 from
          ⟨⟨_, _, _, T5, A3, fun n hn => by
              have hne : n ≠ e.name := by
                intro e1
                have h1 := HND2.out
                have h2 : (K.drop k).Nodup := h1.sublist (List.drop_sublist _ _)
                rw [HDR.out, List.nodup_cons] at h2
                exact h2.1 (e1 ▸ hn)
              obtain ⟨e2, he2, h3⟩ := HKE.out n (by rw [HDR.out]; simp [hn])
              have h4 : (n, e2.b) ∈ (N1 ++ { e with hs := e.hs.filter (fun p => decide (p.1 ≠ x)) } :: N2).map (fun e => (e.name, e.b)) := by
                have : (N1 ++ { e with hs := e.hs.filter (fun p => decide (p.1 ≠ x)) } :: N2).map (fun e => (e.name, e.b)) = (N1 ++ e :: N2).map (fun e => (e.name, e.b)) := by simp
                rw [this]
                exact List.mem_map.2 ⟨e2, he2, by rw [h3]⟩
              obtain ⟨e3, he3, h5⟩ := List.mem_map.1 (hst n e2.b hne h4)
              exact ⟨e3, he3, congrArg Prod.fst h5⟩⟩, by rw [List.length_append, List.map_append]; exact R5, Q5, S05, HLW.out.stp S05 H00.out, by have := HB9.out; have := HW2.out; omega, by rw [List.length_append]; omega, by
            have h1 := HC.out.C
            rw [HDR.out] at h1
            rw [h1]
            simp only [dropP, hcp, List.append_assoc]⟩)
        have HAP := Lib.hid hap
        clear hap S05 Q5 T5 R5 S5 Qc Rc hB2 hcp hlen T3 A3 S3 R3 hst hi hz0 hz1 hz2 HLc HS02 HS2 HB9 HW2 HQ HKE HA'
        go_wp2_with (at_builtin; refine wpList_append_run rfl (.tmp 64) (.tmp 67) _ _ rfl _ _ rfl rfl _ _ HAP.out ?_)
        exact ⟨⟨k + 1, _, _, _, _, by omega, by go_num, HNEW.out⟩, by simp [intOf]; omega⟩
      · obtain rfl : k = K.length := by omega
        clear hC
        go_wp2_with fail
        go_ret
        obtain ⟨N', HL', WL', T', A', _⟩ := HC.out.T
        have hc := HC.out.C
        rw [List.drop_length] at hc
        simp only [dropP, List.append_nil] at hc
        rw [HKK.out, HWA.out, hc]
        exact ⟨_, rfl, o', ⟨⟨_, _, _, _, _, _, T', A'⟩⟩, HC.out.S, HC.out.R⟩
  · have lk2 := T1.lookWait (A.wm.mem_iff.2 hy) true
    simp only [if_true] at lk2
    rw [hyx] at lk2
    have b2 := (Below.refl w1.heap.size w1).alloc (Nat.le_refl _) (.cells #[.string y.name, .int .i64 (y.mode : Int)] 41)
    have hAh := At.new w1 #[.string y.name, .int .i64 (y.mode : Int)] 41
    obtain ⟨e, he, hen⟩ := A.qx y hy
    have hnm : namesP H W x = namesU ((ownL H x).map (·.name) ++ [y.name]) := by
      unfold namesP
      have := forP_mem hok hy
      rw [hyx] at this
      rw [this]; rfl
    have HT2 := Lib.hid (T1.reads b2); have HS2 := Lib.hid (S1.trans (Stp.ofBelow b2 o1 j)); have HR2 := Lib.hid (R1.reads b2)
    have hub : ∀ r, u.ownBlock = some r → r < w1.heap.size := fun r hr => R1.lt hr
    clear T1 R1 S1 hrow b1 b2
    go_upto_region 4 with fail
    clear lk2 g2
    generalize w1.alloc (.cells #[.string y.name, .int .i64 (y.mode : Int)] 41) = W2 at *
    generalize w1.heap.size = bx at *
    have c0 := hAh.cell 0
    have hbx := hAh.lt
    obtain ⟨qa, qn, qc, w3, o3, hap, R3, S3, G3⟩ := row_appendS (u := u) (l := ss.map (fun l => (⟨l.toArray⟩ : ByteArray))) (by rw [List.length_map, List.map_map]; exact HR2.out) y.name (by rw [List.length_map]; omega)
    have T3 := HT2.out.other S3 (fun e => hzj e.symm)
    have S03 := HS2.out.fresh S3 (fun k _ => hfz k)
    have hA3 : At w3 bx #[.string y.name, .int .i64 (y.mode : Int)] 41 := (hAh.reads ((Below.refl W2.heap.size W2).alloc (Nat.le_refl _) (.cells #[.string y.name] 9))).same (G3.block bx (by simp; omega) (fun e => by have := hub bx e.symm; omega))
    have HAP := Lib.hid hap
    have lk3 := T3.drew.lookName he false
    simp only [Bool.false_eq_true, if_false] at lk3
    rw [hen] at lk3
    have g0 : w3.drew.cell? ⟨g, 0, none⟩ = some (.map (some m1)) := T3.drew.hp.cell 0
    have cx : w3.drew.cell? ⟨bx, 0, none⟩ = some (.string y.name) := hA3.drew.cell 0
    obtain ⟨N1, N2, rfl⟩ := List.append_of_mem he
    have CQ := c_quit T3.drew A hy hen.symm (by omega)
    rw [hyx] at CQ
    have HCQ := Lib.hid CQ
    have HS03 := Lib.hid (S03.trans (Stp.drew o3 j w3)); have HR3 := Lib.hid (R3.reads ((Below.refl _ w3).drew))
    clear hap CQ T3 S03 R3 S3 G3 hA3 hAh HT2 HS2 HR2 hub
    unfold ptr9 at *
    go_upto_region 5 with (at_builtin; refine wpList_append_run rfl (.tmp 30) (.tmp 33) _ _ rfl _ _ rfl rfl _ _ HAP.out ?_)
    go_still_tail 9, (by kernel_rfl)
    change wpList _ _ _ _ _ w3.drew
    go_wp2_with fail
    refine HCQ.out.mono ?_; rintro r w5 ⟨rfl, qv5, q5, WL5, T5, A5, S5⟩
    have R5 := HR3.out.other S5 hzj
    have S05 := HS03.out.trans S5
    have el : ((ss.map (fun l => (⟨l.toArray⟩ : ByteArray))) ++ [y.name]).map Value.string = (ss ++ [y.name.data.toList]).map encStr := by simp [encStr]
    have el2 : ((ss.map (fun l => (⟨l.toArray⟩ : ByteArray))) ++ [y.name]).length = (ss ++ [y.name.data.toList]).length := by simp
    rw [el, el2] at R5
    have CS := Lib.hid (c_sortS R5 (by rw [List.length_append, List.length_singleton]; omega))
    have HT5 := Lib.hid T5; have HS5 := Lib.hid S05; have HA5 := Lib.hid A5
    clear T5 S05 A5 R5 S5 el el2 lk3 g0 cx c0
    go_wp2_with fail
    refine CS.out.mono ?_; rintro r w6 ⟨rfl, R6, S6⟩
    have CM := Lib.hid (c_compactS (zs := (ss ++ [y.name.data.toList]).mergeSort leB) (by rw [List.length_mergeSort]; exact R6) (by rw [List.length_mergeSort, List.length_append, List.length_singleton]; omega))
    clear R6 CS
    go_wp2_with fail
    refine CM.out.mono ?_; rintro r w4 ⟨nv, rfl, Q4, S7⟩
    have e1 : compact ((ss ++ [y.name.data.toList]).mergeSort leB) = compact ((((ownL H x).map (·.name) ++ [y.name]).map (fun n => n.data.toList)).mergeSort leB) := by
      rw [List.map_append, List.map_map]; exact congrArg compact (mergeSort_of_perm (hp.append_right _))
    have Q4 := names_row e1 Q4
    rw [← hnm] at Q4
    have T4 := (HT5.out.other S6 (fun e => hzj e.symm)).other S7 (fun e => hzj e.symm)
    have S4 := (HS5.out.fresh S6 (fun k _ => hfz k)).fresh S7 (fun k _ => hfz k)
    have A4 := HA5.out
    have HK4 : ∀ n ∈ (namesP H W x).drop 0, ∃ e' ∈ N1 ++ { e with qv := qv5, q := q5 } :: N2, e'.name = n := fun n hn => by
      rw [List.drop_zero, hnm, mem_namesU, List.mem_append] at hn
      have em : (N1 ++ { e with qv := qv5, q := q5 } :: N2).map (fun e => (e.name, e.b)) = (N1 ++ e :: N2).map (fun e => (e.name, e.b)) := by simp
      rcases hn with hn | hn
      · obtain ⟨y', hy', rfl⟩ := List.mem_map.1 hn
        exact nx_same em (A.hx y' (mem_ownL.1 hy').1)
      · obtain rfl := List.mem_singleton.1 hn
        exact nx_same em ⟨e, by simp, hen⟩
    generalize o3 = o4 at *
    obtain ⟨na, nn, nc, rfl⟩ := Row.isSliceS Q4
    have hnn : nn = (namesP H W x).length := by
      rcases Q4.row.2 with ⟨h1, h2⟩ | ⟨g', cap, cur, h1, _⟩
      · cases h1; exact h2.symm
      · cases h1; rfl
    subst hnn
    have HD0 : DR w o j i z g m1 m2 m3 x (namesP H W x) (.slice na (namesP H W x).length nc) H (woA W x) w4 o4 (.slice none 0 0) 0 [] H (woA W x) :=
      ⟨⟨_, _, _, T4, A4, HK4⟩, Row.nil _ _ _ _ _, Q4, S4, hL.stp S4 h0, by omega, by simp; omega, by simp⟩
    have HH0 := Lib.hid HD0
    have HNS := Lib.hid hns; have HHF := Lib.hid hf
    have hKb : (namesP H W x).length ≤ 1000 := by
      have h1 := namesU_len ((ownL H x).map (·.name) ++ (forP W x).toList.map (·.name))
      have h2 : (ownL H x).length ≤ H.length := List.length_filter_le _ _
      have h3 : (forP W x).toList.length ≤ 1 := by cases forP W x <;> simp
      rw [List.length_append, List.length_map, List.length_map] at h1
      unfold namesP; omega
    have hnd2 : (namesP H W x).Nodup := namesU_nodup _
    have HND2 := Lib.hid hnd2
    clear hnd2 HD0 T4 A4 HK4 Q4 S4 hL hns hf T A hB lk CC CK hwl hok hnm e1 hp hssl g1 HCK HCC CM HT5 HS5 HA5 S6 S7 HCQ HS03 HR3 hy hyx he hen HAP
    generalize hKK : namesP H W x = K at *
    have HKK := Lib.hid hKK
    generalize hWA : woA W x = WA at *
    have HWA := Lib.hid hWA
    clear hKK hWA
    go_wp2_with fail
    go_loopw [8, 50] (fun u c wr => ∃ k o' cl H' W', k ≤ K.length ∧ c = .int .i64 (k : Int) ∧ DR w o j i z g m1 m2 m3 x K (.slice na K.length nc) H WA wr o' u k cl H' W') (fun _ c _ => K.length - (intOf c).toNat)
    case atStart => exact ⟨0, _, _, _, _, by omega, rfl, HH0.out⟩
    case round =>
      obtain ⟨k, o', cl, H', W', hk, rfl, hC⟩ := hrel
      have HC := Lib.hid hC
      by_cases hlt : k < K.length
      · have c1 : (k : Int) < (K.length : Int) := by omega
        have c2 : (0 : Int) ≤ (k : Int) := by omega
        obtain ⟨n, hn⟩ : ∃ n, K[k]? = some n := ⟨_, List.getElem?_eq_getElem hlt⟩
        have hdr : K.drop k = n :: K.drop (k + 1) := by
          obtain ⟨h1, h2⟩ := List.getElem?_eq_some_iff.1 hn
          rw [← h2]; exact (List.drop_eq_getElem_cons h1)
        obtain ⟨N', HL', WL', T', A', hKe⟩ := hC.T
        obtain ⟨e, he, hen⟩ := hKe n (by rw [hdr]; simp)
        subst hen
        obtain ⟨N1, N2, rfl⟩ := List.append_of_mem he
        obtain ⟨gq, hua, cq⟩ := row_cellS hC.Q hn
        subst hua
        have lk := T'.lookName he false
        simp only [Bool.false_eq_true, if_false] at lk
        have g0 : wr.cell? ⟨g, 0, none⟩ = some (.map (some m1)) := T'.hp.cell 0
        have CR := Lib.hid (c_release T' A' x)
        have HQ := Lib.hid (A'.q_len he); have HDR := Lib.hid hdr; have HKE := Lib.hid hKe; have HE300 := Lib.hid (HNS.out e.name (List.mem_of_getElem? hn))
        have HA' := Lib.hid A'
        clear hC T' A' hKe hn hdr he HH0
        unfold ptr9 at *
        go_wp2_with fail
        refine CR.out.mono ?_; rintro r w2 ⟨rfl, HL2, T2, A2, S2⟩
        have S02 := HC.out.S.trans S2
        have hwl2 : (woN H' x e.name).length ≤ H'.length := List.length_filter_le _ _
        have hBB := HC.out.B
        obtain ⟨i2, hi2j, _, hi2f⟩ := fresh_owner9 o' w2.heap.size j j
        have CLc := c_letCome (i := i2) T2 A2 (by omega) HE300.out (HLW.out.stp S02 H00.out) (by rw [S02.own 0 HSZ.out]; exact H00.out) hi2j hi2f
        have hq : ({ e with hs := e.hs.filter (fun p => decide (p.1 ≠ x)) } : En).q.length = (nameL W' e.name).length := by
          show e.q.length = _
          rw [HQ.out, List.length_map]
        rw [hq] at CLc
        have HLc := Lib.hid CLc
        have HS02 := Lib.hid S02; have HS2 := Lib.hid S2; have HB9 := Lib.hid hBB; have HW2 := Lib.hid hwl2
        clear CLc T2 A2 S2 S02 hwl2 hBB hq CR lk g0 cq
        unfold ptr9 at *
        go_wp2_with fail
        refine HLc.out.mono ?_; rintro r w3 ⟨v3, rfl, N3, HL3, WL3, o3, T3, A3, S3, R3, hst⟩
        have hlen := comeP_len e.name (nameL W' e.name).length (woN H' x e.name) W'
        generalize hcp : comeP e.name (nameL W' e.name).length (woN H' x e.name) W' = cp at *
        have hB2 := HC.out.B2
        have Rc := (HC.out.R.other HS2.out hij).other S3 hij
        have Qc := (HC.out.Q.other HS2.out hzj).other S3 hzj
        obtain ⟨i0, hi, hz0, hz1, hz2⟩ := info_parts info_int
        obtain ⟨v5, w5, hap, R5, S5⟩ := Row.appendRow9 (ty := 36) Rc R3 Tryz.underlying36 hi hz0 hz1 hz2 rfl (by decide) (enc_one _) (by simp [maxLen]; omega) (by omega)
        have T5 := T3.other S5 (fun e => hij e.symm)
        have Q5 := Qc.other S5 hzi
        have S05 := (HS02.out.trans S3).fresh S5 (fun k _ => HHF.out k)
        have HNEW := Lib.hid (show DR w o j i z g m1 m2 m3 x K (.slice (some ⟨gq, 0, none⟩) K.length nc) H WA w5 (gives o3 w3.heap.size i) v5 (k + 1) (cl ++ cp.2.2) cp.1 cp.2.1 from
          ⟨⟨_, _, _, T5, A3, fun n hn => by
              have hne : n ≠ e.name := by
                intro e1
                have h1 := HND2.out
                have h2 : (K.drop k).Nodup := h1.sublist (List.drop_sublist _ _)
                rw [HDR.out, List.nodup_cons] at h2
                exact h2.1 (e1 ▸ hn)
              obtain ⟨e2, he2, h3⟩ := HKE.out n (by rw [HDR.out]; simp [hn])
              have h4 : (n, e2.b) ∈ (N1 ++ { e with hs := e.hs.filter (fun p => decide (p.1 ≠ x)) } :: N2).map (fun e => (e.name, e.b)) := by
                have : (N1 ++ { e with hs := e.hs.filter (fun p => decide (p.1 ≠ x)) } :: N2).map (fun e => (e.name, e.b)) = (N1 ++ e :: N2).map (fun e => (e.name, e.b)) := by simp
                rw [this]
                exact List.mem_map.2 ⟨e2, he2, by rw [h3]⟩
              obtain ⟨e3, he3, h5⟩ := List.mem_map.1 (hst n e2.b hne h4)
              exact ⟨e3, he3, congrArg Prod.fst h5⟩⟩, by rw [List.length_append, List.map_append]; exact R5, Q5, S05, HLW.out.stp S05 H00.out, by have := HB9.out; have := HW2.out; omega, by rw [List.length_append]; omega, by
            have h1 := HC.out.C
            rw [HDR.out] at h1
            rw [h1]
            simp only [dropP, hcp, List.append_assoc]⟩)
        have HAP := Lib.hid hap
        clear hap S05 Q5 T5 R5 S5 Qc Rc hB2 hcp hlen T3 A3 S3 R3 hst hi hz0 hz1 hz2 HLc HS02 HS2 HB9 HW2 HQ HKE HA'
        go_wp2_with (at_builtin; refine wpList_append_run rfl (.tmp 64) (.tmp 67) _ _ rfl _ _ rfl rfl _ _ HAP.out ?_)
        exact ⟨⟨k + 1, _, _, _, _, by omega, by go_num, HNEW.out⟩, by simp [intOf]; omega⟩
      · obtain rfl : k = K.length := by omega
        clear hC
        go_wp2_with fail
        go_ret
        obtain ⟨N', HL', WL', T', A', _⟩ := HC.out.T
        have hc := HC.out.C
        rw [List.drop_length] at hc
        simp only [dropP, List.append_nil] at hc
        rw [HKK.out, HWA.out, hc]
        exact ⟨_, rfl, o', ⟨⟨_, _, _, _, _, _, T', A'⟩⟩, HC.out.S, HC.out.R⟩

end
end Go.Proofs.YtainnhcmhgloaaaGreatDoor
