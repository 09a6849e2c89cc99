/-
  The document's log: the contracts of records, Read.
-/
import Derived.Test.YthjlbfijfpfohaaA06b
namespace Go.Proofs.Ythjlbfijfpfohaa
open Go.RowKit Go.ChangeMaps
set_option maxRecDepth 100000 in
set_option maxHeartbeats 2000000 in
theorem rrecords (w : World) (o : Nat → Nat) (j : Nat) (s0 : ByteArray) (hz0 : s0.size ≤ 300000) :
    Calls Try.prog 63 #[.string s0] w fun e w' => ∃ v, e = .returned (.tuple #[v, .string (bt (partR (bl s0)).2)]) ∧ ∃ o', RowS w' o' j v (partS (bl s0)) ∧ Stp o j w o' w' := by
  obtain ⟨P, hP⟩ : ∃ P, partS (bl s0) = P := ⟨_, rfl⟩
  obtain ⟨X, hX⟩ : ∃ X, bt (partR (bl s0)).2 = X := ⟨_, rfl⟩
  rw [hP, hX]
  have HP := Lib.hid hP; have HX := Lib.hid hX
  have s0' := stp_new o j w (.cells #[] 9)
  have R0 := Lib.hid (show RowS (w.alloc (.cells #[] 9)) (gives o w.heap.size j) j (.slice (some ⟨w.heap.size, 0, none⟩) 0 0) [] from Row.made w o j 9 1)
  have S0 := Lib.hid s0'
  clear hP hX s0'
  go_enter Try.func63, Try.ntmps63
  go_wp2_with fail
  go_loopw [4, 5] (fun x y wr => ∃ (S : ByteArray) (Q : List ByteArray) (m : Nat) (o1 : Nat → Nat) (b : Option Addr) (D : Nat), y = .string S ∧ x = .slice b m D ∧ RowS wr o1 j (.slice b m D) Q ∧ Q.length = m ∧ Stp o j w o1 wr ∧ Q ++ partS (bl S) = P ∧ bt (partR (bl S)).2 = X ∧ 3 * m + S.size ≤ 300000) (fun _ y _ => strLen6 y)
  case atStart => exact ⟨s0, [], 0, _, _, _, rfl, rfl, R0.out, rfl, S0.out, HP.out, HX.out, by omega⟩
  case round =>
    obtain ⟨S, Q, m, o1, b, D, rfl, rfl, hRow, hm, hStp, hPr, hXr, hsz⟩ := hrel
    have HS := Lib.hid hStp; have HW := Lib.hid hRow; have HQ := Lib.hid hPr; have HM := Lib.hid hm; have HXR := Lib.hid hXr
    clear hStp hRow hPr hm hXr R0 S0
    by_cases h3 : S.size < 3
    · have h3' : ¬ (3 : Int) ≤ (S.size : Int) := by omega
      have hA : Q = P := by rw [← HQ.out, (partS_no (.inl h3)).1, List.append_nil]
      have hB : S = X := by rw [← HXR.out, (partS_no (.inl h3)).2, bt_bl]
      subst hA
      subst hB
      clear HP HX HXR HQ
      go_wp2_with fail
      go_ret2
      exact ⟨_, rfl, o1, HW.out, HS.out⟩
    · have h3' : (3 : Int) ≤ (S.size : Int) := by omega
      have C1 := Lib.hid fun W => rat S 0 3 0 3 W rfl rfl (by omega) (by omega) (by omega) (by omega)
      have hnl := numL_lt S 0 3
      have hno := Lib.hid (fun h => partS_no (S := S) (.inr h))
      have hyes := Lib.hid (fun h => partS_yes (S := S) h)
      generalize numL S 0 3 = n at *
      have hn : n < 16777216 := hnl
      clear hnl
      by_cases hto : S.size < 3 + n
      · have hto' : ¬ 3 + (n : Int) ≤ (S.size : Int) := by omega
        have hA : Q = P := by rw [← HQ.out, (hno.out hto).1, List.append_nil]
        have hB : S = X := by rw [← HXR.out, (hno.out hto).2, bt_bl]
        subst hA
        subst hB
        clear HP HX HXR HQ hno hyes
        go_wp2_with fail
        refine (C1.out _).mono ?_; rintro e w1 ⟨rfl, rfl⟩
        go_wp2_with fail
        go_ret2
        exact ⟨_, rfl, o1, HW.out, HS.out⟩
      · have hto2 : 3 + (n : Int) ≤ (S.size : Int) := by omega
        have h30 : (3 : Int) ≤ 3 + (n : Int) := by omega
        have h00 : (0 : Int) ≤ 3 + (n : Int) := by omega
        obtain ⟨hy1, hy2⟩ := hyes.out (by omega)
        obtain ⟨g5, C5, w5, o5, hap, hr5, s5⟩ := strs_append HW.out (S.extract 3 (3 + n)) (by rw [HM.out]; omega)
        rw [HM.out] at hap
        rw [HM.out] at hr5
        have HAP := Lib.hid hap; have HR5 := Lib.hid hr5; have HS5 := Lib.hid (HS.out.trans s5)
        have HP5 := Lib.hid (show (Q ++ [S.extract 3 (3 + n)]) ++ partS (bl (S.extract (3 + n) S.size)) = P by rw [← HQ.out, hy1, List.append_assoc]; rfl)
        have HX5 := Lib.hid (show bt (partR (bl (S.extract (3 + n) S.size))).2 = X by rw [← hy2]; exact HXR.out)
        have hz5 : (S.extract (3 + n) S.size).size = S.size - (3 + n) := by rw [ByteArray.size_extract, Nat.min_self]
        clear hap hr5 s5 HQ hy1 hy2 hno hyes HXR
        have ht : (3 + (n : Int)).toNat = 3 + n := by omega
        go_wp2_with fail
        refine (C1.out _).mono ?_; rintro e w1 ⟨rfl, rfl⟩
        go_wp2_with fail
        refine (C1.out _).mono ?_; rintro e w1 ⟨rfl, rfl⟩
        go_wp2_with (at_builtin; refine wpList_append_run rfl (.tmp 22) (.tmp 27) _ _ rfl _ _ rfl rfl _ _ HAP.out ?_)
        refine ⟨⟨_, Q ++ [S.extract 3 (3 + n)], m + 1, o5, _, _, rfl, rfl, HR5.out, by rw [List.length_append, HM.out]; rfl, HS5.out, HP5.out, HX5.out, by rw [hz5]; omega⟩, ?_⟩
        show (S.extract (3 + n) S.size).size < S.size
        rw [hz5]; omega
section
variable {w : World} {o : Nat → Nat} {q p : Nat} {S : List ByteArray} {Ws : Wrs}
set_option maxRecDepth 100000 in
set_option maxHeartbeats 2000000 in
theorem rreadLeaf (H : IsR w o q p S Ws) (h i m : Nat) (hm : S.length / 2 = m) (hh : h < 2) (hi : i < m) (s : ByteArray) (hs : S[h * m + i]? = some s) (hW : Ws.length ≤ 1000000) :
    Calls Try.prog 62 #[.pointer (some ⟨p, 0, none⟩), .int .i64 (h : Int), .int .i64 (i : Int)] w fun e w' => e = .returned (.tuple #[leafV (pgLeaf (rawAt Ws (h * m + i) s) i) i, .bool (pgLeaf (rawAt Ws (h * m + i) s) i).isSome]) ∧ Below w.heap.size w w' := by
  have hn2 : S.length ≤ 1024 := by obtain ⟨vl, vw, H'⟩ := H; exact H'.n2
  have hsz : (rawAt Ws (h * m + i) s).size = 256 := by
    obtain ⟨vl, vw, H'⟩ := H
    exact rawAt_size Ws (h * m + i) s (fun x hx => (H'.ws x hx).2) (H'.sz s (List.mem_of_getElem? hs))
  have HA := Lib.hid (At.new w #[.int .i64 0, .int .i64 0, .bool false, .string ⟨#[]⟩] 105)
  have HB0 := (Below.refl w.heap.size w).alloc (Nat.le_refl _) (.cells #[.int .i64 0, .int .i64 0, .bool false, .string ⟨#[]⟩] 105)
  have HR := H.reads HB0
  have C0 := Lib.hid (rread_in HR (h * m + i) s hs hW)
  have B0 := Lib.hid HB0
  obtain ⟨vl, vw, H'⟩ := HR
  obtain ⟨a, C, b, DD, rfl, rfl⟩ := H'.slots
  have c0 := H'.c0
  have hkI : (h : Int) * (m : Int) + (i : Int) = ((h * m + i : Nat) : Int) := by push_cast; rfl
  have hmI : Int.tdiv (S.length : Int) 2 = (m : Int) := by rw [Int.tdiv_eq_ediv_of_nonneg (by omega)]; omega
  have hkb : h * m + i < 1024 := by
    rcases (show h = 0 ∨ h = 1 by omega) with rfl | rfl <;> omega
  clear HB0 H' H
  obtain ⟨k, hk⟩ : ∃ k, h * m + i = k := ⟨_, rfl⟩
  rw [hk] at C0 hkI hsz hkb ⊢
  generalize rawAt Ws k s = r at *
  clear hk hs
  have hlt := HA.out.lt
  by_cases hok : okPage r = true
  · have e1 : readOf r = r.extract 0 252 := by unfold readOf; rw [if_pos hok]
    have e2 : errOf r = 0 := by unfold errOf; rw [if_pos hok]
    have e3 : pgLeaf r i = leafR (bl (r.extract 0 252)) i := by unfold pgLeaf; rw [if_pos hok]
    have hT : (r.extract 0 252).size = 252 := by rw [ByteArray.size_extract, hsz]; rfl
    rw [e1, e2] at C0
    rw [e3, leafR_num _ _ hT]
    generalize r.extract 0 252 = T at *
    have h8 : 8 < T.size := by omega
    have h9 : 9 < T.size := by omega
    have e8 : (T[8]'h8).toNat = numL T 8 1 := by
      rw [numL_byte T 8 h8, List.getD_eq_getElem?_getD, List.getElem?_eq_getElem (by rw [bl_length]; exact h8)]; rfl
    have e9 : (T[9]'h9).toNat = numL T 9 1 := by
      rw [numL_byte T 9 h9, List.getD_eq_getElem?_getD, List.getElem?_eq_getElem (by rw [bl_length]; exact h9)]; rfl
    have CA := fun W => rat T 0 6 0 6 W rfl rfl (by omega) (by omega) (by omega) (by omega)
    have CN := fun W => rat T 6 2 6 2 W rfl rfl (by omega) (by omega) (by omega) (by omega)
    have lA := numL_lt T 0 6; have lN := numL_lt T 6 2; have lB := numL_lt T 8 1; have lC := numL_lt T 9 1
    generalize numL T 0 6 = age at *
    generalize numL T 6 2 = nm at *
    generalize numL T 8 1 = bg at *
    generalize numL T 9 1 = ct at *
    have kA : age < 281474976710656 := lA
    have kN : nm < 65536 := lN
    have kB : bg < 256 := lB
    have kC : ct < 256 := lC
    have CA := Lib.hid CA; have CN := Lib.hid CN
    have hbeq : ((T.extract 0 8).toList == (T.extract 244 252).toList) = decide ((bl T).take 8 = (bl T).drop 244) := by
      rw [toList_beq]
      have x1 : bl (T.extract 0 8) = (bl T).take 8 := by show (T.extract _ _).data.toList = _; rw [extract_list]; rfl
      have x2 : bl (T.extract 244 252) = (bl T).drop 244 := by show (T.extract _ _).data.toList = _; rw [extract_list, List.take_of_length_le (by rw [List.length_drop, ← Lib.size_eq]; omega)]
      by_cases h : (bl T).take 8 = (bl T).drop 244
      · rw [decide_eq_true h, decide_eq_true (ba_ext (by rw [show (T.extract 0 8).data.toList = _ from x1, show (T.extract 244 252).data.toList = _ from x2]; exact h))]
      · rw [decide_eq_false h, decide_eq_false (fun e => h (by rw [← x1, ← x2, e]))]
    obtain ⟨pc, hpc⟩ : ∃ pc : ByteArray, bt (((bl T).drop 10).take ct) = pc := ⟨_, rfl⟩
    have hpc2 : ct ≤ 234 → T.extract 10 (10 + ct) = pc := fun _ => by
      rw [← hpc]; apply ba_ext; rw [extract_list, Nat.add_sub_cancel_left]
    obtain ⟨beg, hbeg⟩ : ∃ b, decide (bg = 1) = b := ⟨_, rfl⟩
    have hbeg2 : ((bg : Int) == 1) = beg := by
      rw [← hbeg]
      by_cases h : bg = 1
      · rw [decide_eq_true h]; simp [h]
      · rw [decide_eq_false h]; simp; omega
    rw [hbeg]
    obtain ⟨X, hX⟩ : ∃ X, (if 1 ≤ age ∧ nm = i ∧ bg ≤ 1 ∧ ct ≤ 234 ∧ (bl T).take 8 = (bl T).drop 244 then some ⟨age, beg, ((bl T).drop 10).take ct⟩ else none : Option LeafP) = X := ⟨_, rfl⟩
    rw [hX]
    have HX := Lib.hid hX; have HPC := Lib.hid hpc; have HPC2 := Lib.hid hpc2; have HBQ := Lib.hid hbeq
    clear e1 e2 e3 hok hsz lA lN lB lC hX hpc hpc2 hbeg hbeq
    have hTz : (T.size : Int) = 252 := by omega
    have E8 := Lib.hid e8; have E9 := Lib.hid e9; have HB2 := Lib.hid hbeg2
    clear e8 e9 hbeg2
    go_enter Try.func62, Try.ntmps62
    go_wp2_with fail
    refine C0.out.mono ?_; rintro e w1 ⟨rfl, b1⟩
    have A1 := Lib.hid (HA.out.reads b1)
    have B1 := Lib.hid (B0.out.trans (b1.mono (Nat.le_of_lt hlt)))
    generalize hBq : w.heap.size = B at *
    clear b1 c0 HA B0 C0 hkI hmI
    go_upto_region 4 with fail
    go_cut [10] (fun x wx => x = .pointer (some ⟨w1.heap.size, 0, none⟩) ∧ wx = (w1.alloc (.cells #[.int .i64 (age : Int), .int .i64 (nm : Int), .bool beg, .string ⟨#[]⟩] 105)).drew)
    case first =>
      have hb2 : (((T[8]'h8).toNat : Int) == 1) = beg := by rw [E8.out]; exact HB2.out
      go_region_held3 (fun _ => True) (first | trivial) (first | (go_at_call 35; ((with_reducible refine (CA.out _).mono ?_); rintro e v1 ⟨rfl, rfl⟩)) | (go_at_call 35; ((with_reducible refine (CN.out _).mono ?_); rintro e v1 ⟨rfl, rfl⟩)))
      all_goals
        go_wp2
        go_meet
        exact ⟨rfl, by first | rfl | rw [hb2]⟩
    case rest =>
      obtain ⟨rfl, rfl⟩ := hcut
      have AL := Lib.hid (show At (w1.alloc (.cells #[.int .i64 (age : Int), .int .i64 (nm : Int), .bool beg, .string ⟨#[]⟩] 105)).drew w1.heap.size #[.int .i64 (age : Int), .int .i64 (nm : Int), .bool beg, .string ⟨#[]⟩] 105 from At.new w1 _ _)
      have bA := (Below.refl w1.heap.size w1).alloc (Nat.le_refl _) (.cells #[.int .i64 (age : Int), .int .i64 (nm : Int), .bool beg, .string ⟨#[]⟩] 105)
      have A2 := Lib.hid (show At (w1.alloc (.cells #[.int .i64 (age : Int), .int .i64 (nm : Int), .bool beg, .string ⟨#[]⟩] 105)).drew B _ _ from (A1.out.reads bA).drew)
      have bW := B1.out.alloc (by rw [← hBq]; exact B1.out.size) (.cells #[.int .i64 (age : Int), .int .i64 (nm : Int), .bool beg, .string ⟨#[]⟩] 105)
      have B2 := Lib.hid (show Below B w (w1.alloc (.cells #[.int .i64 (age : Int), .int .i64 (nm : Int), .bool beg, .string ⟨#[]⟩] 105)).drew from ⟨bW.os, bW.tape, bW.output, bW.size, bW.block⟩)
      have hLB : w1.heap.size ≠ B := Nat.ne_of_gt A1.out.lt
      have hBL : B ≤ w1.heap.size := Nat.le_of_lt A1.out.lt
      clear bA bW A1 B1 CA CN
      generalize (w1.alloc (.cells #[.int .i64 (age : Int), .int .i64 (nm : Int), .bool beg, .string ⟨#[]⟩] 105)).drew = W0 at *
      generalize w1.heap.size = L at *
      have k0 : ∀ c, (W0.drewN c).cell? ⟨L, 0, none⟩ = some (.int .i64 (age : Int)) := fun c => AL.out.cell 0
      have k1 : ∀ c, (W0.drewN c).cell? ⟨L, 1, none⟩ = some (.int .i64 (nm : Int)) := fun c => AL.out.cell 1
      have m0 := AL.out.cell 0; have m1 := AL.out.cell 1
      have k2 := AL.out.cell 2; have k3 := AL.out.cell 3; have kz := AL.out.fz 3
      have e8 := E8.out; have e9 := E9.out
      clear E8 E9 HB2
      have q8 : (8 : Int) < (T.size : Int) := by omega
      have q9 : (9 : Int) < (T.size : Int) := by omega
      have ix8 : ∀ W : World, (Instr.index 9 (.string T) (.int .i64 8)).run Try.prog W = .ok (.int .u8 ((T[8]'h8).toNat : Int)) W := fun W => by rw [run_index_string _ _ _ _ _ Try.underlying9, dif_pos ⟨by decide, q8⟩]; rfl
      have ix9 : ∀ W : World, (Instr.index 9 (.string T) (.int .i64 9)).run Try.prog W = .ok (.int .u8 ((T[9]'h9).toNat : Int)) W := fun W => by rw [run_index_string _ _ _ _ _ Try.underlying9, dif_pos ⟨by decide, q9⟩]; rfl
      have q8' : (8 : Int) ≤ (T.size : Int) := by omega
      have q244 : (244 : Int) ≤ (T.size : Int) := by omega
      by_cases c1 : 1 ≤ age
      · have c1' : ¬ (age : Int) < 1 := by omega
        have c1d : decide ((age : Int) < 1) = false := decide_eq_false c1'
        by_cases c2 : nm = i
        · obtain rfl := c2
          by_cases c3 : bg ≤ 1
          · have c3' : ¬ (1 : Int) < (bg : Int) := by omega
            have c3d : decide ((1 : Int) < (bg : Int)) = false := decide_eq_false c3'
            by_cases c4 : ct ≤ 234
            · have c4' : ¬ (234 : Int) < (ct : Int) := by omega
              have c4d : decide ((234 : Int) < (ct : Int)) = false := decide_eq_false c4'
              by_cases c5 : (bl T).take 8 = (bl T).drop 244
              · have hbeq := HBQ.out
                rw [decide_eq_true c5] at hbeq
                have eX := Lib.hid (show X = some ⟨age, beg, ((bl T).drop 10).take ct⟩ by rw [← HX.out, if_pos ⟨c1, rfl, c3, c4, c5⟩])
                have hex := HPC2.out c4
                clear HX HPC2 HBQ
                go_wp2_with fail
                go_quiet (fail)
                have AL1 := Lib.hid (show At (W0.drewN nq) L _ _ from AL.out)
                have A4 := Lib.hid (show At (W0.drewN nq) B _ _ from A2.out)
                have B4 := Lib.hid (show Below B w (W0.drewN nq) from ⟨B2.out.os, B2.out.tape, B2.out.output, B2.out.size, B2.out.block⟩)
                clear A2 B2 k0 k1 k2 k3 kz m0 m1 AL hbeq c1d c3d c4d
                generalize W0.drewN nq = W2 at *
                have u1 : (0 : Int) ≤ 10 + (ct : Int) := by omega
                have u2 : 10 + (ct : Int) ≤ (T.size : Int) := by omega
                have u3 : (10 : Int) ≤ 10 + (ct : Int) := by omega
                have u4 : (10 + (ct : Int)).toNat = 10 + ct := by omega
                have k3 := AL1.out.cell 3; have kz := AL1.out.fz 3
                have AL2 := Lib.hid (show At (W2.setCell ⟨L, 3, none⟩ (.string pc)) L #[.int .i64 (age : Int), .int .i64 (nm : Int), .bool beg, .string pc] _ from AL1.out.set 3 (.string pc))
                have A5 := Lib.hid (A4.out.setOther 3 (.string pc) hLB)
                have B5 := Lib.hid (B4.out.setCell (p := ⟨L, 3, none⟩) hBL (.string pc))
                go_upto_region 8 with fail
                clear k3 kz A4 B4 AL1
                generalize W2.setCell ⟨L, 3, none⟩ (.string pc) = W3 at *
                have k0 := AL2.out.cell 0; have k1 := AL2.out.cell 1; have k2 := AL2.out.cell 2; have k3 := AL2.out.cell 3
                have A3 := Lib.hid (A5.out.wrote4 (.int .i64 (age : Int)) (.int .i64 (nm : Int)) (.bool beg) (.string pc))
                have B3 := Lib.hid (bel_put4 B5.out (Nat.le_refl _) (.int .i64 (age : Int)) (.int .i64 (nm : Int)) (.bool beg) (.string pc))
                have z0 := A5.out.fz 0; have z1 := A5.out.fz 1; have z2 := A5.out.fz 2; have z3 := A5.out.fz 3
                have g0 := A5.out.cell 0; have g1 := A5.out.cell 1; have g2 := A5.out.cell 2; have g3 := A5.out.cell 3
                go_wp2
                refine bodyPost_ret (v := .tuple #[.agg #[.int .i64 (age : Int), .int .i64 (nm : Int), .bool beg, .string pc], .bool true]) ?_ rfl ⟨by rw [eX.out]; first | rfl | (simp only [leafV, HPC.out]; rfl), by first | exact B3.out | (rw [hBq]; exact B3.out)⟩
                clear g0 g1 g2 g3 z0 z1 z2 z3
                obtain ⟨W, hW⟩ : ∃ W, put4 W3 B (.int .i64 (age : Int)) (.int .i64 (nm : Int)) (.bool beg) (.string pc) = W := ⟨_, rfl⟩
                have D := A3.out
                rw [hW] at D
                unfold put4 at hW
                rw [hW]
                have f0 := D.cell 0; have f1 := D.cell 1; have f2 := D.cell 2; have f3 := D.cell 3
                simp [results, Try.f62, go_sem, f0, f1, f2, f3]
              · have hbeq := HBQ.out
                rw [decide_eq_false c5] at hbeq
                clear HBQ
                have eX := Lib.hid (show X = none by rw [← HX.out, if_neg (fun h => c5 h.2.2.2.2)])
                clear HX HPC2
                go_wp2_with fail
                go_quiet (fail)
                have A4 := Lib.hid (show At (W0.drewN nq) B _ _ from A2.out)
                have B4 := Lib.hid (show Below B w (W0.drewN nq) from ⟨B2.out.os, B2.out.tape, B2.out.output, B2.out.size, B2.out.block⟩)
                clear A2 B2 k0 k1 k2 k3 kz m0 m1
                generalize W0.drewN nq = W2 at *
                have A3 := Lib.hid (A4.out.wrote4 (.int .i64 0) (.int .i64 0) (.bool false) (.string ⟨#[]⟩))
                have B3 := Lib.hid (bel_put4 B4.out (Nat.le_refl _) (.int .i64 0) (.int .i64 0) (.bool false) (.string ⟨#[]⟩))
                have z0 := A4.out.fz 0; have z1 := A4.out.fz 1; have z2 := A4.out.fz 2; have z3 := A4.out.fz 3
                have g0 := A4.out.cell 0; have g1 := A4.out.cell 1; have g2 := A4.out.cell 2; have g3 := A4.out.cell 3
                go_wp2
                refine bodyPost_ret (v := .tuple #[.agg #[.int .i64 0, .int .i64 0, .bool false, .string ⟨#[]⟩], .bool false]) ?_ rfl ⟨by rw [eX.out]; first | rfl | (simp only [leafV]; rfl), by first | exact B3.out | (rw [hBq]; exact B3.out)⟩
                clear g0 g1 g2 g3 z0 z1 z2 z3
                obtain ⟨W, hW⟩ : ∃ W, put4 W2 B (.int .i64 0) (.int .i64 0) (.bool false) (.string ⟨#[]⟩) = W := ⟨_, rfl⟩
                have D := A3.out
                rw [hW] at D
                unfold put4 at hW
                rw [hW]
                have f0 := D.cell 0; have f1 := D.cell 1; have f2 := D.cell 2; have f3 := D.cell 3
                simp [results, Try.f62, go_sem, f0, f1, f2, f3]
            · have c4' : (234 : Int) < (ct : Int) := by omega
              have c4d : decide ((234 : Int) < (ct : Int)) = true := decide_eq_true c4'
              clear HBQ
              have eX := Lib.hid (show X = none by rw [← HX.out, if_neg (fun h => c4 h.2.2.2.1)])
              clear HX HPC2
              go_wp2_with fail
              go_quiet (fail)
              have A4 := Lib.hid (show At (W0.drewN nq) B _ _ from A2.out)
              have B4 := Lib.hid (show Below B w (W0.drewN nq) from ⟨B2.out.os, B2.out.tape, B2.out.output, B2.out.size, B2.out.block⟩)
              clear A2 B2 k0 k1 k2 k3 kz m0 m1
              generalize W0.drewN nq = W2 at *
              have A3 := Lib.hid (A4.out.wrote4 (.int .i64 0) (.int .i64 0) (.bool false) (.string ⟨#[]⟩))
              have B3 := Lib.hid (bel_put4 B4.out (Nat.le_refl _) (.int .i64 0) (.int .i64 0) (.bool false) (.string ⟨#[]⟩))
              have z0 := A4.out.fz 0; have z1 := A4.out.fz 1; have z2 := A4.out.fz 2; have z3 := A4.out.fz 3
              have g0 := A4.out.cell 0; have g1 := A4.out.cell 1; have g2 := A4.out.cell 2; have g3 := A4.out.cell 3
              go_wp2
              refine bodyPost_ret (v := .tuple #[.agg #[.int .i64 0, .int .i64 0, .bool false, .string ⟨#[]⟩], .bool false]) ?_ rfl ⟨by rw [eX.out]; first | rfl | (simp only [leafV]; rfl), by first | exact B3.out | (rw [hBq]; exact B3.out)⟩
              clear g0 g1 g2 g3 z0 z1 z2 z3
              obtain ⟨W, hW⟩ : ∃ W, put4 W2 B (.int .i64 0) (.int .i64 0) (.bool false) (.string ⟨#[]⟩) = W := ⟨_, rfl⟩
              have D := A3.out
              rw [hW] at D
              unfold put4 at hW
              rw [hW]
              have f0 := D.cell 0; have f1 := D.cell 1; have f2 := D.cell 2; have f3 := D.cell 3
              simp [results, Try.f62, go_sem, f0, f1, f2, f3]
          · have c3' : (1 : Int) < (bg : Int) := by omega
            have c3d : decide ((1 : Int) < (bg : Int)) = true := decide_eq_true c3'
            clear HBQ
            have eX := Lib.hid (show X = none by rw [← HX.out, if_neg (fun h => c3 h.2.2.1)])
            clear HX HPC2
            go_wp2_with fail
            go_quiet (fail)
            have A4 := Lib.hid (show At (W0.drewN nq) B _ _ from A2.out)
            have B4 := Lib.hid (show Below B w (W0.drewN nq) from ⟨B2.out.os, B2.out.tape, B2.out.output, B2.out.size, B2.out.block⟩)
            clear A2 B2 k0 k1 k2 k3 kz m0 m1
            generalize W0.drewN nq = W2 at *
            have A3 := Lib.hid (A4.out.wrote4 (.int .i64 0) (.int .i64 0) (.bool false) (.string ⟨#[]⟩))
            have B3 := Lib.hid (bel_put4 B4.out (Nat.le_refl _) (.int .i64 0) (.int .i64 0) (.bool false) (.string ⟨#[]⟩))
            have z0 := A4.out.fz 0; have z1 := A4.out.fz 1; have z2 := A4.out.fz 2; have z3 := A4.out.fz 3
            have g0 := A4.out.cell 0; have g1 := A4.out.cell 1; have g2 := A4.out.cell 2; have g3 := A4.out.cell 3
            go_wp2
            refine bodyPost_ret (v := .tuple #[.agg #[.int .i64 0, .int .i64 0, .bool false, .string ⟨#[]⟩], .bool false]) ?_ rfl ⟨by rw [eX.out]; first | rfl | (simp only [leafV]; rfl), by first | exact B3.out | (rw [hBq]; exact B3.out)⟩
            clear g0 g1 g2 g3 z0 z1 z2 z3
            obtain ⟨W, hW⟩ : ∃ W, put4 W2 B (.int .i64 0) (.int .i64 0) (.bool false) (.string ⟨#[]⟩) = W := ⟨_, rfl⟩
            have D := A3.out
            rw [hW] at D
            unfold put4 at hW
            rw [hW]
            have f0 := D.cell 0; have f1 := D.cell 1; have f2 := D.cell 2; have f3 := D.cell 3
            simp [results, Try.f62, go_sem, f0, f1, f2, f3]
        · have c2' : ((nm : Int) == (i : Int)) = false := by simp; omega
          have c2d : ((nm : Int) != (i : Int)) = true := by simp; omega
          clear HBQ
          have eX := Lib.hid (show X = none by rw [← HX.out, if_neg (fun h => c2 h.2.1)])
          clear HX HPC2
          go_wp2_with fail
          go_quiet (fail)
          have A4 := Lib.hid (show At (W0.drewN nq) B _ _ from A2.out)
          have B4 := Lib.hid (show Below B w (W0.drewN nq) from ⟨B2.out.os, B2.out.tape, B2.out.output, B2.out.size, B2.out.block⟩)
          clear A2 B2 k0 k1 k2 k3 kz m0 m1
          generalize W0.drewN nq = W2 at *
          have A3 := Lib.hid (A4.out.wrote4 (.int .i64 0) (.int .i64 0) (.bool false) (.string ⟨#[]⟩))
          have B3 := Lib.hid (bel_put4 B4.out (Nat.le_refl _) (.int .i64 0) (.int .i64 0) (.bool false) (.string ⟨#[]⟩))
          have z0 := A4.out.fz 0; have z1 := A4.out.fz 1; have z2 := A4.out.fz 2; have z3 := A4.out.fz 3
          have g0 := A4.out.cell 0; have g1 := A4.out.cell 1; have g2 := A4.out.cell 2; have g3 := A4.out.cell 3
          go_wp2
          refine bodyPost_ret (v := .tuple #[.agg #[.int .i64 0, .int .i64 0, .bool false, .string ⟨#[]⟩], .bool false]) ?_ rfl ⟨by rw [eX.out]; first | rfl | (simp only [leafV]; rfl), by first | exact B3.out | (rw [hBq]; exact B3.out)⟩
          clear g0 g1 g2 g3 z0 z1 z2 z3
          obtain ⟨W, hW⟩ : ∃ W, put4 W2 B (.int .i64 0) (.int .i64 0) (.bool false) (.string ⟨#[]⟩) = W := ⟨_, rfl⟩
          have D := A3.out
          rw [hW] at D
          unfold put4 at hW
          rw [hW]
          have f0 := D.cell 0; have f1 := D.cell 1; have f2 := D.cell 2; have f3 := D.cell 3
          simp [results, Try.f62, go_sem, f0, f1, f2, f3]
      · have c1' : (age : Int) < 1 := by omega
        have c1d : decide ((age : Int) < 1) = true := decide_eq_true c1'
        clear HBQ
        have eX := Lib.hid (show X = none by rw [← HX.out, if_neg (fun h => c1 h.1)])
        clear HX HPC2
        go_wp2_with fail
        go_quiet (fail)
        have A4 := Lib.hid (show At (W0.drewN nq) B _ _ from A2.out)
        have B4 := Lib.hid (show Below B w (W0.drewN nq) from ⟨B2.out.os, B2.out.tape, B2.out.output, B2.out.size, B2.out.block⟩)
        clear A2 B2 k0 k1 k2 k3 kz m0 m1
        generalize W0.drewN nq = W2 at *
        have A3 := Lib.hid (A4.out.wrote4 (.int .i64 0) (.int .i64 0) (.bool false) (.string ⟨#[]⟩))
        have B3 := Lib.hid (bel_put4 B4.out (Nat.le_refl _) (.int .i64 0) (.int .i64 0) (.bool false) (.string ⟨#[]⟩))
        have z0 := A4.out.fz 0; have z1 := A4.out.fz 1; have z2 := A4.out.fz 2; have z3 := A4.out.fz 3
        have g0 := A4.out.cell 0; have g1 := A4.out.cell 1; have g2 := A4.out.cell 2; have g3 := A4.out.cell 3
        go_wp2
        refine bodyPost_ret (v := .tuple #[.agg #[.int .i64 0, .int .i64 0, .bool false, .string ⟨#[]⟩], .bool false]) ?_ rfl ⟨by rw [eX.out]; first | rfl | (simp only [leafV]; rfl), by first | exact B3.out | (rw [hBq]; exact B3.out)⟩
        clear g0 g1 g2 g3 z0 z1 z2 z3
        obtain ⟨W, hW⟩ : ∃ W, put4 W2 B (.int .i64 0) (.int .i64 0) (.bool false) (.string ⟨#[]⟩) = W := ⟨_, rfl⟩
        have D := A3.out
        rw [hW] at D
        unfold put4 at hW
        rw [hW]
        have f0 := D.cell 0; have f1 := D.cell 1; have f2 := D.cell 2; have f3 := D.cell 3
        simp [results, Try.f62, go_sem, f0, f1, f2, f3]
  · have e1 : readOf r = ⟨#[]⟩ := by unfold readOf; rw [if_neg hok]
    have e2 : errOf r = 5 := by unfold errOf; rw [if_neg hok]
    have e3 : pgLeaf r i = none := by unfold pgLeaf; rw [if_neg hok]
    rw [e1, e2] at C0
    rw [e3]
    simp only [leafV, Option.isSome]
    clear e1 e2 e3 hok hsz
    go_enter Try.func62, Try.ntmps62
    go_wp2_with fail
    refine C0.out.mono ?_; rintro e w1 ⟨rfl, b1⟩
    have A1 := Lib.hid (HA.out.reads b1)
    have B1 := Lib.hid (B0.out.trans (b1.mono (Nat.le_of_lt hlt)))
    generalize hBq : w.heap.size = B at *
    clear b1 c0
    have A3 := Lib.hid (A1.out.wrote4 (.int .i64 0) (.int .i64 0) (.bool false) (.string ⟨#[]⟩))
    have B3 := Lib.hid (bel_put4 B1.out (Nat.le_refl _) (.int .i64 0) (.int .i64 0) (.bool false) (.string ⟨#[]⟩))
    have z0 := A1.out.fz 0; have z1 := A1.out.fz 1; have z2 := A1.out.fz 2; have z3 := A1.out.fz 3
    have g0 := A1.out.cell 0; have g1 := A1.out.cell 1; have g2 := A1.out.cell 2; have g3 := A1.out.cell 3
    go_wp2
    refine bodyPost_ret (v := .tuple #[.agg #[.int .i64 0, .int .i64 0, .bool false, .string ⟨#[]⟩], .bool false]) ?_ rfl ⟨rfl, by first | exact B3.out | (rw [hBq]; exact B3.out)⟩
    clear g0 g1 g2 g3 z0 z1 z2 z3
    obtain ⟨W, hW⟩ : ∃ W, put4 w1 B (.int .i64 0) (.int .i64 0) (.bool false) (.string ⟨#[]⟩) = W := ⟨_, rfl⟩
    have D := A3.out
    rw [hW] at D
    unfold put4 at hW
    rw [hW]
    have f0 := D.cell 0; have f1 := D.cell 1; have f2 := D.cell 2; have f3 := D.cell 3
    simp [results, Try.f62, go_sem, f0, f1, f2, f3]
end
end Go.Proofs.Ythjlbfijfpfohaa
