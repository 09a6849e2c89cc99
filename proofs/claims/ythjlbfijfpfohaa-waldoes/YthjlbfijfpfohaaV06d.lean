/-
  The document's log: the contract of lay.
-/
import Derived.Test.YthjlbfijfpfohaaV06c
namespace Go.Proofs.Ythjlbfijfpfohaa
open Go.RowKit Go.ChangeMaps
section
variable {w w' : World} {o o' : Nat → Nat} {i j g q p m : Nat} {S : List ByteArray} {Ws : Wrs} {L : LogP}
set_option maxRecDepth 100000 in
set_option maxHeartbeats 1000000 in
theorem rwriteV {vl vw : Value} (H : IsN w o i p vl vw S Ws) (k : Nat) (hk : k < S.length) (s : ByteArray) (hs : s.size ≤ 252) (hW : Ws.length ≤ 100000) :
    Calls Try.prog 70 #[.pointer (some ⟨p, 0, none⟩), .int .i64 (k : Int), .string s] w fun e w' => ∃ o', e = .returned (.int .i64 0) ∧ (∃ vw', IsN w' o' i p vl vw' S (Ws ++ [(k, pageOf s)])) ∧ Stp o i w o' w' := by
  obtain ⟨a, C, b, D, rfl, rfl⟩ := H.slots
  have c0 := H.c0
  have hm := H.n2
  have C1 := Lib.hid (rseal_ok s w hs)
  have h1 : (0 : Int) ≤ (k : Int) := by omega
  have h2 : (k : Int) < (S.length : Int) := by omega
  have hps := pageOf_size s hs
  generalize pageOf s = Q at *
  have HH := Lib.hid H
  clear H hs
  go_enter Try.func70, Try.ntmps70
  go_wp2_with fail
  refine C1.out.mono ?_; rintro e w1 ⟨rfl, b1⟩
  have H1 := HH.out.reads b1
  have c1 := H1.c1
  have H4 := H1.alloc (.cells #[.int .i64 (k : Int), .string Q] 89)
  have st4 := (Stp.ofBelow b1 o i).trans (Stp.alloc o i w1 (.cells #[.int .i64 (k : Int), .string Q] 89))
  obtain ⟨i0, hi, hz0, hz1, hz2⟩ := info_parts info_rwrite
  obtain ⟨v', w5, hap, hR5, hS5, hG5, hL5⟩ := H4.hv.append (ty := 60) Try.underlying60 hi hz0 hz1 hz2 rfl (by decide) ⟨w1.heap.size, 0, none⟩ 1 1 [.int .i64 (k : Int), .string Q] rfl (cell_two_new w1 _ _ _) (by intro u hu; simp at hu; rcases hu with rfl | rfl <;> rfl) (by simp [maxLen]; omega) (by omega)
  obtain ⟨g5, C5, rfl⟩ : ∃ g C, v' = .slice (some ⟨g, 0, none⟩) (Ws.length + 1) C := by
    rcases hR5.val with ⟨_, h, _⟩ | ⟨g, C, h, _⟩
    · omega
    · exact ⟨g, C, h⟩
  have HAP := Lib.hid hap; clear hap
  have cp5 := (World.cell?_of_block (hG5.block p H4.ltp (fun e => H4.npv e.symm)) (a := ⟨p, 1, none⟩)).trans H4.c1
  have fp5 := (World.frozen?_of_block (hG5.block p H4.ltp (fun e => H4.npv e.symm)) (a := ⟨p, 1, none⟩)).trans (H4.fz 1)
  have e1 : wcells Ws ++ [.int .i64 (k : Int), .string Q] = wcells (Ws ++ [(k, Q)]) := by rw [wcells_append]; rfl
  have H5 := Lib.hid (H4.wrote (Ws' := Ws ++ [(k, Q)]) hG5 (by rw [e1] at hR5; simpa using hR5) (by rcases hL5 with h | h; exact .inl h; exact .inr (.inl h)) (fun k hk => gives_old hk) (by
    intro x hx
    rcases List.mem_append.1 hx with hx | hx
    · exact H4.ws x hx
    · simp at hx; subst hx; exact ⟨hk, hps⟩))
  have st5 := Lib.hid ((st4.trans hS5).trans (Stp.setCell _ i w5 p 1 (.slice (some ⟨g5, 0, none⟩) (Ws.length + 1) C5) ((hS5.own p H4.ltp).trans H4.op)))
  clear H1 H4 st4 hR5 hS5 hG5 hL5 e1 hi hz0 hz1 hz2 HH c0
  go_wp2_with (at_builtin; refine wpList_append_run rfl (.tmp 32) (.tmp 36) _ _ rfl _ _ rfl rfl _ _ HAP.out ?_)
  go_ret
  exact ⟨_, rfl, ⟨_, H5.out⟩, st5.out⟩
set_option maxRecDepth 100000 in
set_option maxHeartbeats 4000000 in
theorem vlay (H : IsR w o q p S Ws) (hjq : q ≠ j) (hog : o g = j) {hf A pg wr su : Nat} {v : Value} {tu : ByteArray} (HG : At w g (logD p hf A pg v wr su tu) logT) (s : ByteArray) (h f : Nat) (hh : h < 2) (hm : S.length / 2 = m) (hz : s.size ≤ 1000000) (hfit : f + needOf s.size ≤ m) (hA : A < 281474976710656) (hW : Ws.length + needOf s.size ≤ 100000) :
    Calls Try.prog 44 #[.pointer (some ⟨g, 0, none⟩), .string s, .int .i64 (h : Int), .int .i64 (f : Int)] w fun e w' => e = .returned (.tuple #[]) ∧ ∃ o', IsR w' o' q p S (Ws ++ layW m h A f (bl s)) ∧ Stp o q w o' w' := by
  have hn2 : S.length ≤ 1024 := by obtain ⟨vl, vw, H'⟩ := H; exact H'.n2
  have C0 := Lib.hid (rNeed w s hz)
  obtain ⟨l, hl⟩ : ∃ l, bl s = l := ⟨_, rfl⟩
  have hls : s.size = l.length := by rw [← hl, bl_length]
  obtain ⟨N, hN⟩ : ∃ N, needOf s.size = N := ⟨_, rfl⟩
  have hN1 : ∀ k, k < N → 234 * k < s.size := fun k h => by rw [← hN] at h; unfold needOf at h; omega
  rw [hN] at C0 hfit hW
  rw [hl]
  obtain ⟨LW, hLW⟩ : ∃ X, layW m h A f l = X := ⟨_, rfl⟩
  have hLWl : LW.length = N := by rw [← hLW, layW_length, ← hls, hN]
  have hLWt : ∀ k, k < N → LW.take (k + 1) = LW.take k ++ [(h * m + (f + k), leafPg A (f + k) (decide (k = 0)) ((l.drop (234 * k)).take 234))] := fun k hk => by
    rw [← hLW]; exact layW_take m h A f l k (by rw [← hls, hN]; exact hk)
  rw [hLW]
  have HT := Lib.hid hLWt; have HN1 := Lib.hid hN1; have HD := Lib.hid H; have HGa := Lib.hid HG; have HL := Lib.hid hl; have HLL := Lib.hid hLWl
  have hm5 : m ≤ 512 := by omega
  have hmI : Int.tdiv (S.length : Int) 2 = (m : Int) := by rw [Int.tdiv_eq_ediv_of_nonneg (by omega)]; omega
  have HM := Lib.hid hm
  clear hLWt hN1 hLW H HG hN hm hLWl hl hls
  go_enter Try.func44, Try.ntmps44
  go_wp2_with fail
  refine C0.out.mono ?_; rintro e _ ⟨rfl, rfl⟩
  clear C0
  go_wp2_with fail
  go_loopw [9] (fun kv wr => ∃ (k : Nat) (o1 : Nat → Nat), k ≤ N ∧ kv = .int .i64 (k : Int) ∧ IsR wr o1 q p S (Ws ++ LW.take k) ∧ Stp o q w o1 wr) (fun kv _ => N - (intOf kv).toNat)
  case atStart => exact ⟨0, o, by omega, rfl, by rw [List.take_zero, List.append_nil]; exact HD.out, Stp.refl _ _ _⟩
  case round =>
    obtain ⟨k, o1, hk, rfl, hD, hS⟩ := hrel
    have hG := at_other HGa.out hS (by rw [hog]; exact fun e => hjq e.symm)
    have hog1 := own_other HGa.out hog hS
    by_cases hkN : k < N
    · have hlt' : (k : Int) < (N : Int) := by omega
      have hlt := HN1.out k hkN
      obtain ⟨n, hn⟩ : ∃ n : Nat, min s.size (234 * k + 234) = n := ⟨_, rfl⟩
      have hnI : min (s.size : Int) (234 * (k : Int) + 234) = (n : Int) := by omega
      have hn3 : n ≤ s.size := by omega
      have hpc : s.extract (234 * k) n = bt ((l.drop (234 * k)).take 234) := by
        apply ba_ext
        rw [extract_list, ← HL.out]
        show ((bl s).drop (234 * k)).take (n - 234 * k) = ((bl s).drop (234 * k)).take 234
        by_cases h2 : s.size ≤ 234 * k + 234
        · rw [List.take_of_length_le (by rw [List.length_drop, bl_length]; omega), List.take_of_length_le (by rw [List.length_drop, bl_length]; omega)]
        · rw [show n - 234 * k = 234 by omega]
      have hpz : (s.extract (234 * k) n).size ≤ 234 := by rw [ByteArray.size_extract]; omega
      have hpg : pageOf (leafB A (f + k) (decide (k = 0)) (s.extract (234 * k) n)) = leafPg A (f + k) (decide (k = 0)) ((l.drop (234 * k)).take 234) := by
        unfold leafB leafPg; rw [hpc]
      obtain ⟨pc, hpc2⟩ : ∃ pc, s.extract (234 * k) n = pc := ⟨_, rfl⟩
      rw [hpc2] at hpz hpg
      have hTk := HT.out k hkN
      rw [← hpg] at hTk
      have hin : h * m + (f + k) < S.length := half_in' hh HM.out (by omega)
      obtain ⟨bb, hbb⟩ : ∃ b, decide (k = 0) = b := ⟨_, rfl⟩
      have hbbI : ((k : Int) == 0) = bb := by
        rw [← hbb]
        by_cases h0 : k = 0
        · rw [decide_eq_true h0]; simp [h0]
        · rw [decide_eq_false h0]; simp [h0]
      obtain ⟨P, hP⟩ : ∃ P, f + k = P := ⟨_, rfl⟩
      have hPI : (f : Int) + (k : Int) = (P : Int) := by omega
      rw [hbb, hP] at hTk
      rw [hP] at hin
      have C1 := Lib.hid fun W => rText A P bb pc W hA (by omega) hpz
      have hlz := leafB_size A P bb pc hpz
      obtain ⟨LB, hLB⟩ : ∃ B, leafB A P bb pc = B := ⟨_, rfl⟩
      rw [hLB] at C1 hTk hlz
      obtain ⟨K, hK⟩ : ∃ K, h * m + P = K := ⟨_, rfl⟩
      rw [hK] at hTk hin
      obtain ⟨Q, hQ⟩ : ∃ Q, h * m = Q := ⟨_, rfl⟩
      have hQ1 : Q ≤ 1024 := by omega
      have hQI : (h : Int) * (m : Int) = (Q : Int) := by rw [← hQ, Int.natCast_mul]
      have hQf : (Q : Int) + (f : Int) = ((Q + f : Nat) : Int) := by omega
      have hKI : ((Q + f : Nat) : Int) + (k : Int) = (K : Int) := by rw [hQ] at hK; omega
      obtain ⟨QF, hQF⟩ : ∃ QF, Q + f = QF := ⟨_, rfl⟩
      rw [hQF] at hQf hKI
      have hQFb : QF ≤ 2048 := by omega
      have hwm : IntKind.i64.wrap (m : Int) = (m : Int) := IntWalk.i64_in _ (by omega)
      have hwP : IntKind.i64.wrap (P : Int) = (P : Int) := IntWalk.i64_in _ (by omega)
      have hwK : IntKind.i64.wrap (K : Int) = (K : Int) := IntWalk.i64_in _ (by omega)
      have hwQF : IntKind.i64.wrap (QF : Int) = (QF : Int) := IntWalk.i64_in _ (by omega)
      have hwQ : IntKind.i64.wrap (Q : Int) = (Q : Int) := IntWalk.i64_in _ (by omega)
      have hmW : (Ws ++ LW.take k).length ≤ 100000 := by rw [List.length_append, List.length_take, HLL.out]; omega
      have HTk := Lib.hid hTk; have HDk := Lib.hid hD; have HSk := Lib.hid hS; have HGk := Lib.hid hG; have HMW := Lib.hid hmW
      obtain ⟨vl, vw, D'⟩ := hD
      obtain ⟨da, dC, db, dD, rfl, rfl⟩ := D'.slots
      have c0 := D'.c0
      have DN := Lib.hid D'
      have u1 : (0 : Int) ≤ 234 * (k : Int) := by omega
      have u2 : 234 * (k : Int) ≤ (n : Int) := by omega
      have u3 : (n : Int) ≤ (s.size : Int) := by omega
      have u4 : (234 * (k : Int)).toNat = 234 * k := by omega
      have u5 : ((n : Int)).toNat = n := by omega
      have u6 : (s.size : Int) ≤ 1000000 := by omega
      have hkb : (k : Int) ≤ 10000 := by omega
      have hPb : P ≤ 1024 := by omega
      have q0 : wr.cell? ⟨g, 0, none⟩ = some (.pointer (some ⟨p, 0, none⟩)) := hG.cell 0
      have q2 : wr.cell? ⟨g, 2, none⟩ = some (.int .i64 (A : Int)) := hG.cell 2
      clear hS hG hpc hpg hTk hP hpz hLB hK hbb hn hmW hQ hQF D' hlt
      go_wp2_with fail
      have hpl := World.block_lt_of_cell? wr _ c0
      have hgl := HGk.out.lt
      have K0 := Lib.hid (show wr.drew.cell? ⟨g, 0, none⟩ = some (.pointer (some ⟨p, 0, none⟩)) ∧ wr.drew.cell? ⟨p, 0, none⟩ = some (.slice da S.length dC) ∧ wr.drew.cell? ⟨g, 2, none⟩ = some (.int .i64 (A : Int)) from ⟨q0, c0, q2⟩)
      clear q0 c0 q2
      go_region_held3 (fun W => W.cell? ⟨g, 0, none⟩ = some (.pointer (some ⟨p, 0, none⟩)) ∧ W.cell? ⟨p, 0, none⟩ = some (.slice da S.length dC) ∧ W.cell? ⟨g, 2, none⟩ = some (.int .i64 (A : Int))) (first | exact K0.out | exact K2.out | exact K1.out | trivial)
        (first
          | (go_at_call 71; ((with_reducible refine (C1.out _).mono ?_); rintro e w3 ⟨rfl, b3⟩; have K1 := Lib.hid (And.intro ((b3.cell (p := ⟨g, 0, none⟩) hgl).trans K0.out.1) (And.intro ((b3.cell (p := ⟨p, 0, none⟩) hpl).trans K0.out.2.1) ((b3.cell (p := ⟨g, 2, none⟩) hgl).trans K0.out.2.2))); have D3 := Lib.hid ((DN.out.reads (below_drew wr 1)).reads b3)))
          | (go_at_call 70; ((with_reducible refine (rwriteV D3.out K hin LB (by omega) HMW.out).mono ?_); rintro e w4 ⟨o4, rfl, ⟨vw4, d4⟩, s4⟩; have SF := Lib.hid ((HSk.out.trans (Stp.ofBelow (below_drew wr 1) o1 q)).trans ((Stp.ofBelow b3 o1 q).trans s4)); have DF := Lib.hid d4; have G4 := Lib.hid (at_other HGa.out SF.out (by rw [hog]; exact fun e => hjq e.symm)); have K2 := Lib.hid (show w4.cell? ⟨g, 0, none⟩ = some (.pointer (some ⟨p, 0, none⟩)) ∧ w4.cell? ⟨p, 0, none⟩ = some (.slice da S.length dC) ∧ w4.cell? ⟨g, 2, none⟩ = some (.int .i64 (A : Int)) from ⟨G4.out.cell 0, DF.out.c0, G4.out.cell 2⟩); clear s4 d4)))
      have DR := Lib.hid (show IsR _ _ q p S _ from ⟨_, _, DF.out⟩)
      clear K0 K1 K2 D3 b3 DF hKI hQI C1 HDk HSk HGk DN G4
      go_wp2_with fail
      exact ⟨⟨k + 1, o4, by omega, by go_num, by rw [HTk.out, ← List.append_assoc]; exact DR.out, SF.out⟩, by simp [intOf]; omega⟩
    · obtain rfl : k = N := by omega
      have hlt' : ¬ (k : Int) < (k : Int) := by omega
      have e1 : LW.take k = LW := List.take_of_length_le (by rw [HLL.out]; exact Nat.le_refl _)
      rw [e1] at hD
      have HDf := Lib.hid hD; have HSf := Lib.hid hS
      clear hD hS hG hkN
      go_wp2
      go_end0
      exact ⟨rfl, o1, HDf.out, HSf.out⟩
end
end Go.Proofs.Ythjlbfijfpfohaa
