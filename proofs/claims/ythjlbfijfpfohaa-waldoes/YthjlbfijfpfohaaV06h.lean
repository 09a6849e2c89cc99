/-
  The document's log: the contract of Turn.
-/
import Derived.Test.YthjlbfijfpfohaaV06g
import Derived.BigQuiet
namespace Go.Proofs.Ythjlbfijfpfohaa
open Go.RowKit Go.ChangeMaps
section
variable {w w' : World} {o o' : Nat → Nat} {i j g q p m : Nat} {S : List ByteArray} {Ws : Wrs} {L : LogP}
set_option maxRecDepth 100000 in
theorem vturn_arg (s : ByteArray) (h : s.size < 1 ∨ 100000 < s.size) : Calls Try.prog 17 #[.pointer (some ⟨g, 0, none⟩), .string s] w fun e w' => e = .returned (.int .i64 1) ∧ w = w' := by
  rcases h with h | h
  · have f1 : (s.size : Int) < 1 := by omega
    clear h
    go_enter Try.func17, Try.ntmps17
    go_wp2_with fail
    go_ret
    exact ⟨rfl, rfl⟩
  · have f1 : ¬ (s.size : Int) < 1 := by omega
    have f2 : (100000 : Int) < (s.size : Int) := by omega
    clear h
    go_enter Try.func17, Try.ntmps17
    go_wp2_with fail
    go_ret
    exact ⟨rfl, rfl⟩
set_option maxRecDepth 100000 in
set_option maxHeartbeats 1000000 in
theorem vturn_some (H : IsV w o j g p L) (s t : ByteArray) (h1 : 1 ≤ s.size) (h2 : s.size ≤ 100000) (ht : L.tu = some t) (hz : 1 ≤ t.size) : Calls Try.prog 17 #[.pointer (some ⟨g, 0, none⟩), .string s] w fun e w' => e = .returned (.int .i64 9) ∧ Below w.heap.size w w' := by
  obtain ⟨v, H⟩ := H
  have A0 := H.at'
  rw [ht] at A0
  have c7 : w.drew.cell? ⟨g, 7, none⟩ = some (.string t) := A0.cell 7
  have c7' : w.cell? ⟨g, 7, none⟩ = some (.string t) := A0.cell 7
  obtain ⟨t1, t2, t3, t4, t5⟩ := some_text6 t hz
  have f1 : ¬ (s.size : Int) < 1 := by omega
  have f2 : ¬ (100000 : Int) < (s.size : Int) := by omega
  clear H ht A0 hz h1 h2
  go_enter Try.func17, Try.ntmps17
  go_wp2_with fail
  go_quiet (fail)
  go_wp2_with fail
  go_ret
  exact ⟨rfl, below_drew _ _⟩
set_option maxRecDepth 100000 in
set_option maxHeartbeats 1000000 in
theorem vturn_unsure (H : IsV w o j g p L) (s : ByteArray) (h1 : 1 ≤ s.size) (h2 : s.size ≤ 100000) (ht : L.tu = none) (hsu : L.su < L.R.length) : Calls Try.prog 17 #[.pointer (some ⟨g, 0, none⟩), .string s] w fun e w' => e = .returned (.int .i64 9) ∧ Below w.heap.size w w' := by
  obtain ⟨v, H⟩ := H
  have A0 := H.at'
  rw [ht] at A0
  obtain ⟨a4, C4, rfl, _⟩ := H.recs.slice
  have c7 : w.drew.cell? ⟨g, 7, none⟩ = some (.string ⟨#[]⟩) := A0.cell 7
  have c7' : w.cell? ⟨g, 7, none⟩ = some (.string ⟨#[]⟩) := A0.cell 7
  have c6 : w.drew.cell? ⟨g, 6, none⟩ = some (.int .i64 (L.su : Int)) := A0.cell 6
  have c6' : w.cell? ⟨g, 6, none⟩ = some (.int .i64 (L.su : Int)) := A0.cell 6
  have c4 : w.drew.cell? ⟨g, 4, none⟩ = some (.slice a4 L.R.length C4) := A0.cell 4
  have c4' : w.cell? ⟨g, 4, none⟩ = some (.slice a4 L.R.length C4) := A0.cell 4
  have hsu' : (L.su : Int) < (L.R.length : Int) := by omega
  generalize L.su = su at *
  generalize L.R.length = n at *
  have f1 : ¬ (s.size : Int) < 1 := by omega
  have f2 : ¬ (100000 : Int) < (s.size : Int) := by omega
  clear H ht A0 h1 h2 hsu
  go_enter Try.func17, Try.ntmps17
  go_wp2_with fail
  go_quiet (fail)
  go_wp2_with fail
  go_ret
  exact ⟨rfl, below_drew _ _⟩
set_option maxRecDepth 100000 in
set_option maxHeartbeats 4000000 in
theorem vturn_go (H : IsV w o j g p L) (D : IsR w o q p S Ws) (hjq : q ≠ j) (hm : S.length / 2 = m) (s : ByteArray) (h1 : 1 ≤ s.size) (h2 : s.size ≤ 100000) (ht : L.tu = none) (hsu : ¬ L.su < L.R.length) (hh : L.h < 2) (hA : L.A + 1 < 281474976710656) (hW : Ws.length ≤ 90000) :
    Calls Try.prog 17 #[.pointer (some ⟨g, 0, none⟩), .string s] w fun e w' => (¬ 3 + s.size ≤ m * 234 → e = .returned (.int .i64 6) ∧ Below w.heap.size w w') ∧ (3 + s.size ≤ m * 234 → e = .returned (.int .i64 0) ∧ ∃ o', IsV w' o' j g p (turnL L s) ∧ IsR w' o' q p S (Ws ++ layW m (1 - L.h) (L.A + 1) 0 (recsB [s])) ∧ Moves (Duo6 j q) o w o' w') := by
  obtain ⟨v, H⟩ := H
  have HD := Lib.hid D
  obtain ⟨vl, vw, D⟩ := D
  have hn2 := D.n2
  obtain ⟨da, dC, db, dD, rfl, rfl⟩ := D.slots
  obtain ⟨hf, A, pg, R, wrr, su, tu⟩ := L
  obtain rfl : tu = none := ht
  dsimp only at hsu hh hA ⊢
  have A0 : At w g (logD p hf A pg v wrr su ⟨#[]⟩) logT := H.at'
  have hog : o g = j := H.own
  have RS : RowS w o j v R := H.recs
  obtain ⟨a4, C4, rfl, _⟩ := RS.slice
  obtain ⟨n, hRn⟩ : ∃ n, R.length = n := ⟨_, rfl⟩
  rw [hRn] at A0 RS hsu
  have hsu' : ¬ (su : Int) < (n : Int) := by omega
  have hsd : decide (su < n) = false := decide_eq_false hsu
  have hrl : (recsB [s]).length = 3 + s.size := by rw [recsB_one, List.length_append, Lib.leBytes_length, bl_length]
  obtain ⟨sb, hsb⟩ : ∃ b, bt (recsB [s]) = b := ⟨_, rfl⟩
  have hsz : sb.size = 3 + s.size := by rw [← hsb, ← hrl]; exact bt_size _
  have hbl : recsB [s] = bl sb := by rw [← hsb]
  have CB := Lib.hid fun W a C (h : Strs W a [s]) => rBytes W a C [s] h (by omega) (by simp)
  rw [hsb] at CB
  obtain ⟨nb, hnb⟩ : ∃ n, needOf sb.size = n := ⟨_, rfl⟩
  have hfit : (3 + s.size ≤ m * 234) = (nb ≤ m) := by rw [← hnb, hsz]; unfold needOf; apply propext; omega
  have hnb2 : nb ≤ 1000 := by rw [← hnb, hsz]; unfold needOf; omega
  rw [hfit, hbl]
  have CN := Lib.hid fun W => rNeed W sb (by omega)
  rw [hnb] at CN
  obtain ⟨hg, hhg⟩ : ∃ n, 1 - hf = n := ⟨_, rfl⟩
  have hh1 : (1 : Int) - (hf : Int) = (hg : Int) := by omega
  have hg2 : hg < 2 := by omega
  have hwh : IntKind.i64.wrap (hg : Int) = (hg : Int) := IntWalk.i64_in _ (by omega)
  obtain ⟨A1, hA1⟩ : ∃ a, A + 1 = a := ⟨_, rfl⟩
  have hAI : (A : Int) + 1 = (A1 : Int) := by omega
  have hwA : IntKind.i64.wrap (A1 : Int) = (A1 : Int) := IntWalk.i64_in _ (by omega)
  have hmI : Int.tdiv (S.length : Int) 2 = (m : Int) := by rw [Int.tdiv_eq_ediv_of_nonneg (by omega)]; omega
  have hwm : IntKind.i64.wrap (m : Int) = (m : Int) := IntWalk.i64_in _ (by omega)
  have hTL : turnL ⟨hf, A, pg, R, wrr, su, none⟩ s = ⟨hf, A1, pg, R, wrr, su, some s⟩ := by unfold turnL; rw [← hA1]
  rw [hTL, hhg, hA1]
  rw [hA1] at hA
  obtain ⟨lw, hlw⟩ : ∃ l, layW m hg A1 0 (bl sb) = l := ⟨_, rfl⟩
  have CL := fun (hk : nb ≤ m) W o1 (D1 : IsR W o1 q p S Ws) (h1 : o1 g = j) (a1 : At W g (logD p hf A1 pg (.slice a4 n C4) wrr su ⟨#[]⟩) logT) => vlay D1 hjq h1 a1 sb hg 0 hg2 hm (by omega) (by omega) hA (by omega)
  rw [hlw] at CL ⊢
  have HCL := Lib.hid CL
  have c7 : w.drew.cell? ⟨g, 7, none⟩ = some (.string ⟨#[]⟩) := A0.cell 7
  have c7' : w.cell? ⟨g, 7, none⟩ = some (.string ⟨#[]⟩) := A0.cell 7
  have c6 : w.drew.cell? ⟨g, 6, none⟩ = some (.int .i64 (su : Int)) := A0.cell 6
  have c6' : w.cell? ⟨g, 6, none⟩ = some (.int .i64 (su : Int)) := A0.cell 6
  have c4 : w.drew.cell? ⟨g, 4, none⟩ = some (.slice a4 n C4) := A0.cell 4
  have c4' : w.cell? ⟨g, 4, none⟩ = some (.slice a4 n C4) := A0.cell 4
  have f1 : ¬ (s.size : Int) < 1 := by omega
  have f2 : ¬ (100000 : Int) < (s.size : Int) := by omega
  have HA := Lib.hid A0; have HR := Lib.hid RS; have DN := Lib.hid D
  have HT1 := Lib.hid h1; have HT2 := Lib.hid h2
  clear H D A0 RS hh hA hRn hrl hsb hsz hbl hnb hfit hhg hA1 hTL hlw CL h1 h2 hm hn2
  generalize hSl : S.length = sl at *
  have HSl := Lib.hid hSl; clear hSl
  go_enter Try.func17, Try.ntmps17
  go_wp2_with fail
  go_quiet (fail)
  clear c7 c7' c6 c6' c4 c4' f1 f2
  go_upto_region 5 with fail
  have b1 := below_drew w nq
  have A1' := HA.out.reads b1
  have R1 : RowS (w.drewN nq) o j (.slice a4 n C4) R := Row.reads HR.out b1
  have HDD := Lib.hid (HD.out.reads b1)
  have D1 := DN.out.reads b1
  have HA1 := Lib.hid A1'; have HR1 := Lib.hid R1; have DN1 := Lib.hid D1; have HB1 := Lib.hid b1
  clear A1' R1 D1 b1 HA HR DN HD hsu hsu' hsd
  generalize w.drewN nq = w1 at *
  have b2 : Below w1.heap.size w1 (w1.alloc (.cells #[.string s] 9)) := (Below.refl _ _).alloc (Nat.le_refl _) _
  have hst : Strs (w1.alloc (.cells #[.string s] 9)) (some ⟨w1.heap.size, 0, none⟩) [s] := strs_one6 w1 s
  have CB2 := Lib.hid (CB.out _ _ 1 hst)
  clear hst CB
  go_wp2_with fail
  refine CB2.out.mono ?_; rintro e w2 ⟨rfl, b3⟩
  have b4 := b2.trans (b3.mono b2.size)
  have A2 := HA1.out.reads b4
  have R2 : RowS w2 o j (.slice a4 n C4) R := Row.reads HR1.out b4
  have HDD2 := Lib.hid (HDD.out.reads b4)
  have D2 := DN1.out.reads b4
  have B2 := Lib.hid (HB1.out.trans (b4.mono HB1.out.size))
  have c0 : w2.drew.cell? ⟨g, 0, none⟩ = some (.pointer (some ⟨p, 0, none⟩)) := A2.cell 0
  have c0' : w2.cell? ⟨g, 0, none⟩ = some (.pointer (some ⟨p, 0, none⟩)) := A2.cell 0
  have d0 : w2.drew.cell? ⟨p, 0, none⟩ = some (.slice da sl dC) := D2.c0
  have d0' : w2.cell? ⟨p, 0, none⟩ = some (.slice da sl dC) := D2.c0
  have HA2 := Lib.hid A2; have HR2 := Lib.hid R2
  clear b2 b3 b4 A2 R2 D2 HA1 HR1 DN1 HB1 CB2 HDD
  by_cases hk : nb ≤ m
  · have hk' : ¬ (m : Int) < (nb : Int) := by omega
    have hkd : decide (m < nb) = false := decide_eq_false (by omega)
    have CLk := Lib.hid (HCL.out hk)
    have HK := Lib.hid hk
    clear hk
    go_wp2_with fail
    go_quiet ((go_at_call 40; exact Calls.quiet_of_same ((CN.out _).mono (fun e w' h => ⟨h.1, h.2.symm⟩))))
    go_upto_region 8 with fail
    have b5 := below_drew w2 nq
    have A5 := HA2.out.reads b5
    have R5 : RowS (w2.drewN nq) o j (.slice a4 n C4) R := Row.reads HR2.out b5
    have D5 := HDD2.out.reads b5
    have M5 := Moves.of (X := Duo6 j q) (.inl rfl) (Stp.ofBelow (B2.out.trans (b5.mono B2.out.size)) o j)
    have HA5 := Lib.hid A5; have HR5 := Lib.hid R5; have HD5 := Lib.hid D5; have HM5 := Lib.hid M5
    clear b5 A5 R5 D5 M5 B2 HA2 HR2 HDD2 c0 c0' d0 d0' hk' hkd CN
    generalize w2.drewN nq = w3 at *
    have e2 : w3.cell? ⟨g, 2, none⟩ = some (.int .i64 (A : Int)) := HA5.out.cell 2
    have z2 := HA5.out.fz 2
    have A6 := HA5.out.set 2 (.int .i64 (A1 : Int))
    have R6 := RowS.grownBy6 HR5.out (grow6_set w3 g 2 (.int .i64 (A1 : Int))) (row_ne HR5.out.row HA5.out (by decide))
    have S6 := Stp.setCell o j w3 g 2 (.int .i64 (A1 : Int)) hog
    have D6 := HD5.out.other S6 hjq
    have M6 := HM5.out.trans (Moves.of (.inl rfl) S6)
    have HA6 := Lib.hid A6; have HR6 := Lib.hid R6; have HD6 := Lib.hid D6; have HM6 := Lib.hid M6
    clear A6 R6 S6 D6 M6 HA5 HR5 HD5 HM5
    go_upto_region 9 with fail
    generalize w3.setCell ⟨g, 2, none⟩ (.int .i64 (A1 : Int)) = w4 at *
    clear e2 z2
    have e1 : w4.cell? ⟨g, 1, none⟩ = some (.int .i64 (hf : Int)) := HA6.out.cell 1
    have CLL := Lib.hid (CLk.out w4 o HD6.out hog HA6.out)
    clear CLk HCL
    go_wp2_with fail
    refine CLL.out.mono ?_; rintro e w5 ⟨rfl, o5, D7, S7⟩
    have A7 := at_other HA6.out S7 (by rw [hog]; exact fun e => hjq e.symm)
    have og7 := own_other HA6.out hog S7
    have R7 : RowS w5 o5 j (.slice a4 n C4) R := Row.other HR6.out S7 (fun e => hjq e.symm)
    have e7 := A7.cell 7; have z7 := A7.fz 7
    have A8 := Lib.hid (A7.set 7 (.string s))
    have R8 := Lib.hid (RowS.grownBy6 R7 (grow6_set w5 g 7 (.string s)) (row_ne R7.row A7 (by decide)))
    have S8 := Stp.setCell o5 j w5 g 7 (.string s) og7
    have D8 := Lib.hid (D7.other S8 hjq)
    have M8 := Lib.hid ((HM6.out.trans (Moves.of (.inr rfl) S7)).trans (Moves.of (.inl rfl) S8))
    clear S7 D7 A7 R7 S8 CLL HA6 HR6 HD6 HM6
    go_wp2_with fail
    go_ret
    exact ⟨fun h => absurd HK.out h, fun _ => ⟨rfl, o5, ⟨_, A8.out, og7, R8.out⟩, D8.out, M8.out⟩⟩
  · have hk' : (m : Int) < (nb : Int) := by omega
    have hkd : decide (m < nb) = true := decide_eq_true (by omega)
    have HK := Lib.hid hk
    clear HCL
    go_wp2_with fail
    go_quiet ((go_at_call 40; exact Calls.quiet_of_same ((CN.out _).mono (fun e w' h => ⟨h.1, h.2.symm⟩))))
    go_wp2_with fail
    go_ret
    exact ⟨fun _ => ⟨rfl, B2.out.trans ((below_drew w2 _).mono B2.out.size)⟩, fun h => absurd h HK.out⟩
end
end Go.Proofs.Ythjlbfijfpfohaa
