/-
  The document's log: the contract of Write.
-/
import Derived.Test.YthjlbfijfpfohaaV06e
namespace Go.Proofs.Ythjlbfijfpfohaa
open Go.RowKit Go.ChangeMaps
section
variable {w w' : World} {o o' : Nat → Nat} {i j g q p m : Nat} {S : List ByteArray} {Ws : Wrs} {L : LogP}
set_option maxRecDepth 100000 in
set_option maxHeartbeats 2000000 in
theorem vwrite_ok (H : IsV w o j g p L) (D : IsR w o q p S Ws) (hjq : q ≠ j) (hm : S.length / 2 = m) (ht : L.tu = none) (hh : L.h < 2) (hA : L.A < 281474976710656) (hwr : L.wr ≤ L.R.length) (hfit : L.n + needOf (waitL L) ≤ m) (hW : Ws.length + needOf (waitL L) ≤ 100000) (hz : waitL L ≤ 1000000) (hl : L.R.length ≤ 1000000) :
    Calls Try.prog 13 #[.pointer (some ⟨g, 0, none⟩)] w fun e w' => e = .returned (.int .i64 0) ∧ ∃ w1 o1 o', IsV w' o' j g p (wroteL L) ∧ IsR w' o' q p S (Ws ++ layW m L.h L.A L.n (recsB (L.R.drop L.wr))) ∧ Stp o q w o1 w1 ∧ Stp o1 j w1 o' w' := by
  obtain ⟨v, H⟩ := H
  have hn2 : S.length ≤ 1024 := by obtain ⟨vl, vw, D'⟩ := D; exact D'.n2
  obtain ⟨hf, A, pg, R, wrr, su, tu⟩ := L
  obtain rfl : tu = none := ht
  dsimp only at hh hA hwr hfit hW hz hl ⊢
  have hz' : (recsB (R.drop wrr)).length ≤ 1000000 := hz
  have hfit' : pg + needOf (recsB (R.drop wrr)).length ≤ m := hfit
  have hW' : Ws.length + needOf (recsB (R.drop wrr)).length ≤ 100000 := hW
  have A0 : At w g (logD p hf A pg v wrr su ⟨#[]⟩) logT := H.at'
  have hog : o g = j := H.own
  have RS : RowS w o j v R := H.recs
  obtain ⟨a, C, hsl, hst⟩ := RS.from wrr hwr
  obtain ⟨a4, C4, rfl, _⟩ := RS.slice
  have CB := Lib.hid (rBytes w.drew a C (R.drop wrr) (hst.below (below_drew w 1)) hz' (by rw [List.length_drop]; omega))
  obtain ⟨nb, hnb⟩ : ∃ n, needOf (recsB (R.drop wrr)).length = n := ⟨_, rfl⟩
  have HW0 : wroteL ⟨hf, A, pg, R, wrr, su, none⟩ = ⟨hf, A, pg + nb, R, R.length, su, none⟩ := by unfold wroteL; simp only [LogP.mk.injEq, true_and, and_true]; exact congrArg _ hnb
  rw [HW0]
  obtain ⟨sb, hsb⟩ : ∃ s, bt (recsB (R.drop wrr)) = s := ⟨_, rfl⟩
  have hsz : sb.size = (recsB (R.drop wrr)).length := by rw [← hsb]; exact bt_size _
  have hbl : recsB (R.drop wrr) = bl sb := by rw [← hsb]
  obtain ⟨dl, hdl⟩ : ∃ n, (R.drop wrr).length = n := ⟨_, rfl⟩
  obtain ⟨n, hRn⟩ : ∃ n, R.length = n := ⟨_, rfl⟩
  rw [hsb, hdl] at CB
  have hs1 := hsl w.drew
  rw [hdl] at hs1
  rw [← hsz] at hnb hz'
  rw [hbl]
  rw [hRn] at A0 hs1 RS ⊢
  have CN := Lib.hid fun W => rNeed W sb hz'
  rw [hnb] at CN
  have hfit2 : pg + needOf sb.size ≤ m := by rw [hnb]; rw [← hsz, hnb] at hfit'; exact hfit'
  have hW2 : Ws.length + needOf sb.size ≤ 100000 := by rw [hnb]; rw [← hsz, hnb] at hW'; exact hW'
  have hpn : pg + nb ≤ 512 := by rw [hnb] at hfit2; omega
  obtain ⟨lw, hlw⟩ : ∃ l, layW m hf A pg (bl sb) = l := ⟨_, rfl⟩
  have CL := fun W o1 (D1 : IsR W o1 q p S Ws) (h1 : o1 g = j) (A1 : At W g (logD p hf A pg (.slice a4 n C4) wrr su ⟨#[]⟩) logT) => vlay D1 hjq h1 A1 sb hf pg hh hm hz' hfit2 hA hW2
  rw [hlw] at CL ⊢
  have HCL := Lib.hid CL
  have HA := Lib.hid A0; have HD := Lib.hid D; have HR := Lib.hid RS
  have c4 : w.drew.cell? ⟨g, 4, none⟩ = some (.slice a4 n C4) := A0.cell 4
  have c5 : w.drew.cell? ⟨g, 5, none⟩ = some (.int .i64 (wrr : Int)) := A0.cell 5
  have c7 : w.cell? ⟨g, 7, none⟩ = some (.string ⟨#[]⟩) := A0.cell 7
  have hwl : IntKind.i64.wrap ((pg : Int) + (nb : Int)) = (pg : Int) + (nb : Int) := IntWalk.i64_in _ (by omega)
  have HPN := Lib.hid hpn; have HRn := Lib.hid hRn
  clear H D A0 RS hh hA hwr hfit hW hz hl hz' hfit' hW' hsl hst HW0 CL hnb hsz hbl hsb hdl hlw hfit2 hW2 hpn hRn hn2 hm
  go_enter Try.func13, Try.ntmps13
  go_wp2_with fail
  go_still_tail 9, (by kernel_rfl)
  change wpList _ _ _ _ _ w.drew
  go_wp2_with fail
  refine CB.out.mono ?_; rintro e w1 ⟨rfl, b1⟩
  have b2 := (below_drew w 1).trans b1
  have D1 := HD.out.reads b2
  have A1 := HA.out.reads b2
  have R1 := Row.reads HR.out b2
  have e1 : w1.drew.cell? ⟨g, 1, none⟩ = some (.int .i64 (hf : Int)) := A1.cell 1
  have e3 : w1.drew.cell? ⟨g, 3, none⟩ = some (.int .i64 (pg : Int)) := A1.cell 3
  have C2 := Lib.hid (HCL.out w1.drew o D1.drew hog A1.drew)
  have HA1 := Lib.hid A1; have HR1 := Lib.hid R1
  have S1 := Lib.hid (Stp.ofBelow b2 o q)
  clear c4 c5 c7 hs1 CB HCL HA HD HR b1 b2 D1 A1 R1
  go_wp2_with fail
  go_still_tail 10, (by kernel_rfl)
  change wpList _ _ _ _ _ w1.drew
  go_wp2_with fail
  refine C2.out.mono ?_; rintro e w2 ⟨rfl, o2, D2, S2⟩
  have S2' := (Stp.drew o q w1).trans S2
  have A2 := at_other HA1.out S2' (by rw [hog]; exact fun e => hjq e.symm)
  have og2 := own_other HA1.out hog S2'
  have R2 := Row.other HR1.out S2' (fun e => hjq e.symm)
  have T2 := Lib.hid (S1.out.trans S2')
  have e3 : w2.drew.cell? ⟨g, 3, none⟩ = some (.int .i64 (pg : Int)) := A2.cell 3
  have z3 : w2.drew.frozen? ⟨g, 3, none⟩ = false := A2.fz 3
  have HD2 := Lib.hid D2; have HA2 := Lib.hid A2; have HR2 := Lib.hid R2
  clear D2 S2 S2' A2 R2 C2 e1 HA1 HR1 S1
  go_wp2_with fail
  refine wp_region_still_tail 10 (by kernel_rfl) (by kernel_rfl) ?_
  simp only [List.take_succ_cons, List.take_zero, List.drop_succ_cons, List.drop_zero]
  change wpStill _ _ w2.drew _ _ _
  repeat (first | still_step | still_call ((CN.out _).mono (fun e w' h => ⟨h.1, h.2.symm⟩)))
  refine wpStill_nil ?_
  obtain ⟨P2, hP2⟩ : ∃ P, pg + nb = P := ⟨_, rfl⟩
  have hPI : (pg : Int) + (nb : Int) = (P2 : Int) := by omega
  rw [hPI]
  have A3 := (HA2.out.set 3 (.int .i64 (P2 : Int))).drew
  have Rb := RowS.grownBy6 HR2.out (grow6_set w2 g 3 (.int .i64 (P2 : Int))) (row_ne HR2.out.row HA2.out (by decide))
  have R3 : RowS (w2.setCell ⟨g, 3, none⟩ (.int .i64 (P2 : Int))).drew o2 j (.slice a4 n C4) R := Row.reads Rb (below_drew _ 1)
  have S3 := (Stp.setCell o2 j w2 g 3 (.int .i64 (P2 : Int)) og2).trans (Stp.drew o2 j _)
  have D3 := HD2.out.other S3 hjq
  have HA3 := Lib.hid A3; have HR3 := Lib.hid R3; have HS3 := Lib.hid S3; have HD3 := Lib.hid D3
  clear A3 R3 Rb S3 D3 HA2 HR2 HD2 HPN hwl CN
  go_upto_region 6 with fail
  generalize (w2.setCell ⟨g, 3, none⟩ (.int .i64 (P2 : Int))).drew = W3 at *
  have e4 : W3.cell? ⟨g, 4, none⟩ = some (.slice a4 n C4) := HA3.out.cell 4
  have e5 := HA3.out.cell 5; have z5 := HA3.out.fz 5
  go_wp2_with fail
  go_ret
  have A4 := HA3.out.set 5 (.int .i64 (n : Int))
  have R4 := RowS.grownBy6 HR3.out (grow6_set W3 g 5 (.int .i64 (n : Int))) (row_ne HR3.out.row HA3.out (by decide))
  have S4 := Stp.setCell o2 j W3 g 5 (.int .i64 (n : Int)) og2
  refine ⟨rfl, w2, o2, o2, ⟨.slice a4 n C4, ?_, og2, R4⟩, HD3.out.other S4 hjq, T2.out, HS3.out.trans S4⟩
  rw [hP2]
  exact A4
end
end Go.Proofs.Ythjlbfijfpfohaa
