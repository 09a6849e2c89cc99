/-
  PoolDoes: a pool and the document's, call by call.
-/
import Derived.Test.YthjlbfijfpfohaaGreatZ07p
import Derived.Test.YthjlbfijfpfohaaGreatF07
import Derived.Test.YthjlbfijfpfohaaGreatA07
namespace Go.Proofs.YthjlbfijfpfohaaGreat
open Go.RowKit Go.MapKept
/-- both pools, and their disks, in one state -/
structure Both7 (w0 w : World) (o : Nat → Nat) (pd g x h : Nat) (S : List ByteArray) (Ws : Wrs) (p : PoolP) (c : Nat) : Prop where
  Z : Since w0 o w
  P : PD w o 1 pd 2 g S Ws p c
  Q : QD w o 3 x 4 h S Ws p c
section
variable {w0 w w' : World} {o o' : Nat → Nat} {pd g x h c : Nat} {S : List ByteArray} {Ws Ws' : Wrs} {p p' : PoolP}
theorem tw0 : ¬ Two 2 1 0 := by unfold Two; omega
theorem tw3 : ¬ Two 2 1 3 := by unfold Two; omega
theorem tw4 : ¬ Two 2 1 4 := by unfold Two; omega
theorem tw5 : ¬ Two 2 1 5 := by unfold Two; omega
theorem tv0 : ¬ Two 4 3 0 := by unfold Two; omega
theorem tv1 : ¬ Two 4 3 1 := by unfold Two; omega
theorem tv2 : ¬ Two 4 3 2 := by unfold Two; omega
theorem tv5 : ¬ Two 4 3 5 := by unfold Two; omega
theorem Both7.reads (H : Both7 w0 w o pd g x h S Ws p c) (b : Below w.heap.size w w') : Both7 w0 w' o pd g x h S Ws p c := ⟨H.Z.reads b, H.P.reads b, H.Q.reads b⟩
theorem Both7.other {i : Nat} (H : Both7 w0 w o pd g x h S Ws p c) (s : Stp o i w o' w') (hi : 5 ≤ i) : Both7 w0 w' o' pd g x h S Ws p c :=
  ⟨H.Z.step s (by omega), H.P.moves (Moves.of (X := fun k => k = i) rfl s) (fun e => by omega) (fun e => by omega), H.Q.moves (Moves.of (X := fun k => k = i) rfl s) (fun e => by omega) (fun e => by omega)⟩
theorem i64_max (a b : Int) : (if a < b then b else a) = max a b := by split <;> omega
set_option maxRecDepth 100000 in
set_option maxHeartbeats 4000000 in
theorem play7 (H : Both7 w0 w o pd g x h S Ws p c) (hc : c ≤ 400) (k pg : Int) (s : ByteArray) (n : Int) (hs : s.size ≤ maxLen) (hn : (Lit.int .i64 n).wf = true) :
    Calls Tryz.prog 8 #[.pointer (some ⟨g, 0, none⟩), .pointer (some ⟨h, 0, none⟩), .agg #[.int .i64 k, .int .i64 pg, .string s, .int .i64 n]] w fun e w' =>
      ∃ o' Ws' p', e = .returned (.bool true) ∧ Both7 w0 w' o' pd g x h S Ws' p' (c + 1) := by
  obtain ⟨m, m1⟩ : ∃ m : Nat, min s.size 300 = m := ⟨_, rfl⟩
  have m2 : min (s.size : Int) 300 = (m : Int) := by omega
  have m3 : (0 : Int) ≤ (m : Int) := by omega
  have m4 : (m : Int) ≤ (s.size : Int) := by omega
  have m5 : ((m : Int)).toNat = m := by omega
  have m6 : (s.size : Int) ≤ 9223372036854775807 := by simp [maxLen] at hs; omega
  obtain ⟨U, hU⟩ : ∃ U, s.extract 0 m = U := ⟨_, rfl⟩
  have st0 := stp_giveNew ((Below.refl w.heap.size w).alloc (Nat.le_refl _) (.cells #[.int .i64 k, .int .i64 pg, .string s, .int .i64 n] 38)) o 5 5
  have H0 := H.other st0 (by decide)
  have A0 := At.new w #[.int .i64 k, .int .i64 pg, .string s, .int .i64 n] 38
  have oB : gives o w.heap.size 5 w.heap.size = 5 := gives_new (Nat.le_refl _)
  clear st0 H hs hn m1
  go_enter Tryz.func8, Tryz.ntmps8
  go_upto_region 1 with fail
  have HH0 := Lib.hid H0; have HA0 := Lib.hid A0; have HOB := Lib.hid oB
  clear H0 A0 oB
  generalize w.alloc (.cells #[.int .i64 k, .int .i64 pg, .string s, .int .i64 n] 38) = W0 at *
  generalize gives o w.heap.size 5 = o0 at *
  generalize w.heap.size = B at *
  have k0 : W0.cell? ⟨B, 0, none⟩ = some (.int .i64 k) := HA0.out.cell 0
  have k1 : W0.cell? ⟨B, 1, none⟩ = some (.int .i64 pg) := HA0.out.cell 1
  have k2 : W0.cell? ⟨B, 2, none⟩ = some (.string s) := HA0.out.cell 2
  have k3 : W0.cell? ⟨B, 3, none⟩ = some (.int .i64 n) := HA0.out.cell 3
  go_upto_region 2 with fail
  have hX : k = 0 ∨ k = 1 ∨ k = 2 ∨ k = 3 ∨ (¬ k = 0 ∧ ¬ k = 1 ∧ ¬ k = 2 ∧ ¬ k = 3) := by omega
  clear k2 hU m2 m3 m4 m5 m6
  rcases hX with rfl | rfl | rfl | rfl | ⟨y0, y1, y2, y3⟩
  · -- Pin
    have CA := pd_pin HH0.out.P hc pg
    have CB := fun (w1 : World) (o1 : Nat → Nat) (q1 : QD w1 o1 3 x 4 h S Ws p c) => qd_pin q1 hc pg
    clear k3
    have hss : ((pinS S Ws p pg).toList == (pinS S Ws p pg).toList) = true := by simp
    have hee : (pinE S p pg == pinE S p pg) = true := by simp
    generalize pinS S Ws p pg = sx at *
    generalize pinE S p pg = ex at *
    have HCA := Lib.hid CA; have HCB := Lib.hid CB
    clear CA CB
    go_wp2_with fail
    refine HCA.out.mono ?_; rintro e w1 ⟨rfl, o1, P1, M1⟩
    have Q1 := HH0.out.Q.moves M1 tw3 tw4
    have Z1 := HH0.out.Z.moves M1 tw0
    have A1 := At.moves HA0.out HOB.out M1 tw5
    have k1' : w1.cell? ⟨B, 1, none⟩ = some (.int .i64 pg) := A1.1.cell 1
    have HP1 := Lib.hid P1; have HZ1 := Lib.hid Z1
    have C2 := Lib.hid (HCB.out _ _ Q1)
    clear P1 M1 Q1 Z1 A1 HCA HCB k0 k1
    go_wp2_with fail
    refine C2.out.mono ?_; rintro e w2 ⟨rfl, o2, Q2, M2⟩
    have HB := Lib.hid (show Both7 w0 w2 o2 pd g x h S _ _ (c + 1) from ⟨HZ1.out.moves M2 tv0, HP1.out.moves M2 tv1 tv2, Q2⟩)
    clear Q2 M2 C2 HP1 HZ1
    go_wp2_with fail
    go_ret
    exact ⟨o2, _, _, rfl, HB.out⟩
  · -- Unpin
    have CA := fun (w1 : World) (o1 : Nat → Nat) (q1 : PD w1 o1 1 pd 2 g S Ws p c) => pd_unpin q1 hc pg
    have CB := fun (w1 : World) (o1 : Nat → Nat) (q1 : QD w1 o1 3 x 4 h S Ws p c) => qd_unpin q1 hc pg
    clear k3
    have hee : (unE p pg == unE p pg) = true := by simp
    generalize unE p pg = ex at *
    have HCA := Lib.hid CA; have HCB := Lib.hid CB
    clear CA CB
    go_wp2_with fail
    have kd : W0.drew.cell? ⟨B, 1, none⟩ = some (.int .i64 pg) := k1
    have HD := Lib.hid (HH0.out.reads (below_drew W0 1))
    have HAd := Lib.hid (show At W0.drew B _ _ from HA0.out)
    have CA := Lib.hid (HCA.out _ _ HD.out.P)
    clear k0 k1 HCA HH0 HA0
    go_region_held3 (fun W => W.cell? ⟨B, 1, none⟩ = some (.int .i64 pg)) (first | exact kd | exact k1' | exact k2')
      (first
        | (go_at_call 26; refine CA.out.mono ?_; rintro e w1 ⟨rfl, o1, P1, M1⟩; have k1' : w1.cell? ⟨B, 1, none⟩ = some (.int .i64 pg) := (At.moves HAd.out HOB.out M1 tw5).1.cell 1; have HP1 := Lib.hid P1; have HZ1 := Lib.hid (HD.out.Z.moves M1 tw0); have C2 := Lib.hid (HCB.out _ _ (HD.out.Q.moves M1 tw3 tw4)); have A1 := Lib.hid (At.moves HAd.out HOB.out M1 tw5))
        | (go_at_call 27; refine C2.out.mono ?_; rintro e w2 ⟨rfl, o2, Q2, M2⟩; have k2' : w2.cell? ⟨B, 1, none⟩ = some (.int .i64 pg) := (At.moves A1.out.1 A1.out.2 M2 tv5).1.cell 1; have HB := Lib.hid (show Both7 w0 w2 o2 pd g x h S _ _ (c + 1) from ⟨HZ1.out.moves M2 tv0, HP1.out.moves M2 tv1 tv2, Q2⟩)))
    go_wp2
    go_ret
    exact ⟨o2, _, _, rfl, HB.out⟩
  · -- Put
    have CB := fun (w1 : World) (o1 : Nat → Nat) (q1 : QD w1 o1 3 x 4 h S Ws p c) => qd_put q1 pg U n
    have CA := fun (w1 : World) (o1 : Nat → Nat) (q1 : PD w1 o1 1 pd 2 g S Ws p c) => pd_put q1 pg U n
    have hee : (putE p pg U n == putE p pg U n) = true := by simp
    generalize putE p pg U n = ex at *
    have HCB := Lib.hid CB; have HCA := Lib.hid CA
    clear CB CA
    go_wp2_with fail
    have kd : W0.drew.cell? ⟨B, 1, none⟩ = some (.int .i64 pg) ∧ W0.drew.cell? ⟨B, 3, none⟩ = some (.int .i64 n) := ⟨k1, k3⟩
    have HD := Lib.hid (HH0.out.reads (below_drew W0 1))
    have HAd := Lib.hid (show At W0.drew B _ _ from HA0.out)
    have CA := Lib.hid (HCA.out _ _ HD.out.P)
    clear k0 k1 k3 HCA HH0 HA0
    go_region_held3 (fun W => W.cell? ⟨B, 1, none⟩ = some (.int .i64 pg) ∧ W.cell? ⟨B, 3, none⟩ = some (.int .i64 n)) (first | exact kd | exact k1' | exact k2')
      (first
        | (go_at_call 28; refine CA.out.mono ?_; rintro e w1 ⟨rfl, o1, P1, M1⟩; have k1' : w1.cell? ⟨B, 1, none⟩ = some (.int .i64 pg) ∧ w1.cell? ⟨B, 3, none⟩ = some (.int .i64 n) := ⟨(At.moves HAd.out HOB.out M1 tw5).1.cell 1, (At.moves HAd.out HOB.out M1 tw5).1.cell 3⟩; have HP1 := Lib.hid P1; have HZ1 := Lib.hid (HD.out.Z.moves M1 tw0); have C2 := Lib.hid (HCB.out _ _ (HD.out.Q.moves M1 tw3 tw4)); have A1 := Lib.hid (At.moves HAd.out HOB.out M1 tw5))
        | (go_at_call 29; refine C2.out.mono ?_; rintro e w2 ⟨rfl, o2, Q2, M2⟩; have k2' : w2.cell? ⟨B, 1, none⟩ = some (.int .i64 pg) ∧ w2.cell? ⟨B, 3, none⟩ = some (.int .i64 n) := ⟨(At.moves A1.out.1 A1.out.2 M2 tv5).1.cell 1, (At.moves A1.out.1 A1.out.2 M2 tv5).1.cell 3⟩; have HB := Lib.hid (show Both7 w0 w2 o2 pd g x h S _ _ (c + 1) from ⟨HZ1.out.moves M2 tv0, HP1.out.moves M2 tv1 tv2, Q2⟩)))
    go_wp2
    go_ret
    exact ⟨o2, _, _, rfl, HB.out⟩
  · -- Sure
    have CA := Lib.hid (pd_sure HH0.out.P n)
    clear k1
    go_wp2_with fail
    refine CA.out.mono ?_; rintro e w1 ⟨rfl, o1, P1, M1⟩
    have Q1 := HH0.out.Q.moves M1 tw3 tw4
    have HZ1 := Lib.hid (HH0.out.Z.moves M1 tw0)
    have A1 := At.moves HA0.out HOB.out M1 tw5
    have HP1 := Lib.hid P1
    obtain ⟨f1, f2, Q2, S2⟩ := qd_sure Q1 n
    have k1' : w1.cell? ⟨B, 3, none⟩ = some (.int .i64 n) := A1.1.cell 3
    have HB := Lib.hid (show Both7 w0 _ o1 pd g x h S Ws (sureL p n) (c + 1) from ⟨HZ1.out.step S2 (by decide), HP1.out.moves (Moves.of (X := fun k => k = 4) rfl S2) (by decide) (by decide), Q2⟩)
    clear P1 M1 Q1 A1 HP1 HZ1 Q2 S2 CA k0 k3 HH0 HA0
    go_wp2_with fail
    go_region
    have HB2 := Lib.hid (HB.out.reads (below_drew _ 1))
    clear HB f1 f2 k1'
    go_wp2_with fail
    go_ret
    exact ⟨o1, _, _, rfl, HB2.out⟩
  · have xk0 : (k == 0) = false := by simp [y0]
    have xk1 : (k == 1) = false := by simp [y1]
    have xk2 : (k == 2) = false := by simp [y2]
    have xk3 : (k == 3) = false := by simp [y3]
    have CA := pd_clean HH0.out.P hc
    have CB := fun (w1 : World) (o1 : Nat → Nat) (q1 : QD w1 o1 3 x 4 h S Ws p c) => qd_clean q1 hc
    have hee : (((cleanI p.L p.sure).length : Int) == ((cleanI p.L p.sure).length : Int)) = true := by simp
    generalize ((cleanI p.L p.sure).length : Int) = ex at *
    have HCA := Lib.hid CA; have HCB := Lib.hid CB
    clear CA CB k1 k3 y0 y1 y2 y3
    go_wp2_with fail
    refine HCA.out.mono ?_; rintro e w1 ⟨rfl, o1, P1, M1⟩
    have C2 := Lib.hid (HCB.out _ _ (HH0.out.Q.moves M1 tw3 tw4))
    have HP1 := Lib.hid P1; have HZ1 := Lib.hid (HH0.out.Z.moves M1 tw0)
    clear P1 M1 HCA HCB k0
    go_wp2_with fail
    refine C2.out.mono ?_; rintro e w2 ⟨rfl, o2, Q2, M2⟩
    have HB := Lib.hid (show Both7 w0 w2 o2 pd g x h S _ _ (c + 1) from ⟨HZ1.out.moves M2 tv0, HP1.out.moves M2 tv1 tv2, Q2⟩)
    clear Q2 M2 C2 HP1 HZ1
    go_wp2_with fail
    go_ret
    exact ⟨o2, _, _, rfl, HB.out⟩
end
end Go.Proofs.YthjlbfijfpfohaaGreat
