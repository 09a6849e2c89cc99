/-
  The document's log: the contract of Sync.
-/
import Derived.Test.YthjlbfijfpfohaaV06f
namespace Go.Proofs.Ythjlbfijfpfohaa
open Go.RowKit Go.ChangeMaps
theorem some_text6 (t : ByteArray) (hz : 1 ≤ t.size) : (¬ t.toList = []) ∧ (!t.toList.isEmpty) = true ∧ (t.toList == ([] : List UInt8)) = false ∧ (t.toList != ([] : List UInt8)) = true ∧ t.toList.isEmpty = false := by
  have n1 := toList_ne t (by omega)
  have n2 : (t.toList == ([] : List UInt8)) = false := by cases h : t.toList with
    | nil => exact absurd h n1
    | cons a l => rfl
  exact ⟨n1, toList_nonempty t (by omega), n2, by rw [bne, n2]; rfl, by cases h : t.toList with
    | nil => exact absurd h n1
    | cons a l => rfl⟩
section
variable {w w' : World} {o o' : Nat → Nat} {i j g q p m : Nat} {S : List ByteArray} {Ws : Wrs} {L : LogP}
set_option maxRecDepth 100000 in
set_option maxHeartbeats 2000000 in
theorem vsync_none (H : IsV w o j g p L) (D : IsR w o q p S Ws) (hjq : q ≠ j) (hW : Ws.length ≤ 1000000) (ht : L.tu = none) :
    Calls Try.prog 15 #[.pointer (some ⟨g, 0, none⟩)] w fun e w' => e = .returned (.tuple #[]) ∧ ∃ o', IsV w' o' j g p (syncL L) ∧ IsR w' o' q p (syncOf S Ws) [] ∧ Moves (Duo6 j q) o w o' w' := by
  obtain ⟨v, H⟩ := H
  obtain ⟨hf, A, pg, R, wrr, su, tu⟩ := L
  obtain rfl : tu = none := ht
  have CD := Lib.hid (rsync_any D hW)
  have A0 : At w g (logD p hf A pg v wrr su ⟨#[]⟩) logT := H.at'
  have hog : o g = j := H.own
  have RS : RowS w o j v R := H.recs
  have c0 : w.cell? ⟨g, 0, none⟩ = some (.pointer (some ⟨p, 0, none⟩)) := A0.cell 0
  have HA := Lib.hid A0; have HR := Lib.hid RS
  clear H D A0 RS
  go_enter Try.func15, Try.ntmps15
  go_wp2_with fail
  refine CD.out.mono ?_; rintro e w1 ⟨rfl, D1, S1⟩
  have A1 := at_other HA.out S1 (by rw [hog]; exact fun e => hjq e.symm)
  have R1 : RowS w1 o j v R := Row.other HR.out S1 (fun e => hjq e.symm)
  have e7 : w1.cell? ⟨g, 7, none⟩ = some (.string ⟨#[]⟩) := A1.cell 7
  have e5 : w1.cell? ⟨g, 5, none⟩ = some (.int .i64 (wrr : Int)) := A1.cell 5
  have e6 := A1.cell 6; have z6 := A1.fz 6
  have A2 := Lib.hid (A1.set 6 (.int .i64 (wrr : Int)))
  have R2 := Lib.hid (RowS.grownBy6 R1 (grow6_set w1 g 6 (.int .i64 (wrr : Int))) (row_ne R1.row A1 (by decide)))
  have S2 := Stp.setCell o j w1 g 6 (.int .i64 (wrr : Int)) hog
  have D2 := Lib.hid (D1.other S2 hjq)
  have M2 := Lib.hid ((Moves.of (X := Duo6 j q) (.inr rfl) S1).trans (Moves.of (.inl rfl) S2))
  clear HA HR CD c0 A1 R1 S1 S2 D1
  go_wp2_with fail
  go_end0
  exact ⟨rfl, o, ⟨v, A2.out, hog, R2.out⟩, D2.out, M2.out⟩
set_option maxRecDepth 100000 in
set_option maxHeartbeats 4000000 in
theorem vsync_some (H : IsV w o j g p L) (D : IsR w o q p S Ws) (hjq : q ≠ j) (hW : Ws.length ≤ 1000000) (hh : L.h < 2) (s : ByteArray) (ht : L.tu = some s) (hs1 : 1 ≤ s.size) (hs2 : s.size ≤ 100000) :
    Calls Try.prog 15 #[.pointer (some ⟨g, 0, none⟩)] w fun e w' => e = .returned (.tuple #[]) ∧ ∃ o', IsV w' o' j g p (syncL L) ∧ IsR w' o' q p (syncOf S Ws) [] ∧ Moves (Duo6 j q) o w o' w' := by
  obtain ⟨v, H⟩ := H
  obtain ⟨hf, A, pg, R, wrr, su, tu⟩ := L
  obtain rfl : tu = some s := ht
  dsimp only at hh
  have CD := Lib.hid (rsync_any D hW)
  have A0 : At w g (logD p hf A pg v wrr su s) logT := H.at'
  have hog : o g = j := H.own
  have c0 : w.cell? ⟨g, 0, none⟩ = some (.pointer (some ⟨p, 0, none⟩)) := A0.cell 0
  have HA := Lib.hid A0
  obtain ⟨t1, t2, t3, t4, t5⟩ := some_text6 s hs1
  have hh1 : (1 : Int) - (hf : Int) = ((1 - hf : Nat) : Int) := by omega
  obtain ⟨hg, hhg⟩ : ∃ n, 1 - hf = n := ⟨_, rfl⟩
  rw [hhg] at hh1
  have hwh : IntKind.i64.wrap (hg : Int) = (hg : Int) := IntWalk.i64_in _ (by omega)
  have hrl : (recsB [s]).length = 3 + s.size := by rw [recsB_one, List.length_append, Lib.leBytes_length, bl_length]
  obtain ⟨sb, hsb⟩ : ∃ b, bt (recsB [s]) = b := ⟨_, rfl⟩
  have hsz : sb.size = (recsB [s]).length := by rw [← hsb]; exact bt_size _
  obtain ⟨nb, hnb⟩ : ∃ n, needOf (recsB [s]).length = n := ⟨_, rfl⟩
  have CN := Lib.hid fun W => rNeed W sb (by omega)
  rw [hsz, hnb] at CN
  have hsync : syncL ⟨hf, A, pg, R, wrr, su, some s⟩ = ⟨hg, A, nb, [s], 1, 1, none⟩ := by unfold syncL; rw [← hnb, ← hhg]
  rw [hsync]
  have CB := Lib.hid fun W a C (h : Strs W a [s]) => rBytes W a C [s] h (by omega) (by simp)
  rw [hsb] at CB
  clear H D A0 hsync hnb hsz hsb hrl hhg hs1 hs2
  go_enter Try.func15, Try.ntmps15
  go_wp2_with fail
  refine CD.out.mono ?_; rintro e w1 ⟨rfl, D1, S1⟩
  have A1 := at_other HA.out S1 (by rw [hog]; exact fun e => hjq e.symm)
  have e7 : w1.cell? ⟨g, 7, none⟩ = some (.string s) := A1.cell 7
  have e1 : w1.cell? ⟨g, 1, none⟩ = some (.int .i64 (hf : Int)) := A1.cell 1
  have z1 := A1.fz 1
  have A2 := A1.set 1 (.int .i64 (hg : Int))
  have S2 := Stp.setCell o j w1 g 1 (.int .i64 (hg : Int)) hog
  have D2 := D1.other S2 hjq
  have M2 := Lib.hid ((Moves.of (X := Duo6 j q) (.inr rfl) S1).trans (Moves.of (.inl rfl) S2))
  have HA2 := Lib.hid A2; have HD2 := Lib.hid D2
  clear HA CD c0 A1 S1 S2 D1 A2 D2
  go_upto_region 3 with fail
  clear t1 t2 t3 t4 t5 e7 e1 z1
  generalize w1.setCell ⟨g, 1, none⟩ (.int .i64 (hg : Int)) = W2 at *
  have e7 : W2.cell? ⟨g, 7, none⟩ = some (.string s) := HA2.out.cell 7
  have b3 : Below W2.heap.size W2 (W2.alloc (.cells #[.string s] 9)) := (Below.refl _ _).alloc (Nat.le_refl _) _
  have s3 := stp_new o j W2 (.cells #[.string s] 9)
  have A3 := HA2.out.reads b3
  have hog3 : gives o W2.heap.size j g = j := gives_mine hog
  have R3 := rowS_one W2 o j s
  have e4 := A3.cell 4; have z4 := A3.fz 4
  have A4 := A3.set 4 (.slice (some ⟨W2.heap.size, 0, none⟩) 1 1)
  have R4 := RowS.grownBy6 R3 (grow6_set _ g 4 (.slice (some ⟨W2.heap.size, 0, none⟩) 1 1)) (row_ne R3.row A3 (by decide))
  have S4 := s3.trans (Stp.setCell _ j _ g 4 (.slice (some ⟨W2.heap.size, 0, none⟩) 1 1) hog3)
  have D4 := HD2.out.other S4 hjq
  have M4 := Lib.hid (M2.out.trans (Moves.of (.inl rfl) S4))
  have HA4 := Lib.hid A4; have HR4 := Lib.hid R4; have HD4 := Lib.hid D4
  clear A4 R4 D4 S4 R3 A3 s3 b3 HA2 HD2 M2
  go_upto_region 4 with fail
  generalize (W2.alloc (.cells #[.string s] 9)).setCell ⟨g, 4, none⟩ (.slice (some ⟨W2.heap.size, 0, none⟩) 1 1) = W4 at *
  generalize W2.heap.size = B at *
  generalize gives o B j = o4 at *
  clear e4 z4 e7
  obtain ⟨xa, xC, xe, hst⟩ := HR4.out.slice
  simp only [List.length_singleton, Value.slice.injEq, true_and] at xe
  obtain ⟨rfl, rfl⟩ := xe
  have CB2 := Lib.hid (CB.out W4 _ 1 hst)
  have e4 : W4.cell? ⟨g, 4, none⟩ = some (.slice (some ⟨B, 0, none⟩) 1 1) := HA4.out.cell 4
  clear hst CB
  go_wp2_with fail
  refine CB2.out.mono ?_; rintro e w5 ⟨rfl, b5⟩
  have A5 := HA4.out.reads b5
  have R5 : RowS w5 o4 j (.slice (some ⟨B, 0, none⟩) 1 1) [s] := Row.reads HR4.out b5
  have D5 := HD4.out.reads b5
  have f3 := A5.cell 3; have y3 := A5.fz 3
  have A6 := A5.set 3 (.int .i64 (nb : Int))
  have f5 := A6.cell 5; have y5 := A6.fz 5
  have A7 := A6.set 5 (.int .i64 1)
  have f7 := A7.cell 7; have y7 := A7.fz 7
  have A8 := A7.set 7 (.string ⟨#[]⟩)
  have G := grow6_trans (grow6_trans (grow6_set w5 g 3 (.int .i64 (nb : Int))) (grow6_set _ g 5 (.int .i64 1))) (grow6_set _ g 7 (.string ⟨#[]⟩))
  have R8 := RowS.grownBy6 R5 G (row_ne R5.row A5 (by decide))
  have S8 := (((Stp.ofBelow b5 o4 j).trans (Stp.setCell o4 j w5 g 3 (.int .i64 (nb : Int)) hog3)).trans (Stp.setCell o4 j _ g 5 (.int .i64 1) hog3)).trans (Stp.setCell o4 j _ g 7 (.string ⟨#[]⟩) hog3)
  have D8 := HD4.out.other S8 hjq
  have M8 := Lib.hid (M4.out.trans (Moves.of (.inl rfl) S8))
  have HA8 := Lib.hid A8; have HR8 := Lib.hid R8; have HD8 := Lib.hid D8
  clear A8 R8 D8 S8 G A7 A6 A5 R5 D5 HA4 HR4 HD4 CB2 b5 e4
  go_wp2_with fail
  refine (CN.out _).mono ?_; rintro e _ ⟨rfl, rfl⟩
  go_upto_region 7 with fail
  generalize ((w5.setCell ⟨g, 3, none⟩ (.int .i64 (nb : Int))).setCell ⟨g, 5, none⟩ (.int .i64 1)).setCell ⟨g, 7, none⟩ (.string ⟨#[]⟩) = W8 at *
  clear f3 y3 f5 y5 f7 y7
  have h5 : W8.cell? ⟨g, 5, none⟩ = some (.int .i64 1) := HA8.out.cell 5
  have h6 := HA8.out.cell 6; have x6 := HA8.out.fz 6
  have A9 := Lib.hid (HA8.out.set 6 (.int .i64 1))
  have R9 := Lib.hid (RowS.grownBy6 HR8.out (grow6_set W8 g 6 (.int .i64 1)) (row_ne HR8.out.row HA8.out (by decide)))
  have S9 := Stp.setCell o4 j W8 g 6 (.int .i64 1) hog3
  have D9 := Lib.hid (HD8.out.other S9 hjq)
  have M9 := Lib.hid (M8.out.trans (Moves.of (.inl rfl) S9))
  clear S9 HA8 HR8 HD8
  go_wp2_with fail
  go_end0
  exact ⟨rfl, o4, ⟨_, A9.out, hog3, R9.out⟩, D9.out, M9.out⟩
end
end Go.Proofs.Ythjlbfijfpfohaa
