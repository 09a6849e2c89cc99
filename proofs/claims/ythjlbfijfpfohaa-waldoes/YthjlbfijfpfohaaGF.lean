/-
  Package wal: the contract of lay.
  Package wal: the contracts of a log's small calls: Sure, Pages, Half, Age, Room, Records.
  Package wal: the contracts of Append.
  Package wal: the contracts of Write, Sync.
  Package wal: steps of several owners; the contracts of Write, Sync, Turn over them.
  Package wal: the contracts of Turn; Append over steps.
  Package wal: Turn, where it goes.
-/
import Derived.Test.YthjlbfijfpfohaaGE
import Derived.Deep.AppendLies
namespace Go.Proofs.Ythjlbfijfpfohaa
open Go.RowKit

/-- bytes on pages of a half, from a page on -/
def layW (m h A f : Nat) (l : List UInt8) : Wrs := (laid l).mapIdx fun i c => (h * m + (f + i), leafPg A (f + i) c.1 c.2)
theorem layW_length (m h A f : Nat) (l : List UInt8) : (layW m h A f l).length = needOf l.length := by simp [layW, laid_length]
theorem layW_get (m h A f : Nat) (l : List UInt8) (k : Nat) (hk : k < needOf l.length) : (layW m h A f l)[k]? = some (h * m + (f + k), leafPg A (f + k) (decide (k = 0)) ((l.drop (234 * k)).take 234)) := by
  have h1 : (laid l)[k]? = some (decide (k = 0), (l.drop (234 * k)).take 234) := by
    unfold laid
    rw [List.getElem?_mapIdx, chunks_get l k hk]; rfl
  unfold layW
  rw [List.getElem?_mapIdx, h1]; rfl
theorem layW_take (m h A f : Nat) (l : List UInt8) (k : Nat) (hk : k < needOf l.length) : (layW m h A f l).take (k + 1) = (layW m h A f l).take k ++ [(h * m + (f + k), leafPg A (f + k) (decide (k = 0)) ((l.drop (234 * k)).take 234))] := by
  rw [List.take_add_one, layW_get m h A f l k hk]; rfl
theorem stp_new2 (o : Nat → Nat) (i j : Nat) (w : World) (x : Obj) : Stp o i w (gives o w.heap.size j) (w.alloc x) :=
  ⟨rfl, rfl, rfl, by simp, fun k hk _ => Below.heap_alloc w x k hk, fun k hk => gives_old hk⟩
theorem IsD.given {w : World} {o : Nat → Nat} {q p : Nat} {S : List ByteArray} {Ws : Wrs} (h : IsD w o q p S Ws) (j : Nat) (x : Obj) (hne : q ≠ j) : IsD (w.alloc x) (gives o w.heap.size j) q p S Ws := h.other (stp_new2 o j j w x) hne
theorem half_in' {n h m i : Nat} (hh : h < 2) (hm : n / 2 = m) (hi : i < m) : h * m + i < n := by
  rw [← hm] at hi ⊢; exact half_in n h i hh hi
section
variable {w : World} {o : Nat → Nat} {q p : Nat} {S : List ByteArray} {Ws : Wrs}
set_option maxRecDepth 100000 in
set_option maxHeartbeats 4000000 in
theorem wlay (H : IsD w o q p S Ws) {j g m : Nat} (hjq : q ≠ j) (hog : o g = j) {hf pg re wr su wa nx : Value} {A : Nat} (HG : At w g (logC (.pointer (some ⟨p, 0, none⟩)) (.int .i64 (m : Int)) hf (.int .i64 (A : Int)) pg re wr su wa nx) 67)
    (h f : Nat) (hh : h < 2) (hm : S.length / 2 = m) (a : Option Addr) (C : Nat) (R : List ByteArray) (HR : Strs w a R) (hz : (recsB R).length ≤ 1000000) (hfit : f + needOf (recsB R).length ≤ m) (hA : A < 281474976710656) (hW : Ws.length + needOf (recsB R).length ≤ 100000) :
    Calls Try.prog 43 #[.pointer (some ⟨g, 0, none⟩), .int .i64 (h : Int), .int .i64 (f : Int), .slice a R.length C] w fun e w' => e = .returned (.int .i64 ((f + needOf (recsB R).length : Nat) : Int)) ∧ ∃ o', IsD w' o' q p S (Ws ++ layW m h A f (recsB R)) ∧ Stp o q w o' w' := by
  have hn2 := H.n2
  have C0 := Lib.hid (wbytesOf w a C R HR hz)
  obtain ⟨l, hl⟩ : ∃ l, recsB R = l := ⟨_, rfl⟩
  rw [hl] at C0 hz hfit hW ⊢
  obtain ⟨N, hN⟩ : ∃ N, needOf l.length = N := ⟨_, rfl⟩
  have hN1 : ∀ k, k ≤ N → 234 * k < l.length → k < N := fun k _ h => by rw [← hN]; unfold needOf; omega
  have hN2 : ∀ k, k ≤ N → ¬ 234 * k < l.length → k = N := fun k h1 h => by rw [← hN] at h1 ⊢; unfold needOf at h1 ⊢; omega
  rw [hN] at hfit hW ⊢
  obtain ⟨LW, hLW⟩ : ∃ X, layW m h A f l = X := ⟨_, rfl⟩
  have hLWl : LW.length = N := by rw [← hLW, layW_length, hN]
  have hLWt : ∀ k, k < N → LW.take (k + 1) = LW.take k ++ [(h * m + (f + k), leafPg A (f + k) (decide (k = 0)) ((l.drop (234 * k)).take 234))] := fun k hk => by
    rw [← hLW]; exact layW_take m h A f l k (by rw [hN]; exact hk)
  rw [hLW]
  have HT := Lib.hid hLWt; have HN1 := Lib.hid hN1; have HN2 := Lib.hid hN2; have HD := Lib.hid H; have HGa := Lib.hid HG
  clear HR hLWt hN1 hN2 hLW H HG hl hN
  go_enter Try.func43, Try.ntmps43
  go_wp2_with fail
  refine C0.out.mono ?_; rintro e w1 ⟨rfl, b1⟩
  have HD1 := Lib.hid (HD.out.reads b1)
  have S1 := Lib.hid (Stp.ofBelow b1 o q)
  have HG1 := Lib.hid (HGa.out.reads b1)
  clear b1 C0
  go_wp2_with fail
  go_loopw [2, 9, 10] (fun y x b wr => ∃ (k : Nat) (o1 : Nat → Nat), k ≤ N ∧ y = .int .i64 ((f + k : Nat) : Int) ∧ x = .string (bt (l.drop (234 * k))) ∧ b = .bool (decide (k = 0)) ∧ IsD wr o1 q p S (Ws ++ LW.take k) ∧ Stp o q w o1 wr) (fun _ x _ _ => strLen6 x)
  case atStart => exact ⟨0, o, by omega, rfl, rfl, rfl, by rw [List.take_zero, List.append_nil]; exact HD1.out, S1.out⟩
  case round =>
    obtain ⟨k, o1, hk, rfl, rfl, rfl, hD, hS⟩ := hrel
    have hG := at_other HGa.out hS (by rw [hog]; exact fun e => hjq e.symm)
    have hog1 := own_other HGa.out hog hS
    by_cases hlt : 234 * k < l.length
    · have hkN := HN1.out k hk hlt
      obtain ⟨X, hX⟩ : ∃ X, bt (l.drop (234 * k)) = X := ⟨_, rfl⟩
      have hXz : X.size = l.length - 234 * k := by rw [← hX, bt_size, List.length_drop]
      have hX0 : (0 : Int) < (X.size : Int) := by omega
      obtain ⟨n, hn⟩ : ∃ n : Nat, min X.size 234 = n := ⟨_, rfl⟩
      have hnI : min (X.size : Int) 234 = (n : Int) := by omega
      have hn1 : 1 ≤ n := by omega
      have hn3 : n ≤ X.size := by omega
      have hbX : bl X = l.drop (234 * k) := by rw [← hX]
      have hpc : X.extract 0 n = bt ((l.drop (234 * k)).take 234) := by
        apply ba_ext
        rw [extract_list, ← hbX, List.drop_zero, Nat.sub_zero]
        show (bl X).take n = (bl X).take 234
        by_cases h2 : X.size ≤ 234
        · rw [List.take_of_length_le (by rw [bl_length]; omega), List.take_of_length_le (by rw [bl_length]; omega)]
        · rw [show n = 234 by omega]
      have hrest : X.extract n X.size = bt (l.drop (234 * (k + 1))) := by
        apply ba_ext
        rw [extract_list]
        show ((bl X).drop n).take (X.size - n) = l.drop (234 * (k + 1))
        rw [List.take_of_length_le (by rw [List.length_drop, bl_length]; omega), hbX, List.drop_drop]
        by_cases h2 : X.size ≤ 234
        · rw [List.drop_eq_nil_of_le (by omega), List.drop_eq_nil_of_le (by omega)]
        · congr 1; omega
      have hpz : (X.extract 0 n).size ≤ 234 := by rw [ByteArray.size_extract]; omega
      have hpg : pageOf (leafB A (f + k) (decide (k = 0)) (X.extract 0 n)) = leafPg A (f + k) (decide (k = 0)) ((l.drop (234 * k)).take 234) := by
        unfold leafB leafPg; rw [hpc]
      obtain ⟨pc, hpc2⟩ : ∃ pc, X.extract 0 n = pc := ⟨_, rfl⟩
      obtain ⟨rs, hrs⟩ : ∃ rs, X.extract n X.size = rs := ⟨_, rfl⟩
      have hrz : rs.size = X.size - n := by rw [← hrs, ByteArray.size_extract]; omega
      rw [hpc2] at hpz hpg
      have hTk := HT.out k hkN
      rw [← hpg] at hTk
      have hin : h * m + (f + k) < S.length := half_in' hh hm (by omega)
      obtain ⟨bb, hbb⟩ : ∃ b, decide (k = 0) = b := ⟨_, rfl⟩
      obtain ⟨P, hP⟩ : ∃ P, f + k = P := ⟨_, rfl⟩
      rw [hbb, hP] at hTk
      rw [hP] at hin
      rw [hX, hbb, hP]
      have HRest := Lib.hid (hrs.symm.trans hrest)
      have C1 := Lib.hid fun W => wleafBytes A P bb pc W hA (by omega) hpz
      have hlz := leafB_size A P bb pc hpz
      obtain ⟨LB, hLB⟩ : ∃ B, leafB A P bb pc = B := ⟨_, rfl⟩
      rw [hLB] at C1 hTk hlz
      obtain ⟨K, hK⟩ : ∃ K, h * m + P = K := ⟨_, rfl⟩
      rw [hK] at hTk hin
      obtain ⟨Q, hQ⟩ : ∃ Q, h * m = Q := ⟨_, rfl⟩
      have hQ1 : Q ≤ 1024 := by omega
      have hQI : IntKind.i64.wrap ((h : Int) * (m : Int)) = (Q : Int) := by
        have e9 : (h : Int) * (m : Int) = (Q : Int) := by rw [← hQ, Int.natCast_mul]
        rw [e9]; exact IntWalk.i64_in _ (by omega)
      have hKI : (Q : Int) + (P : Int) = (K : Int) := by rw [hQ] at hK; omega
      have hwK : IntKind.i64.wrap (K : Int) = (K : Int) := IntWalk.i64_in _ (by omega)
      have hP1 : P ≤ 1024 := by omega
      have HTk := Lib.hid hTk; have HPz := Lib.hid hpz; have HPP := Lib.hid hP
      have HDk := Lib.hid hD; have HSk := Lib.hid hS; have HGk := Lib.hid hG
      have hgl := hG.lt
      have h0n : (0 : Int) ≤ (n : Int) := by omega
      have hnX : (n : Int) ≤ (X.size : Int) := by omega
      have hmW : (Ws ++ LW.take k).length ≤ 100000 := by rw [List.length_append, List.length_take]; omega
      have HXz := Lib.hid hXz; have HRz := Lib.hid hrz; have HN := Lib.hid hn; have HMW := Lib.hid hmW
      clear hD hS hG hX hbX hpc hrest hpg hTk hP hpz hLB hK hbb hrz hXz hn hmW hQ
      go_upto_region 5 with fail
      have q3 : wr.drew.cell? ⟨g, 3, none⟩ = some (.int .i64 (A : Int)) := HGk.out.cell 3
      have q4 : (wr.alloc (.cells #[.int .i64 0, .int .i64 0, .bool false, .string ⟨#[]⟩] 100)).drew.cell? ⟨g, 3, none⟩ = some (.int .i64 (A : Int)) := (HGk.out.reads ((Below.refl _ wr).alloc (Nat.le_refl _) _)).cell 3
      have q5 : (wr.alloc (.cells #[.int .i64 (A : Int), .int .i64 (P : Int), .bool bb, .string pc] 100)).drew.cell? ⟨g, 3, none⟩ = some (.int .i64 (A : Int)) := (HGk.out.reads ((Below.refl _ wr).alloc (Nat.le_refl _) _)).cell 3
      go_region_held3 (fun W => W.cell? ⟨g, 3, none⟩ = some (.int .i64 (A : Int))) (first | exact q3 | exact q4 | exact q5) (fail)
      have sA := stp_new2 o1 q j wr (.cells #[.int .i64 (A : Int), .int .i64 (P : Int), .bool bb, .string pc] 100)
      have D2 := Lib.hid ((HDk.out.given j (.cells #[.int .i64 (A : Int), .int .i64 (P : Int), .bool bb, .string pc] 100) hjq).drew.drew)
      have S2 := Lib.hid (HSk.out.trans (sA.trans (Stp.drew _ _ _)))
      have L2 := Lib.hid (show At (wr.alloc (.cells #[.int .i64 (A : Int), .int .i64 (P : Int), .bool bb, .string pc] 100)).drew wr.heap.size #[.int .i64 (A : Int), .int .i64 (P : Int), .bool bb, .string pc] 100 from At.new wr _ _)
      have oL : gives o1 wr.heap.size j wr.heap.size = j := gives_new (Nat.le_refl _)
      have G2 := Lib.hid (show At (wr.alloc (.cells #[.int .i64 (A : Int), .int .i64 (P : Int), .bool bb, .string pc] 100)).drew g _ _ from (HGk.out.reads ((Below.refl _ wr).alloc (Nat.le_refl _) _)).drew)
      have oG : gives o1 wr.heap.size j g = j := (gives_old hgl).trans hog1
      have sz2 : wr.heap.size < (wr.alloc (.cells #[.int .i64 (A : Int), .int .i64 (P : Int), .bool bb, .string pc] 100)).drew.heap.size := L2.out.lt
      go_upto_region 6 with fail
      clear q3 q4 q5 sA HDk HSk HGk hgl hog1
      generalize (wr.alloc (.cells #[.int .i64 (A : Int), .int .i64 (P : Int), .bool bb, .string pc] 100)).drew = W2 at *
      generalize gives o1 wr.heap.size j = o2 at *
      generalize wr.heap.size = Lb at *
      have K0 := Lib.hid (show W2.drew.cell? ⟨g, 0, none⟩ = some (.pointer (some ⟨p, 0, none⟩)) ∧ W2.drew.cell? ⟨g, 1, none⟩ = some (.int .i64 (m : Int)) ∧ W2.drew.cell? ⟨Lb, 0, none⟩ = some (.int .i64 (A : Int)) ∧ W2.drew.cell? ⟨Lb, 1, none⟩ = some (.int .i64 (P : Int)) ∧ W2.drew.cell? ⟨Lb, 2, none⟩ = some (.bool bb) ∧ W2.drew.cell? ⟨Lb, 3, none⟩ = some (.string pc) from ⟨G2.out.cell 0, G2.out.cell 1, L2.out.cell 0, L2.out.cell 1, L2.out.cell 2, L2.out.cell 3⟩)
      go_region_held3 (fun W => W.cell? ⟨g, 0, none⟩ = some (.pointer (some ⟨p, 0, none⟩)) ∧ W.cell? ⟨g, 1, none⟩ = some (.int .i64 (m : Int)) ∧ W.cell? ⟨Lb, 0, none⟩ = some (.int .i64 (A : Int)) ∧ W.cell? ⟨Lb, 1, none⟩ = some (.int .i64 (P : Int)) ∧ W.cell? ⟨Lb, 2, none⟩ = some (.bool bb) ∧ W.cell? ⟨Lb, 3, none⟩ = some (.string pc)) (first | exact K0.out | exact K1.out | exact K2.out)
        (first
          | (go_at_call 69; ((with_reducible refine (C1.out _).mono ?_); rintro e w3 ⟨rfl, b3⟩; have G3 := Lib.hid (G2.out.drew.reads b3); have L3 := Lib.hid (L2.out.drew.reads b3); have K1 := Lib.hid (And.intro (G3.out.cell 0) (And.intro (G3.out.cell 1) (And.intro (L3.out.cell 0) (And.intro (L3.out.cell 1) (And.intro (L3.out.cell 2) (L3.out.cell 3)))))); have D3 := Lib.hid (D2.out.reads b3)))
          | (go_at_call 68; ((with_reducible refine (d_write D3.out K hin LB (by omega) HMW.out).mono ?_); rintro e w4 ⟨o4, rfl, d4, s4⟩; have G4 := at_other G3.out s4 (by rw [oG]; exact fun e => hjq e.symm); have L4 := at_other L3.out s4 (by rw [oL]; exact fun e => hjq e.symm); have K2 := Lib.hid (And.intro (G4.cell 0) (And.intro (G4.cell 1) (And.intro (L4.cell 0) (And.intro (L4.cell 1) (And.intro (L4.cell 2) (L4.cell 3)))))))))
      have SF := Lib.hid ((S2.out.trans (Stp.drew o2 q W2)).trans ((Stp.ofBelow b3 o2 q).trans s4))
      have DF := Lib.hid d4
      clear K0 K1 K2 G3 L3 D3 G4 L4 b3 s4 d4 D2 S2 L2 G2 hKI hwK hQI C1
      go_wp2_with fail
      refine ⟨⟨k + 1, o4, hkN, ?_, ?_, ?_, ?_, SF.out⟩, ?_⟩
      · have := HPP.out
        go_num
      · rw [HRest.out]
      · simp
      · rw [HTk.out, ← List.append_assoc]; exact DF.out
      · show rs.size < X.size
        rw [HRz.out]; omega
    · obtain rfl : k = N := HN2.out k hk hlt
      have hX : bt (l.drop (234 * k)) = ⟨#[]⟩ := by rw [List.drop_eq_nil_of_le (by omega)]
      rw [hX]
      have e1 : LW.take k = LW := List.take_of_length_le (by omega)
      rw [e1] at hD
      have HDf := Lib.hid hD; have HSf := Lib.hid hS
      clear hD hS hG
      go_wp2
      go_ret
      exact ⟨rfl, o1, HDf.out, HSf.out⟩
end
end Go.Proofs.Ythjlbfijfpfohaa

namespace Go.Proofs.Ythjlbfijfpfohaa
open Go.RowKit
section
variable {w : World} {o : Nat → Nat} {j g p m : Nat} {L : LogP}
set_option maxRecDepth 100000 in
theorem wsure (H : IsL w o j g p m L) : Calls Try.prog 49 #[.pointer (some ⟨g, 0, none⟩)] w fun e w' => e = .returned (.int .i64 (L.su : Int)) ∧ w = w' := by
  obtain ⟨v, nx, H⟩ := H
  have c : w.cell? ⟨g, 7, none⟩ = some (.int .i64 (L.su : Int)) := H.at'.cell 7
  clear H
  go_enter Try.func49, Try.ntmps49
  go_wp2
  go_ret
  exact ⟨rfl, rfl⟩
set_option maxRecDepth 100000 in
theorem wpages (H : IsL w o j g p m L) : Calls Try.prog 50 #[.pointer (some ⟨g, 0, none⟩)] w fun e w' => e = .returned (.int .i64 (L.n : Int)) ∧ w = w' := by
  obtain ⟨v, nx, H⟩ := H
  have c : w.cell? ⟨g, 4, none⟩ = some (.int .i64 (L.n : Int)) := H.at'.cell 4
  clear H
  go_enter Try.func50, Try.ntmps50
  go_wp2
  go_ret
  exact ⟨rfl, rfl⟩
set_option maxRecDepth 100000 in
theorem whalf (H : IsL w o j g p m L) : Calls Try.prog 51 #[.pointer (some ⟨g, 0, none⟩)] w fun e w' => e = .returned (.int .i64 (L.h : Int)) ∧ w = w' := by
  obtain ⟨v, nx, H⟩ := H
  have c : w.cell? ⟨g, 2, none⟩ = some (.int .i64 (L.h : Int)) := H.at'.cell 2
  clear H
  go_enter Try.func51, Try.ntmps51
  go_wp2
  go_ret
  exact ⟨rfl, rfl⟩
set_option maxRecDepth 100000 in
theorem wage (H : IsL w o j g p m L) : Calls Try.prog 52 #[.pointer (some ⟨g, 0, none⟩)] w fun e w' => e = .returned (.int .i64 (L.A : Int)) ∧ w = w' := by
  obtain ⟨v, nx, H⟩ := H
  have c : w.cell? ⟨g, 3, none⟩ = some (.int .i64 (L.A : Int)) := H.at'.cell 3
  clear H
  go_enter Try.func52, Try.ntmps52
  go_wp2
  go_ret
  exact ⟨rfl, rfl⟩
set_option maxRecDepth 100000 in
theorem wroom (H : IsL w o j g p m L) (hm : m ≤ 1024) (hn : L.n ≤ m) : Calls Try.prog 38 #[.pointer (some ⟨g, 0, none⟩)] w fun e w' => e = .returned (.int .i64 ((m - L.n : Nat) : Int)) ∧ Below w.heap.size w w' := by
  obtain ⟨v, nx, H⟩ := H
  have c1 : w.drew.cell? ⟨g, 1, none⟩ = some (.int .i64 (m : Int)) := H.at'.cell 1
  have c4 : w.drew.cell? ⟨g, 4, none⟩ = some (.int .i64 (L.n : Int)) := H.at'.cell 4
  have c1' : w.cell? ⟨g, 1, none⟩ = some (.int .i64 (m : Int)) := H.at'.cell 1
  have c4' : w.cell? ⟨g, 4, none⟩ = some (.int .i64 (L.n : Int)) := H.at'.cell 4
  have e1 : (m : Int) - (L.n : Int) = ((m - L.n : Nat) : Int) := by omega
  generalize L.n = n at *
  obtain ⟨r, hr⟩ : ∃ r, m - n = r := ⟨_, rfl⟩
  rw [hr] at e1 ⊢
  clear H hr
  go_enter Try.func38, Try.ntmps38
  go_wp2_with fail
  go_quiet (fail)
  go_wp2_with fail
  go_ret
  refine ⟨?_, below_drew _ _⟩
  first | rfl | (congr 2)
set_option maxRecDepth 100000 in
set_option maxHeartbeats 2000000 in
theorem wrecords (H : IsL w o j g p m L) (hl : L.R.length ≤ 100000) (hs : ∀ s ∈ L.R, s.size ≤ 1000000) :
    Calls Try.prog 24 #[.pointer (some ⟨g, 0, none⟩)] w fun e w' => ∃ v, e = .returned v ∧ NewS w w' v L.R ∧ Below w.heap.size w w' := by
  obtain ⟨v, nx, H⟩ := H
  obtain ⟨a, C, rfl, hst⟩ := H.recs.slice
  have c5 : w.cell? ⟨g, 5, none⟩ = some (.slice a L.R.length C) := H.at'.cell 5
  generalize L.R = R at *
  have HS := Lib.hid hst; have HZ := Lib.hid hs
  clear H hst hs
  go_enter Try.func24, Try.ntmps24
  go_wp2_with fail
  go_loopw [3, 11] (fun x i wr => ∃ (k q : Nat) (o1 : Nat → Nat) (b : Option Addr) (D : Nat), k ≤ R.length ∧ i = .int .i64 (k : Int) ∧ x = .slice b q D ∧ q = (R.take k).length ∧ RowS wr o1 1 (.slice b q D) (R.take k) ∧ Since w o1 wr) (fun _ i _ => R.length - (intOf i).toNat)
  case atStart => exact ⟨0, 0, fun _ => 0, none, 0, by omega, rfl, rfl, rfl, Row.nil _ _ _ _ _, Since.start w⟩
  case round =>
    obtain ⟨k, q, o1, b, D, hk, rfl, rfl, hq, hR, hZ⟩ := hrel
    have HR := Lib.hid hR; have HZ1 := Lib.hid hZ; have HQ := Lib.hid hq
    by_cases hlt : k < R.length
    · have hlt' : (k : Int) < (R.length : Int) := by omega
      have h0 : (0 : Int) ≤ (k : Int) := by omega
      obtain ⟨ab, off, e1, e2, e3⟩ := (HS.out.below hZ.bel).at hlt
      have hsz : (R.getD k ⟨#[]⟩).size ≤ 1000000 := HZ.out _ (List.mem_of_getElem? e3)
      have htk := Lib.hid (show R.take (k + 1) = R.take k ++ [R.getD k ⟨#[]⟩] by rw [List.take_add_one, e3]; rfl)
      generalize R.getD k ⟨#[]⟩ = s at *
      subst e1
      have C1 := Lib.hid fun W => clone_any s W hsz
      have hql : (R.take k).length ≤ 100000 := by rw [List.length_take]; omega
      clear hR hZ hq e3
      go_wp2_with fail
      refine (C1.out _).mono ?_; rintro e w1 ⟨rfl, b1⟩
      obtain ⟨g5, C5, w5, o5, hap, hr5, s5⟩ := strs_append (Row.reads HR.out b1) s hql
      rw [← HQ.out] at hap hr5
      have HAP := Lib.hid hap; have HR5 := Lib.hid hr5; have HZ5 := Lib.hid ((HZ1.out.reads b1).step s5 (by decide))
      clear hap hr5 s5 b1
      go_wp2_with (at_builtin; refine wpList_append_run rfl (.tmp 15) (.tmp 18) _ _ rfl _ _ rfl rfl _ _ HAP.out ?_)
      refine ⟨⟨k + 1, q + 1, o5, _, _, by omega, by go_num, rfl, ?_, ?_, HZ5.out⟩, by simp [intOf]; omega⟩
      · rw [htk.out, List.length_append, ← HQ.out]; rfl
      · have := HR5.out
        rw [← htk.out] at this; exact this
    · obtain rfl : k = R.length := by omega
      rw [List.take_length] at hR
      have hge : ∀ i, (Value.slice b q D).ownBlock = some i → w.heap.size ≤ i := fun i hi => by
        rcases Nat.lt_or_ge i w.heap.size with h' | h'
        · have x1 := hZ.own i h'
          have x2 := hR.own i hi
          rw [x1] at x2; cases x2
        · exact h'
      have HN := Lib.hid (show NewS w wr (.slice b q D) R from ⟨hR.row, hge⟩)
      have HB := Lib.hid hZ.bel
      clear hR hZ hge hq
      go_wp2_with fail
      go_ret
      exact ⟨_, rfl, HN.out, HB.out⟩
end
end Go.Proofs.Ythjlbfijfpfohaa

namespace Go.Proofs.Ythjlbfijfpfohaa
open Go.RowKit
section
variable {w : World} {o : Nat → Nat} {j g p m : Nat} {L : LogP}
set_option maxRecDepth 100000 in
theorem wappend_arg (s : ByteArray) (h : s.size < 1 ∨ 100000 < s.size) : Calls Try.prog 10 #[.pointer (some ⟨g, 0, none⟩), .string s] w fun e w' => e = .returned (.tuple #[.int .i64 0, .int .i64 1]) ∧ w = w' := by
  have C := Lib.hid fun W => wisRecord_no s W h
  clear h
  go_enter Try.func10, Try.ntmps10
  go_wp2_with fail
  refine (C.out _).mono ?_; rintro e w1 ⟨rfl, rfl⟩
  go_wp2_with fail
  go_ret2
  exact ⟨rfl, rfl⟩
set_option maxRecDepth 100000 in
theorem wappend_state (H : IsL w o j g p m L) (s t : ByteArray) (h1 : 1 ≤ s.size) (h2 : s.size ≤ 100000) (ht : L.tu = some t) : Calls Try.prog 10 #[.pointer (some ⟨g, 0, none⟩), .string s] w fun e w' => e = .returned (.tuple #[.int .i64 0, .int .i64 9]) ∧ w = w' := by
  obtain ⟨v, nx, H⟩ := H
  have hn := H.next
  rw [ht] at hn
  obtain ⟨b, v2, rfl, _⟩ := hn
  have c9 : w.cell? ⟨g, 9, none⟩ = some (.pointer (some ⟨b, 0, none⟩)) := H.at'.cell 9
  have C := Lib.hid fun W => wisRecord_yes s W h1 h2
  clear h1 h2 H ht
  go_enter Try.func10, Try.ntmps10
  go_wp2_with fail
  refine (C.out _).mono ?_; rintro e w1 ⟨rfl, rfl⟩
  go_wp2_with fail
  go_ret2
  exact ⟨rfl, rfl⟩
set_option maxRecDepth 100000 in
set_option maxHeartbeats 1000000 in
theorem wappend_full (H : IsL w o j g p m L) (s : ByteArray) (h1 : 1 ≤ s.size) (h2 : s.size ≤ 100000) (ht : L.tu = none) (hm : m ≤ 1024) (hn : L.n ≤ m) (hw : waitL L ≤ 1000000) (hf : ¬ waitL L + 3 + s.size ≤ (m - L.n) * 234) :
    Calls Try.prog 10 #[.pointer (some ⟨g, 0, none⟩), .string s] w fun e w' => e = .returned (.tuple #[.int .i64 0, .int .i64 6]) ∧ Below w.heap.size w w' := by
  have CR := wroom H hm hn
  obtain ⟨v, nx, H⟩ := H
  have hnx := H.next
  rw [ht] at hnx
  obtain rfl : nx = .pointer none := hnx
  have c9 : w.cell? ⟨g, 9, none⟩ = some (.pointer none) := H.at'.cell 9
  have c8 : w.cell? ⟨g, 8, none⟩ = some (.int .i64 (waitL L : Int)) := H.at'.cell 8
  have C := Lib.hid fun W => wisRecord_yes s W h1 h2
  have hr5 : m - L.n ≤ 1000000 := by omega
  generalize waitL L = q at *
  generalize m - L.n = r at *
  have CF := fun W => wfits (q + 3 + s.size) r ((q + 3 + s.size : Nat) : Int) (r : Int) W rfl rfl hr5
  rw [decide_eq_false hf] at CF
  obtain ⟨z, hz⟩ : ∃ z, q + 3 + s.size = z := ⟨_, rfl⟩
  rw [hz] at CF
  have hzI : (q : Int) + 3 + (s.size : Int) = (z : Int) := by omega
  have CFh := Lib.hid CF; have CRh := Lib.hid CR
  clear H ht hf CF CR hz h1
  go_enter Try.func10, Try.ntmps10
  go_wp2_with fail
  refine (C.out _).mono ?_; rintro e w1 ⟨rfl, rfl⟩
  go_wp2_with fail
  refine CRh.out.mono ?_; rintro e w2 ⟨rfl, b2⟩
  have B2 := Lib.hid b2
  clear b2 c8 c9
  go_wp2_with fail
  refine (CFh.out _).mono ?_; rintro e w3 ⟨rfl, rfl⟩
  go_wp2_with fail
  go_ret2
  exact ⟨rfl, B2.out⟩
theorem RowS.grownBy6 {w w' : World} {o : Nat → Nat} {j g : Nat} {v : Value} {R : List ByteArray} (h : RowS w o j v R) (k : w.grownBy w' (some g)) (hne : v.ownBlock ≠ some g) : RowS w' o j v R :=
  ⟨ownsRow_same h.row (fun i hi => k.block i (h.row.lt i hi).2 (fun e => hne (by rw [hi, e]))), h.own⟩
theorem strs_append6 {w : World} {o : Nat → Nat} {j : Nat} {u : Value} {l : List ByteArray} (h : RowS w o j u l) (s : ByteArray) (hl : l.length ≤ 100000) :
    ∃ g' C' w' o', (Builtin.append_ #[49, 49] 49 #[u, .slice (some ⟨w.heap.size, 0, none⟩) 1 1]).run Try.prog (w.alloc (.cells #[.string s] 9)) = .ok (.slice (some ⟨g', 0, none⟩) (l.length + 1) C') w' ∧ RowS w' o' j (.slice (some ⟨g', 0, none⟩) (l.length + 1) C') (l ++ [s]) ∧ Stp o j w o' w' ∧ ∀ b cs T, At w b cs T → 9 ≠ T → At w' b cs T := by
  obtain ⟨i0, hi, hz0, hz1, hz2⟩ := info_parts info_str
  have hal := Row.reads h ((Below.refl _ w).alloc (Nat.le_refl _) (.cells #[.string s] 9))
  obtain ⟨v', w', hap, hR, hS, hG, _⟩ := Row.append (ty := 49) hal Try.underlying49 hi hz0 hz1 hz2 rfl (by decide) ⟨w.heap.size, 0, none⟩ 1 1 [.string s] rfl (cell_new_one w _ _) (by intro u hu; simp at hu; subst hu; rfl) (by simp [maxLen]; omega) (by omega)
  rcases hR.val with ⟨_, h, _⟩ | ⟨g', C', rfl, _⟩
  · omega
  · refine ⟨g', C', w', _, hap, ?_, (Stp.alloc o j w _).trans hS, fun b cs T hA hT => ?_⟩
    · unfold RowS; rw [List.length_append, List.map_append]; exact hR
    · have hA2 := hA.reads ((Below.refl _ w).alloc (Nat.le_refl _) (.cells #[.string s] 9))
      exact (hG.block b hA2.lt (fun e => row_ne hal.row hA2 hT e.symm)).trans hA2
theorem waitL_app (L : LogP) (s : ByteArray) (h : L.wr ≤ L.R.length) : waitL { L with R := L.R ++ [s] } = waitL L + 3 + s.size := by
  unfold waitL
  simp only
  rw [List.drop_append_of_le_length h, recsB_append, recsB_one]
  simp only [List.length_append, Lib.leBytes_length, bl_length]
  omega
set_option maxRecDepth 100000 in
set_option maxHeartbeats 2000000 in
theorem wappend_ok (H : IsL w o j g p m L) (s : ByteArray) (h1 : 1 ≤ s.size) (h2 : s.size ≤ 100000) (ht : L.tu = none) (hm : m ≤ 1024) (hn : L.n ≤ m) (hw : waitL L ≤ 1000000) (hl : L.R.length ≤ 100000) (hwr : L.wr ≤ L.R.length) (hf : waitL L + 3 + s.size ≤ (m - L.n) * 234) :
    Calls Try.prog 10 #[.pointer (some ⟨g, 0, none⟩), .string s] w fun e w' => e = .returned (.tuple #[.int .i64 ((L.R.length + 1 : Nat) : Int), .int .i64 0]) ∧ ∃ o', IsL w' o' j g p m { L with R := L.R ++ [s] } ∧ Stp o j w o' w' := by
  have CR := wroom H hm hn
  obtain ⟨v, nx, H⟩ := H
  have hnx := H.next
  rw [ht] at hnx
  obtain rfl : nx = .pointer none := hnx
  have c9 : w.cell? ⟨g, 9, none⟩ = some (.pointer none) := H.at'.cell 9
  have c8 : w.cell? ⟨g, 8, none⟩ = some (.int .i64 (waitL L : Int)) := H.at'.cell 8
  have C := Lib.hid fun W => wisRecord_yes s W h1 h2
  have CC := Lib.hid fun W => clone_any s W (by omega)
  have hr5 : m - L.n ≤ 1000000 := by omega
  have hzz := waitL_app L s hwr
  have CF := fun W => wfits (waitL L + 3 + s.size) (m - L.n) ((waitL L + 3 + s.size : Nat) : Int) ((m - L.n : Nat) : Int) W rfl rfl hr5
  rw [decide_eq_true hf] at CF
  have HL := Lib.hid H; have HTu := Lib.hid ht
  generalize hq : waitL L = q at *
  generalize m - L.n = r at *
  obtain ⟨z, hz⟩ : ∃ z, q + 3 + s.size = z := ⟨_, rfl⟩
  rw [hz] at CF hzz
  have hzI : (q : Int) + 3 + (s.size : Int) = (z : Int) := by omega
  have CFh := Lib.hid CF; have CRh := Lib.hid CR; have HZZ := Lib.hid hzz; have HQ := Lib.hid hq
  obtain ⟨a, C5, rfl, _⟩ := HL.out.recs.slice
  clear H ht hf CF CR hz h1 hzz hq
  go_enter Try.func10, Try.ntmps10
  go_wp2_with fail
  refine (C.out _).mono ?_; rintro e w1 ⟨rfl, rfl⟩
  go_wp2_with fail
  refine CRh.out.mono ?_; rintro e w2 ⟨rfl, b2⟩
  have L2 := Lib.hid (HL.out.reads b2)
  have S2 := Lib.hid (Stp.ofBelow b2 o j)
  clear b2 c8 c9
  go_wp2_with fail
  refine (CFh.out _).mono ?_; rintro e w3 ⟨rfl, rfl⟩
  have d8 := L2.out.at'.cell 8; have z8 := L2.out.at'.fz 8
  go_upto_region 9 with fail
  have A3 := L2.out.at'.set 8 (.int .i64 (z : Int))
  have R3 := RowS.grownBy6 L2.out.recs (grow6_set w2 g 8 (.int .i64 (z : Int))) (row_ne L2.out.recs.row L2.out.at' (by decide))
  have S3 := Lib.hid (S2.out.trans (Stp.setCell o j w2 g 8 (.int .i64 (z : Int)) L2.out.own))
  have HA3 := Lib.hid A3; have HR3 := Lib.hid R3
  have hog := L2.out.own
  clear d8 z8 A3 R3 S2 HL L2
  generalize w2.setCell ⟨g, 8, none⟩ (.int .i64 (z : Int)) = W3 at *
  have q5 : W3.drew.cell? ⟨g, 5, none⟩ = some (.slice a L.R.length C5) := HA3.out.cell 5
  have HRd : RowS W3.drew o j (.slice a L.R.length C5) L.R := ⟨ownsRow_same HR3.out.row (fun _ _ => rfl), HR3.out.own⟩
  have HRD := Lib.hid HRd
  clear HRd
  go_region_law
    (first
      | (go_simp; go_at_call 39; ((with_reducible refine (CC.out _).mono ?_); rintro e w4 ⟨rfl, b4⟩; have A4 := HA3.out.drew.reads b4; have R4 := Row.reads HRD.out b4; obtain ⟨g5, D5, w5, o5, hap, hr5, s5, hk5⟩ := strs_append6 R4 s hl; have A5 := hk5 g _ _ A4 (by decide); have hog5 := own_other A4 hog s5; have HAP := Lib.hid hap; have HR5 := Lib.hid hr5; have S5 := Lib.hid ((S3.out.trans ((Stp.drew o j W3).trans (Stp.ofBelow b4 o j))).trans s5); have p5 := A5.cell 5; have z5 := A5.fz 5; have HA5 := Lib.hid A5; have u5 := A4.cell 5; have u6 := (A4.reads ((Below.refl _ w4).alloc (Nat.le_refl _) (.cells #[.string s] 9))).cell 5; clear hap hr5 s5 hk5 A5 A4 R4 b4))
      | (refine step_append_run (o := ⟨some 40, _, _, _, _, _⟩) rfl (.tmp 36) (.tmp 39) _ _ rfl _ _ rfl rfl _ _ HAP.out ?_))
  all_goals
    clear q5 u5 u6
    have A6 := Lib.hid (HA5.out.set 5 (.slice (some ⟨g5, 0, none⟩) (L.R.length + 1) D5))
    have R6 := Lib.hid (RowS.grownBy6 HR5.out (grow6_set w5 g 5 (.slice (some ⟨g5, 0, none⟩) (L.R.length + 1) D5)) (row_ne HR5.out.row HA5.out (by decide)))
    have S6 := Lib.hid (S5.out.trans (Stp.setCell o5 j w5 g 5 (.slice (some ⟨g5, 0, none⟩) (L.R.length + 1) D5) hog5))
    have hc := A6.out.cell 5
    clear p5 z5
    generalize w5.setCell ⟨g, 5, none⟩ (.slice (some ⟨g5, 0, none⟩) (L.R.length + 1) D5) = W6 at *
    go_wp2_with fail
    go_ret2
    refine ⟨by first | rfl | (congr 3), o5, ⟨_, .pointer none, ⟨?_, hog5, R6.out, ?_⟩⟩, S6.out⟩
    · have := A6.out
      simp only [logV]
      rw [HZZ.out]
      exact this
    · show NextAt _ _ _ _ L.tu
      rw [HTu.out]; rfl
end
end Go.Proofs.Ythjlbfijfpfohaa

namespace Go.Proofs.Ythjlbfijfpfohaa
open Go.RowKit
section
variable {w : World} {o : Nat → Nat} {q j g p m : Nat} {L : LogP} {S : List ByteArray} {Ws : Wrs}
/-- v[k:] of a row of strings -/
theorem RowS.from {v : Value} {R : List ByteArray} (h : RowS w o j v R) (k : Nat) (hk : k ≤ R.length) : ∃ a C, (∀ W, (Instr.slice 49 v (some (.int .i64 (k : Int))) none none).run Try.prog W = .ok (.slice a (R.drop k).length C) W) ∧ Strs w a (R.drop k) := by
  rcases h.val with ⟨rfl, e, h2⟩ | ⟨b, C, rfl, _, _, hc, _⟩
  · have e3 : R = [] := List.eq_nil_of_length_eq_zero e
    subst e3
    obtain rfl : k = 0 := by simpa using hk
    exact ⟨none, 0, fun W => by simp [go_sem, Instr.slice], fun i s hs => by simp at hs⟩
  · refine ⟨if C = k then some ⟨b, 0, none⟩ else some ⟨b, k, none⟩, C - k, fun W => ?_, fun i s hs => ?_⟩
    · have h1 : (k : Int) ≤ (R.length : Int) := by omega
      have h0 : (0 : Int) ≤ (k : Int) := by omega
      have hadd : Addr.add ⟨b, 0, none⟩ k = ⟨b, k, none⟩ := add_zero' b k
      simp [go_sem, Instr.slice, hk]
      done
    · have hi : i < R.length - k := by
        have := (List.getElem?_eq_some_iff.1 hs).1
        rwa [List.length_drop] at this
      rw [List.getElem?_drop] at hs
      have hcap : R.length ≤ C := by
        rcases h.row.2 with ⟨e, _⟩ | ⟨g', cap, cur, e, _, _, h3, _⟩
        · cases e
        · cases e; exact h3
      rw [if_neg (by omega)]
      exact ⟨b, k, rfl, hc (k + i) _ (by rw [List.getElem?_map, hs]; rfl)⟩
set_option maxRecDepth 100000 in
theorem wwrite_state (H : IsL w o j g p m L) (t : ByteArray) (ht : L.tu = some t) : Calls Try.prog 12 #[.pointer (some ⟨g, 0, none⟩)] w fun e w' => e = .returned (.int .i64 9) ∧ w = w' := by
  obtain ⟨v, nx, H⟩ := H
  have hn := H.next
  rw [ht] at hn
  obtain ⟨b, v2, rfl, _⟩ := hn
  have c9 : w.cell? ⟨g, 9, none⟩ = some (.pointer (some ⟨b, 0, none⟩)) := H.at'.cell 9
  clear H ht
  go_enter Try.func12, Try.ntmps12
  go_wp2_with fail
  go_ret
  exact ⟨rfl, rfl⟩
def wroteL (L : LogP) : LogP := { L with n := L.n + needOf (waitL L), wr := L.R.length }
theorem wroteL_wait (L : LogP) : waitL (wroteL L) = 0 := by simp [waitL, wroteL, recsB_nil]
set_option maxRecDepth 100000 in
set_option maxHeartbeats 2000000 in
theorem wwrite_ok (H : IsL w o j g p m L) (D : IsD w o q p S Ws) (hjq : q ≠ j) (hm : S.length / 2 = m) (ht : L.tu = none) (hh : L.h < 2) (hA : L.A < 281474976710656) (hwr : L.wr ≤ L.R.length) (hfit : L.n + needOf (waitL L) ≤ m) (hW : Ws.length + needOf (waitL L) ≤ 100000) (hz : waitL L ≤ 1000000) :
    Calls Try.prog 12 #[.pointer (some ⟨g, 0, none⟩)] w fun e w' => e = .returned (.int .i64 0) ∧ ∃ w1 o1 o', IsL w' o' j g p m (wroteL L) ∧ IsD w' o' q p S (Ws ++ layW m L.h L.A L.n (recsB (L.R.drop L.wr))) ∧ Stp o q w o1 w1 ∧ Stp o1 j w1 o' w' := by
  obtain ⟨v, nx, H⟩ := H
  have hn2 := D.n2
  have hnx := H.next
  rw [ht] at hnx
  obtain rfl : nx = .pointer none := hnx
  obtain ⟨a, C, hsl, hst⟩ := H.recs.from L.wr hwr
  obtain ⟨a5, C5, rfl, _⟩ := H.recs.slice
  have CL := wlay (h := L.h) (f := L.n) (D.drew) hjq H.own (HG := H.at'.drew) hh hm a C (L.R.drop L.wr) (fun k s hs => hst k s hs) hz hfit hA hW
  have HL := Lib.hid H; have HTu := Lib.hid ht
  have c2 : w.drew.cell? ⟨g, 2, none⟩ = some (.int .i64 (L.h : Int)) := H.at'.cell 2
  have c4 : w.drew.cell? ⟨g, 4, none⟩ = some (.int .i64 (L.n : Int)) := H.at'.cell 4
  have c5 : w.drew.cell? ⟨g, 5, none⟩ = some (.slice a5 L.R.length C5) := H.at'.cell 5
  have c6 : w.drew.cell? ⟨g, 6, none⟩ = some (.int .i64 (L.wr : Int)) := H.at'.cell 6
  have c9 : w.cell? ⟨g, 9, none⟩ = some (.pointer none) := H.at'.cell 9
  have hs1 := hsl w.drew
  have hR2 : L.n + needOf (recsB (L.R.drop L.wr)).length = (wroteL L).n := rfl
  rw [hR2] at CL
  have hWn : (wroteL L).n ≤ 1024 := by rw [← hR2]; have : needOf (recsB (L.R.drop L.wr)).length = needOf (waitL L) := rfl; omega
  have HC := Lib.hid CL
  obtain ⟨nw, hnw⟩ : ∃ n, (wroteL L).n = n := ⟨_, rfl⟩
  rw [hnw] at HC
  have HNw := Lib.hid hnw
  obtain ⟨dl, hdl⟩ : ∃ n, (L.R.drop L.wr).length = n := ⟨_, rfl⟩
  rw [hdl] at hs1 HC
  clear H ht hfit hW hz CL hsl hst hR2 hnw hwr hdl hWn
  go_enter Try.func12, Try.ntmps12
  go_wp2_with fail
  go_cut [27] (fun _ wx => ∃ (w1 : World) (o1 : Nat → Nat), wx = w1.setCell ⟨g, 4, none⟩ (.int .i64 (nw : Int)) ∧ IsLv w1 o1 j g p m L (.slice a5 L.R.length C5) (.pointer none) ∧ IsD w1 o1 q p S (Ws ++ layW m L.h L.A L.n (recsB (L.R.drop L.wr))) ∧ Stp o q w.drew o1 w1)
  case first =>
    go_region_law
      (first
        | (go_simp; go_at_call 43; ((with_reducible refine HC.out.mono ?_); rintro e w1 ⟨rfl, o1, D1, S1⟩; have L1 := Lib.hid ((show IsLv w.drew o j g p m L _ _ from ⟨HL.out.at', HL.out.own, ⟨ownsRow_same HL.out.recs.row (fun _ _ => rfl), HL.out.recs.own⟩, by rw [HTu.out]; rfl⟩).other S1 (fun e => hjq e.symm)); have d4 := L1.out.at'.cell 4; have z4 := L1.out.at'.fz 4; have HD1 := Lib.hid D1; have HS1 := Lib.hid S1; clear D1 S1)))
    all_goals
      go_wp2_with fail
      go_meet
      exact ⟨w1, o1, rfl, L1.out, HD1.out, HS1.out⟩
  case rest =>
    obtain ⟨w1, o1, rfl, L1, D1, S1⟩ := hcut
    have A2 := L1.at'.set 4 (.int .i64 (nw : Int))
    have R2 := RowS.grownBy6 L1.recs (grow6_set w1 g 4 (.int .i64 (nw : Int))) (row_ne L1.recs.row L1.at' (by decide))
    have S2 := Stp.setCell o1 j w1 g 4 (.int .i64 (nw : Int)) L1.own
    have D2 := D1.other S2 hjq
    have hog := L1.own
    have HA2 := Lib.hid A2; have HR2 := Lib.hid R2; have HS2 := Lib.hid S2; have HD2 := Lib.hid D2
    have HS1 := Lib.hid ((Stp.drew o q w).trans S1)
    clear A2 R2 S2 D2 L1 D1 S1 HC HL c2 c4 c5 c6 c9 hs1
    generalize w1.setCell ⟨g, 4, none⟩ (.int .i64 (nw : Int)) = W2 at *
    have e5 : W2.cell? ⟨g, 5, none⟩ = some (.slice a5 L.R.length C5) := HA2.out.cell 5
    have e6 := HA2.out.cell 6; have z6 := HA2.out.fz 6
    go_upto_region 5 with fail
    have A3 := HA2.out.set 6 (.int .i64 (L.R.length : Int))
    have R3 := RowS.grownBy6 HR2.out (grow6_set W2 g 6 (.int .i64 (L.R.length : Int))) (row_ne HR2.out.row HA2.out (by decide))
    have S3 := HS2.out.trans (Stp.setCell o1 j W2 g 6 (.int .i64 (L.R.length : Int)) hog)
    have D3 := HD2.out.other (Stp.setCell o1 j W2 g 6 (.int .i64 (L.R.length : Int)) hog) hjq
    have HA3 := Lib.hid A3; have HR3 := Lib.hid R3; have HS3 := Lib.hid S3; have HD3 := Lib.hid D3
    clear A3 R3 S3 D3 HA2 HR2 HS2 HD2 e5 e6 z6
    generalize W2.setCell ⟨g, 6, none⟩ (.int .i64 (L.R.length : Int)) = W3 at *
    have e8 := HA3.out.cell 8; have z8 := HA3.out.fz 8
    go_wp2_with fail
    go_ret
    have A4 := HA3.out.set 8 (.int .i64 0)
    have R4 := RowS.grownBy6 HR3.out (grow6_set W3 g 8 (.int .i64 0)) (row_ne HR3.out.row HA3.out (by decide))
    have S4 := Stp.setCell o1 j W3 g 8 (.int .i64 0) hog
    refine ⟨rfl, w1, o1, o1, ⟨.slice a5 L.R.length C5, .pointer none, ⟨?_, hog, R4, ?_⟩⟩, HD3.out.other S4 hjq, HS1.out, HS3.out.trans S4⟩
    · have e9 := wroteL_wait L
      simp only [logV]
      rw [e9, HNw.out]
      exact A4
    · show NextAt _ _ _ _ L.tu
      rw [HTu.out]; rfl
end
end Go.Proofs.Ythjlbfijfpfohaa

namespace Go.Proofs.Ythjlbfijfpfohaa
open Go.RowKit

/-- steps, each of an owner that X allows -/
def Moves (X : Nat → Prop) (o : Nat → Nat) (w : World) (o' : Nat → Nat) (w' : World) : Prop := ∀ Q : (Nat → Nat) → World → Prop, (∀ o1 w1 i o2 w2, X i → Stp o1 i w1 o2 w2 → Q o1 w1 → Q o2 w2) → Q o w → Q o' w'
theorem Moves.of {X : Nat → Prop} {o o' : Nat → Nat} {w w' : World} {i : Nat} (hi : X i) (s : Stp o i w o' w') : Moves X o w o' w' := fun _ hs h => hs _ _ _ _ _ hi s h
theorem Moves.trans {X : Nat → Prop} {o o1 o2 : Nat → Nat} {w w1 w2 : World} (a : Moves X o w o1 w1) (b : Moves X o1 w1 o2 w2) : Moves X o w o2 w2 := fun Q hs h => b Q hs (a Q hs h)
theorem Moves.refl (X : Nat → Prop) (o : Nat → Nat) (w : World) : Moves X o w o w := fun _ _ h => h
theorem Moves.wide {X Y : Nat → Prop} {o o' : Nat → Nat} {w w' : World} (h : Moves X o w o' w') (hxy : ∀ i, X i → Y i) : Moves Y o w o' w' := fun Q hs hq => h Q (fun o1 w1 i o2 w2 hi => hs o1 w1 i o2 w2 (hxy i hi)) hq
section
variable {X : Nat → Prop} {o o' : Nat → Nat} {w w' w0 : World} {j : Nat}
theorem Row.moves {e sz n : Nat} {v : Value} {xs : List Value} (h : Row w o j e sz v n xs) (M : Moves X o w o' w') (hj : ¬ X j) : Row w' o' j e sz v n xs :=
  M (fun o w => Row w o j e sz v n xs) (fun _ _ _i _ _ hi s h => Row.other h s (fun e => hj (e ▸ hi))) h
theorem IsD.moves {p : Nat} {S : List ByteArray} {Ws : Wrs} (h : IsD w o j p S Ws) (M : Moves X o w o' w') (hj : ¬ X j) : IsD w' o' j p S Ws :=
  M (fun o w => IsD w o j p S Ws) (fun _ _ _i _ _ hi s h => h.other s (fun e => hj (e ▸ hi))) h
theorem IsL.moves {g p m : Nat} {L : LogP} (h : IsL w o j g p m L) (M : Moves X o w o' w') (hj : ¬ X j) : IsL w' o' j g p m L :=
  M (fun o w => IsL w o j g p m L) (fun _ _ _i _ _ hi s h => h.other s (fun e => hj (e ▸ hi))) h
theorem Since.moves (h : Since w0 o w) (M : Moves X o w o' w') (hj : ¬ X 0) : Since w0 o' w' :=
  M (fun o w => Since w0 o w) (fun _ _ _i _ _ hi s h => h.step s (fun e => hj (e ▸ hi))) h
end
/-- the log's, and its disk's -/
def Duo6 (j q : Nat) (i : Nat) : Prop := i = j ∨ i = q
section
variable {w : World} {o : Nat → Nat} {q j g p m : Nat} {L : LogP} {S : List ByteArray} {Ws : Wrs}
theorem l_write (H : IsL w o j g p m L) (D : IsD w o q p S Ws) (hjq : q ≠ j) (hm : S.length / 2 = m) (ht : L.tu = none) (hh : L.h < 2) (hA : L.A < 281474976710656) (hwr : L.wr ≤ L.R.length) (hfit : L.n + needOf (waitL L) ≤ m) (hW : Ws.length + needOf (waitL L) ≤ 100000) (hz : waitL L ≤ 1000000) :
    Calls Try.prog 12 #[.pointer (some ⟨g, 0, none⟩)] w fun e w' => e = .returned (.int .i64 0) ∧ ∃ o', IsL w' o' j g p m (wroteL L) ∧ IsD w' o' q p S (Ws ++ layW m L.h L.A L.n (recsB (L.R.drop L.wr))) ∧ Moves (Duo6 j q) o w o' w' := by
  refine (wwrite_ok H D hjq hm ht hh hA hwr hfit hW hz).mono ?_
  rintro e w' ⟨rfl, w1, o1, o', h1, h2, h3, h4⟩
  exact ⟨rfl, o', h1, h2, (Moves.of (.inr rfl) h3).trans (Moves.of (.inl rfl) h4)⟩
/-- behind a Sync -/
def syncL (L : LogP) : LogP := match L.tu with
  | none => { L with su := L.wr }
  | some s => ⟨1 - L.h, L.A, needOf (recsB [s]).length, [s], 1, 1, none⟩
set_option maxRecDepth 100000 in
set_option maxHeartbeats 2000000 in
theorem l_sync (H : IsL w o j g p m L) (D : IsD w o q p S Ws) (hjq : q ≠ j) (hh : L.h < 2) (hW : Ws.length ≤ 1000000) (hwt : L.tu ≠ none → waitL L = 0) :
    Calls Try.prog 14 #[.pointer (some ⟨g, 0, none⟩)] w fun e w' => e = .returned (.tuple #[]) ∧ ∃ o', IsL w' o' j g p m (syncL L) ∧ IsD w' o' q p (syncOf S Ws) [] ∧ Moves (Duo6 j q) o w o' w' := by
  obtain ⟨v, nx, H⟩ := H
  have CD := Lib.hid (d_sync D hW)
  have c0 : w.cell? ⟨g, 0, none⟩ = some (.pointer (some ⟨p, 0, none⟩)) := H.at'.cell 0
  have HL := Lib.hid H; have HWT := Lib.hid hwt
  clear H D hwt
  go_enter Try.func14, Try.ntmps14
  go_wp2_with fail
  refine CD.out.mono ?_; rintro e w1 ⟨rfl, D1, S1⟩
  have L1 := HL.out.other S1 (fun e => hjq e.symm)
  have HL1 := Lib.hid L1; have HD1 := Lib.hid D1; have HS1 := Lib.hid S1
  have e6 : w1.cell? ⟨g, 6, none⟩ = some (.int .i64 (L.wr : Int)) := L1.at'.cell 6
  have e7 := L1.at'.cell 7; have z7 := L1.at'.fz 7
  clear L1 D1 S1 CD c0 HL
  go_upto_region 2 with fail
  have A2 := HL1.out.at'.set 7 (.int .i64 (L.wr : Int))
  have G2 := grow6_set w1 g 7 (.int .i64 (L.wr : Int))
  have R2 := RowS.grownBy6 HL1.out.recs G2 (row_ne HL1.out.recs.row HL1.out.at' (by decide))
  have S2 := Stp.setCell o j w1 g 7 (.int .i64 (L.wr : Int)) HL1.out.own
  have D2 := HD1.out.other S2 hjq
  have hog := HL1.out.own
  have HA2 := Lib.hid A2; have HR2 := Lib.hid R2; have HS2 := Lib.hid S2; have HD2 := Lib.hid D2
  have HM2 := Lib.hid ((Moves.of (X := Duo6 j q) (.inr rfl) HS1.out).trans (Moves.of (.inl rfl) S2))
  cases htu : L.tu with
  | none =>
    have hnx := HL1.out.next
    rw [htu] at hnx
    obtain rfl : nx = .pointer none := hnx
    have HTu := Lib.hid htu
    clear A2 G2 R2 S2 D2 HL1 HD1 HS1 e6 e7 z7 htu
    generalize w1.setCell ⟨g, 7, none⟩ (.int .i64 (L.wr : Int)) = W2 at *
    have e9 : W2.cell? ⟨g, 9, none⟩ = some (.pointer none) := HA2.out.cell 9
    go_wp2_with fail
    go_end0
    refine ⟨rfl, o, ⟨v, .pointer none, ⟨?_, hog, ?_, ?_⟩⟩, HD2.out, HM2.out⟩
    · have e : syncL L = { L with su := L.wr } := by unfold syncL; rw [HTu.out]
      rw [e]; exact HA2.out
    · have e : syncL L = { L with su := L.wr } := by unfold syncL; rw [HTu.out]
      rw [e]; exact HR2.out
    · have e : syncL L = { L with su := L.wr } := by unfold syncL; rw [HTu.out]
      rw [e]
      show NextAt _ _ _ _ L.tu
      rw [HTu.out]; rfl
  | some s =>
    have hnx := HL1.out.next
    rw [htu] at hnx
    obtain ⟨b, v2, rfl, hAb, hob, hRb⟩ := hnx
    obtain ⟨x2, C2, rfl, _⟩ := hRb.slice
    have hbg : g ≠ b := fun e => by
      have h1 := HL1.out.at'
      unfold At at h1 hAb
      rw [e, hAb] at h1
      simp only [Option.some.injEq, Obj.cells.injEq] at h1
      exact absurd h1.2.1 (by decide)
    have hAb2 := hAb.setOther (g := g) 7 (.int .i64 (L.wr : Int)) hbg
    have hRb2 := RowS.grownBy6 hRb G2 (row_ne hRb.row HL1.out.at' (by decide))
    have HAb := Lib.hid hAb2; have HRb := Lib.hid hRb2
    have hw0 := HWT.out (by rw [htu]; simp)
    have HTu := Lib.hid htu; have HW0 := Lib.hid hw0
    clear A2 G2 R2 S2 D2 HL1 HD1 HS1 e6 e7 z7 htu hAb hRb hAb2 hRb2 hw0
    generalize w1.setCell ⟨g, 7, none⟩ (.int .i64 (L.wr : Int)) = W2 at *
    obtain ⟨nn, hnn⟩ : ∃ n, needOf (recsB [s]).length = n := ⟨_, rfl⟩
    rw [hnn] at HAb
    have hh1 : (1 : Int) - (L.h : Int) = ((1 - L.h : Nat) : Int) := by omega
    obtain ⟨h1, hh2⟩ : ∃ n, 1 - L.h = n := ⟨_, rfl⟩
    rw [hh2] at hh1
    have e9' : W2.cell? ⟨g, 9, none⟩ = some (.pointer (some ⟨b, 0, none⟩)) := HA2.out.cell 9
    have e9 : W2.drew.cell? ⟨g, 9, none⟩ = some (.pointer (some ⟨b, 0, none⟩)) := HA2.out.cell 9
    have e2 : W2.drew.cell? ⟨g, 2, none⟩ = some (.int .i64 (L.h : Int)) := HA2.out.cell 2
    have b0 : W2.drew.cell? ⟨b, 0, none⟩ = some (.int .i64 0) := HAb.out.cell 0
    have b1 : W2.drew.cell? ⟨b, 1, none⟩ = some (.int .i64 (nn : Int)) := HAb.out.cell 1
    have b2 : W2.drew.cell? ⟨b, 2, none⟩ = some (.slice x2 1 C2) := HAb.out.cell 2
    have CS := Lib.hid (wstand W2.drew g _ _ _ _ _ _ _ _ _ _ h1 0 nn 1 C2 x2 HA2.out.drew)
    have HNN := Lib.hid hnn; have HH2 := Lib.hid hh2
    clear hnn hh2
    go_upto_region 3 with fail
    go_still_tail 12, (by kernel_rfl)
    change wpList _ _ _ _ _ W2.drew
    go_wp2_with fail
    refine CS.out.mono ?_; rintro e w3 ⟨rfl, A3, G3⟩
    have HA3 := Lib.hid A3; have HG3 := Lib.hid G3
    clear A3 G3 e9 e9' e2 b0 b1 b2 CS hh1
    go_wp2_with fail
    go_end0
    have S3 := Stp.ofGrown HG3.out o j (fun k hk => by cases hk; exact hog)
    have e : syncL L = ⟨h1, L.A, nn, [s], 1, 1, none⟩ := by unfold syncL; rw [HTu.out]; simp only; rw [HNN.out, HH2.out]
    have hRd : RowS W2.drew o j (.slice x2 1 C2) [s] := ⟨ownsRow_same HRb.out.row (fun _ _ => rfl), HRb.out.own⟩
    refine ⟨rfl, o, ⟨.slice x2 1 C2, .pointer none, ⟨?_, hog, ?_, ?_⟩⟩, HD2.out.drew.other S3 hjq, (HM2.out.trans (Moves.of (.inl rfl) (Stp.drew o j W2))).trans (Moves.of (.inl rfl) S3)⟩
    · rw [e]
      have ew : waitL ⟨h1, L.A, nn, [s], 1, 1, none⟩ = 0 := by simp [waitL, recsB_nil]
      simp only [logV]
      rw [ew]
      have := HA3.out
      rw [HW0.out] at this
      exact this
    · rw [e]; exact RowS.grownBy6 hRd HG3.out (row_ne hRd.row HA2.out.drew (by decide))
    · rw [e]; rfl
end
end Go.Proofs.Ythjlbfijfpfohaa

namespace Go.Proofs.Ythjlbfijfpfohaa
open Go.RowKit
section
variable {w : World} {o : Nat → Nat} {q j g p m : Nat} {L : LogP} {S : List ByteArray} {Ws : Wrs}
set_option maxRecDepth 100000 in
theorem wturn_arg (s : ByteArray) (h : s.size < 1 ∨ 100000 < s.size) : Calls Try.prog 16 #[.pointer (some ⟨g, 0, none⟩), .string s] w fun e w' => e = .returned (.int .i64 1) ∧ w = w' := by
  have C := Lib.hid fun W => wisRecord_no s W h
  clear h
  go_enter Try.func16, Try.ntmps16
  go_wp2_with fail
  refine (C.out _).mono ?_; rintro e w1 ⟨rfl, rfl⟩
  go_wp2_with fail
  go_ret
  exact ⟨rfl, rfl⟩
set_option maxRecDepth 100000 in
set_option maxHeartbeats 1000000 in
theorem wturn_state (H : IsL w o j g p m L) (s : ByteArray) (h1 : 1 ≤ s.size) (h2 : s.size ≤ 100000) (ht : L.su < L.R.length ∨ L.tu ≠ none) : Calls Try.prog 16 #[.pointer (some ⟨g, 0, none⟩), .string s] w fun e w' => e = .returned (.int .i64 9) ∧ Below w.heap.size w w' := by
  obtain ⟨v, nx, H⟩ := H
  have C := Lib.hid fun W => wisRecord_yes s W h1 h2
  obtain ⟨a, D, rfl, _⟩ := H.recs.slice
  have c7 : w.drew.cell? ⟨g, 7, none⟩ = some (.int .i64 (L.su : Int)) := H.at'.cell 7
  have c5 : w.drew.cell? ⟨g, 5, none⟩ = some (.slice a L.R.length D) := H.at'.cell 5
  have c7' : w.cell? ⟨g, 7, none⟩ = some (.int .i64 (L.su : Int)) := H.at'.cell 7
  have c5' : w.cell? ⟨g, 5, none⟩ = some (.slice a L.R.length D) := H.at'.cell 5
  by_cases hsu : L.su < L.R.length
  · have hsu' : (L.su : Int) < (L.R.length : Int) := by omega
    clear h1 h2 H ht
    go_enter Try.func16, Try.ntmps16
    go_wp2_with fail
    refine (C.out _).mono ?_; rintro e w1 ⟨rfl, rfl⟩
    go_wp2_with fail
    go_quiet (fail)
    go_wp2_with fail
    go_ret
    exact ⟨rfl, below_drew _ _⟩
  · have hsu' : ¬ (L.su : Int) < (L.R.length : Int) := by omega
    have hn := H.next
    cases htu : L.tu with
    | none => rw [htu] at ht; rcases ht with h | h
              · exact absurd h hsu
              · exact absurd rfl h
    | some t =>
      rw [htu] at hn
      obtain ⟨b, v2, rfl, _⟩ := hn
      have c9 : w.drew.cell? ⟨g, 9, none⟩ = some (.pointer (some ⟨b, 0, none⟩)) := H.at'.cell 9
      have c9' : w.cell? ⟨g, 9, none⟩ = some (.pointer (some ⟨b, 0, none⟩)) := H.at'.cell 9
      clear h1 h2 H ht htu
      go_enter Try.func16, Try.ntmps16
      go_wp2_with fail
      refine (C.out _).mono ?_; rintro e w1 ⟨rfl, rfl⟩
      go_wp2_with fail
      go_quiet (fail)
      go_wp2_with fail
      go_ret
      exact ⟨rfl, below_drew _ _⟩
set_option maxRecDepth 100000 in
set_option maxHeartbeats 1000000 in
theorem wturn_full (H : IsL w o j g p m L) (s : ByteArray) (h1 : 1 ≤ s.size) (h2 : s.size ≤ 100000) (ht : L.tu = none) (hsu : ¬ L.su < L.R.length) (hm : m ≤ 1024) (hf : ¬ 3 + s.size ≤ m * 234) : Calls Try.prog 16 #[.pointer (some ⟨g, 0, none⟩), .string s] w fun e w' => e = .returned (.int .i64 6) ∧ Below w.heap.size w w' := by
  obtain ⟨v, nx, H⟩ := H
  have C := Lib.hid fun W => wisRecord_yes s W h1 h2
  obtain ⟨a, D, rfl, _⟩ := H.recs.slice
  have hn := H.next
  rw [ht] at hn
  obtain rfl : nx = .pointer none := hn
  have hsu' : ¬ (L.su : Int) < (L.R.length : Int) := by omega
  have CF := fun W => wfits (3 + s.size) m ((3 + s.size : Nat) : Int) (m : Int) W rfl rfl (by omega)
  rw [decide_eq_false hf] at CF
  obtain ⟨z, hz⟩ : ∃ z, 3 + s.size = z := ⟨_, rfl⟩
  rw [hz] at CF
  have hzI : 3 + (s.size : Int) = (z : Int) := by omega
  have HCF := Lib.hid CF
  have c7 : w.drew.cell? ⟨g, 7, none⟩ = some (.int .i64 (L.su : Int)) := H.at'.cell 7
  have c5 : w.drew.cell? ⟨g, 5, none⟩ = some (.slice a L.R.length D) := H.at'.cell 5
  have c9 : w.drew.cell? ⟨g, 9, none⟩ = some (.pointer none) := H.at'.cell 9
  have c7' : w.cell? ⟨g, 7, none⟩ = some (.int .i64 (L.su : Int)) := H.at'.cell 7
  have c5' : w.cell? ⟨g, 5, none⟩ = some (.slice a L.R.length D) := H.at'.cell 5
  have c9' : w.cell? ⟨g, 9, none⟩ = some (.pointer none) := H.at'.cell 9
  have HL := Lib.hid H
  clear h1 H ht hf CF hz
  go_enter Try.func16, Try.ntmps16
  go_wp2_with fail
  refine (C.out _).mono ?_; rintro e w1 ⟨rfl, rfl⟩
  go_wp2_with fail
  go_quiet (fail)
  have c1 : (w.drewN nq).cell? ⟨g, 1, none⟩ = some (.int .i64 (m : Int)) := HL.out.at'.cell 1
  go_wp2_with fail
  refine (HCF.out _).mono ?_; rintro e w3 ⟨rfl, rfl⟩
  go_wp2_with fail
  go_ret
  exact ⟨rfl, below_drew _ _⟩
end
end Go.Proofs.Ythjlbfijfpfohaa

namespace Go.Proofs.Ythjlbfijfpfohaa
open Go.RowKit
section
variable {w : World} {o : Nat → Nat} {q j g p m : Nat} {L : LogP} {S : List ByteArray} {Ws : Wrs}
theorem rowS_one (w : World) (o : Nat → Nat) (j : Nat) (s : ByteArray) : RowS (w.alloc (.cells #[.string s] 9)) (gives o w.heap.size j) j (.slice (some ⟨w.heap.size, 0, none⟩) 1 1) [s] :=
  ⟨⟨rfl, .inr ⟨w.heap.size, 1, #[.string s], rfl, Nat.zero_le _, heap_alloc_new w _, Nat.le_refl _, by decide, rfl, rfl⟩⟩, fun b hb => by cases hb; exact gives_new (Nat.le_refl _)⟩
def turnL (L : LogP) (s : ByteArray) : LogP := { L with A := L.A + 1, tu := some s }
set_option maxRecDepth 100000 in
set_option maxHeartbeats 2000000 in
theorem l_turn (H : IsL w o j g p m L) (D : IsD w o q p S Ws) (hjq : q ≠ j) (hm : S.length / 2 = m) (s : ByteArray) (h1 : 1 ≤ s.size) (h2 : s.size ≤ 100000) (ht : L.tu = none) (hsu : ¬ L.su < L.R.length) (hh : L.h < 2) (hA : L.A + 1 < 281474976710656) (hf : 3 + s.size ≤ m * 234) (hW : Ws.length ≤ 90000) :
    Calls Try.prog 16 #[.pointer (some ⟨g, 0, none⟩), .string s] w fun e w' => e = .returned (.int .i64 0) ∧ ∃ o', IsL w' o' j g p m (turnL L s) ∧ IsD w' o' q p S (Ws ++ layW m (1 - L.h) (L.A + 1) 0 (recsB [s])) ∧ Moves (Duo6 j q) o w o' w' := by
  have hn2 := D.n2
  obtain ⟨v, nx, H⟩ := H
  have C := Lib.hid fun W => wisRecord_yes s W h1 h2
  have CC := Lib.hid fun W => clone_any s W (by omega)
  obtain ⟨a, DD, rfl, _⟩ := H.recs.slice
  have hn := H.next
  rw [ht] at hn
  obtain rfl : nx = .pointer none := hn
  have hsu' : ¬ (L.su : Int) < (L.R.length : Int) := by omega
  have CF := fun W => wfits (3 + s.size) m ((3 + s.size : Nat) : Int) (m : Int) W rfl rfl (by omega)
  rw [decide_eq_true hf] at CF
  obtain ⟨z, hz⟩ : ∃ z, 3 + s.size = z := ⟨_, rfl⟩
  rw [hz] at CF
  have hzI : 3 + (s.size : Int) = (z : Int) := by omega
  have hrl : (recsB [s]).length = 3 + s.size := by rw [recsB_one, List.length_append, Lib.leBytes_length, bl_length]
  have hfit : 0 + needOf (recsB [s]).length ≤ m := by rw [hrl]; unfold needOf; omega
  have hned : needOf (recsB [s]).length ≤ 1024 := by omega
  have hrz : (recsB [s]).length ≤ 1000000 := by omega
  have HCF := Lib.hid CF
  have c7 : w.drew.cell? ⟨g, 7, none⟩ = some (.int .i64 (L.su : Int)) := H.at'.cell 7
  have c5 : w.drew.cell? ⟨g, 5, none⟩ = some (.slice a L.R.length DD) := H.at'.cell 5
  have c9 : w.drew.cell? ⟨g, 9, none⟩ = some (.pointer none) := H.at'.cell 9
  have c7' : w.cell? ⟨g, 7, none⟩ = some (.int .i64 (L.su : Int)) := H.at'.cell 7
  have c5' : w.cell? ⟨g, 5, none⟩ = some (.slice a L.R.length DD) := H.at'.cell 5
  have c9' : w.cell? ⟨g, 9, none⟩ = some (.pointer none) := H.at'.cell 9
  have HL := Lib.hid H; have HD := Lib.hid D
  obtain ⟨h1', hh2⟩ : ∃ n, 1 - L.h = n := ⟨_, rfl⟩
  have hh1 : (1 : Int) - (L.h : Int) = (h1' : Int) := by omega
  have hh3 : h1' < 2 := by omega
  obtain ⟨A1, hA1⟩ : ∃ n, L.A + 1 = n := ⟨_, rfl⟩
  have hAI : (L.A : Int) + 1 = (A1 : Int) := by omega
  rw [hA1] at hA
  rw [hh2, hA1]
  have hwA : IntKind.i64.wrap (A1 : Int) = (A1 : Int) := IntWalk.i64_in _ (by omega)
  have hwh : IntKind.i64.wrap (h1' : Int) = (h1' : Int) := IntWalk.i64_in _ (by omega)
  have HA1 := Lib.hid hA1; have HM := Lib.hid hm
  obtain ⟨nn, hnn⟩ : ∃ n, needOf (recsB [s]).length = n := ⟨_, rfl⟩
  have HNN := Lib.hid hnn; have HFit := Lib.hid hfit; have HRz := Lib.hid hrz; have HNed := Lib.hid hned
  clear H ht hf CF hz hh2 hA1 hm hnn hrl hfit hrz hned D
  go_enter Try.func16, Try.ntmps16
  go_wp2_with fail
  refine (C.out _).mono ?_; rintro e w1 ⟨rfl, rfl⟩
  go_wp2_with fail
  go_quiet (fail)
  have B0 := Lib.hid (below_drew w nq)
  generalize w.drewN nq = W0 at *
  have L0 := Lib.hid (HL.out.reads B0.out); have D0 := Lib.hid (HD.out.reads B0.out)
  have c1 : W0.cell? ⟨g, 1, none⟩ = some (.int .i64 (m : Int)) := L0.out.at'.cell 1
  have c3 : W0.cell? ⟨g, 3, none⟩ = some (.int .i64 (L.A : Int)) := L0.out.at'.cell 3
  have z3 := L0.out.at'.fz 3
  clear c7 c5 c9 c7' c5' c9' HL HD
  go_wp2_with fail
  refine (HCF.out _).mono ?_; rintro e w3 ⟨rfl, rfl⟩
  go_upto_region 8 with fail
  have A1' := L0.out.at'.set 3 (.int .i64 (A1 : Int))
  have R1 := RowS.grownBy6 L0.out.recs (grow6_set W0 g 3 (.int .i64 (A1 : Int))) (row_ne L0.out.recs.row L0.out.at' (by decide))
  have S1 := Stp.setCell o j W0 g 3 (.int .i64 (A1 : Int)) L0.out.own
  have D1 := D0.out.other S1 hjq
  have hog := L0.out.own
  have M1 := (Moves.of (X := Duo6 j q) (.inl rfl) (Stp.ofBelow B0.out o j)).trans (Moves.of (.inl rfl) S1)
  have HA1' := Lib.hid A1'; have HR1 := Lib.hid R1; have HD1 := Lib.hid D1; have HM1 := Lib.hid M1
  clear A1' R1 S1 D1 M1 L0 D0 c1 c3 z3 B0
  generalize W0.setCell ⟨g, 3, none⟩ (.int .i64 (A1 : Int)) = W1 at *
  go_wp2_with fail
  refine (CC.out _).mono ?_; rintro e w2 ⟨rfl, b2⟩
  have A2 := HA1'.out.reads b2
  have R2 := Row.reads HR1.out b2
  have D2 := HD1.out.reads b2
  have M2 := HM1.out.trans (Moves.of (.inl rfl) (Stp.ofBelow b2 o j))
  have b3 : Below w2.heap.size w2 (w2.alloc (.cells #[.string s] 9)) := (Below.refl _ _).alloc (Nat.le_refl _) _
  have s3 := stp_new o j w2 (.cells #[.string s] 9)
  have A3 := A2.reads b3
  have hog3 : gives o w2.heap.size j g = j := (gives_old A2.lt).trans hog
  have R3 : RowS (w2.alloc (.cells #[.string s] 9)) (gives o w2.heap.size j) j (.slice a L.R.length DD) L.R := ⟨(Row.reads R2 b3).row, fun k hk => gives_mine (R2.own k hk)⟩
  have N3 := rowS_one w2 o j s
  have D3 := D2.other s3 hjq
  have M3 := M2.trans (Moves.of (.inl rfl) s3)
  have hx3 : Strs (w2.alloc (.cells #[.string s] 9)) (some ⟨w2.heap.size, 0, none⟩) [s] := by
    obtain ⟨a9, C9, e9, hs9⟩ := N3.slice
    cases e9; exact hs9
  have CL := wlay (h := h1') (f := 0) D3 hjq hog3 (HG := A3) hh3 HM.out (some ⟨w2.heap.size, 0, none⟩) 1 [s] hx3 HRz.out HFit.out hA (by have := HNed.out; omega)
  rw [Nat.zero_add, HNN.out] at CL
  have HCL := Lib.hid CL
  have e2 : (w2.alloc (.cells #[.string s] 9)).cell? ⟨g, 2, none⟩ = some (.int .i64 (L.h : Int)) := A3.cell 2
  have HA3 := Lib.hid A3; have HR3 := Lib.hid R3; have HN3 := Lib.hid N3; have HM3 := Lib.hid M3
  clear A2 R2 D2 M2 b3 s3 A3 R3 N3 D3 M3 hx3 CL b2 HA1' HR1 HD1 HM1
  go_wp2_with fail
  refine HCL.out.mono ?_; rintro e w4 ⟨rfl, o4, D4, s4⟩
  have hne : j ≠ q := fun e => hjq e.symm
  have A4 := at_other HA3.out s4 (by rw [hog3]; exact hne)
  have hog4 := own_other HA3.out hog3 s4
  have R4 := Row.other HR3.out s4 hne
  have N4 := Row.other HN3.out s4 hne
  have M4 := HM3.out.trans (Moves.of (.inr rfl) s4)
  have b5 : Below w4.heap.size w4 (w4.alloc (.cells #[.int .i64 0, .int .i64 (nn : Int), .slice (some ⟨w2.heap.size, 0, none⟩) 1 1] 69)) := (Below.refl _ _).alloc (Nat.le_refl _) _
  have s5 := stp_new o4 j w4 (.cells #[.int .i64 0, .int .i64 (nn : Int), .slice (some ⟨w2.heap.size, 0, none⟩) 1 1] 69)
  have A5 := A4.reads b5
  have hog5 : gives o4 w4.heap.size j g = j := (gives_old A4.lt).trans hog4
  have R5 : RowS _ (gives o4 w4.heap.size j) j (.slice a L.R.length DD) L.R := ⟨(Row.reads R4 b5).row, fun k hk => gives_mine (R4.own k hk)⟩
  have N5 : RowS _ (gives o4 w4.heap.size j) j (.slice (some ⟨w2.heap.size, 0, none⟩) 1 1) [s] := ⟨(Row.reads N4 b5).row, fun k hk => gives_mine (N4.own k hk)⟩
  have D5 := D4.other s5 hjq
  have M5 := M4.trans (Moves.of (.inl rfl) s5)
  have K5 := At.new w4 #[.int .i64 0, .int .i64 (nn : Int), .slice (some ⟨w2.heap.size, 0, none⟩) 1 1] 69
  have hgk : g ≠ w4.heap.size := Nat.ne_of_lt A4.lt
  have okk : gives o4 w4.heap.size j w4.heap.size = j := gives_new (Nat.le_refl _)
  have p9 : (w4.alloc (.cells #[.int .i64 0, .int .i64 (nn : Int), .slice (some ⟨w2.heap.size, 0, none⟩) 1 1] 69)).cell? ⟨g, 9, none⟩ = some (.pointer none) := A5.cell 9
  have z9 := A5.fz 9
  have HA5 := Lib.hid A5; have HR5 := Lib.hid R5; have HN5 := Lib.hid N5; have HD5 := Lib.hid D5; have HM5 := Lib.hid M5; have HK5 := Lib.hid K5
  clear A4 R4 N4 M4 b5 s5 A5 R5 N5 D5 M5 K5 D4 s4 e2 HA3 HR3 HN3 HM3 HCL hog hog3 hog4
  go_wp2_with fail
  go_ret
  generalize w4.alloc (.cells #[.int .i64 0, .int .i64 (nn : Int), .slice (some ⟨w2.heap.size, 0, none⟩) 1 1] 69) = W5 at *
  generalize gives o4 w4.heap.size j = o5 at *
  generalize w4.heap.size = kb at *
  have G6 := grow6_set W5 g 9 (.pointer (some ⟨kb, 0, none⟩))
  have S6 := Stp.setCell o5 j W5 g 9 (.pointer (some ⟨kb, 0, none⟩)) hog5
  refine ⟨rfl, o5, ⟨.slice a L.R.length DD, .pointer (some ⟨kb, 0, none⟩), ⟨?_, hog5, ?_, ?_⟩⟩, ?_, ?_⟩
  · have := HA5.out.set 9 (.pointer (some ⟨kb, 0, none⟩))
    simp only [logV, turnL]
    have ew : waitL { L with A := L.A + 1, tu := some s } = waitL L := rfl
    rw [ew, HA1.out]
    exact this
  · exact RowS.grownBy6 HR5.out G6 (row_ne HR5.out.row HA5.out (by decide))
  · refine ⟨kb, _, rfl, ?_, okk, RowS.grownBy6 HN5.out G6 (row_ne HN5.out.row HA5.out (by decide))⟩
    rw [HNN.out]
    exact HK5.out.setOther 9 _ hgk
  · exact HD5.out.other S6 hjq
  · exact HM5.out.trans (Moves.of (.inl rfl) S6)
end
end Go.Proofs.Ythjlbfijfpfohaa
