/-
  The law package's all.
-/
import Derived.Test.YtajbnfobmnibjaaC10c
import Derived.Test.YtajbnfobmnibjaaC10d
import Derived.Deep.RegionHeld3
namespace Go.Proofs.Ytajbnfobmnibjaa
open Go.RowKit

set_option maxRecDepth 100000 in
set_option maxHeartbeats 4000000 in
theorem all10 (a b : Option Addr) (C D : Nat) (l : LfP) (H : Prs) (w : World) (hP : PrAt w a C l.pairs) (hH : PairsAt w b H) (hr : rightL l = true) (hp : H.Perm l.pairs) :
    Calls Try.prog 37 #[lfV a C l, .slice b H.length D] w fun e w' => e = .returned (.bool true) ∧ Below w.heap.size w w' := by
  have hsh := right_short hr
  have hlen : H.length = l.pairs.length := hp.length_eq
  have bb := (Below.refl w.heap.size w).alloc (Nat.le_refl _) (.cells #[.slice a l.pairs.length C, .string l.high, .int .i64 l.next] 24)
  have XB := Lib.hid (Bx.new hP)
  have HH := Lib.hid (hH.below bb)
  have HB := Lib.hid bb
  have HR := Lib.hid hr; have HSH := Lib.hid hsh; have HPM := Lib.hid hp; have HLN := Lib.hid hlen
  have hpl : (H.length : Int) ≤ 100000 := by have := hsh.len; omega
  clear hP hH hr hp hsh bb hlen
  unfold lfV
  go_enter Try.func37, Try.ntmps37
  go_upto_region 1 with fail
  generalize w.alloc (.cells #[.slice a l.pairs.length C, .string l.high, .int .i64 l.next] 24) = W1 at *
  obtain ⟨BB, hBB⟩ : ∃ BB, w.heap.size = BB := ⟨_, rfl⟩
  rw [hBB] at XB ⊢
  go_wp2_with fail
  go_loopw [5] (fun i wr => ∃ k : Nat, k ≤ H.length ∧ i = .int .i64 (k : Int) ∧ Bx wr BB a C l ∧ PairsAt wr b H ∧ Below w.heap.size w wr) (fun i _ => H.length - (intOf i).toNat)
  case atStart => exact ⟨0, by omega, rfl, XB.out, HH.out, HB.out⟩
  case round =>
    obtain ⟨k, hk, rfl, hX, hH, hK⟩ := hrel
    have XB := Lib.hid hX; have HH := Lib.hid hH; have HB := Lib.hid hK
    clear hX hH hK
    have c0 : (0 : Int) ≤ (k : Int) := by omega
    by_cases hc : k < H.length
    · have c1 : (k : Int) < (H.length : Int) := by omega
      obtain ⟨⟨pk, pv⟩, hp⟩ : ∃ p, H[k]? = some p := ⟨_, List.getElem?_eq_getElem hc⟩
      obtain ⟨g, off, rfl, d0, d1⟩ := HH.out k _ hp
      dsimp only at d0 d1
      have hm : l.pairs[findN l.pairs pk]? = some (pk, pv) := (has_mem (rightL_rise HR.out)).2 ((HPM.out.mem_iff).1 (List.mem_of_getElem? hp))
      have KG := Lib.hid (fun W (h : Bx W BB a C l) => k_get h HSH.out pk)
      rw [getT_some HR.out hm, getE_some HR.out hm] at KG
      have e0 := XB.out.c0; have e1 := XB.out.c1; have e2 := XB.out.c2
      have HHx := Lib.hid hp
      clear hp hm
      go_upto_region 4 with fail
      have bd : Below wr.heap.size wr wr.drew := (Below.refl _ wr).drew
      have XD := Lib.hid (XB.out.reads bd)
      have HD := Lib.hid (HH.out.below bd)
      have BD := Lib.hid (HB.out.trans (bd.mono HB.out.size))
      have K0 := Lib.hid (show (fun W => W.cell? ⟨BB, 0, none⟩ = some (.slice a l.pairs.length C) ∧ W.cell? ⟨BB, 1, none⟩ = some (.string l.high) ∧ W.cell? ⟨BB, 2, none⟩ = some (.int .i64 l.next) ∧ W.cell? ⟨g, off + k * 2, none⟩ = some (.string pk)) wr.drew from ⟨e0, e1, e2, d0⟩)
      clear bd e0 e1 e2 d0 d1 XB HH HB
      go_region_held3 (fun W => W.cell? ⟨BB, 0, none⟩ = some (.slice a l.pairs.length C) ∧ W.cell? ⟨BB, 1, none⟩ = some (.string l.high) ∧ W.cell? ⟨BB, 2, none⟩ = some (.int .i64 l.next) ∧ W.cell? ⟨g, off + k * 2, none⟩ = some (.string pk)) (first | exact K0.out | exact K1.out)
        (first
          | (go_at_call 23; ((with_reducible refine (KG.out _ XD.out).mono ?_); rintro e v1 ⟨rfl, b⟩; have XB := Lib.hid (XD.out.reads b); have HH := Lib.hid (HD.out.below b); have HB := Lib.hid (BD.out.trans (b.mono BD.out.size)); have K1 := Lib.hid (show (fun W => W.cell? ⟨BB, 0, none⟩ = some (.slice a l.pairs.length C) ∧ W.cell? ⟨BB, 1, none⟩ = some (.string l.high) ∧ W.cell? ⟨BB, 2, none⟩ = some (.int .i64 l.next) ∧ W.cell? ⟨g, off + k * 2, none⟩ = some (.string pk)) v1 from ⟨XB.out.c0, XB.out.c1, XB.out.c2, (b.cell (World.block_lt_of_cell? _ _ K0.out.2.2.2)).trans K0.out.2.2.2⟩); clear b)))
      all_goals
        obtain ⟨_, _, he, _, f1⟩ := HH.out k _ HHx.out
        cases he
        dsimp only at f1
        go_wp2_with fail
        exact ⟨⟨k + 1, by omega, by go_num, XB.out, HH.out, HB.out⟩, by simp [intOf]; omega⟩
    · obtain rfl : k = H.length := by omega
      have e0 := XB.out.c0; have e1 := XB.out.c1; have e2 := XB.out.c2
      have KF := Lib.hid (fun W => dref10 a C l W)
      have KR := Lib.hid (fun W (h : Bx W BB a C l) => dright10 a C l W h.pr.at' HSH.out.sm (by have := HSH.out.hi; omega) (by have := HSH.out.wt; omega))
      rw [HR.out] at KR
      unfold lfV at KF KR
      go_wp2_with fail
      refine (KF.out _).mono ?_; rintro e w2 ⟨rfl, b2⟩
      have XB := Lib.hid (XB.out.reads b2)
      have HB := Lib.hid (HB.out.trans (b2.mono HB.out.size))
      clear b2 e0 e1 e2
      go_wp2_with fail
      refine (KR.out _ XB.out).mono ?_; rintro e w3 ⟨rfl, b3⟩
      have XB := Lib.hid (XB.out.reads b3)
      have HB := Lib.hid (HB.out.trans (b3.mono HB.out.size))
      have e0 := XB.out.c0
      rw [← HLN.out] at e0
      clear b3
      go_wp2_with fail
      go_ret
      exact ⟨rfl, HB.out⟩
end Go.Proofs.Ytajbnfobmnibjaa
