/-
  The law package's fixed() answers true.
-/
import Derived.Test.YtbenaagooankbaaD6
namespace Go.Proofs.Ytbenaagooankbaa
open Go.RowKit Go.ChangeMaps

theorem stp_new (o : Nat → Nat) (i : Nat) (w : World) (x : Obj) : Stp o i w (gives o w.heap.size i) (w.alloc x) := (Stp.alloc o i w x).gives _ (Nat.le_refl _)
theorem fints_new (w : World) (o : Nat → Nat) (i j : Nat) (h : j ≠ i) (a b : Int) (t : TypeId) : FInts (w.alloc (.cells #[.int .i64 a, .int .i64 b] t)) (gives o w.heap.size j) i (some ⟨w.heap.size, 0, none⟩) 2 [a, b] := by
  refine ⟨rfl, fun t x hx => ⟨w.heap.size, 0, rfl, ?_, by rw [gives_new (Nat.le_refl _)]; exact h⟩⟩
  rw [World.cell?_alloc_at _ _ _ _ rfl]
  match t with
  | 0 => simp at hx ⊢; exact hx
  | 1 => simp at hx ⊢; exact hx
  | t + 2 => simp at hx
theorem isInts_new (w : World) (a b : Int) (t : TypeId) : IsInts (w.alloc (.cells #[.int .i64 a, .int .i64 b] t)) (.slice (some ⟨w.heap.size, 0, none⟩) 2 2) [a, b] := by
  refine .inr ⟨w.heap.size, 2, rfl, fun j x hx => ?_⟩
  rw [World.cell?_alloc_at _ _ _ _ rfl]
  match j with
  | 0 => simp at hx ⊢; exact hx
  | 1 => simp at hx ⊢; exact hx
  | t + 2 => simp at hx
theorem fints_nil (w : World) (o : Nat → Nat) (i : Nat) : FInts w o i none 0 [] := ⟨rfl, fun t x hx => by simp at hx⟩

set_option maxRecDepth 100000 in
set_option maxHeartbeats 2000000 in
theorem fixed_true (w : World) : Calls Try.prog 20 #[] w fun e w' => e = .returned (.bool true) ∧ Below w.heap.size w w' := by
  have r0 := readOf_page ⟨#[]⟩ (by decide); have e0 := errOf_page ⟨#[]⟩ (by decide)
  have ra := readOf_page ⟨#[97]⟩ (by decide); have ea := errOf_page ⟨#[97]⟩ (by decide)
  have rc := readOf_page ⟨#[99]⟩ (by decide); have ec := errOf_page ⟨#[99]⟩ (by decide)
  have et := errOf_torn
  have rt := readOf_torn
  have p0 := fun W => rpad252 ⟨#[]⟩ W (by decide)
  have pa := fun W => rpad252 ⟨#[97]⟩ W (by decide)
  have pc := fun W => rpad252 ⟨#[99]⟩ W (by decide)
  have CA := Lib.hid fun (W : World) o p S Ws (H : IsD W o 1 p S Ws) (k : Nat) hk hW => d_write H k hk ⟨#[97]⟩ (by decide) hW
  have CB := Lib.hid fun (W : World) o p S Ws (H : IsD W o 1 p S Ws) (k : Nat) hk hW => d_write H k hk ⟨#[98]⟩ (by decide) hW
  have CC := Lib.hid fun (W : World) o p S Ws (H : IsD W o 1 p S Ws) (k : Nat) hk hW => d_write H k hk ⟨#[99]⟩ (by decide) hW
  have CN := Lib.hid fun (W : World) => dnew_ok W (fun _ => 0) 1 2 (by omega) (by omega)
  rw [show blank = pageOf ⟨#[]⟩ from rfl] at CN
  have sA := pageOf_size ⟨#[97]⟩ (by decide)
  have sB := pageOf_size ⟨#[98]⟩ (by decide)
  have m1 := fun W => mk_zeros W 253 253 rfl (by omega)
  have t1 := fun W => st_zeros W 253
  have hZs : 252 < (zeros 253).size := by rw [zeros_size]; omega
  have sT := tornOf_size (pageOf ⟨#[98]⟩) (pageOf ⟨#[97]⟩) sB sA
  generalize zeros 253 = Z at *
  generalize List.replicate 253 (0 : UInt8) = l1 at *
  have eT : crashOf [pageOf ⟨#[97]⟩, pageOf ⟨#[]⟩] [(0, pageOf ⟨#[98]⟩), (1, pageOf ⟨#[99]⟩)] [2, 1] = [tornOf (pageOf ⟨#[98]⟩) (pageOf ⟨#[97]⟩), pageOf ⟨#[99]⟩] := by simp [crashOf, crN, leftOf]
  generalize tornOf (pageOf ⟨#[98]⟩) (pageOf ⟨#[97]⟩) = T at *
  generalize pageOf ⟨#[]⟩ = P0 at *
  generalize pageOf ⟨#[97]⟩ = PA at *
  generalize pageOf ⟨#[98]⟩ = PB at *
  generalize pageOf ⟨#[99]⟩ = PC at *
  generalize padOf ⟨#[]⟩ 252 = B0 at *
  generalize padOf ⟨#[97]⟩ 252 = BA at *
  generalize padOf ⟨#[99]⟩ 252 = BC at *
  have R0 := Lib.hid r0; have E0 := Lib.hid e0; have RA := Lib.hid ra; have EA := Lib.hid ea; have RC := Lib.hid rc; have EC := Lib.hid ec; have RT := Lib.hid rt; have ET := Lib.hid et; have XT := Lib.hid eT
  have Q0 := Lib.hid p0; have QA := Lib.hid pa; have QC := Lib.hid pc
  clear r0 e0 ra ea rc ec rt et eT p0 pa pc
  go_enter Try.func20, Try.ntmps20
  go_wp2_with fail
  refine (CN.out _).mono ?_; rintro e w1 ⟨p, o1, rfl, h1, s1⟩
  have D1 := Lib.hid h1; have Z1 := Lib.hid ((Since.start w).step s1 (by decide)); clear h1 s1 CN
  go_wp2_with fail
  refine (dnew_arg _ 0 (by decide)).mono ?_; rintro e _ ⟨rfl, rfl⟩
  go_wp2_with fail
  refine (d_read D1.out 1 P0 rfl).mono ?_
  rw [show rawAt [] 1 P0 = P0 from rfl, R0.out, E0.out]
  rintro e w2 ⟨rfl, b2⟩
  have D2 := Lib.hid (D1.out.reads b2); have Z2 := Lib.hid (Z1.out.reads b2); clear D1 Z1 b2
  go_wp2_with fail
  refine (CA.out _ _ _ _ _ D2.out 0 (by simp) (by simp)).mono ?_; rintro e w3 ⟨o3, rfl, h3, s3⟩
  have D3 := Lib.hid h3; have Z3 := Lib.hid (Z2.out.step s3 (by decide)); clear D2 Z2 h3 s3
  go_wp2_with fail
  refine (d_sync D3.out (by simp)).mono ?_; rintro e w4 ⟨rfl, h4, s4⟩
  rw [show syncOf (List.replicate 2 P0) ([] ++ [(0, PA)]) = [PA, P0] by simp [syncOf, crashOf, crN, leftOf, List.replicate]] at h4
  have D4 := Lib.hid h4; have Z4 := Lib.hid (Z3.out.step s4 (by decide)); clear D3 Z3 h4 s4
  go_wp2_with fail
  refine (CB.out _ _ _ _ _ D4.out 0 (by simp) (by simp)).mono ?_; rintro e w5 ⟨o5, rfl, h5, s5⟩
  have D5 := Lib.hid h5; have Z5 := Lib.hid (Z4.out.step s5 (by decide)); clear D4 Z4 h5 s5
  go_wp2_with fail
  refine (CC.out _ _ _ _ _ D5.out 1 (by simp) (by simp)).mono ?_; rintro e w6 ⟨o6, rfl, h6, s6⟩
  have D6 := Lib.hid h6; have Z6 := Lib.hid (Z5.out.step s6 (by decide)); clear D5 Z5 h6 s6
  go_wp2_with fail
  refine (d_write_arg D6.out 2 (by simp) _).mono ?_; rintro e w7 ⟨rfl, b7⟩
  have D7 := Lib.hid (D6.out.reads b7); have Z7 := Lib.hid (Z6.out.reads b7); clear D6 Z6 b7
  go_wp2_with fail
  have b8 := (Below.refl w7.heap.size w7).alloc (Nat.le_refl _) (.cells (brow l1) 5)
  refine (d_write_big (D7.out.reads b8) 0 (by simp) Z hZs).mono ?_; rintro e w8 ⟨rfl, b9⟩
  have bb := b8.trans (b9.mono b8.size)
  have D8 := Lib.hid (D7.out.reads bb); have Z8 := Lib.hid (Z7.out.reads bb); clear D7 Z7 b8 b9 bb
  go_wp2_with fail
  refine (d_dirty D8.out 3 (by simp)).mono ?_; rintro e w9 ⟨u, o9, rfl, h9, s9, d9, _⟩
  have D9 := Lib.hid d9; have Z9 := Lib.hid (Z8.out.step s9 (by decide)); have U9 := Lib.hid h9; clear D8 Z8 h9 s9 d9
  go_wp2_with fail
  refine (d_copy D9.out 2 (by simp)).mono ?_; rintro e w10 ⟨q, o10, rfl, hc, hd, s10, _⟩
  have D10 := Lib.hid hd; have C10 := Lib.hid hc; have Z10 := Lib.hid (Z9.out.step s10 (by decide)); have U10 := Lib.hid (Row.other U9.out s10 (by decide)); clear D9 Z9 U9 hc hd s10
  go_wp2_with fail
  have sn := stp_new o10 3 w10 (.cells #[.int .i64 2, .int .i64 1] 3)
  have fn := fints_new w10 o10 1 3 (by decide) 2 1 3
  have D11 := Lib.hid (D10.out.other sn (by decide)); have C11 := Lib.hid (C10.out.other sn (by decide)); have Z11 := Lib.hid (Z10.out.step sn (by decide))
  have U11 := Lib.hid ((Row.reads U10.out ((Below.refl _ w10).alloc (Nat.le_refl _) (.cells #[.int .i64 2, .int .i64 1] 3))))
  have V11 := Lib.hid (show OInts (w10.alloc (.cells #[.int .i64 2, .int .i64 1] 3)) (gives o10 w10.heap.size 3) 3 u _ from ⟨U11.out.row, fun g hg => gives_mine (U10.out.own g hg)⟩)
  clear D10 C10 Z10 U10 U11 sn
  refine (d_crash D11.out (by simp) _ 2 _ [2, 1] fn (by simp)).mono ?_; rintro e w12 ⟨rfl, h12, s12⟩
  rw [show [] ++ [(0, PB)] ++ [(1, PC)] = [(0, PB), (1, PC)] from rfl, XT.out] at h12
  have D12 := Lib.hid h12; have C12 := Lib.hid (C11.out.other s12 (by decide)); have Z12 := Lib.hid (Z11.out.step s12 (by decide)); have U12 := Lib.hid (Row.other V11.out s12 (by decide))
  clear D11 C11 Z11 V11 h12 s12 fn
  generalize gives o10 w10.heap.size 3 = o12 at *
  go_wp2_with fail
  refine (d_read D12.out 0 T rfl).mono ?_
  rw [show rawAt [] 0 T = T from rfl, RT.out, ET.out]
  rintro e w13 ⟨rfl, b13⟩
  have D13 := Lib.hid (D12.out.reads b13); have C13 := Lib.hid (C12.out.reads b13); have Z13 := Lib.hid (Z12.out.reads b13); have U13 := Lib.hid (Row.reads U12.out b13)
  clear D12 C12 Z12 U12 b13
  go_wp2_with fail
  refine (d_read D13.out 1 PC rfl).mono ?_
  rw [show rawAt [] 1 PC = PC from rfl, RC.out, EC.out]
  rintro e w14 ⟨rfl, b14⟩
  have D14 := Lib.hid (D13.out.reads b14); have C14 := Lib.hid (C13.out.reads b14); have Z14 := Lib.hid (Z13.out.reads b14); have U14 := Lib.hid (Row.reads U13.out b14)
  clear D13 C13 Z13 U13 b14
  go_wp2_with fail
  refine (d_crash C14.out (by simp) none 0 _ [] (fints_nil _ _ _) (by simp)).mono ?_; rintro e w15 ⟨rfl, h15, s15⟩
  rw [show crashOf [PA, P0] ([] ++ [(0, PB)] ++ [(1, PC)]) [] = [PA, P0] by simp [crashOf, crN, leftOf]] at h15
  have C15 := Lib.hid h15; have D15 := Lib.hid (D14.out.other s15 (by decide)); have Z15 := Lib.hid (Z14.out.step s15 (by decide)); have U15 := Lib.hid (Row.other U14.out s15 (by decide))
  clear D14 C14 Z14 U14 h15 s15
  go_wp2_with fail
  refine (d_read C15.out 0 PA rfl).mono ?_
  rw [show rawAt [] 0 PA = PA from rfl, RA.out, EA.out]
  rintro e w16 ⟨rfl, b16⟩
  have D16 := Lib.hid (D15.out.reads b16); have C16 := Lib.hid (C15.out.reads b16); have Z16 := Lib.hid (Z15.out.reads b16); have U16 := Lib.hid (Row.reads U15.out b16)
  clear D15 C15 Z15 U15 b16
  go_wp2_with fail
  refine (d_read_out C16.out (-1) (by simp)).mono ?_; rintro e w17 ⟨rfl, b17⟩
  have D17 := Lib.hid (D16.out.reads b17); have Z17 := Lib.hid (Z16.out.reads b17); have U17 := Lib.hid (Row.reads U16.out b17)
  clear D16 C16 Z16 U16 b17
  go_wp2_with fail
  refine (QA.out _).mono ?_; rintro e w18 ⟨rfl, b18⟩
  have D18 := Lib.hid (D17.out.reads b18); have Z18 := Lib.hid (Z17.out.reads b18); have U18 := Lib.hid (Row.reads U17.out b18)
  clear D17 Z17 U17 b18
  go_wp2_with fail
  refine (QC.out _).mono ?_; rintro e w19 ⟨rfl, b19⟩
  have D19 := Lib.hid (D18.out.reads b19); have Z19 := Lib.hid (Z18.out.reads b19); have U19 := Lib.hid (Row.reads U18.out b19)
  clear D18 Z18 U18 b19
  go_wp2_with fail
  refine (Q0.out _).mono ?_; rintro e w20 ⟨rfl, b20⟩
  have D20 := Lib.hid (D19.out.reads b20); have Z20 := Lib.hid (Z19.out.reads b20); have U20 := Lib.hid (Row.reads U19.out b20)
  clear D19 Z19 U19 b20
  have x0 : (B0.toList == B0.toList) = true := by simp
  have xa : (BA.toList == BA.toList) = true := by simp
  have xc : (BC.toList == BC.toList) = true := by simp
  go_wp2_with fail
  have b21 := (Below.refl w20.heap.size w20).alloc (Nat.le_refl _) (.cells #[.int .i64 0, .int .i64 1] 3)
  refine (ints_eq _ _ _ [0, 1] (OInts.ints (l := dirtyOf ([] ++ [(0, PB)] ++ [(1, PC)])) (Row.reads U20.out b21)) (isInts_new w20 0 1 3) (by simp)).mono ?_; rintro e w22 ⟨rfl, b22⟩
  have bb := b21.trans (b22.mono b21.size)
  have D22 := Lib.hid (D20.out.reads bb); have Z22 := Lib.hid (Z20.out.reads bb)
  clear D20 Z20 U20 b21 b22 bb
  go_wp2_with fail
  refine (d_raw D22.out 0 T rfl).mono ?_
  rw [show rawAt [] 0 T = T from rfl]
  rintro e w23 ⟨rfl, b23⟩
  have D23 := Lib.hid (D22.out.reads b23); have Z23 := Lib.hid (Z22.out.reads b23)
  clear D22 Z22 b23
  go_wp2_with fail
  refine (d_raw_out D23.out 2 (by simp)).mono ?_; rintro e w24 ⟨rfl, b24⟩
  have D24 := Lib.hid (D23.out.reads b24); have Z24 := Lib.hid (Z23.out.reads b24)
  clear D23 Z23 b24
  go_wp2_with fail
  refine (d_len D24.out).mono ?_; rintro e _ ⟨rfl, rfl⟩
  go_wp2_with fail
  refine (d_dirty D24.out 3 (by simp)).mono ?_; rintro e w25 ⟨u2, o25, rfl, h25, s25, d25, b25⟩
  have Z25 := Lib.hid (Z24.out.reads b25)
  obtain ⟨a2, C2, rfl⟩ := h25.ints.len
  clear h25 s25 d25 b25 D24 Z24
  go_wp2_with fail
  go_ret
  exact ⟨rfl, Z25.out.bel⟩
end Go.Proofs.Ytbenaagooankbaa
