/-
  The law package's fixed() answers true.
-/
import Derived.Test.YthjlbfijfpfohaaGreatW07p
namespace Go.Proofs.YthjlbfijfpfohaaGreat
open Go.RowKit Go.MapKept

theorem two0 : ¬ Two 2 1 0 := by unfold Two; omega
section
variable (S : List ByteArray) (hS : S.length = 4) (b c d : ByteArray) (Ws : Wrs)
include hS
theorem fx_a : pinE S ⟨1, [], 0, 0⟩ 4 = 1 ∧ pinS S [] ⟨1, [], 0, 0⟩ 4 = ⟨#[]⟩ ∧ pinL S [] ⟨1, [], 0, 0⟩ 4 = ⟨1, [], 0, 0⟩ ∧ pinW S [] ⟨1, [], 0, 0⟩ 4 = [] := pin_arg (by omega)
theorem fx_b : pinE S ⟨1, [], 0, 0⟩ 0 = 0 ∧ pinS S [] ⟨1, [], 0, 0⟩ 0 = bodyAt S [] 0 ∧ pinL S [] ⟨1, [], 0, 0⟩ 0 = ⟨1, [⟨0, bodyAt S [] 0, 1, 0, 0, 0⟩], 0, 1⟩ ∧ pinW S [] ⟨1, [], 0, 0⟩ 0 = [] :=
  pin_room (S := S) (Ws := []) (p := ⟨1, [], 0, 0⟩) (k := 0) (by omega) (by simp) (by simp)
theorem fx_k : pinE S ⟨1, [⟨0, b, 1, 0, 5, 5⟩], 0, 1⟩ 1 = 6 ∧ pinS S [] ⟨1, [⟨0, b, 1, 0, 5, 5⟩], 0, 1⟩ 1 = ⟨#[]⟩ ∧ pinL S [] ⟨1, [⟨0, b, 1, 0, 5, 5⟩], 0, 1⟩ 1 = ⟨1, [⟨0, b, 1, 0, 5, 5⟩], 0, 1⟩ ∧ pinW S [] ⟨1, [⟨0, b, 1, 0, 5, 5⟩], 0, 1⟩ 1 = [] :=
  pin_full (S := S) (Ws := []) (p := ⟨1, [⟨0, b, 1, 0, 5, 5⟩], 0, 1⟩) (k := 1) (by omega) (by simp) (by simp) (by simp [Pl.goes])
theorem fx_n : pinE S ⟨1, [⟨0, b, 0, 0, 5, 5⟩], 0, 1⟩ 1 = 6 ∧ pinS S [] ⟨1, [⟨0, b, 0, 0, 5, 5⟩], 0, 1⟩ 1 = ⟨#[]⟩ ∧ pinL S [] ⟨1, [⟨0, b, 0, 0, 5, 5⟩], 0, 1⟩ 1 = ⟨1, [⟨0, b, 0, 0, 5, 5⟩], 0, 1⟩ ∧ pinW S [] ⟨1, [⟨0, b, 0, 0, 5, 5⟩], 0, 1⟩ 1 = [] :=
  pin_full (S := S) (Ws := []) (p := ⟨1, [⟨0, b, 0, 0, 5, 5⟩], 0, 1⟩) (k := 1) (by omega) (by simp) (by simp) (by simp [Pl.goes, Pl.may, Pl.dirty])
theorem fx_o : pinE S ⟨1, [⟨0, b, 0, 0, 5, 5⟩], 5, 1⟩ 1 = 0 ∧ pinS S [] ⟨1, [⟨0, b, 0, 0, 5, 5⟩], 5, 1⟩ 1 = bodyAt S [] 1 ∧ pinL S [] ⟨1, [⟨0, b, 0, 0, 5, 5⟩], 5, 1⟩ 1 = ⟨1, [⟨1, bodyAt S [] 1, 1, 1, 0, 0⟩], 5, 2⟩ ∧ pinW S [] ⟨1, [⟨0, b, 0, 0, 5, 5⟩], 5, 1⟩ 1 = [(0, pageOf b)] := by
  have := pin_swap (S := S) (Ws := []) (p := ⟨1, [⟨0, b, 0, 0, 5, 5⟩], 5, 1⟩) (k := 1) (by omega) (by simp) (by simp) (a := ⟨0, b, 0, 0, 5, 5⟩) (by simp [Pl.goes, Pl.may, Pl.dirty])
  exact this
end
theorem isInts_one (w : World) (a : Int) (t : TypeId) : IsInts (w.alloc (.cells #[.int .i64 a] t)) (.slice (some ⟨w.heap.size, 0, none⟩) 1 1) [a] := by
  refine .inr ⟨w.heap.size, 1, rfl, fun j x hx => ?_⟩
  rw [World.cell?_alloc_at _ _ _ _ rfl]
  match j with
  | 0 => simp at hx ⊢; exact hx
  | t + 1 => simp at hx
set_option maxRecDepth 100000 in
set_option maxHeartbeats 4000000 in
theorem fixed7 (w : World) : Calls Tryz.prog 21 #[] w fun e w' => e = .returned (.bool true) ∧ Below w.heap.size w w' := by
  have CN := Lib.hid fun (W : World) => dnew_ok W (fun _ => 0) 1 4 (by omega) (by omega)
  have hS : (List.replicate 4 blank).length = 4 := by simp
  have pa := Lib.hid fun W => rpad252 ⟨#[97]⟩ W (by decide)
  have CP := Lib.hid fun (W : World) o p (D : IsD W o 1 p (List.replicate 4 blank) []) => pd_new D 2 1 (by decide) (by decide) (by decide)
  have sA : (padOf ⟨#[97]⟩ 252).size = 252 := padOf_size _ _ (by decide)
  obtain ⟨BA, hBA⟩ : ∃ B, padOf ⟨#[97]⟩ 252 = B := ⟨_, rfl⟩
  rw [hBA] at pa sA
  have HBA := Lib.hid hBA
  have bk : ∀ k, k < 4 → (List.replicate 4 blank)[k]? = some blank := fun k hk => by rw [List.getElem?_replicate, if_pos hk]
  have HBK := Lib.hid bk
  clear hBA bk
  generalize List.replicate 4 blank = S at *
  have HS := Lib.hid hS; have HSA := Lib.hid sA
  clear hS sA
  go_enter Tryz.func21, Tryz.ntmps21
  go_wp2_with fail
  refine (CN.out _).mono ?_; rintro e w1 ⟨pd, o1, rfl, h1, s1⟩
  have D1 := Lib.hid h1; have Z1 := Lib.hid ((Since.start w).step s1 (by decide)); clear h1 s1 CN
  go_wp2_with fail
  refine (CP.out _ _ _ D1.out).mono ?_; rintro e w2 ⟨g, rfl, o2, h2, s2, _⟩
  have P2 := Lib.hid h2; have Z2 := Lib.hid (Z1.out.step s2 (by decide)); clear h2 s2 CP D1 Z1
  go_wp2_with fail
  refine (pnew_arg _ _ 0 (by decide)).mono ?_; rintro e _ ⟨rfl, rfl⟩
  go_wp2_with fail
  refine (pnew_arg _ _ 65 (by decide)).mono ?_; rintro e _ ⟨rfl, rfl⟩
  go_wp2_with fail
  -- Pin(4)
  refine (pd_pin P2.out (by omega) 4).mono ?_
  rw [(fx_a S HS.out).1, (fx_a S HS.out).2.1, (fx_a S HS.out).2.2.1, (fx_a S HS.out).2.2.2]
  rintro e w3 ⟨rfl, o3, h3, m3⟩
  have P3 := Lib.hid h3; have Z3 := Lib.hid (Z2.out.moves m3 two0); clear h3 m3 P2 Z2
  go_wp2_with fail
  -- Pin(0)
  refine (pd_pin P3.out (by omega) 0).mono ?_
  rw [(fx_b S HS.out).1, (fx_b S HS.out).2.1, (fx_b S HS.out).2.2.1, (fx_b S HS.out).2.2.2]
  generalize bodyAt S [] 0 = B0
  rintro e w4 ⟨rfl, o4, h4, m4⟩
  have P4 := Lib.hid h4; have Z4 := Lib.hid (Z3.out.moves m4 two0); clear h4 m4 P3 Z3
  go_wp2_with fail
  -- Put(0, a, 5)
  refine (pd_put P4.out 0 ⟨#[97]⟩ 5).mono ?_
  rw [show putE ⟨1, [⟨0, B0, 1, 0, 0, 0⟩], 0, 1⟩ 0 ⟨#[97]⟩ 5 = 0 from rfl, show putL ⟨1, [⟨0, B0, 1, 0, 0, 0⟩], 0, 1⟩ 0 ⟨#[97]⟩ 5 = ⟨1, [⟨0, padOf ⟨#[97]⟩ 252, 1, 0, 5, 5⟩], 0, 1⟩ from rfl, HBA.out]
  rintro e w5 ⟨rfl, o5, h5, m5⟩
  have P5 := Lib.hid h5; have Z5 := Lib.hid (Z4.out.moves m5 two0); clear h5 m5 P4 Z4
  go_wp2_with fail
  refine (pd_put P5.out 0 ⟨#[98]⟩ 4).mono ?_
  rw [show putE ⟨1, [⟨0, BA, 1, 0, 5, 5⟩], 0, 1⟩ 0 ⟨#[98]⟩ 4 = 1 from rfl, show putL ⟨1, [⟨0, BA, 1, 0, 5, 5⟩], 0, 1⟩ 0 ⟨#[98]⟩ 4 = ⟨1, [⟨0, BA, 1, 0, 5, 5⟩], 0, 1⟩ from rfl]
  rintro e w6 ⟨rfl, o6, h6, m6⟩
  have P6 := Lib.hid h6; have Z6 := Lib.hid (Z5.out.moves m6 two0); clear h6 m6 P5 Z5
  go_wp2_with fail
  refine (pd_put P6.out 1 ⟨#[99]⟩ 5).mono ?_
  rw [show putE ⟨1, [⟨0, BA, 1, 0, 5, 5⟩], 0, 1⟩ 1 ⟨#[99]⟩ 5 = 7 from rfl, show putL ⟨1, [⟨0, BA, 1, 0, 5, 5⟩], 0, 1⟩ 1 ⟨#[99]⟩ 5 = ⟨1, [⟨0, BA, 1, 0, 5, 5⟩], 0, 1⟩ from rfl]
  rintro e w7 ⟨rfl, o7, h7, m7⟩
  have P7 := Lib.hid h7; have Z7 := Lib.hid (Z6.out.moves m7 two0); clear h7 m7 P6 Z6
  go_wp2_with fail
  -- Pin(1): full
  refine (pd_pin P7.out (by omega) 1).mono ?_
  rw [(fx_k S HS.out BA).1, (fx_k S HS.out BA).2.1, (fx_k S HS.out BA).2.2.1, (fx_k S HS.out BA).2.2.2]
  rintro e w8 ⟨rfl, o8, h8, m8⟩
  have P8 := Lib.hid h8; have Z8 := Lib.hid (Z7.out.moves m8 two0); clear h8 m8 P7 Z7
  go_wp2_with fail
  refine (pd_unpin P8.out (by omega) 0).mono ?_
  rw [show unE ⟨1, [⟨0, BA, 1, 0, 5, 5⟩], 0, 1⟩ 0 = 0 from rfl, show unL ⟨1, [⟨0, BA, 1, 0, 5, 5⟩], 0, 1⟩ 0 = ⟨1, [⟨0, BA, 0, 0, 5, 5⟩], 0, 1⟩ from rfl]
  rintro e w9 ⟨rfl, o9, h9, m9⟩
  have P9 := Lib.hid h9; have Z9 := Lib.hid (Z8.out.moves m9 two0); clear h9 m9 P8 Z8
  go_wp2_with fail
  refine (pd_unpin P9.out (by omega) 0).mono ?_
  rw [show unE ⟨1, [⟨0, BA, 0, 0, 5, 5⟩], 0, 1⟩ 0 = 9 from rfl, show unL ⟨1, [⟨0, BA, 0, 0, 5, 5⟩], 0, 1⟩ 0 = ⟨1, [⟨0, BA, 0, 0, 5, 5⟩], 0, 1⟩ from rfl]
  rintro e w10 ⟨rfl, o10, h10, m10⟩
  have P10 := Lib.hid h10; have Z10 := Lib.hid (Z9.out.moves m10 two0); clear h10 m10 P9 Z9
  go_wp2_with fail
  -- Pin(1): full still
  refine (pd_pin P10.out (by omega) 1).mono ?_
  rw [(fx_n S HS.out BA).1, (fx_n S HS.out BA).2.1, (fx_n S HS.out BA).2.2.1, (fx_n S HS.out BA).2.2.2]
  rintro e w11 ⟨rfl, o11, h11, m11⟩
  have P11 := Lib.hid h11; have Z11 := Lib.hid (Z10.out.moves m11 two0); clear h11 m11 P10 Z10
  go_wp2_with fail
  -- Least
  refine (pd_least P11.out).mono ?_
  rintro e w12 ⟨y, rfl, hy, h12, b12⟩
  obtain rfl : y = 5 := by
    have h1 := hy.least ⟨0, BA, 0, 0, 5, 5⟩ (by simp) rfl
    rcases hy.some with h | ⟨a, ha, _, h⟩
    · omega
    · simp at ha; subst ha; exact h.symm
  have P12 := Lib.hid h12; have Z12 := Lib.hid (Z11.out.reads b12); clear h12 b12 hy P11 Z11
  go_wp2_with fail
  refine (pd_sure P12.out 5).mono ?_
  rw [show sureL ⟨1, [⟨0, BA, 0, 0, 5, 5⟩], 0, 1⟩ 5 = ⟨1, [⟨0, BA, 0, 0, 5, 5⟩], 5, 1⟩ from rfl]
  rintro e w13 ⟨rfl, o13, h13, m13⟩
  have P13 := Lib.hid h13; have Z13 := Lib.hid (Z12.out.moves m13 two0); clear h13 m13 P12 Z12
  go_wp2_with fail
  refine (pd_pin P13.out (by omega) 1).mono ?_
  rw [(fx_o S HS.out BA).1, (fx_o S HS.out BA).2.1, (fx_o S HS.out BA).2.2.1, (fx_o S HS.out BA).2.2.2]
  generalize bodyAt S [] 1 = B1
  rintro e w14 ⟨rfl, o14, h14, m14⟩
  have P14 := Lib.hid h14; have Z14 := Lib.hid (Z13.out.moves m14 two0); clear h14 m14 P13 Z13
  go_wp2_with fail
  refine (d_read P14.out.D 0 blank (HBK.out 0 (by omega))).mono ?_
  rw [show rawAt [(0, pageOf BA)] 0 blank = pageOf BA from rfl, readOf_page BA (by have := HSA.out; omega), errOf_page BA (by have := HSA.out; omega), pad_full BA HSA.out]
  rintro e w15 ⟨rfl, b15⟩
  have P15 := Lib.hid (P14.out.reads b15); have Z15 := Lib.hid (Z14.out.reads b15); clear b15 P14 Z14
  go_wp2_with fail
  refine (pa.out _).mono ?_; rintro e w16 ⟨rfl, b16⟩
  have P16 := Lib.hid (P15.out.reads b16); have Z16 := Lib.hid (Z15.out.reads b16); clear b16 P15 Z15
  go_wp2_with fail
  refine (pd_pages P16.out).mono ?_; rintro e w17 ⟨v17, rfl, i17, h17, b17⟩
  rw [show pagesI [⟨1, B1, 1, 1, 0, 0⟩] = [1] from by simp [pagesI]] at i17
  have I17 := Lib.hid i17; have P17 := Lib.hid h17; have Z17 := Lib.hid (Z16.out.reads b17); clear i17 h17 b17 P16 Z16
  go_wp2_with fail
  have bA : Below w17.heap.size w17 (w17.alloc (.cells #[.int .i64 1] 3)) := (Below.refl _ w17).alloc (Nat.le_refl _) _
  refine (ints_eq _ _ _ [1] (I17.out.below bA) (isInts_one w17 1 3) (by simp)).mono ?_
  rintro e w18 ⟨rfl, b18⟩
  have P18 := Lib.hid ((P17.out.reads bA).reads b18); have Z18 := Lib.hid ((Z17.out.reads bA).reads b18); clear bA b18 P17 Z17 I17
  go_wp2_with fail
  refine (pd_dirty P18.out).mono ?_; rintro e w19 ⟨v19, rfl, i19, h19, b19⟩
  rw [show dirtyI [⟨1, B1, 1, 1, 0, 0⟩] = [] from by simp [dirtyI, pagesI, isDirty, findP, Pl.dirty]] at i19
  obtain ⟨a19, C19, rfl⟩ := i19.len
  have P19 := Lib.hid h19; have Z19 := Lib.hid (Z18.out.reads b19); clear i19 h19 b19 P18 Z18
  go_wp2_with fail
  refine (pd_pins P19.out 1).mono ?_
  rw [show pinsN ⟨1, [⟨1, B1, 1, 1, 0, 0⟩], 5, 2⟩ 1 = 1 from rfl]
  rintro e _ ⟨rfl, rfl⟩
  go_wp2_with fail
  refine (pd_pins P19.out 0).mono ?_
  rw [show pinsN ⟨1, [⟨1, B1, 1, 1, 0, 0⟩], 5, 2⟩ 0 = 0 from rfl]
  rintro e _ ⟨rfl, rfl⟩
  go_wp2_with fail
  refine (pd_clean P19.out (by omega)).mono ?_
  rw [show (cleanI [⟨1, B1, 1, 1, 0, 0⟩] 5).length = 0 from by simp [cleanI, dirtyI, pagesI, isDirty, findP, Pl.dirty]]
  rintro e w20 ⟨rfl, o20, h20, m20⟩
  have Z20 := Lib.hid (Z19.out.moves m20 two0); clear h20 m20 P19 Z19
  go_wp2_with fail
  go_ret
  exact ⟨by simp, Z20.out.bel⟩
end Go.Proofs.YthjlbfijfpfohaaGreat
