/-
  Package mode: the contracts of Join and Parse.
-/
import Derived.Test.YtnphgfcbdmhloaaDoorE08a
import Derived.Test.YtnphgfcbdmhloaaDoorM2
import Derived.ChangeKeysEq
namespace Go.Proofs.YtnphgfcbdmhloaaDoor
open Go.RowKit

/-- what Join has found behind k of the modes -/
def jn (a b : Nat) : Nat → Nat
  | 0 => 6
  | k + 1 => if covN k a && (covN k b && covN (jn a b k) k) then k else jn a b k
theorem jn_lt (a b k : Nat) (h : k ≤ 7) : jn a b k < 7 := by
  induction k with
  | zero => exact (by decide : (6 : Nat) < 7)
  | succ k ih =>
    unfold jn
    split
    · omega
    · exact ih (by omega)
def joV (a b : Int) : Int := if md a && md b then (jn a.toNat b.toNat 7 : Int) else 0
theorem join_in (a b : Nat) (ha : a < 7) (hb : b < 7) (w : World) (hL : Laid8 w) :
    Calls Tryd.prog 9 #[.int .i64 (a : Int), .int .i64 (b : Int)] w fun e w' => e = .returned (.tuple #[.int .i64 (jn a b 7 : Int), .int .i64 0]) ∧ Below w.heap.size w w' := by
  have C1 := isMode_any (a : Int)
  have C2 := isMode_any (b : Int)
  rw [md_nat, decide_eq_true ha] at C1
  rw [md_nat, decide_eq_true hb] at C2
  have H1 := Lib.hid C1
  have H2 := Lib.hid C2
  have HL := Lib.hid hL
  clear C1 C2 hL
  go_enter Tryd.func9, Tryd.ntmps9
  go_wp2_with fail
  refine (H1.out _).mono ?_; rintro e w1 ⟨rfl, rfl⟩
  go_wp2_with fail
  refine (H2.out _).mono ?_; rintro e w1 ⟨rfl, rfl⟩
  go_wp2_with fail
  go_loopw [6, 16] (fun l i wr => ∃ k : Nat, k ≤ 7 ∧ i = .int .i64 (k : Int) ∧ l = .int .i64 (jn a b k : Int) ∧ Below w.heap.size w wr) (fun _ i _ => 7 - (intOf i).toNat)
  case atStart => exact ⟨0, by omega, rfl, rfl, Below.refl _ _⟩
  case round =>
    obtain ⟨k, hk, rfl, rfl, bel⟩ := hrel
    have HB := Lib.hid bel
    clear bel
    by_cases hc : k < 7
    · have c1 : (k : Int) < 7 := by omega
      have L1 := HL.out.step HB.out
      have K1 := Lib.hid (covers_in k a hc ha wr L1)
      have hj := jn_lt a b k hk
      have hn : jn a b (k + 1) = if covN k a && (covN k b && covN (jn a b k) k) then k else jn a b k := rfl
      have K2 := Lib.hid (fun wx hx => covers_in k b hc hb wx hx)
      have K3 := Lib.hid (fun wx hx => covers_in (jn a b k) k hj hc wx hx)
      have HN := Lib.hid hn
      have HL1 := Lib.hid L1
      generalize jn a b k = l at *
      clear hn L1 hj
      go_wp2_with fail
      refine K1.out.mono ?_; rintro e w1 ⟨rfl, b1⟩
      have L2 := HL1.out.step b1
      have B2 := HB.out.trans (b1.mono HB.out.size)
      cases g1 : covN k a
      · go_wp2_with fail
        exact ⟨⟨k + 1, by omega, by go_num, by rw [HN.out, g1]; rfl, B2⟩, by simp [intOf]; omega⟩
      · have HL2 := Lib.hid L2; have HB2 := Lib.hid B2
        clear L2 B2
        go_wp2_with fail
        refine (K2.out _ HL2.out).mono ?_; rintro e w2 ⟨rfl, b2⟩
        have L3 := HL2.out.step b2
        have B3 := HB2.out.trans (b2.mono HB2.out.size)
        cases g2 : covN k b
        · go_wp2_with fail
          exact ⟨⟨k + 1, by omega, by go_num, by rw [HN.out, g1, g2]; rfl, B3⟩, by simp [intOf]; omega⟩
        · have HL3 := Lib.hid L3; have HB3 := Lib.hid B3
          clear L3 B3
          go_wp2_with fail
          refine (K3.out _ HL3.out).mono ?_; rintro e w3 ⟨rfl, b3⟩
          have B4 := HB3.out.trans (b3.mono HB3.out.size)
          cases g3 : covN l k
          · go_wp2_with fail
            exact ⟨⟨k + 1, by omega, by go_num, by rw [HN.out, g1, g2, g3]; rfl, B4⟩, by simp [intOf]; omega⟩
          · go_wp2_with fail
            exact ⟨⟨k + 1, by omega, by go_num, by rw [HN.out, g1, g2, g3]; rfl, B4⟩, by simp [intOf]; omega⟩
    · obtain rfl : k = 7 := by omega
      go_wp2_with fail
      go_ret2
      exact ⟨rfl, HB.out⟩
theorem join_any (a b : Int) (w : World) (hL : Laid8 w) :
    Calls Tryd.prog 9 #[.int .i64 a, .int .i64 b] w fun e w' => e = .returned (.tuple #[.int .i64 (joV a b), .int .i64 (okE (md a && md b))]) ∧ Below w.heap.size w w' := by
  by_cases ha : md a = true
  · by_cases hb : md b = true
    · obtain ⟨x, hx, rfl⟩ := md_in ha
      obtain ⟨y, hy, rfl⟩ := md_in hb
      unfold joV
      rw [ha, hb]
      exact join_in x y hx hy w hL
    · have C1 := isMode_any a
      have C2 := isMode_any b
      unfold joV
      rw [ha, Bool.eq_false_iff.2 hb]
      rw [ha] at C1
      rw [Bool.eq_false_iff.2 hb] at C2
      have H1 := Lib.hid C1
      have H2 := Lib.hid C2
      clear C1 C2 ha hb
      go_enter Tryd.func9, Tryd.ntmps9
      go_wp2_with fail
      refine (H1.out _).mono ?_; rintro e w1 ⟨rfl, rfl⟩
      go_wp2_with fail
      refine (H2.out _).mono ?_; rintro e w1 ⟨rfl, rfl⟩
      go_wp2_with fail
      go_ret2
      exact ⟨rfl, Below.refl _ _⟩
  · have C1 := isMode_any a
    unfold joV
    rw [Bool.eq_false_iff.2 ha]
    rw [Bool.eq_false_iff.2 ha] at C1
    have H1 := Lib.hid C1
    clear C1 ha
    go_enter Tryd.func9, Tryd.ntmps9
    go_wp2_with fail
    refine (H1.out _).mono ?_; rintro e w1 ⟨rfl, rfl⟩
    go_wp2_with fail
    go_ret2
    exact ⟨rfl, Below.refl _ _⟩

/-- the first of the modes from k on whose name is s: at most 7 - k of them are looked at -/
def paN (s : ByteArray) : Nat → Option Nat
  | 0 => none
  | n + 1 => if nmS (6 - n) = s then some (6 - n) else paN s n
def paV (o : Option Nat) : Int := match o with | some m => (m : Int) | none => 0
def paE (o : Option Nat) : Int := match o with | some _ => 0 | none => 4
theorem paN_is (s : ByteArray) (n : Nat) (hn : n ≤ 7) (m : Nat) (h : paN s n = some m) : m < 7 ∧ nmS m = s := by
  induction n with
  | zero => cases h
  | succ n ih =>
    unfold paN at h
    split at h
    · rename_i g; cases h; exact ⟨by omega, g⟩
    · exact ih (by omega) h
theorem toList_beq8 (a b : ByteArray) : (a.toList == b.toList) = decide (a = b) := by
  rw [Lib.toList_data, Lib.toList_data, Bool.eq_iff_iff, beq_iff_eq, decide_eq_true_iff]
  exact ⟨fun h => ba_ext h, fun h => by rw [h]⟩
def names7 : Array Value := #[.string (nmS 0), .string (nmS 1), .string (nmS 2), .string (nmS 3), .string (nmS 4), .string (nmS 5), .string (nmS 6)]
theorem names7_at (k : Nat) (h : k < 7) : names7[k]? = some (.string (nmS k)) := by
  obtain rfl | rfl | rfl | rfl | rfl | rfl | rfl := seven k h
  all_goals rfl
/-- an index of an array of strings by value, in range -/
theorem run_index_array_in {P : Program} (t e : TypeId) (n : Nat) (cs : Array Value) (k : Nat) (v : Value) (w : World) (h : P.underlying t = some (.array n e)) (he : P.underlying e = some .string) (hi : (P.info? e).isSome = true) (h1 : P.cellsOf e = 1) (hk : k < n) (hv : cs[k]? = some v) :
    (Instr.index t (.agg cs) (.int .i64 (k : Int))).run P w = .ok v w := by
  have hn : (0 : Int) ≤ (k : Int) ∧ (k : Int) < (n : Int) := by omega
  have ha : ∀ w : World, (isAgg e).run P w = .ok false w := fun w => by simp [isAgg, run_underlying he, go_sem]
  obtain ⟨i, hi⟩ := Option.isSome_iff_exists.1 hi
  have hs : ∀ w : World, (sizeOf e).run P w = .ok 1 w := fun w => by rw [run_sizeOf w hi, h1]
  simp [Instr.index, run_underlying h, asIntOf, hn, hk, ha, hs, hv, go_sem]
set_option maxHeartbeats 4000000 in
theorem parse_any (s : ByteArray) (w : World) (hL : Laid8 w) :
    Calls Tryd.prog 13 #[.string s] w fun e w' => e = .returned (.tuple #[.int .i64 (paV (paN s 7)), .int .i64 (paE (paN s 7))]) ∧ w = w' := by
  have c0 := (hL 0 (by decide)).1
  have c1 := (hL 1 (by decide)).1
  have c2 := (hL 2 (by decide)).1
  have c3 := (hL 3 (by decide)).1
  have c4 := (hL 4 (by decide)).1
  have c5 := (hL 5 (by decide)).1
  have c6 := (hL 6 (by decide)).1
  obtain ⟨R, HR⟩ : ∃ R, Hid (paN s 7 = R) := ⟨_, Lib.hid rfl⟩
  rw [HR.out]
  go_enter Tryd.func13, Tryd.ntmps13
  go_wp2_with fail
  generalize hA : (#[.string (nmS 0), .string (nmS 1), .string (nmS 2), .string (nmS 3), .string (nmS 4), .string (nmS 5), .string (nmS 6)] : Array Value) = A
  have hz : A.size = 7 := by rw [← hA]; rfl
  have HA := Lib.hid (show ∀ k, k < 7 → A[k]? = some (.string (nmS k)) from fun k h => by rw [← hA]; exact names7_at k h)
  clear hA
  go_loop [7] (fun i => ∃ k : Nat, k ≤ 7 ∧ i = .int .i64 (k : Int) ∧ paN s (7 - k) = R) (fun i => 7 - (intOf i).toNat)
  case atStart => exact ⟨0, by omega, rfl, HR.out⟩
  case round =>
    clear c0 c1 c2 c3 c4 c5 c6
    obtain ⟨k, hk, rfl, hp⟩ := hrel
    by_cases hc : k < 7
    · have g1 : (k : Int) < 7 := by omega
      have g2 := run_index_array_in (P := Tryd.prog) 35 9 7 A k (.string (nmS k)) w (by kernel_rfl) (by kernel_rfl) (by kernel_rfl) (by kernel_rfl) hc (HA.out k hc)
      rw [show 7 - k = (6 - k) + 1 by omega] at hp
      unfold paN at hp
      rw [show 6 - (6 - k) = k by omega] at hp
      by_cases he : nmS k = s
      · rw [if_pos he] at hp
        subst hp
        have g3 : ((nmS k).toList == s.toList) = true := by rw [toList_beq8, decide_eq_true he]
        clear he
        generalize nmS k = N at *
        go_wp2_with fail
        go_ret2
        exact ⟨rfl, rfl⟩
      · rw [if_neg he] at hp
        have g3 : ((nmS k).toList == s.toList) = false := by rw [toList_beq8, decide_eq_false he]
        clear he
        generalize nmS k = N at *
        go_wp2_with fail
        exact ⟨⟨k + 1, by omega, by go_num, by rw [show 7 - (k + 1) = 6 - k by omega]; exact hp⟩, by simp [intOf]; omega⟩
    · obtain rfl : k = 7 := by omega
      subst hp
      go_wp2_with fail
      go_ret2
      exact ⟨rfl, rfl⟩
end Go.Proofs.YtnphgfcbdmhloaaDoor
