/-
  Package wal, and the document's answer to it: the contracts of the small calls: numbers at places, numbers as bytes.
  Package wal, and the document's answer to it: the contracts of a leaf's bytes, and of the small tests.
  strings.Builder, as far as the log writes with it: WriteString, String; and a log's records as bytes: the contracts of bytesOf, and of the document's Bytes and Need.
  The document's log (budwoodref06): the contracts of Bytes, Need.
  Rows of strings and of bytes; package wal: the contract of wholeRecords; the document's records.
  A half gone through as the program does: bytes of leaves of one age together, parted where a new age begins, and at the end. No program in this text.
  Package wal: the contract of readLeaf.
-/
import Derived.Test.YthjlbfijfpfohaaGB
import Derived.Test.YthjlbfijfpfohaaGC
import Derived.Test.YthjlbfijfpfohaaGA
import Derived.Shelf.Strings.Builder1
import Derived.Lib.AppendStr
import Derived.Laws.IdiomStrings
import Derived.BigQuiet
namespace Go.Proofs.Ythjlbfijfpfohaa
open Go.RowKit

/-- the bytes of a text -/
abbrev bl (s : ByteArray) : List UInt8 := s.data.toList
/-- a text of bytes -/
abbrev bt (l : List UInt8) : ByteArray := ⟨l.toArray⟩
theorem bl_bt (l : List UInt8) : bl (bt l) = l := by simp
theorem bt_bl (s : ByteArray) : bt (bl s) = s := by apply ba_ext; simp
theorem bt_size (l : List UInt8) : (bt l).size = l.length := by rw [Lib.size_eq]
theorem bl_length (s : ByteArray) : (bl s).length = s.size := (Lib.size_eq s).symm
/-- the number at a place -/
def numL (s : ByteArray) (a z : Nat) : Nat := Lib.leNat (((bl s).drop a).take z)
theorem numL_lt (s : ByteArray) (a z : Nat) : numL s a z < 256 ^ z := by
  refine Nat.lt_of_lt_of_le (leNat_lt _) (Nat.pow_le_pow_right (by omega) ?_)
  rw [List.length_take]; omega
theorem pow256le (z : Nat) (h : z ≤ 6) : 256 ^ z ≤ 281474976710656 := Nat.le_trans (Nat.pow_le_pow_right (by omega) h) (by decide)

set_option maxRecDepth 100000 in
set_option maxHeartbeats 400000 in
theorem wnumber (s : ByteArray) (a z : Nat) (x y : Int) (w : World) (hx : x = (a : Int)) (hy : y = (z : Int)) (hs : s.size ≤ 1000000) (h1 : 1 ≤ z) (h2 : z ≤ 6) (h : a + z ≤ s.size) :
    Calls Try.prog 59 #[.string s, .int .i64 x, .int .i64 y] w fun e w' => e = .returned (.int .i64 (numL s a z : Int)) ∧ w = w' := by
  have C := Lib.hid fun w => get_ok s x y w hs (errAt_ok.2 (by omega))
  have hn := numL_lt s a z
  have hp := pow256le z h2
  have e1 : Lib.leNat ((s.data.toList.drop x.toNat).take y.toNat) = numL s a z := by rw [hx, hy]; rfl
  rw [e1] at C
  generalize numL s a z = n at *
  have hn2 : n < 281474976710656 := by omega
  clear hp hn e1 h hs h1 h2 hx hy
  go_enter Try.func59, Try.ntmps59
  go_wp2_with fail
  refine (C.out _).mono ?_; rintro e w1 ⟨rfl, rfl⟩
  go_wp2
  go_ret
  exact ⟨by first | rfl | (congr 2; go_num) | go_num, rfl⟩
set_option maxRecDepth 100000 in
set_option maxHeartbeats 400000 in
theorem rat (s : ByteArray) (a z : Nat) (x y : Int) (w : World) (hx : x = (a : Int)) (hy : y = (z : Int)) (hs : s.size ≤ 1000000) (h1 : 1 ≤ z) (h2 : z ≤ 6) (h : a + z ≤ s.size) :
    Calls Try.prog 35 #[.string s, .int .i64 x, .int .i64 y] w fun e w' => e = .returned (.int .i64 (numL s a z : Int)) ∧ w = w' := by
  have C := Lib.hid fun w => rget_ok s x y w hs (errAt_ok.2 (by omega))
  have hn := numL_lt s a z
  have hp := pow256le z h2
  have e1 : Lib.leNat ((s.data.toList.drop x.toNat).take y.toNat) = numL s a z := by rw [hx, hy]; rfl
  rw [e1] at C
  generalize numL s a z = n at *
  have hn2 : n < 281474976710656 := by omega
  clear hp hn e1 h hs h1 h2 hx hy
  go_enter Try.func35, Try.ntmps35
  go_wp2_with fail
  refine (C.out _).mono ?_; rintro e w1 ⟨rfl, rfl⟩
  go_wp2
  go_ret
  exact ⟨by first | rfl | (congr 2; go_num) | go_num, rfl⟩

/-- a number's bytes, as a text -/
def numB (z n : Nat) : ByteArray := bt (Lib.leBytes z n)
theorem numB_size (z n : Nat) : (numB z n).size = z := by rw [numB, bt_size, Lib.leBytes_length]
set_option maxRecDepth 100000 in
set_option maxHeartbeats 400000 in
theorem wbytes (n z : Nat) (x y : Int) (w : World) (hx : x = (n : Int)) (hy : y = (z : Int)) (h1 : 1 ≤ z) (h2 : z ≤ 6) (h : n < 256 ^ z) :
    Calls Try.prog 81 #[.int .i64 x, .int .i64 y] w fun e w' => e = .returned (.string (numB z n)) ∧ Below w.heap.size w w' := by
  subst hx hy
  have hp := pow256le z h2
  have C1 := Lib.hid fun w => pad_ok ⟨#[]⟩ (z : Int) w (by omega) (by show (0 : Int) ≤ _; omega)
  have e1 : (⟨((⟨#[]⟩ : ByteArray).data.toList ++ List.replicate ((z : Int).toNat - (⟨#[]⟩ : ByteArray).size) 0).toArray⟩ : ByteArray) = padOf ⟨#[]⟩ z := by unfold padOf; rw [Int.toNat_natCast]
  rw [e1] at C1
  have hb : (padOf ⟨#[]⟩ z).size = z := padOf_size _ _ (Nat.zero_le _)
  have C2 := Lib.hid fun w => put_ok (padOf ⟨#[]⟩ z) 0 (z : Int) (n : Int) w (by rw [hb]; omega) (errAt_ok.2 (by rw [hb]; omega)) (by omega) (by rw [Int.toNat_natCast]; exact_mod_cast h)
  have e2 : (⟨(spliceB (padOf ⟨#[]⟩ z).data.toList (0 : Int).toNat (Lib.leBytes (z : Int).toNat (n : Int).toNat)).toArray⟩ : ByteArray) = numB z n := by
    rw [Int.toNat_natCast, Int.toNat_natCast, show (0 : Int).toNat = 0 from rfl, spliceB_whole _ _ (by rw [Lib.leBytes_length, ← Lib.size_eq, hb]; exact Nat.le_refl _)]; rfl
  rw [e2] at C2
  generalize padOf ⟨#[]⟩ z = P0 at *
  generalize numB z n = X at *
  have hn2 : (n : Int) < 281474976710656 := by omega
  have hn0 : (0 : Int) ≤ (n : Int) := by omega
  clear hp h h1 h2 e1 e2 hb
  go_enter Try.func81, Try.ntmps81
  go_wp2_with fail
  refine (C1.out _).mono ?_; rintro e w1 ⟨rfl, b1⟩
  have B1 := Lib.hid b1; clear b1
  go_wp2_with fail
  refine (C2.out _).mono ?_; rintro e w2 ⟨rfl, b2⟩
  go_wp2
  go_ret
  exact ⟨rfl, B1.out.trans (b2.mono B1.out.size)⟩
set_option maxRecDepth 100000 in
set_option maxHeartbeats 400000 in
theorem rnum (n z : Nat) (x y : Int) (w : World) (hx : x = (n : Int)) (hy : y = (z : Int)) (h1 : 1 ≤ z) (h2 : z ≤ 6) (h : n < 256 ^ z) :
    Calls Try.prog 66 #[.int .i64 x, .int .i64 y] w fun e w' => e = .returned (.string (numB z n)) ∧ Below w.heap.size w w' := by
  subst hx hy
  have hp := pow256le z h2
  obtain ⟨S, hS⟩ : ∃ S : ByteArray, S = ⟨#[32, 32, 32, 32, 32, 32]⟩ := ⟨_, rfl⟩
  have hS6 : S.size = 6 := by rw [hS]; rfl
  obtain ⟨P0, hP⟩ : ∃ P : ByteArray, P = S.extract 0 z := ⟨_, rfl⟩
  have hb : P0.size = z := by rw [hP, ByteArray.size_extract, hS6]; omega
  have C2 := Lib.hid fun w => rput_ok P0 0 (z : Int) n w (by rw [hb]; omega) (errAt_ok.2 (by rw [hb]; omega)) (by omega) (by rw [Int.toNat_natCast]; exact h)
  have e2 : (⟨(spliceB P0.data.toList (0 : Int).toNat (Lib.leBytes (z : Int).toNat n)).toArray⟩ : ByteArray) = numB z n := by
    rw [Int.toNat_natCast, show (0 : Int).toNat = 0 from rfl, spliceB_whole _ _ (by rw [Lib.leBytes_length, ← Lib.size_eq, hb]; exact Nat.le_refl _)]; rfl
  rw [e2] at C2
  generalize numB z n = X at *
  have hn2 : (n : Int) < 281474976710656 := by omega
  have hn0 : (0 : Int) ≤ (n : Int) := by omega
  have hz0 : (0 : Int) ≤ (z : Int) := by omega
  have hz6 : (z : Int) ≤ 6 := by omega
  have hz7 : (z : Int) ≤ (S.size : Int) := by omega
  clear hp h h1 h2 e2 hb
  have HS := Lib.hid hS; have HP := Lib.hid hP; clear hS hP
  have hsl : ∀ W, (Instr.slice 9 (.string ⟨#[32, 32, 32, 32, 32, 32]⟩) none (some (.int .i64 (z : Int))) none).run Try.prog W = .ok (.string P0) W := by
    intro W
    rw [← HS.out, HP.out]
    rw [run_slice_string_to_if _ _ _ _ _ Try.underlying9]
    simp [go_sem, hz0, hz7]
  go_enter Try.func66, Try.ntmps66
  go_wp2_with fail
  refine (C2.out _).mono ?_; rintro e w2 ⟨rfl, b2⟩
  go_wp2
  go_ret
  exact ⟨rfl, b2⟩
end Go.Proofs.Ythjlbfijfpfohaa

namespace Go.Proofs.Ythjlbfijfpfohaa
open Go.RowKit

set_option maxRecDepth 100000 in
theorem wisRecord_yes (s : ByteArray) (w : World) (h1 : 1 ≤ s.size) (h2 : s.size ≤ 100000) : Calls Try.prog 36 #[.string s] w fun e w' => e = .returned (.bool true) ∧ w = w' := by
  have d1 : (1 : Int) ≤ (s.size : Int) := by omega
  have d2 : decide ((s.size : Int) ≤ 100000) = true := decide_eq_true (by omega)
  clear h1 h2
  go_enter Try.func36, Try.ntmps36
  go_wp2
  go_ret
  exact ⟨rfl, rfl⟩
set_option maxRecDepth 100000 in
theorem wisRecord_no (s : ByteArray) (w : World) (h : s.size < 1 ∨ 100000 < s.size) : Calls Try.prog 36 #[.string s] w fun e w' => e = .returned (.bool false) ∧ w = w' := by
  by_cases h1 : 1 ≤ s.size
  · have d1 : (1 : Int) ≤ (s.size : Int) := by omega
    have d2 : decide ((s.size : Int) ≤ 100000) = false := decide_eq_false (by omega)
    clear h h1
    go_enter Try.func36, Try.ntmps36
    go_wp2
    go_ret
    exact ⟨rfl, rfl⟩
  · have d1 : ¬ (1 : Int) ≤ (s.size : Int) := by omega
    clear h h1
    go_enter Try.func36, Try.ntmps36
    go_wp2
    go_ret
    exact ⟨rfl, rfl⟩
set_option maxRecDepth 100000 in
theorem wfits (n m : Nat) (x y : Int) (w : World) (hx : x = (n : Int)) (hy : y = (m : Int)) (hm : m ≤ 1000000) : Calls Try.prog 37 #[.int .i64 x, .int .i64 y] w fun e w' => e = .returned (.bool (decide (n ≤ m * 234))) ∧ w = w' := by
  subst hx hy
  have e1 : decide ((n : Int) ≤ (m : Int) * 234) = decide (n ≤ m * 234) := by
    by_cases h : n ≤ m * 234
    · rw [decide_eq_true h, decide_eq_true (by omega)]
    · rw [decide_eq_false h, decide_eq_false (by omega)]
  go_enter Try.func37, Try.ntmps37
  go_wp2
  go_ret
  exact ⟨by first | rfl | (rw [← e1]), rfl⟩
/-- a block and what lies in it -/
def At (w : World) (B : Nat) (cs : Array Value) (T : TypeId) : Prop := w.heap[B]? = some (.cells cs T (0, 0))
theorem At.new (w : World) (cs : Array Value) (T : TypeId) : At (w.alloc (.cells cs T)) w.heap.size cs T := heap_alloc_new w _
theorem At.cell {w : World} {B : Nat} {cs : Array Value} {T : TypeId} (h : At w B cs T) (j : Nat) : w.cell? ⟨B, j, none⟩ = cs[j]? := Lib.cell_of_heap h j
theorem At.fz {w : World} {B : Nat} {cs : Array Value} {T : TypeId} (h : At w B cs T) (j : Nat) : w.frozen? ⟨B, j, none⟩ = false := Lib.frozen_of_heap h j
theorem At.lt {w : World} {B : Nat} {cs : Array Value} {T : TypeId} (h : At w B cs T) : B < w.heap.size := (Array.getElem?_eq_some_iff.1 h).1
theorem At.drew {w : World} {B : Nat} {cs : Array Value} {T : TypeId} (h : At w B cs T) : At w.drew B cs T := h
theorem At.below {w w' : World} {B n : Nat} {cs : Array Value} {T : TypeId} (h : At w B cs T) (b : Below n w w') (hB : B < n) : At w' B cs T := (b.block B hB).trans h
theorem At.reads {w w' : World} {B : Nat} {cs : Array Value} {T : TypeId} (h : At w B cs T) (b : Below w.heap.size w w') : At w' B cs T := h.below b h.lt
theorem At.set {w : World} {B : Nat} {cs : Array Value} {T : TypeId} (h : At w B cs T) (j : Nat) (v : Value) : At (w.setCell ⟨B, j, none⟩ v) B (cs.setIfInBounds j v) T := heap_setCell_at w B j cs T v h
theorem At.setOther {w : World} {B g : Nat} {cs : Array Value} {T : TypeId} (h : At w B cs T) (j : Nat) (v : Value) (hne : g ≠ B) : At (w.setCell ⟨g, j, none⟩ v) B cs T :=
  (Below.heap_setCell w ⟨g, j, none⟩ v B (fun e => hne e.symm)).trans h
theorem bdrew {w w' : World} {n : Nat} (h : Below n w.drew w') : Below n w w' := ⟨h.os, h.tape, h.output, h.size, h.block⟩
/-- a leaf's bytes, as a text -/
def leafB (A i : Nat) (b : Bool) (s : ByteArray) : ByteArray := bt (leafL A i b (bl s))
theorem leafB_size (A i : Nat) (b : Bool) (s : ByteArray) (h : s.size ≤ 234) : (leafB A i b s).size = 252 := by rw [leafB, bt_size, leafL_length _ _ _ _ (by rw [bl_length]; exact h)]
theorem leafB_parts (A i : Nat) (b : Bool) (s : ByteArray) (h : s.size ≤ 234) : leafB A i b s = (numB 6 A ++ numB 2 i) ++ numB 1 (if b then 1 else 0) ++ numB 1 s.size ++ padOf s 234 ++ (numB 6 A ++ numB 2 i) := by
  apply ba_ext
  simp only [ByteArray.data_append, Array.toList_append, leafB, leafL, nameL, numB, padOf]
  have e1 : Lib.leBytes 1 (if b then 1 else 0) = [if b then 1 else 0] := by cases b <;> rfl
  have e2 : Lib.leBytes 1 s.size = [s.size.toUInt8] := by
    show [(s.size % 256).toUInt8] = [s.size.toUInt8]
    rw [Nat.mod_eq_of_lt (by omega)]
  rw [bl_length]
  cases b <;> simp_all
set_option maxRecDepth 100000 in
set_option maxHeartbeats 1000000 in
theorem wleafBytes (A i : Nat) (b : Bool) (s : ByteArray) (w : World) (hA : A < 281474976710656) (hi : i < 65536) (hs : s.size ≤ 234) :
    Calls Try.prog 69 #[.agg #[.int .i64 (A : Int), .int .i64 (i : Int), .bool b, .string s]] w fun e w' => e = .returned (.string (leafB A i b s)) ∧ Below w.heap.size w w' := by
  have C1 := Lib.hid fun w => wbytes A 6 (A : Int) 6 w rfl rfl (by omega) (by omega) (by omega)
  have C2 := Lib.hid fun w => wbytes i 2 (i : Int) 2 w rfl rfl (by omega) (by omega) (by omega)
  have C3 := Lib.hid fun w => wbytes (if b then 1 else 0) 1 (if b then 1 else 0) 1 w (by cases b <;> rfl) rfl (by omega) (by omega) (by cases b <;> decide)
  have C4 := Lib.hid fun w => wbytes s.size 1 (s.size : Int) 1 w rfl rfl (by omega) (by omega) (by omega)
  have C5 := Lib.hid fun w => pad_ok s 234 w (by omega) (by omega)
  have HP := Lib.hid (leafB_parts A i b s hs)
  have e5 : (⟨(s.data.toList ++ List.replicate ((234 : Int).toNat - s.size) 0).toArray⟩ : ByteArray) = padOf s 234 := rfl
  rw [e5] at C5
  have z1 := numB_size 6 A; have z2 := numB_size 2 i; have z3 := numB_size 1 (if b then 1 else 0); have z4 := numB_size 1 s.size; have z5 := padOf_size s 234 hs
  obtain ⟨x, hx⟩ : ∃ x : Int, Hid (((if b then 1 else 0 : Nat) : Int) = x) := ⟨_, rfl⟩
  generalize numB 6 A = N1 at *
  generalize numB 2 i = N2 at *
  generalize numB 1 (if b then 1 else 0) = N3 at *
  generalize numB 1 s.size = N4 at *
  generalize padOf s 234 = N5 at *
  generalize leafB A i b s = X at *
  have HA0 := Lib.hid (At.new w #[.int .i64 (A : Int), .int .i64 (i : Int), .bool b, .string s] 100)
  have HB0 := Lib.hid ((Below.refl w.heap.size w).alloc (Nat.le_refl _) (.cells #[.int .i64 (A : Int), .int .i64 (i : Int), .bool b, .string s] 100))
  have g2 : (w.alloc (.cells #[.int .i64 (A : Int), .int .i64 (i : Int), .bool b, .string s] 100)).cell? ⟨w.heap.size, 2, none⟩ = some (.bool b) := HA0.out.cell 2
  have hlt := HA0.out.lt
  clear hA hi e5
  go_enter Try.func69, Try.ntmps69
  cases b
  all_goals
    go_wp2_with fail
    clear g2
    simp only [Bool.false_eq_true, if_false, if_true] at C3
    generalize w.alloc (.cells #[.int .i64 (A : Int), .int .i64 (i : Int), .bool _, .string s] 100) = W0 at *
    generalize hBq : w.heap.size = B at *
    have K0 := Lib.hid (show W0.drew.cell? ⟨B, 0, none⟩ = some (.int .i64 (A : Int)) ∧ W0.drew.cell? ⟨B, 1, none⟩ = some (.int .i64 (i : Int)) from ⟨HA0.out.drew.cell 0, HA0.out.drew.cell 1⟩)
    go_region_held3 (fun W => W.cell? ⟨B, 0, none⟩ = some (.int .i64 (A : Int)) ∧ W.cell? ⟨B, 1, none⟩ = some (.int .i64 (i : Int))) (first | exact K0.out | exact K1.out | exact K2.out)
      (first
        | (go_at_call 81; ((with_reducible refine (C1.out _).mono ?_); rintro e w1 ⟨rfl, b1⟩; have HA1 := Lib.hid (HA0.out.drew.below b1 hlt); have K1 := Lib.hid (And.intro (HA1.out.cell 0) (HA1.out.cell 1))))
        | (go_at_call 81; ((with_reducible refine (C2.out _).mono ?_); rintro e w2 ⟨rfl, b2⟩; have HA2 := Lib.hid (HA1.out.below b2 (Nat.lt_of_lt_of_le hlt b1.size)); have K2 := Lib.hid (And.intro (HA2.out.cell 0) (HA2.out.cell 1)))))
    have B2 := Lib.hid ((HB0.out.trans ((bdrew b1).mono (Nat.le_of_lt hlt))).trans (b2.mono (Nat.le_trans (Nat.le_of_lt hlt) b1.size)))
    have hl2 : B < w2.heap.size := HA2.out.lt
    have g3 : w2.cell? ⟨B, 3, none⟩ = some (.string s) := HA2.out.cell 3
    clear HA0 HB0 hlt K0 HA1 K1 K2 b1 b2 C1 C2
    have HP2 := HP.out
    generalize hM : N1 ++ N2 = M at *
    have zM : M.size = 8 := by rw [← hM, ByteArray.size_append, z1, z2]
    clear hM
    have HP := Lib.hid HP2; clear HP2
    go_wp2_with fail
    refine (C5.out _).mono ?_; rintro e w3 ⟨rfl, b3⟩
    have HA3 := Lib.hid (HA2.out.reads b3)
    have B3 := Lib.hid (B2.out.trans (b3.mono (Nat.le_of_lt hl2)))
    have hl3 : B < w3.heap.size := HA3.out.lt
    clear g3 HA2 B2 hl2 b3 C5
    go_wp2_with fail
    have KA := Lib.hid (show w3.drew.cell? ⟨B, 3, none⟩ = some (.string s) from HA3.out.drew.cell 3)
    have m1 : ¬ 9223372036854775807 < M.size + N3.size := by omega
    have m2 : ¬ 9223372036854775807 < M.size + N3.size + N4.size := by omega
    have m3 : ¬ 9223372036854775807 < M.size + N3.size + N4.size + N5.size := by omega
    have m4 : ¬ 9223372036854775807 < M.size + N3.size + N4.size + N5.size + M.size := by omega
    go_region_held3 (fun W => W.cell? ⟨B, 3, none⟩ = some (.string s)) (first | exact KA.out | exact KB.out | exact KC.out)
      (first
        | (go_at_call 81; ((with_reducible refine (C3.out _).mono ?_); rintro e w4 ⟨rfl, b4⟩; have HA4 := Lib.hid (HA3.out.drew.below b4 hl3); have KB := Lib.hid (HA4.out.cell 3)))
        | (go_at_call 81; ((with_reducible refine (C4.out _).mono ?_); rintro e w5 ⟨rfl, b5⟩; have HA5 := Lib.hid (HA4.out.below b5 (Nat.lt_of_lt_of_le hl3 b4.size)); have KC := Lib.hid (HA5.out.cell 3))))
    go_wp2
    go_ret
    refine ⟨by rw [HP.out]; rfl, ?_⟩
    rw [hBq]; exact (B3.out.trans ((bdrew b4).mono (Nat.le_of_lt hl3))).trans (b5.mono (Nat.le_trans (Nat.le_of_lt hl3) b4.size))
set_option maxRecDepth 100000 in
set_option maxHeartbeats 1000000 in
theorem rText (A i : Nat) (b : Bool) (s : ByteArray) (w : World) (hA : A < 281474976710656) (hi : i < 65536) (hs : s.size ≤ 234) :
    Calls Try.prog 71 #[.agg #[.int .i64 (A : Int), .int .i64 (i : Int), .bool b, .string s]] w fun e w' => e = .returned (.string (leafB A i b s)) ∧ Below w.heap.size w w' := by
  have C1 := Lib.hid fun w => rnum A 6 (A : Int) 6 w rfl rfl (by omega) (by omega) (by omega)
  have C2 := Lib.hid fun w => rnum i 2 (i : Int) 2 w rfl rfl (by omega) (by omega) (by omega)
  have C3 := Lib.hid fun w => rnum (if b then 1 else 0) 1 (if b then 1 else 0) 1 w (by cases b <;> rfl) rfl (by omega) (by omega) (by cases b <;> decide)
  have C4 := Lib.hid fun w => rnum s.size 1 (s.size : Int) 1 w rfl rfl (by omega) (by omega) (by omega)
  have C5 := Lib.hid fun w => rpad_ok s 234 w (by omega) (by omega)
  have HP := Lib.hid (leafB_parts A i b s hs)
  have e5 : (⟨(s.data.toList ++ List.replicate ((234 : Int).toNat - s.size) 0).toArray⟩ : ByteArray) = padOf s 234 := rfl
  rw [e5] at C5
  have z1 := numB_size 6 A; have z2 := numB_size 2 i; have z3 := numB_size 1 (if b then 1 else 0); have z4 := numB_size 1 s.size; have z5 := padOf_size s 234 hs
  obtain ⟨x, hx⟩ : ∃ x : Int, Hid (((if b then 1 else 0 : Nat) : Int) = x) := ⟨_, rfl⟩
  generalize numB 6 A = N1 at *
  generalize numB 2 i = N2 at *
  generalize numB 1 (if b then 1 else 0) = N3 at *
  generalize numB 1 s.size = N4 at *
  generalize padOf s 234 = N5 at *
  generalize leafB A i b s = X at *
  have HA0 := Lib.hid (At.new w #[.int .i64 (A : Int), .int .i64 (i : Int), .bool b, .string s] 105)
  have HB0 := Lib.hid ((Below.refl w.heap.size w).alloc (Nat.le_refl _) (.cells #[.int .i64 (A : Int), .int .i64 (i : Int), .bool b, .string s] 105))
  have g2 : (w.alloc (.cells #[.int .i64 (A : Int), .int .i64 (i : Int), .bool b, .string s] 105)).cell? ⟨w.heap.size, 2, none⟩ = some (.bool b) := HA0.out.cell 2
  have hlt := HA0.out.lt
  clear hA hi e5
  go_enter Try.func71, Try.ntmps71
  cases b
  all_goals
    go_wp2_with fail
    clear g2
    simp only [Bool.false_eq_true, if_false, if_true] at C3
    generalize w.alloc (.cells #[.int .i64 (A : Int), .int .i64 (i : Int), .bool _, .string s] 105) = W0 at *
    generalize hBq : w.heap.size = B at *
    have K0 := Lib.hid (show W0.drew.cell? ⟨B, 0, none⟩ = some (.int .i64 (A : Int)) ∧ W0.drew.cell? ⟨B, 1, none⟩ = some (.int .i64 (i : Int)) from ⟨HA0.out.drew.cell 0, HA0.out.drew.cell 1⟩)
    go_region_held3 (fun W => W.cell? ⟨B, 0, none⟩ = some (.int .i64 (A : Int)) ∧ W.cell? ⟨B, 1, none⟩ = some (.int .i64 (i : Int))) (first | exact K0.out | exact K1.out | exact K2.out)
      (first
        | (go_at_call 66; ((with_reducible refine (C1.out _).mono ?_); rintro e w1 ⟨rfl, b1⟩; have HA1 := Lib.hid (HA0.out.drew.below b1 hlt); have K1 := Lib.hid (And.intro (HA1.out.cell 0) (HA1.out.cell 1))))
        | (go_at_call 66; ((with_reducible refine (C2.out _).mono ?_); rintro e w2 ⟨rfl, b2⟩; have HA2 := Lib.hid (HA1.out.below b2 (Nat.lt_of_lt_of_le hlt b1.size)); have K2 := Lib.hid (And.intro (HA2.out.cell 0) (HA2.out.cell 1)))))
    have B2 := Lib.hid ((HB0.out.trans ((bdrew b1).mono (Nat.le_of_lt hlt))).trans (b2.mono (Nat.le_trans (Nat.le_of_lt hlt) b1.size)))
    have hl2 : B < w2.heap.size := HA2.out.lt
    have g3 : w2.cell? ⟨B, 3, none⟩ = some (.string s) := HA2.out.cell 3
    clear HA0 HB0 hlt K0 HA1 K1 K2 b1 b2 C1 C2
    have HP2 := HP.out
    generalize hM : N1 ++ N2 = M at *
    have zM : M.size = 8 := by rw [← hM, ByteArray.size_append, z1, z2]
    clear hM
    have HP := Lib.hid HP2; clear HP2
    go_wp2_with fail
    refine (C5.out _).mono ?_; rintro e w3 ⟨rfl, b3⟩
    have HA3 := Lib.hid (HA2.out.reads b3)
    have B3 := Lib.hid (B2.out.trans (b3.mono (Nat.le_of_lt hl2)))
    have hl3 : B < w3.heap.size := HA3.out.lt
    clear g3 HA2 B2 hl2 b3 C5
    go_wp2_with fail
    have KA := Lib.hid (show w3.drew.cell? ⟨B, 3, none⟩ = some (.string s) from HA3.out.drew.cell 3)
    have m1 : ¬ 9223372036854775807 < M.size + N3.size := by omega
    have m2 : ¬ 9223372036854775807 < M.size + N3.size + N4.size := by omega
    have m3 : ¬ 9223372036854775807 < M.size + N3.size + N4.size + N5.size := by omega
    have m4 : ¬ 9223372036854775807 < M.size + N3.size + N4.size + N5.size + M.size := by omega
    go_region_held3 (fun W => W.cell? ⟨B, 3, none⟩ = some (.string s)) (first | exact KA.out | exact KB.out | exact KC.out)
      (first
        | (go_at_call 66; ((with_reducible refine (C3.out _).mono ?_); rintro e w4 ⟨rfl, b4⟩; have HA4 := Lib.hid (HA3.out.drew.below b4 hl3); have KB := Lib.hid (HA4.out.cell 3)))
        | (go_at_call 66; ((with_reducible refine (C4.out _).mono ?_); rintro e w5 ⟨rfl, b5⟩; have HA5 := Lib.hid (HA4.out.below b5 (Nat.lt_of_lt_of_le hl3 b4.size)); have KC := Lib.hid (HA5.out.cell 3))))
    go_wp2
    go_ret
    refine ⟨by rw [HP.out]; rfl, ?_⟩
    rw [hBq]; exact (B3.out.trans ((bdrew b4).mono (Nat.le_of_lt hl3))).trans (b5.mono (Nat.le_trans (Nat.le_of_lt hl3) b4.size))
end Go.Proofs.Ythjlbfijfpfohaa

namespace Go.Proofs.Ythjlbfijfpfohaa
open Go.RowKit Go.Shelf

def bldRen : Go.Shelf.Ren := ⟨fun | 169 => 82 | n => n, fun | 70 => 124 | 9 => 9 | 0 => 0 | 72 => 126 | 37 => 91 | 127 => 123 | 3 => 3 | 5 => 5 | n => n, fun | n => n⟩
theorem bldLays : Go.Proofs.Lays.n169 Try.prog bldRen := {
  mixed := by kernel_rfl
  f169 := Try.func82.trans (congrArg some (by kernel_rfl))
  t0 := Try.underlying0
  a0 := Try.isAgg0
  z0 := Try.sizeOf0
  v0 := Try.zeroValue0
  t3 := Try.underlying3
  a3 := Try.isAgg3
  z3 := Try.sizeOf3
  v3 := Try.zeroValue3
  t9 := Try.underlying9
  a9 := Try.isAgg9
  z9 := Try.sizeOf9
  v9 := Try.zeroValue9
  t37 := Try.underlying91
  a37 := Try.isAgg91
  z37 := Try.sizeOf91
  v37 := Try.zeroValue91
  t70 := Try.underlying124
  a70 := Try.isAgg124
  z70 := Try.sizeOf124
  v70 := Try.zeroValue124
  t72 := Try.underlying126
  a72 := Try.isAgg126
  z72 := Try.sizeOf126
  v72 := Try.zeroValue126
  t127 := Try.underlying123
  a127 := Try.isAgg123
  z127 := Try.sizeOf123
  v127 := Try.zeroValue123 }
theorem bldExtra : Builder.Extra Try.prog bldRen := {
  sizeBuilder := by kernel_rfl
  liesBuilder := by kernel_rfl
  t5 := Try.underlying5
  a5 := Try.isAgg5
  z5 := Try.sizeOf5
  v5 := Try.zeroValue5
  infoByte := by kernel_rfl
  cellsByte := by kernel_rfl
  sizeByte := by kernel_rfl
  neB5 := by decide }
theorem bldString (B b : Nat) (l : List UInt8) (w : World) (h : Lib.IsBuilder 126 5 B b (Lib.byteCells l) w) (hBw : B ≤ w.heap.size) :
    Calls Try.prog 82 #[.pointer (some ⟨b, 0, none⟩)] w fun e w' => e = .returned (.string ⟨l.toArray⟩) ∧ Below B w w' := Any.Builder_String_any bldLays bldExtra B b l w h hBw
set_option maxRecDepth 100000 in
set_option maxHeartbeats 1000000 in
theorem bldUsed (b : Nat) (w : World) (h0 : w.cell? ⟨b, 0, none⟩ = some (.pointer (some ⟨b, 0, none⟩))) :
    Calls Try.prog 88 #[.pointer (some ⟨b, 0, none⟩)] w fun e w' => e = .returned (.tuple #[]) ∧ w' = w := by
  obtain ⟨j, hj, _⟩ := Option.map_eq_some_iff.1 bldExtra.sizeBuilder
  have hnq := Lib.run_neq_ptr_same w ⟨b, 0, none⟩ Try.underlying124 hj
  go_enter Try.func88, Try.ntmps88
  go_wp2
  go_end0
  exact ⟨rfl, rfl⟩
set_option maxRecDepth 100000 in
set_option maxHeartbeats 1000000 in
theorem bldFresh (b : Nat) (w : World) (h0 : w.cell? ⟨b, 0, none⟩ = some (.pointer none)) (hsh : w.shape? b = some (126, 2)) (hfz : w.frozen? ⟨b, 0, none⟩ = false) :
    Calls Try.prog 88 #[.pointer (some ⟨b, 0, none⟩)] w fun e w' => e = .returned (.tuple #[]) ∧ w' = w.setCell ⟨b, 0, none⟩ (.pointer (some ⟨b, 0, none⟩)) := by
  obtain ⟨j, hj, hjs⟩ := Option.map_eq_some_iff.1 bldExtra.sizeBuilder
  go_enter Try.func88, Try.ntmps88
  go_wp2
  rw [Lib.run_to_unsafe w ⟨b, 0, none⟩ Try.underlying124 Try.underlying134 hj (by rw [hjs]; decide) hsh (Nat.zero_lt_succ 1)]
  simp only [Result.andThen]
  rw [Oper.upon_value]
  go_wp2
  rw [run_callFunc_extern Try.func89 (by kernel_rfl) (by kernel_rfl) (by kernel_rfl) (e := Extern.AbiNoEscape.same) (by kernel_rfl)]
  rw [Lib.run_noEscape]
  simp only [Result.andThen]
  rw [Oper.upon_value]
  go_wp2
  rw [Lib.run_from_unsafe w ⟨b, 0, none⟩ Try.underlying134 Try.underlying124 hj hsh bldExtra.liesBuilder]
  simp only [Result.andThen]
  rw [Oper.upon_value]
  go_wp2
  go_end0
  exact ⟨rfl, rfl⟩
theorem bldCheck (B b : Nat) (bs : List Value) (w : World) (h : Lib.IsBuilder 126 5 B b bs w) :
    Calls Try.prog 88 #[.pointer (some ⟨b, 0, none⟩)] w fun e w' => e = .returned (.tuple #[]) ∧ (Lib.BuilderAt 126 5 B b (.pointer (some ⟨b, 0, none⟩)) bs w' ∧ Below B w w') := by
  rcases h with h | h
  · refine (bldFresh b w h.cell0 h.shape h.frozen0).mono ?_
    rintro e w' ⟨rfl, rfl⟩
    exact ⟨rfl, h.used _, (Below.refl B w).setCell (p := ⟨b, 0, none⟩) h.1 _⟩
  · refine (bldUsed b w h.cell0).mono ?_
    rintro e w' ⟨rfl, rfl⟩
    exact ⟨rfl, h, Below.refl B _⟩
set_option maxRecDepth 100000 in
set_option maxHeartbeats 1000000 in
theorem bldWrite (B b : Nat) (bs : List Value) (s : ByteArray) (w : World) (h : Lib.IsBuilder 126 5 B b bs w) (hlen : bs.length + s.size ≤ 140737488355328) (hBw : B ≤ w.heap.size) :
    Calls Try.prog 80 #[.pointer (some ⟨b, 0, none⟩), .string s] w fun e w' => e = .returned (.tuple #[.int .i64 s.size, .nilIface]) ∧ (Lib.BuilderAt 126 5 B b (.pointer (some ⟨b, 0, none⟩)) (bs ++ Lib.strCells s) w' ∧ Below B w w') := by
  obtain ⟨i0, hi, hz0, hz1, hz2⟩ := info_parts bldExtra.infoByte
  go_enter Try.func80, Try.ntmps80
  go_wp2_with (go_at_call 88; refine (bldCheck B b bs _ h).mono ?_)
  rintro e w1 ⟨rfl, h1, hb1⟩
  obtain ⟨hB, v, hbk, hown, hne⟩ := h1
  have c0 : w1.cell? ⟨b, 0, none⟩ = some (.pointer (some ⟨b, 0, none⟩)) := by rw [Lib.cell_of_heap hbk]; rfl
  have c1 : w1.cell? ⟨b, 1, none⟩ = some v := by rw [Lib.cell_of_heap hbk]; rfl
  go_wp2_with (at_builtin; refine Lib.wpList_append_own_string _ rfl _ _ 91 9 rfl B 5 i0 Try.underlying91 Try.underlying9 hi hz0 hz1 hz2 _ _ _ rfl hown s rfl ?c3 ?c4 ?c5 ?_)
  case c3 => unfold maxLen; omega
  case c4 => omega
  case c5 => have := hb1.size; omega
  intro v' w2 hown' hgrow _
  have hlt : b < w1.heap.size := by
    rcases Nat.lt_or_ge b w1.heap.size with h' | h'
    · exact h'
    · simp [Array.getElem?_eq_none h'] at hbk
  have hb2 : w2.heap[b]? = some (.cells #[.pointer (some ⟨b, 0, none⟩), v] 126 (0, 0)) := by
    rw [hgrow.block b hlt (fun e => hne e.symm)]
    exact hbk
  have d0 : w2.cell? ⟨b, 0, none⟩ = some (.pointer (some ⟨b, 0, none⟩)) := by rw [Lib.cell_of_heap hb2]; rfl
  have d1 : w2.cell? ⟨b, 1, none⟩ = some v := by rw [Lib.cell_of_heap hb2]; rfl
  have f1 : w2.frozen? ⟨b, 1, none⟩ = false := Lib.frozen_of_heap hb2 1
  obtain ⟨ao, n', cap, rfl⟩ : ∃ ao n' cap, v' = .slice ao n' cap := by
    rcases hown'.2 with ⟨hv, _⟩ | ⟨g, cap, cur, hv, _⟩
    · exact ⟨_, _, _, hv⟩
    · exact ⟨_, _, _, hv⟩
  go_wp2
  go_ret2
  refine ⟨rfl, ?_, ?_⟩
  · exact Lib.BuilderAt.put (T := 126) (e := 5) hB hb2 (bs' := bs ++ Lib.strCells s) (by simpa [Lib.strCells_length] using hown') (by decide)
  · exact (hb1.grown hgrow (by have := hb1.size; omega) (fun k hk => (hown.lt k hk).1)).setCell (p := ⟨b, 1, none⟩) hB _
/-- a slice of strings, where it lies -/
def Strs (w : World) (a : Option Addr) (R : List ByteArray) : Prop := ∀ k s, R[k]? = some s → ∃ b off, a = some ⟨b, off, none⟩ ∧ w.cell? ⟨b, off + k, none⟩ = some (.string s)
theorem Strs.below {w w' : World} {a : Option Addr} {R : List ByteArray} (h : Strs w a R) (b : Below w.heap.size w w') : Strs w' a R := fun k s hs => by
  obtain ⟨g, off, e, hc⟩ := h k s hs
  exact ⟨g, off, e, (b.cell (p := ⟨g, off + k, none⟩) (World.block_lt_of_cell? w _ hc)).trans hc⟩
theorem Strs.at {w : World} {a : Option Addr} {R : List ByteArray} (h : Strs w a R) {k : Nat} (hk : k < R.length) : ∃ b off, a = some ⟨b, off, none⟩ ∧ w.cell? ⟨b, off + k, none⟩ = some (.string (R.getD k ⟨#[]⟩)) ∧ R[k]? = some (R.getD k ⟨#[]⟩) := by
  have e : R[k]? = some (R.getD k ⟨#[]⟩) := by rw [List.getD_eq_getElem?_getD, List.getElem?_eq_getElem hk]; rfl
  obtain ⟨b, off, e1, e2⟩ := h k _ e
  exact ⟨b, off, e1, e2, e⟩
/-- records as bytes -/
def recsB (R : List ByteArray) : List UInt8 := recsL (R.map bl)
theorem recsB_nil : recsB [] = [] := rfl
theorem recsB_append (A B : List ByteArray) : recsB (A ++ B) = recsB A ++ recsB B := by unfold recsB; rw [List.map_append, recsL_append]
theorem recsB_one (s : ByteArray) : recsB [s] = Lib.leBytes 3 s.size ++ bl s := by unfold recsB recsL; simp [recL]
theorem recsB_take (R : List ByteArray) (k : Nat) (s : ByteArray) (h : R[k]? = some s) : recsB (R.take (k + 1)) = recsB (R.take k) ++ (Lib.leBytes 3 s.size ++ bl s) := by
  rw [List.take_add_one, h, Option.toList_some, recsB_append, recsB_one]
theorem recsB_take_le (R : List ByteArray) (k : Nat) : (recsB (R.take k)).length ≤ (recsB R).length := by
  have := recsB_append (R.take k) (R.drop k)
  rw [List.take_append_drop] at this
  rw [this, List.length_append]; omega
theorem recsB_small {R : List ByteArray} {k : Nat} {s : ByteArray} (h : R[k]? = some s) : s.size + 3 ≤ (recsB R).length := by
  have h1 := recsB_take R k s h
  have h2 := recsB_take_le R (k + 1)
  rw [h1, List.length_append, List.length_append, Lib.leBytes_length, bl_length] at h2
  omega
theorem bldAt_reads {T e : TypeId} {B b : Nat} {p : Value} {bs : List Value} {w w' : World} (h : Lib.BuilderAt T e B b p bs w) (hb : Below w.heap.size w w') : Lib.BuilderAt T e B b p bs w' := by
  have hlt := h.lt
  obtain ⟨h1, v, h2, h3, h4⟩ := h
  exact ⟨h1, v, (hb.block b hlt).trans h2, ownsRow_same h3 (fun g hg => hb.block g (h3.lt g hg).2), h4⟩
theorem bld_reads {T e : TypeId} {B b : Nat} {bs : List Value} {w w' : World} (h : Lib.IsBuilder T e B b bs w) (hb : Below w.heap.size w w') : Lib.IsBuilder T e B b bs w' := by
  rcases h with h | h
  · exact .inl (bldAt_reads h hb)
  · exact .inr (bldAt_reads h hb)
theorem bld_cells {l : List UInt8} (s : ByteArray) : Lib.byteCells l ++ Lib.strCells s = Lib.byteCells (l ++ bl s) := by rw [Lib.strCells_eq, ← Lib.byteCells_append]
set_option maxRecDepth 100000 in
set_option maxHeartbeats 2000000 in
theorem wbytesOf (w : World) (a : Option Addr) (C : Nat) (R : List ByteArray) (H : Strs w a R) (hR : (recsB R).length ≤ 1000000) :
    Calls Try.prog 67 #[.slice a R.length C] w fun e w' => e = .returned (.string (bt (recsB R))) ∧ Below w.heap.size w w' := by
  have hl : R.length ≤ 1000000 := by
    rcases Nat.lt_or_ge R.length 1000001 with h | h
    · omega
    · exfalso
      have hcount : ∀ Q : List ByteArray, Q.length ≤ (recsB Q).length := by
        intro Q
        induction Q with
        | nil => simp
        | cons x t ih => rw [show x :: t = [x] ++ t from rfl, recsB_append, recsB_one]; simp only [List.length_append, Lib.leBytes_length, List.length_cons, List.length_nil]; omega
      have := hcount R; omega
  have I0 := Lib.hid (Lib.fresh_isBuilder 126 5 w)
  have B0 := Lib.hid ((Below.refl w.heap.size w).alloc (Nat.le_refl _) (.cells #[.pointer none, .slice none 0 0] 126))
  have HH := Lib.hid H; clear H
  go_enter Try.func67, Try.ntmps67
  go_wp2
  go_loopw [8] (fun i wr => ∃ k : Nat, k ≤ R.length ∧ i = .int .i64 (k : Int) ∧ Lib.IsBuilder 126 5 w.heap.size w.heap.size (Lib.byteCells (recsB (R.take k))) wr ∧ Below w.heap.size w wr) (fun i _ => R.length - (intOf i).toNat)
  case atStart => exact ⟨0, by omega, rfl, I0.out, B0.out⟩
  case round =>
    obtain ⟨k, hk, rfl, hI, hB⟩ := hrel
    by_cases hlt : k < R.length
    · have hlt' : (k : Int) < (R.length : Int) := by omega
      have h0 : (0 : Int) ≤ (k : Int) := by omega
      obtain ⟨b, off, e1, e2, e3⟩ := (HH.out.below hB).at hlt
      have hsm := recsB_small e3
      have htk := recsB_take R k _ e3
      have hle := recsB_take_le R (k + 1)
      generalize R.getD k ⟨#[]⟩ = s at *
      subst e1
      have C1 := Lib.hid fun W => wbytes s.size 3 (s.size : Int) 3 W rfl rfl (by omega) (by omega) (by omega)
      rw [htk] at hle
      simp only [List.length_append, Lib.leBytes_length, bl_length] at hle
      have HI := Lib.hid hI; have HB := Lib.hid hB
      have HT := Lib.hid htk
      clear hI hB htk e3
      go_wp2_with fail
      refine (C1.out _).mono ?_; rintro e w1 ⟨rfl, b1⟩
      have I1 := bld_reads HI.out b1
      have B1 := HB.out.trans (b1.mono HB.out.size)
      have C2 := Lib.hid (bldWrite w.heap.size w.heap.size _ (numB 3 s.size) w1 I1 (by rw [Lib.byteCells_length, numB_size]; omega) B1.size)
      have HB1 := Lib.hid B1
      clear HI HB I1 B1 b1 C1
      have zN := numB_size 3 s.size
      obtain ⟨X, hX⟩ : ∃ X, Hid (numB 3 s.size = X) := ⟨_, rfl⟩
      rw [hX.out] at C2 zN ⊢
      go_wp2_with fail
      refine C2.out.mono ?_; rintro e w2 ⟨rfl, I2, b2⟩
      have B2 := HB1.out.trans b2
      rw [bld_cells] at I2
      have C3 := Lib.hid (bldWrite w.heap.size w.heap.size _ s w2 (.inr I2) (by rw [Lib.byteCells_length, List.length_append, bl_length, zN]; omega) B2.size)
      have HB2 := Lib.hid B2
      clear C2 HB1 I2 B2 b2
      go_wp2_with fail
      refine C3.out.mono ?_; rintro e w3 ⟨rfl, I3, b3⟩
      have HB3 := Lib.hid (HB2.out.trans b3)
      rw [bld_cells, List.append_assoc] at I3
      have HI3 := Lib.hid I3
      clear C3 HB2 I3 b3
      go_wp2
      refine ⟨⟨k + 1, by omega, by go_num, ?_, HB3.out⟩, by simp [intOf]; omega⟩
      rw [HT.out]
      have e9 : Lib.leBytes 3 s.size ++ bl s = bl X ++ bl s := by rw [← hX.out]; simp [numB]
      rw [e9]
      exact .inr HI3.out
    · obtain rfl : k = R.length := by omega
      rw [List.take_length] at hI
      have C5 := Lib.hid (bldString w.heap.size w.heap.size (recsB R) wr hI hB.size)
      have HB := Lib.hid hB
      clear hI hB
      go_wp2_with fail
      refine C5.out.mono ?_; rintro e w5 ⟨rfl, b5⟩
      go_wp2
      go_ret
      exact ⟨rfl, HB.out.trans b5⟩
end Go.Proofs.Ythjlbfijfpfohaa

namespace Go.Proofs.Ythjlbfijfpfohaa
open Go.RowKit

set_option maxRecDepth 100000 in
set_option maxHeartbeats 2000000 in
theorem rBytes (w : World) (a : Option Addr) (C : Nat) (R : List ByteArray) (H : Strs w a R) (hR : (recsB R).length ≤ 1000000) (hl : R.length ≤ 1000000) :
    Calls Try.prog 41 #[.slice a R.length C] w fun e w' => e = .returned (.string (bt (recsB R))) ∧ Below w.heap.size w w' := by
  have HH := Lib.hid H; clear H
  go_enter Try.func41, Try.ntmps41
  go_wp2
  go_loopw [3, 4] (fun s i wr => ∃ k : Nat, k ≤ R.length ∧ i = .int .i64 (k : Int) ∧ s = .string (bt (recsB (R.take k))) ∧ Below w.heap.size w wr) (fun _ i _ => R.length - (intOf i).toNat)
  case atStart => exact ⟨0, by omega, rfl, rfl, Below.refl _ _⟩
  case round =>
    obtain ⟨k, hk, rfl, rfl, hB⟩ := hrel
    have HB := Lib.hid hB
    by_cases hlt : k < R.length
    · have hlt' : (k : Int) < (R.length : Int) := by omega
      have h0 : (0 : Int) ≤ (k : Int) := by omega
      obtain ⟨b, off, e1, e2, e3⟩ := (HH.out.below hB).at hlt
      have hsm := recsB_small e3
      have htk := recsB_take R k _ e3
      have hle := recsB_take_le R (k + 1)
      generalize R.getD k ⟨#[]⟩ = s at *
      subst e1
      have C1 := Lib.hid fun W => rnum s.size 3 (s.size : Int) 3 W rfl rfl (by omega) (by omega) (by omega)
      have hz : (bt (recsB (R.take k))).size + (3 + s.size) ≤ 1000000 := by
        rw [htk] at hle
        simp only [List.length_append, Lib.leBytes_length, bl_length] at hle
        rw [bt_size]; omega
      have HT := Lib.hid (show bt (recsB (R.take (k + 1))) = bt (recsB (R.take k)) ++ (numB 3 s.size ++ s) by
        rw [htk]; apply ba_ext; simp [numB])
      have zN := numB_size 3 s.size
      generalize bt (recsB (R.take k)) = X at *
      generalize numB 3 s.size = N at *
      have hltb := World.block_lt_of_cell? wr _ e2
      have m1 : ¬ 9223372036854775807 < N.size + s.size := by omega
      have m2 : ¬ 9223372036854775807 < X.size + (N.size + s.size) := by omega
      have K0 := Lib.hid (show wr.drew.cell? ⟨b, off + k, none⟩ = some (.string s) from e2)
      clear hB htk e3 hle hsm e2 zN hz
      go_wp2_with fail
      go_region_held3 (fun W => W.cell? ⟨b, off + k, none⟩ = some (.string s)) (first | exact K0.out | exact K1.out)
        ((go_at_call 66; ((with_reducible refine (C1.out _).mono ?_); rintro e w1 ⟨rfl, b1⟩; have K1 := Lib.hid ((b1.cell (p := ⟨b, off + k, none⟩) hltb).trans K0.out))))
      go_wp2
      refine ⟨⟨k + 1, by omega, by go_num, by rw [HT.out], HB.out.trans ((bdrew b1).mono HB.out.size)⟩, by simp [intOf]; omega⟩
    · obtain rfl : k = R.length := by omega
      clear hB
      have HT := Lib.hid (show bt (recsB (R.take R.length)) = bt (recsB R) by rw [List.take_length])
      rw [HT.out]
      go_wp2
      go_ret
      exact ⟨rfl, HB.out⟩

set_option maxRecDepth 100000 in
set_option maxHeartbeats 1000000 in
theorem rNeed (w : World) (s : ByteArray) (hs : s.size ≤ 1000000) :
    Calls Try.prog 40 #[.string s] w fun e w' => e = .returned (.int .i64 (needOf s.size : Int)) ∧ w = w' := by
  obtain ⟨N, hN⟩ : ∃ N, needOf s.size = N := ⟨_, rfl⟩
  rw [hN]
  have hN1 : ∀ k, k ≤ N → k * 234 < s.size → k + 1 ≤ N := fun k _ h => by rw [← hN]; unfold needOf; omega
  have hN2 : ∀ k, k ≤ N → ¬ k * 234 < s.size → k = N := fun k h1 h => by rw [← hN] at h1 ⊢; unfold needOf at h1 ⊢; omega
  have hN3 : N ≤ 1000000 := by rw [← hN]; unfold needOf; omega
  have HN1 := Lib.hid hN1; have HN2 := Lib.hid hN2
  clear hN hN1 hN2
  go_enter Try.func40, Try.ntmps40
  go_wp2
  go_loopw [3] (fun i wr => ∃ k : Nat, k ≤ N ∧ i = .int .i64 (k : Int) ∧ w = wr) (fun i _ => N - (intOf i).toNat)
  case atStart => exact ⟨0, by omega, rfl, rfl⟩
  case round =>
    obtain ⟨k, hk, rfl, rfl⟩ := hrel
    by_cases hlt : k * 234 < s.size
    · have hlt' : (k : Int) * 234 < (s.size : Int) := by omega
      have hk3 : k + 1 ≤ N := HN1.out k hk hlt
      go_wp2
      exact ⟨⟨k + 1, hk3, by go_num, by trivial⟩, by simp [intOf]; omega⟩
    · have hlt' : ¬ (k : Int) * 234 < (s.size : Int) := by omega
      obtain rfl : k = N := HN2.out k hk hlt
      clear hk
      go_wp2
      go_ret
      exact ⟨rfl, rfl⟩
end Go.Proofs.Ythjlbfijfpfohaa

namespace Go.Proofs.Ythjlbfijfpfohaa
open Go.RowKit

abbrev RowS (w : World) (o : Nat → Nat) (j : Nat) (v : Value) (R : List ByteArray) : Prop := Row w o j 9 1 v R.length (R.map Value.string)
abbrev RowB (w : World) (o : Nat → Nat) (j : Nat) (v : Value) (l : List UInt8) : Prop := Row w o j 5 1 v l.length (Lib.byteCells l)
theorem RowS.slice {w : World} {o : Nat → Nat} {j : Nat} {v : Value} {R : List ByteArray} (h : RowS w o j v R) : ∃ a C, v = .slice a R.length C ∧ Strs w a R := by
  rcases h.val with ⟨rfl, e, h2⟩ | ⟨g, C, rfl, _, _, hc, _⟩
  · exact ⟨none, 0, by rw [e], fun k s hs => by
      have : R = [] := by simpa using h2
      rw [this] at hs; simp at hs⟩
  · exact ⟨_, C, rfl, fun k s hs => ⟨g, 0, rfl, by rw [Nat.zero_add]; exact hc k _ (by rw [List.getElem?_map, hs]; rfl)⟩⟩
theorem RowS.other {w w' : World} {o o' : Nat → Nat} {i j : Nat} {v : Value} {R : List ByteArray} (h : RowS w o j v R) (s : Stp o i w o' w') (hne : j ≠ i) : RowS w' o' j v R := Row.other h s hne
theorem info_u8 : (Try.prog.info? 5).map (fun i => (i.zero, i.size, i.bytes)) = some (some (.int .u8 0), 1, 1) := by kernel_rfl
/-- append(b, s...): bytes of a text behind a row's -/
theorem RowB.append {w : World} {o : Nat → Nat} {j : Nat} {v : Value} {l : List UInt8} (h : RowB w o j v l) (s : ByteArray) (hl : l.length + s.size ≤ 1000000) :
    ∃ v' w' o', (Builtin.append_ #[91, 9] 91 #[v, .string s]).run Try.prog w = .ok v' w' ∧ RowB w' o' j v' (l ++ bl s) ∧ Stp o j w o' w' := by
  obtain ⟨i0, hi, hz0, hz1, hz2⟩ := info_parts info_u8
  obtain ⟨v', w', hr, h2, h3, hnil⟩ := Lib.run_append_own_string (P := Try.prog) w 0 91 9 91 5 i0 Try.underlying91 Try.underlying9 hi hz0 hz1 hz2 v _ _ h.row s (by unfold maxLen; omega) (by omega) (Nat.zero_le _)
  have hlast : v'.ownBlock = none ∨ v'.ownBlock = v.ownBlock ∨ v'.ownBlock = some w.heap.size := by
    rcases h.row.2 with ⟨rfl, hn⟩ | ⟨g, cap, cur, rfl, _, hg, hc1, hc2, hc3, hc4⟩
    · by_cases hs0 : s.size = 0
      · rw [hnil.2 ⟨rfl, hs0⟩]; exact .inl rfl
      · right; right
        have e := run_append_nil_string (P := Try.prog) w 91 9 91 5 i0 (.int .u8 0) Try.underlying91 Try.underlying9 hi hz0 s (by omega) (by omega) (by rw [hz2]; omega)
        rw [hr] at e
        simp only [Result.ok.injEq] at e
        rw [e.1]; rfl
    · by_cases hroom : l.length + s.size ≤ cap
      · have e := Lib.run_append_room_string (P := Try.prog) w 91 9 91 5 i0 Try.underlying91 Try.underlying9 hi hz1 g l.length cap cur hg s hroom (by omega)
        rw [hr] at e
        simp only [Result.ok.injEq] at e
        right; left; rw [e.1]; rfl
      · right; right
        have hcells : ∀ (k : Nat) (u : Value), (Lib.byteCells l)[k]? = some u → w.cell? (Addr.add ⟨g, 0, none⟩ k) = some u := by
          intro k u hu
          rw [add_zero', Lib.cell_of_heap hg]
          have hk := (List.getElem?_eq_some_iff.1 hu).1
          rw [← hc4, List.getElem?_take] at hu
          split at hu
          · rw [← Array.getElem?_toList]; exact hu
          · cases hu
        have e := Lib.run_append_grow_string (P := Try.prog) w 91 9 91 5 i0 (.int .u8 0) Try.underlying91 Try.underlying9 hi hz0 ⟨g, 0, none⟩ l.length cap (Lib.byteCells l) (by rw [hz1, Lib.byteCells_length]; omega) hcells s (by omega) (by omega) (by rw [hz2]; exact growslice_fits (by omega) (by omega))
        rw [hr] at e
        simp only [Result.ok.injEq] at e
        rw [e.1]; rfl
  refine ⟨v', w', gives o w.heap.size j, hr, ⟨?_, fun g hg => ?_⟩, (Stp.ofGrown h3 o j h.own).gives _ (Nat.le_refl _)⟩
  · rw [List.length_append, bl_length, Lib.byteCells_append, ← Lib.strCells_eq]; exact h2
  · rcases hlast with e | e | e
    · rw [e] at hg; cases hg
    · exact gives_mine (h.own g (by rw [← e]; exact hg))
    · rw [e] at hg; cases hg; exact gives_new (Nat.le_refl _)
/-- string(b) -/
theorem RowB.string {w : World} {o : Nat → Nat} {j : Nat} {v : Value} {l : List UInt8} (h : RowB w o j v l) : (convert 91 9 v).run Try.prog w = .ok (.string (bt l)) w := by
  rcases h.val with ⟨rfl, e, h2⟩ | ⟨g, C, rfl, _, _, hc, _⟩
  · have e3 : l = [] := List.eq_nil_of_length_eq_zero e
    subst e3
    rw [run_convert_bytes_string w 91 9 5 none 0 0 Try.underlying91 Try.underlying5 Try.underlying9]
    rfl
  · refine run_convert_bytes_back _ 91 9 5 _ C l Try.underlying91 Try.underlying5 Try.underlying9 ?_
    intro k hk
    rw [add_zero']
    exact hc k _ (by simp [Lib.byteCells, List.getElem?_eq_getElem hk])
theorem oneR_yes (S : ByteArray) (h : 3 + numL S 0 3 ≤ S.size) : oneR (bl S) = some (bl (S.extract 3 (3 + numL S 0 3)), bl (S.extract (3 + numL S 0 3) S.size)) := by
  have e : Lib.leNat ((bl S).take 3) = numL S 0 3 := rfl
  unfold oneR
  rw [e, if_pos (by rw [bl_length]; omega)]
  have e1 : bl (S.extract 3 (3 + numL S 0 3)) = ((bl S).drop 3).take (numL S 0 3) := by show (S.extract _ _).data.toList = _; rw [extract_list, Nat.add_sub_cancel_left]
  have e2 : bl (S.extract (3 + numL S 0 3) S.size) = (bl S).drop (3 + numL S 0 3) := by
    show (S.extract _ _).data.toList = _
    rw [extract_list, List.take_of_length_le (by rw [List.length_drop, ← Lib.size_eq]; omega)]
  rw [e1, e2]
theorem oneR_no (S : ByteArray) (h : S.size < 3 ∨ S.size < 3 + numL S 0 3) : oneR (bl S) = none := by
  have e : Lib.leNat ((bl S).take 3) = numL S 0 3 := rfl
  unfold oneR
  rw [e, if_neg (by rw [bl_length]; omega)]
/-- the whole records at the beginning of bytes, as texts -/
def partS (l : List UInt8) : List ByteArray := (partR l).1.map bt
theorem partS_no {S : ByteArray} (h : S.size < 3 ∨ S.size < 3 + numL S 0 3) : partS (bl S) = [] ∧ (partR (bl S)).2 = bl S := by unfold partS; rw [partR_none (oneR_no S h)]; exact ⟨rfl, rfl⟩
theorem partS_yes {S : ByteArray} (h : 3 + numL S 0 3 ≤ S.size) : partS (bl S) = S.extract 3 (3 + numL S 0 3) :: partS (bl (S.extract (3 + numL S 0 3) S.size)) ∧ (partR (bl S)).2 = (partR (bl (S.extract (3 + numL S 0 3) S.size))).2 := by
  unfold partS; rw [partR_some (oneR_yes S h), List.map_cons, bt_bl]; exact ⟨rfl, rfl⟩
def strLen6 : Value → Nat | .string s => s.size | _ => 0
set_option maxRecDepth 100000 in
set_option maxHeartbeats 2000000 in
theorem wwhole {w : World} {o : Nat → Nat} {i j : Nat} {v u : Value} {R : List ByteArray} {l : List UInt8} (hR : RowS w o j v R) (hl : RowB w o i u l) (hz : 3 * R.length + l.length ≤ 300000) :
    Calls Try.prog 61 #[v, u] w fun e w' => ∃ v', e = .returned v' ∧ ∃ o', RowS w' o' j v' (R ++ partS l) ∧ Stp o j w o' w' := by
  obtain ⟨P, hP⟩ : ∃ P, R ++ partS l = P := ⟨_, rfl⟩
  rw [hP]
  have hcv := hl.string
  obtain ⟨S0, hS0⟩ : ∃ S, bt l = S := ⟨_, rfl⟩
  have hl0 : bl S0 = l := by rw [← hS0]
  have hz0 : S0.size = l.length := by rw [← hS0]; exact bt_size l
  rw [hS0] at hcv
  rw [← hl0] at hP
  have HR := Lib.hid hR; have HP := Lib.hid hP
  have hzz : 3 * R.length + S0.size ≤ 300000 := by omega
  clear hR hP hS0 hl0 hl hz hz0
  obtain ⟨a, C, rfl⟩ : ∃ a C, v = .slice a R.length C := by obtain ⟨a, C, e, _⟩ := HR.out.slice; exact ⟨a, C, e⟩
  go_enter Try.func61, Try.ntmps61
  go_wp2
  go_loopw [0, 5] (fun x y wr => ∃ (S : ByteArray) (Q : List ByteArray) (m : Nat) (o1 : Nat → Nat) (b : Option Addr) (D : Nat), y = .string S ∧ x = .slice b m D ∧ RowS wr o1 j (.slice b m D) Q ∧ Q.length = m ∧ Stp o j w o1 wr ∧ Q ++ partS (bl S) = P ∧ 3 * m + S.size ≤ 300000) (fun _ y _ => strLen6 y)
  case atStart => exact ⟨S0, R, _, o, a, C, rfl, rfl, HR.out, rfl, Stp.refl _ _ _, HP.out, hzz⟩
  case round =>
    obtain ⟨S, Q, m, o1, b, D, rfl, rfl, hRow, hm, hStp, hPr, hsz⟩ := hrel
    have HS := Lib.hid hStp; have HW := Lib.hid hRow; have HQ := Lib.hid hPr; have HM := Lib.hid hm
    clear hStp hRow hPr hcv hm
    by_cases h3 : S.size < 3
    · have h3' : ¬ (3 : Int) ≤ (S.size : Int) := by omega
      have hA : Q = P := by rw [← HQ.out, (partS_no (.inl h3)).1, List.append_nil]
      subst hA
      go_wp2
      go_ret
      exact ⟨_, rfl, o1, HW.out, HS.out⟩
    · have h3' : (3 : Int) ≤ (S.size : Int) := by omega
      have C1 := Lib.hid fun W => wnumber S 0 3 0 3 W rfl rfl (by omega) (by omega) (by omega) (by omega)
      have hnl := numL_lt S 0 3
      have hno := Lib.hid (fun h => partS_no (S := S) (.inr h))
      have hyes := Lib.hid (fun h => partS_yes (S := S) h)
      generalize numL S 0 3 = n at *
      have hn : n < 16777216 := hnl
      clear hnl
      by_cases hto : S.size < 3 + n
      · have hto' : (S.size : Int) < 3 + (n : Int) := by omega
        have hA : Q = P := by rw [← HQ.out, (hno.out hto).1, List.append_nil]
        subst hA
        go_wp2_with fail
        refine (C1.out _).mono ?_; rintro e w1 ⟨rfl, rfl⟩
        go_wp2
        go_ret
        exact ⟨_, rfl, o1, HW.out, HS.out⟩
      · have hto' : ¬ (S.size : Int) < 3 + (n : Int) := by omega
        have hto2 : 3 + (n : Int) ≤ (S.size : Int) := by omega
        have h30 : (3 : Int) ≤ 3 + (n : Int) := by omega
        have h00 : (0 : Int) ≤ 3 + (n : Int) := by omega
        obtain ⟨hy1, hy2⟩ := hyes.out (by omega)
        obtain ⟨g5, C5, w5, o5, hap, hr5, s5⟩ := strs_append HW.out (S.extract 3 (3 + n)) (by rw [HM.out]; omega)
        rw [HM.out] at hap
        rw [HM.out] at hr5
        have HAP := Lib.hid hap; have HR5 := Lib.hid hr5; have HS5 := Lib.hid (HS.out.trans s5)
        have HP5 := Lib.hid (show (Q ++ [S.extract 3 (3 + n)]) ++ partS (bl (S.extract (3 + n) S.size)) = P by rw [← HQ.out, hy1, List.append_assoc]; rfl)
        have hz5 : (S.extract (3 + n) S.size).size = S.size - (3 + n) := by rw [ByteArray.size_extract, Nat.min_self]
        clear hap hr5 s5 HQ hy1 hy2 hno hyes
        have ht : (3 + (n : Int)).toNat = 3 + n := by omega
        go_wp2_with fail
        refine (C1.out _).mono ?_; rintro e w1 ⟨rfl, rfl⟩
        go_wp2_with (at_builtin; refine wpList_append_run rfl (.tmp 19) (.tmp 23) _ _ rfl _ _ rfl rfl _ _ HAP.out ?_)
        refine ⟨⟨_, Q ++ [S.extract 3 (3 + n)], m + 1, o5, _, _, rfl, rfl, HR5.out, by rw [List.length_append, HM.out]; rfl, HS5.out, HP5.out, by rw [hz5]; omega⟩, ?_⟩
        show (S.extract (3 + n) S.size).size < S.size
        rw [hz5]; omega
theorem partS_length : ∀ (n : Nat) (l : List UInt8), l.length ≤ n → 3 * (partS l).length + (partR l).2.length ≤ l.length := by
  intro n
  induction n with
  | zero =>
    intro l h
    have : l = [] := List.eq_nil_of_length_eq_zero (by omega)
    subst this
    unfold partS; rw [partR_none (by unfold oneR; simp)]; simp
  | succ n ih =>
    intro l h
    cases ho : oneR l with
    | none => unfold partS; rw [partR_none ho]; simp
    | some q =>
      obtain ⟨r, x⟩ := q
      have h1 := oneR_less ho
      have h2 := ih x (by omega)
      unfold partS at h2 ⊢
      rw [partR_some ho]
      simp only [List.map_cons, List.length_cons] at h2 ⊢
      omega
end Go.Proofs.Ythjlbfijfpfohaa

namespace Go.Proofs.Ythjlbfijfpfohaa

theorem partS_bl (t : List UInt8) : (partS t).map bl = (partR t).1 := by
  unfold partS; rw [List.map_map]
  have : (bl ∘ bt) = id := by funext l; exact bl_bt l
  rw [this, List.map_id]
theorem stepS_yes (s : ScS) (y : LeafP) (h : ¬ (y.age < s.last ∨ (s.last < y.age ∧ y.beg = false))) : stepS s (some y) = some ⟨y.age, (partR ((if s.last < y.age then [] else s.left) ++ y.s)).2, s.out ++ (partR ((if s.last < y.age then [] else s.left) ++ y.s)).1, s.n + 1⟩ := by
  show (if _ then _ else _) = _
  rw [if_neg h]
theorem stepS_no (s : ScS) (y : LeafP) (h : y.age < s.last ∨ (s.last < y.age ∧ y.beg = false)) : stepS s (some y) = none := by
  show (if _ then _ else _) = _
  rw [if_pos h]
/-- so far: k pages, of the last age's leaves the bytes t, ahead of them the records C -/
def ScanAt (L : Lfs) (k a : Nat) (t : List UInt8) (C : List ByteArray) : Prop := k ≤ L.length ∧ runS scS0 (L.take k) = ⟨a, (partR t).2, C.map bl ++ (partR t).1, k⟩
theorem ScanAt.zero (L : Lfs) : ScanAt L 0 0 [] [] := by
  refine ⟨Nat.zero_le _, ?_⟩
  have h0 : oneR [] = none := by unfold oneR; simp
  rw [partR_none h0]; rfl
theorem take_snoc {L : Lfs} {k : Nat} {x : Option LeafP} (h : L[k]? = some x) : L.take (k + 1) = L.take k ++ [x] := by rw [List.take_add_one, h]; rfl
theorem ScanAt.go {L : Lfs} {k a : Nat} {t : List UInt8} {C : List ByteArray} (H : ScanAt L k a t C) {x : Option LeafP} (h : L[k]? = some x) : runS scS0 (L.take (k + 1)) = runS ⟨a, (partR t).2, C.map bl ++ (partR t).1, k⟩ [x] := by
  have hk := (List.getElem?_eq_some_iff.1 h).1
  rw [take_snoc h, runS_append _ _ _ (by rw [H.2]; simp; omega), H.2]
theorem ScanAt.same {L : Lfs} {k a : Nat} {t : List UInt8} {C : List ByteArray} (H : ScanAt L k a t C) {y : LeafP} (h : L[k]? = some (some y)) (ha : y.age = a) : ScanAt L (k + 1) a (t ++ y.s) C := by
  have hk := (List.getElem?_eq_some_iff.1 h).1
  refine ⟨hk, ?_⟩
  rw [H.go h]
  have hm := partR_more y.s t.length t (Nat.le_refl _)
  rw [runS_go _ (stepS_yes _ y (by simp only; rw [ha]; simp))]
  simp only [ha, Nat.lt_irrefl, if_false, hm, List.append_assoc]
  rfl
theorem ScanAt.new {L : Lfs} {k a : Nat} {t : List UInt8} {C : List ByteArray} (H : ScanAt L k a t C) {y : LeafP} (h : L[k]? = some (some y)) (ha : a < y.age) (hb : y.beg = true) : ScanAt L (k + 1) y.age y.s (C ++ partS t) := by
  have hk := (List.getElem?_eq_some_iff.1 h).1
  refine ⟨hk, ?_⟩
  rw [H.go h]
  rw [runS_go _ (stepS_yes _ y (by simp only [hb]; simp; omega))]
  simp only [ha, if_true, List.nil_append, List.map_append, partS_bl, List.append_assoc]
  rfl
theorem ScanAt.stop {L : Lfs} {k a : Nat} {t : List UInt8} {C : List ByteArray} (H : ScanAt L k a t C) {x : Option LeafP} (h : L[k]? = some x) (hx : ∀ y, x = some y → y.age < a ∨ (a < y.age ∧ y.beg = false)) : runS scS0 L = ⟨a, (partR t).2, C.map bl ++ (partR t).1, k⟩ := by
  have hk := (List.getElem?_eq_some_iff.1 h).1
  have e : L = L.take k ++ (x :: L.drop (k + 1)) := by
    rw [List.getElem?_eq_getElem hk] at h
    simp only [Option.some.injEq] at h
    rw [← h, ← List.drop_eq_getElem_cons hk, List.take_append_drop]
  rw [show runS scS0 L = runS scS0 (L.take k ++ (x :: L.drop (k + 1))) by rw [← e], runS_append _ _ _ (by rw [H.2]; simp; omega), H.2]
  refine runS_stopped _ _ _ ?_
  cases x with
  | none => rfl
  | some y => exact stepS_no _ y (hx y rfl)
theorem ScanAt.all {L : Lfs} {a : Nat} {t : List UInt8} {C : List ByteArray} (H : ScanAt L L.length a t C) : runS scS0 L = ⟨a, (partR t).2, C.map bl ++ (partR t).1, L.length⟩ := by
  have := H.2; rwa [List.take_length] at this
/-- what is told of a half, then -/
structure Told (L : Lfs) (t : List UInt8) (C : List ByteArray) (ag n : Nat) : Prop where
  out : (outH L).map bt = C ++ partS t
  pgs : pgsH L = n
  age : ageH L = ag
theorem told_of {L : Lfs} {k a ag : Nat} {t : List UInt8} {C : List ByteArray} (h : runS scS0 L = ⟨a, (partR t).2, C.map bl ++ (partR t).1, k⟩) (hag : ageH L = ag) : Told L t C ag k := by
  refine ⟨?_, by unfold pgsH; rw [h], hag⟩
  unfold outH partS; rw [h]
  simp only [List.map_append, List.map_map]
  congr 1
  have : (bt ∘ bl) = id := by funext s; exact bt_bl s
  rw [this, List.map_id]
theorem age_first {L : Lfs} {y : LeafP} (h : L[0]? = some (some y)) (hb : y.beg = true) : ageH L = y.age := by
  cases L with
  | nil => simp at h
  | cons x tl => simp at h; subst h; simp [ageH, hb]
theorem age_none {L : Lfs} (h : ∀ y, L[0]? = some (some y) → y.beg = false) : ageH L = 0 := by
  cases L with
  | nil => rfl
  | cons x tl =>
    cases x with
    | none => rfl
    | some y => simp [ageH, h y rfl]
end Go.Proofs.Ythjlbfijfpfohaa

namespace Go.Proofs.Ythjlbfijfpfohaa
open Go.RowKit

theorem numL_byte (T : ByteArray) (a : Nat) (h : a < T.size) : numL T a 1 = ((bl T).getD a 0).toNat := by
  unfold numL
  have hl : a < (bl T).length := by rw [bl_length]; exact h
  rw [List.drop_eq_getElem_cons hl, List.take_succ_cons, List.take_zero, List.getD_eq_getElem?_getD, List.getElem?_eq_getElem hl]
  simp [Lib.leNat]
/-- what is read of 252 bytes -/
theorem leafR_num (T : ByteArray) (i : Nat) (h : T.size = 252) : leafR (bl T) i = if 1 ≤ numL T 0 6 ∧ numL T 6 2 = i ∧ numL T 8 1 ≤ 1 ∧ numL T 9 1 ≤ 234 ∧ (bl T).take 8 = (bl T).drop 244 then
    some ⟨numL T 0 6, decide (numL T 8 1 = 1), ((bl T).drop 10).take (numL T 9 1)⟩ else none := by
  rw [numL_byte T 8 (by omega), numL_byte T 9 (by omega)]; rfl
/-- a leaf's value, and whether it is one -/
def leafV : Option LeafP → Nat → Value
  | none, _ => .agg #[.int .i64 0, .int .i64 0, .bool false, .string ⟨#[]⟩]
  | some x, i => .agg #[.int .i64 (x.age : Int), .int .i64 (i : Int), .bool x.beg, .string (bt x.s)]
/-- four cells, and three, stored one behind the other -/
def put4 (w : World) (B : Nat) (a b c d : Value) : World := (((w.setCell ⟨B, 0, none⟩ a).setCell ⟨B, 1, none⟩ b).setCell ⟨B, 2, none⟩ c).setCell ⟨B, 3, none⟩ d
def put3 (w : World) (B : Nat) (a b c : Value) : World := ((w.setCell ⟨B, 0, none⟩ a).setCell ⟨B, 1, none⟩ b).setCell ⟨B, 2, none⟩ c
theorem At.wrote4 {w : World} {B : Nat} {T : TypeId} {x0 x1 x2 x3 : Value} (h : At w B #[x0, x1, x2, x3] T) (a b c d : Value) : At (put4 w B a b c d) B #[a, b, c, d] T := (((h.set 0 a).set 1 b).set 2 c).set 3 d
theorem At.wrote3 {w : World} {B : Nat} {T : TypeId} {x0 x1 x2 : Value} (h : At w B #[x0, x1, x2] T) (a b c : Value) : At (put3 w B a b c) B #[a, b, c] T := ((h.set 0 a).set 1 b).set 2 c
theorem At.past4 {w : World} {B g : Nat} {cs : Array Value} {T : TypeId} (h : At w B cs T) (a b c d : Value) (hne : g ≠ B) : At (put4 w g a b c d) B cs T := (((h.setOther 0 a hne).setOther 1 b hne).setOther 2 c hne).setOther 3 d hne
theorem At.past3 {w : World} {B g : Nat} {cs : Array Value} {T : TypeId} (h : At w B cs T) (a b c : Value) (hne : g ≠ B) : At (put3 w g a b c) B cs T := ((h.setOther 0 a hne).setOther 1 b hne).setOther 2 c hne
theorem bel_put4 {w0 w : World} {n B : Nat} (h : Below n w0 w) (hB : n ≤ B) (a b c d : Value) : Below n w0 (put4 w B a b c d) := (((h.setCell (p := ⟨B, 0, none⟩) hB a).setCell (p := ⟨B, 1, none⟩) hB b).setCell (p := ⟨B, 2, none⟩) hB c).setCell (p := ⟨B, 3, none⟩) hB d
theorem bel_put3 {w0 w : World} {n B : Nat} (h : Below n w0 w) (hB : n ≤ B) (a b c : Value) : Below n w0 (put3 w B a b c) := ((h.setCell (p := ⟨B, 0, none⟩) hB a).setCell (p := ⟨B, 1, none⟩) hB b).setCell (p := ⟨B, 2, none⟩) hB c
section
variable {w : World} {o : Nat → Nat} {q p : Nat} {S : List ByteArray} {Ws : Wrs}
set_option maxRecDepth 100000 in
set_option maxHeartbeats 2000000 in
theorem wreadLeaf (H : IsD w o q p S Ws) (k i : Nat) (s : ByteArray) (hs : S[k]? = some s) (hi : i ≤ 65536) :
    Calls Try.prog 60 #[.pointer (some ⟨p, 0, none⟩), .int .i64 (k : Int), .int .i64 (i : Int)] w fun e w' => e = .returned (.tuple #[leafV (pgLeaf (rawAt Ws k s) i) i, .bool (pgLeaf (rawAt Ws k s) i).isSome]) ∧ Below w.heap.size w w' := by
  have hsz : (rawAt Ws k s).size = 256 := rawAt_size Ws k s (fun x hx => (H.ws x hx).2) (H.sz s (List.mem_of_getElem? hs))
  have HA := Lib.hid (At.new w #[.int .i64 0, .int .i64 0, .bool false, .string ⟨#[]⟩] 100)
  have HB0 := (Below.refl w.heap.size w).alloc (Nat.le_refl _) (.cells #[.int .i64 0, .int .i64 0, .bool false, .string ⟨#[]⟩] 100)
  have C0 := Lib.hid (d_read (H.reads HB0) k s hs)
  have B0 := Lib.hid HB0
  clear HB0
  generalize rawAt Ws k s = r at *
  have hlt := HA.out.lt
  by_cases hok : okPage r = true
  · have e1 : readOf r = r.extract 0 252 := by unfold readOf; rw [if_pos hok]
    have e2 : errOf r = 0 := by unfold errOf; rw [if_pos hok]
    have e3 : pgLeaf r i = leafR (bl (r.extract 0 252)) i := by unfold pgLeaf; rw [if_pos hok]
    have hT : (r.extract 0 252).size = 252 := by rw [ByteArray.size_extract, hsz]; rfl
    rw [e1, e2] at C0
    rw [e3, leafR_num _ _ hT]
    generalize r.extract 0 252 = T at *
    have CA := Lib.hid fun W => wnumber T 0 6 0 6 W rfl rfl (by omega) (by omega) (by omega) (by omega)
    have CN := Lib.hid fun W => wnumber T 6 2 6 2 W rfl rfl (by omega) (by omega) (by omega) (by omega)
    have CB := Lib.hid fun W => wnumber T 8 1 8 1 W rfl rfl (by omega) (by omega) (by omega) (by omega)
    have CC := Lib.hid fun W => wnumber T 9 1 9 1 W rfl rfl (by omega) (by omega) (by omega) (by omega)
    have lA := numL_lt T 0 6; have lN := numL_lt T 6 2; have lB := numL_lt T 8 1; have lC := numL_lt T 9 1
    generalize numL T 0 6 = age at *
    generalize numL T 6 2 = nm at *
    generalize numL T 8 1 = bg at *
    generalize numL T 9 1 = ct at *
    have kA : age < 281474976710656 := lA
    have kN : nm < 65536 := lN
    have kB : bg < 256 := lB
    have kC : ct < 256 := lC
    clear lA lN lB lC e1 e2 e3 hok hsz
    have hTz : (T.size : Int) = 252 := by omega
    have hbeq : ((T.extract 0 8).toList == (T.extract 244 252).toList) = decide ((bl T).take 8 = (bl T).drop 244) := by
      rw [toList_beq]
      have x1 : bl (T.extract 0 8) = (bl T).take 8 := by show (T.extract _ _).data.toList = _; rw [extract_list]; rfl
      have x2 : bl (T.extract 244 252) = (bl T).drop 244 := by show (T.extract _ _).data.toList = _; rw [extract_list, List.take_of_length_le (by rw [List.length_drop, ← Lib.size_eq]; omega)]
      by_cases h : (bl T).take 8 = (bl T).drop 244
      · rw [decide_eq_true h, decide_eq_true (ba_ext (by rw [show (T.extract 0 8).data.toList = _ from x1, show (T.extract 244 252).data.toList = _ from x2]; exact h))]
      · rw [decide_eq_false h, decide_eq_false (fun e => h (by rw [← x1, ← x2, e]))]
    by_cases hsame : (bl T).take 8 = (bl T).drop 244
    · rw [decide_eq_true hsame] at hbeq
      obtain ⟨pc, hpc⟩ : ∃ pc : ByteArray, bt (((bl T).drop 10).take ct) = pc := ⟨_, rfl⟩
      have hpc2 : ct ≤ 234 → T.extract 10 (10 + ct) = pc := fun _ => by
        rw [← hpc]; apply ba_ext; rw [extract_list, Nat.add_sub_cancel_left]
      obtain ⟨beg, hbeg⟩ : ∃ b, decide (bg = 1) = b := ⟨_, rfl⟩
      have hbeg2 : ((bg : Int) == 1) = beg := by
        rw [← hbeg]
        by_cases h : bg = 1
        · rw [decide_eq_true h]; simp [h]
        · rw [decide_eq_false h]; simp; omega
      have hcond : (1 ≤ age ∧ nm = i ∧ bg ≤ 1 ∧ ct ≤ 234 ∧ (bl T).take 8 = (bl T).drop 244) ↔ (1 ≤ age ∧ nm = i ∧ bg ≤ 1 ∧ ct ≤ 234) := ⟨fun h => ⟨h.1, h.2.1, h.2.2.1, h.2.2.2.1⟩, fun h => ⟨h.1, h.2.1, h.2.2.1, h.2.2.2, hsame⟩⟩
      simp only [hcond, hbeg]
      obtain ⟨X, hX⟩ : ∃ X, (if 1 ≤ age ∧ nm = i ∧ bg ≤ 1 ∧ ct ≤ 234 then some ⟨age, beg, ((bl T).drop 10).take ct⟩ else none : Option LeafP) = X := ⟨_, rfl⟩
      rw [hX]
      have HX := Lib.hid hX
      clear hcond hsame hbeg hX
      have HPC := Lib.hid hpc; have HPC2 := Lib.hid hpc2
      clear hpc hpc2
      go_enter Try.func60, Try.ntmps60
      go_wp2_with fail
      refine C0.out.mono ?_; rintro e w1 ⟨rfl, b1⟩
      have A1 := Lib.hid (HA.out.reads b1)
      have B1 := Lib.hid (B0.out.trans (b1.mono (Nat.le_of_lt hlt)))
      generalize hBq : w.heap.size = B at *
      clear b1 HA B0 C0
      go_wp2
      go_quiet (fail)
      have A2 := Lib.hid (show At (w1.drewN nq) B _ _ from A1.out)
      have B2 := Lib.hid (show Below B w (w1.drewN nq) from ⟨B1.out.os, B1.out.tape, B1.out.output, B1.out.size, B1.out.block⟩)
      generalize w1.drewN nq = W0 at *
      clear A1 B1 hbeq
      go_wp2_with fail
      refine (CB.out _).mono ?_; rintro e w2 ⟨rfl, rfl⟩
      go_wp2_with fail
      refine (CC.out _).mono ?_; rintro e w2 ⟨rfl, rfl⟩
      go_wp2_with fail
      refine (CA.out _).mono ?_; rintro e w2 ⟨rfl, rfl⟩
      go_wp2_with fail
      refine (CN.out _).mono ?_; rintro e w2 ⟨rfl, rfl⟩
      go_upto_region 7 with fail
      have AL := Lib.hid (At.new W0 #[.int .i64 (age : Int), .int .i64 (nm : Int), .bool beg, .string ⟨#[]⟩] 100)
      have A2' := Lib.hid (A2.out.reads ((Below.refl W0.heap.size W0).alloc (Nat.le_refl _) (.cells #[.int .i64 (age : Int), .int .i64 (nm : Int), .bool beg, .string ⟨#[]⟩] 100)))
      have B2' := Lib.hid (B2.out.alloc (by rw [← hBq]; exact B2.out.size) (.cells #[.int .i64 (age : Int), .int .i64 (nm : Int), .bool beg, .string ⟨#[]⟩] 100))
      have hLB : W0.heap.size ≠ B := Nat.ne_of_gt A2.out.lt
      have hBL : B ≤ W0.heap.size := Nat.le_of_lt A2.out.lt
      clear A2 B2 CA CN CB CC
      have A2 := A2'; have B2 := B2'; clear A2' B2'
      generalize W0.alloc (.cells #[.int .i64 (age : Int), .int .i64 (nm : Int), .bool beg, .string ⟨#[]⟩] 100) = W2 at *
      generalize W0.heap.size = L at *
      have k0 := AL.out.cell 0; have k1 := AL.out.cell 1; have k2 := AL.out.cell 2; have k3 := AL.out.cell 3; have kz := AL.out.fz 3
      by_cases c1 : 1 ≤ age
      · have c1' : ¬ (age : Int) < 1 := by omega
        by_cases c2 : nm = i
        · obtain rfl := c2
          by_cases c3 : bg ≤ 1
          · have c3' : ¬ (1 : Int) < (bg : Int) := by omega
            by_cases c4 : ct ≤ 234
            · have c4' : ¬ (234 : Int) < (ct : Int) := by omega
              have u1 : (0 : Int) ≤ 10 + (ct : Int) := by omega
              have u2 : 10 + (ct : Int) ≤ (T.size : Int) := by omega
              have u3 : (10 : Int) ≤ 10 + (ct : Int) := by omega
              have u4 : (10 + (ct : Int)).toNat = 10 + ct := by omega
              have hex := HPC2.out c4
              have eX := Lib.hid (show X = some ⟨age, beg, ((bl T).drop 10).take ct⟩ by rw [← HX.out, if_pos ⟨c1, rfl, c3, c4⟩])
              have AL2 := Lib.hid (show At (W2.setCell ⟨L, 3, none⟩ (.string pc)) L #[.int .i64 (age : Int), .int .i64 (nm : Int), .bool beg, .string pc] _ from AL.out.set 3 (.string pc))
              have A4 := Lib.hid (A2.out.setOther 3 (.string pc) hLB)
              have B4 := Lib.hid (B2.out.setCell (p := ⟨L, 3, none⟩) hBL (.string pc))
              go_upto_region 10 with fail
              clear k0 k1 k2 k3 kz A2 B2
              have A2 := A4; have B2 := B4; clear A4 B4
              generalize W2.setCell ⟨L, 3, none⟩ (.string pc) = W3 at *
              have k0 := AL2.out.cell 0; have k1 := AL2.out.cell 1; have k2 := AL2.out.cell 2; have k3 := AL2.out.cell 3
              have A3 := Lib.hid (A2.out.wrote4 (.int .i64 (age : Int)) (.int .i64 (nm : Int)) (.bool beg) (.string pc))
              have B3 := Lib.hid (bel_put4 B2.out (Nat.le_refl _) (.int .i64 (age : Int)) (.int .i64 (nm : Int)) (.bool beg) (.string pc))
              have z0 := A2.out.fz 0; have z1 := A2.out.fz 1; have z2 := A2.out.fz 2; have z3 := A2.out.fz 3
              have g0 := A2.out.cell 0; have g1 := A2.out.cell 1; have g2 := A2.out.cell 2; have g3 := A2.out.cell 3
              go_wp2
              refine bodyPost_ret (v := .tuple #[.agg #[.int .i64 (age : Int), .int .i64 (nm : Int), .bool beg, .string pc], .bool true]) ?_ rfl ⟨by rw [eX.out]; first | rfl | (simp only [leafV, HPC.out]; rfl), by first | exact B3.out | (rw [hBq]; exact B3.out)⟩
              clear g0 g1 g2 g3 z0 z1 z2 z3
              obtain ⟨W, hW⟩ : ∃ W, put4 W3 B (.int .i64 (age : Int)) (.int .i64 (nm : Int)) (.bool beg) (.string pc) = W := ⟨_, rfl⟩
              have D := A3.out
              rw [hW] at D
              unfold put4 at hW
              rw [hW]
              have f0 := D.cell 0; have f1 := D.cell 1; have f2 := D.cell 2; have f3 := D.cell 3
              simp [results, Try.f60, go_sem, f0, f1, f2, f3]
            · have c4' : (234 : Int) < (ct : Int) := by omega
              have eX := Lib.hid (show X = none by rw [← HX.out, if_neg (fun h => c4 h.2.2.2)])
              have A3 := Lib.hid (A2.out.wrote4 (.int .i64 0) (.int .i64 0) (.bool false) (.string ⟨#[]⟩))
              have B3 := Lib.hid (bel_put4 B2.out (Nat.le_refl _) (.int .i64 0) (.int .i64 0) (.bool false) (.string ⟨#[]⟩))
              have z0 := A2.out.fz 0; have z1 := A2.out.fz 1; have z2 := A2.out.fz 2; have z3 := A2.out.fz 3
              have g0 := A2.out.cell 0; have g1 := A2.out.cell 1; have g2 := A2.out.cell 2; have g3 := A2.out.cell 3
              go_wp2
              refine bodyPost_ret (v := .tuple #[.agg #[.int .i64 0, .int .i64 0, .bool false, .string ⟨#[]⟩], .bool false]) ?_ rfl ⟨by rw [eX.out]; first | rfl | (simp only [leafV, HPC.out]; rfl), by first | exact B3.out | (rw [hBq]; exact B3.out)⟩
              clear g0 g1 g2 g3 z0 z1 z2 z3
              obtain ⟨W, hW⟩ : ∃ W, put4 W2 B (.int .i64 0) (.int .i64 0) (.bool false) (.string ⟨#[]⟩) = W := ⟨_, rfl⟩
              have D := A3.out
              rw [hW] at D
              unfold put4 at hW
              rw [hW]
              have f0 := D.cell 0; have f1 := D.cell 1; have f2 := D.cell 2; have f3 := D.cell 3
              simp [results, Try.f60, go_sem, f0, f1, f2, f3]
          · have c3' : (1 : Int) < (bg : Int) := by omega
            have eX := Lib.hid (show X = none by rw [← HX.out, if_neg (fun h => c3 h.2.2.1)])
            have A3 := Lib.hid (A2.out.wrote4 (.int .i64 0) (.int .i64 0) (.bool false) (.string ⟨#[]⟩))
            have B3 := Lib.hid (bel_put4 B2.out (Nat.le_refl _) (.int .i64 0) (.int .i64 0) (.bool false) (.string ⟨#[]⟩))
            have z0 := A2.out.fz 0; have z1 := A2.out.fz 1; have z2 := A2.out.fz 2; have z3 := A2.out.fz 3
            have g0 := A2.out.cell 0; have g1 := A2.out.cell 1; have g2 := A2.out.cell 2; have g3 := A2.out.cell 3
            go_wp2
            refine bodyPost_ret (v := .tuple #[.agg #[.int .i64 0, .int .i64 0, .bool false, .string ⟨#[]⟩], .bool false]) ?_ rfl ⟨by rw [eX.out]; first | rfl | (simp only [leafV, HPC.out]; rfl), by first | exact B3.out | (rw [hBq]; exact B3.out)⟩
            clear g0 g1 g2 g3 z0 z1 z2 z3
            obtain ⟨W, hW⟩ : ∃ W, put4 W2 B (.int .i64 0) (.int .i64 0) (.bool false) (.string ⟨#[]⟩) = W := ⟨_, rfl⟩
            have D := A3.out
            rw [hW] at D
            unfold put4 at hW
            rw [hW]
            have f0 := D.cell 0; have f1 := D.cell 1; have f2 := D.cell 2; have f3 := D.cell 3
            simp [results, Try.f60, go_sem, f0, f1, f2, f3]
        · have c2' : ((nm : Int) == (i : Int)) = false := by simp; omega
          have eX := Lib.hid (show X = none by rw [← HX.out, if_neg (fun h => c2 h.2.1)])
          have A3 := Lib.hid (A2.out.wrote4 (.int .i64 0) (.int .i64 0) (.bool false) (.string ⟨#[]⟩))
          have B3 := Lib.hid (bel_put4 B2.out (Nat.le_refl _) (.int .i64 0) (.int .i64 0) (.bool false) (.string ⟨#[]⟩))
          have z0 := A2.out.fz 0; have z1 := A2.out.fz 1; have z2 := A2.out.fz 2; have z3 := A2.out.fz 3
          have g0 := A2.out.cell 0; have g1 := A2.out.cell 1; have g2 := A2.out.cell 2; have g3 := A2.out.cell 3
          go_wp2
          refine bodyPost_ret (v := .tuple #[.agg #[.int .i64 0, .int .i64 0, .bool false, .string ⟨#[]⟩], .bool false]) ?_ rfl ⟨by rw [eX.out]; first | rfl | (simp only [leafV, HPC.out]; rfl), by first | exact B3.out | (rw [hBq]; exact B3.out)⟩
          clear g0 g1 g2 g3 z0 z1 z2 z3
          obtain ⟨W, hW⟩ : ∃ W, put4 W2 B (.int .i64 0) (.int .i64 0) (.bool false) (.string ⟨#[]⟩) = W := ⟨_, rfl⟩
          have D := A3.out
          rw [hW] at D
          unfold put4 at hW
          rw [hW]
          have f0 := D.cell 0; have f1 := D.cell 1; have f2 := D.cell 2; have f3 := D.cell 3
          simp [results, Try.f60, go_sem, f0, f1, f2, f3]
      · have c1' : (age : Int) < 1 := by omega
        have eX := Lib.hid (show X = none by rw [← HX.out, if_neg (fun h => c1 h.1)])
        have A3 := Lib.hid (A2.out.wrote4 (.int .i64 0) (.int .i64 0) (.bool false) (.string ⟨#[]⟩))
        have B3 := Lib.hid (bel_put4 B2.out (Nat.le_refl _) (.int .i64 0) (.int .i64 0) (.bool false) (.string ⟨#[]⟩))
        have z0 := A2.out.fz 0; have z1 := A2.out.fz 1; have z2 := A2.out.fz 2; have z3 := A2.out.fz 3
        have g0 := A2.out.cell 0; have g1 := A2.out.cell 1; have g2 := A2.out.cell 2; have g3 := A2.out.cell 3
        go_wp2
        refine bodyPost_ret (v := .tuple #[.agg #[.int .i64 0, .int .i64 0, .bool false, .string ⟨#[]⟩], .bool false]) ?_ rfl ⟨by rw [eX.out]; first | rfl | (simp only [leafV, HPC.out]; rfl), by first | exact B3.out | (rw [hBq]; exact B3.out)⟩
        clear g0 g1 g2 g3 z0 z1 z2 z3
        obtain ⟨W, hW⟩ : ∃ W, put4 W2 B (.int .i64 0) (.int .i64 0) (.bool false) (.string ⟨#[]⟩) = W := ⟨_, rfl⟩
        have D := A3.out
        rw [hW] at D
        unfold put4 at hW
        rw [hW]
        have f0 := D.cell 0; have f1 := D.cell 1; have f2 := D.cell 2; have f3 := D.cell 3
        simp [results, Try.f60, go_sem, f0, f1, f2, f3]
    · rw [decide_eq_false hsame] at hbeq
      rw [if_neg (fun h => hsame h.2.2.2.2)]
      simp only [leafV, Option.isSome]
      go_enter Try.func60, Try.ntmps60
      go_wp2_with fail
      refine C0.out.mono ?_; rintro e w1 ⟨rfl, b1⟩
      have A1 := Lib.hid (HA.out.reads b1)
      have B1 := Lib.hid (B0.out.trans (b1.mono (Nat.le_of_lt hlt)))
      generalize hBq : w.heap.size = B at *
      clear b1
      go_wp2
      go_quiet (fail)
      have A2 := Lib.hid (show At (w1.drewN nq) B _ _ from A1.out)
      have B2 := Lib.hid (show Below B w (w1.drewN nq) from ⟨B1.out.os, B1.out.tape, B1.out.output, B1.out.size, B1.out.block⟩)
      generalize w1.drewN nq = W2 at *
      have A3 := Lib.hid (A2.out.wrote4 (.int .i64 0) (.int .i64 0) (.bool false) (.string ⟨#[]⟩))
      have B3 := Lib.hid (bel_put4 B2.out (Nat.le_refl _) (.int .i64 0) (.int .i64 0) (.bool false) (.string ⟨#[]⟩))
      have z0 := A2.out.fz 0; have z1 := A2.out.fz 1; have z2 := A2.out.fz 2; have z3 := A2.out.fz 3
      have g0 := A2.out.cell 0; have g1 := A2.out.cell 1; have g2 := A2.out.cell 2; have g3 := A2.out.cell 3
      go_wp2
      refine bodyPost_ret (v := .tuple #[.agg #[.int .i64 0, .int .i64 0, .bool false, .string ⟨#[]⟩], .bool false]) ?_ rfl ⟨rfl, by first | exact B3.out | (rw [hBq]; exact B3.out)⟩
      clear g0 g1 g2 g3 z0 z1 z2 z3
      obtain ⟨W, hW⟩ : ∃ W, put4 W2 B (.int .i64 0) (.int .i64 0) (.bool false) (.string ⟨#[]⟩) = W := ⟨_, rfl⟩
      have D := A3.out
      rw [hW] at D
      unfold put4 at hW
      rw [hW]
      have f0 := D.cell 0; have f1 := D.cell 1; have f2 := D.cell 2; have f3 := D.cell 3
      simp [results, Try.f60, go_sem, f0, f1, f2, f3]
  · have e1 : readOf r = ⟨#[]⟩ := by unfold readOf; rw [if_neg hok]
    have e2 : errOf r = 5 := by unfold errOf; rw [if_neg hok]
    have e3 : pgLeaf r i = none := by unfold pgLeaf; rw [if_neg hok]
    rw [e1, e2] at C0
    rw [e3]
    simp only [leafV, Option.isSome]
    go_enter Try.func60, Try.ntmps60
    go_wp2_with fail
    refine C0.out.mono ?_; rintro e w1 ⟨rfl, b1⟩
    have A1 := Lib.hid (HA.out.reads b1)
    have B1 := Lib.hid (B0.out.trans (b1.mono (Nat.le_of_lt hlt)))
    generalize hBq : w.heap.size = B at *
    have g0 := A1.out.cell 0; have g1 := A1.out.cell 1; have g2 := A1.out.cell 2; have g3 := A1.out.cell 3
    clear b1
    go_wp2
    go_quiet (fail)
    have A2 := Lib.hid (show At (w1.drewN nq) B _ _ from A1.out)
    have B2 := Lib.hid (show Below B w (w1.drewN nq) from ⟨B1.out.os, B1.out.tape, B1.out.output, B1.out.size, B1.out.block⟩)
    generalize w1.drewN nq = W2 at *
    have A3 := Lib.hid (A2.out.wrote4 (.int .i64 0) (.int .i64 0) (.bool false) (.string ⟨#[]⟩))
    have B3 := Lib.hid (bel_put4 B2.out (Nat.le_refl _) (.int .i64 0) (.int .i64 0) (.bool false) (.string ⟨#[]⟩))
    have z0 := A2.out.fz 0; have z1 := A2.out.fz 1; have z2 := A2.out.fz 2; have z3 := A2.out.fz 3
    clear g0 g1 g2 g3
    have g0 := A2.out.cell 0; have g1 := A2.out.cell 1; have g2 := A2.out.cell 2; have g3 := A2.out.cell 3
    go_wp2
    refine bodyPost_ret (v := .tuple #[.agg #[.int .i64 0, .int .i64 0, .bool false, .string ⟨#[]⟩], .bool false]) ?_ rfl ⟨rfl, by first | exact B3.out | (rw [hBq]; exact B3.out)⟩
    clear g0 g1 g2 g3 z0 z1 z2 z3
    obtain ⟨W, hW⟩ : ∃ W, put4 W2 B (.int .i64 0) (.int .i64 0) (.bool false) (.string ⟨#[]⟩) = W := ⟨_, rfl⟩
    have D := A3.out
    rw [hW] at D
    unfold put4 at hW
    rw [hW]
    have f0 := D.cell 0; have f1 := D.cell 1; have f2 := D.cell 2; have f3 := D.cell 3
    simp [results, Try.f60, go_sem, f0, f1, f2, f3]
    done
end
end Go.Proofs.Ythjlbfijfpfohaa
