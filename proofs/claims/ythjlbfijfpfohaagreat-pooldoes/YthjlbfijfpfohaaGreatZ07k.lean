/-
  The document's pool: the contract of Pin where it refuses.
-/
import Derived.Test.YthjlbfijfpfohaaGreatZ07j
namespace Go.Proofs.YthjlbfijfpfohaaGreat
open Go.RowKit Go.MapKept
section
variable {w w' : World} {o o' : Nat → Nat} {i j g x n q : Nat} {su : Int} {v : Value} {E : List Qn} {S : List ByteArray} {Ws : Wrs}
set_option maxRecDepth 100000 in
set_option maxHeartbeats 2000000 in
theorem qpin_bad (h : IsQ w o j g x n su v E) (D : IsR w o q x S Ws) (hl : E.length ≤ 1000) (hW : Ws.length ≤ 1000000) {k : Nat} {s : ByteArray} (hs : S[k]? = some s) (hne : ∀ e ∈ E, e.pg ≠ k) (he : errOf (rawAt Ws k s) ≠ 0) :
    Calls Tryz.prog 25 #[.pointer (some ⟨g, 0, none⟩), .int .i64 (k : Int)] w fun y w' => y = .returned (.tuple #[.string ⟨#[]⟩, .int .i64 (errOf (rawAt Ws k s))]) ∧ Below w.heap.size w w' := by
  have bA : Below w.heap.size w (w.alloc (.cells #[.int .i64 (k : Int), .string ⟨#[]⟩, .int .i64 0, .bool false, .int .i64 0, .int .i64 0] 76)) := (Below.refl _ w).alloc (Nat.le_refl _) _
  have CR := Lib.hid (rread_in (D.reads bA) k s hs hW)
  have hkl := (List.getElem?_eq_some_iff.1 hs).1
  have CF := Lib.hid (qfind_none h (k : Int) hl (fun e he y => hne e he (by omega)))
  obtain ⟨vl, vw, D⟩ := D
  obtain ⟨a, C, b, DD, rfl, rfl⟩ := D.slots
  have c0 := D.c0
  have e0 : w.cell? ⟨g, 0, none⟩ = some (.pointer (some ⟨x, 0, none⟩)) := h.hp.cell 0
  have e0' := (bA.cell (p := ⟨g, 0, none⟩) h.hp.lt).trans e0
  have k0 : ¬ (k : Int) < 0 := by omega
  have k1 : ¬ (S.length : Int) ≤ (k : Int) := by omega
  have hz : (errOf (rawAt Ws k s) == 0) = false := by rw [beq_eq_false_iff_ne]; exact he
  have BA := Lib.hid bA
  clear h D hs hne bA he
  generalize errOf (rawAt Ws k s) = er at *
  generalize readOf (rawAt Ws k s) = rs at *
  go_enter Tryz.func25, Tryz.ntmps25
  go_wp2_with fail
  refine CF.out.mono ?_; rintro y W5 ⟨rfl, rfl⟩
  go_wp2_with fail
  refine CR.out.mono ?_; rintro y W6 ⟨rfl, B6⟩
  have HB6 := Lib.hid B6
  clear B6 CR CF
  go_wp2_with fail
  go_ret2
  exact ⟨rfl, BA.out.trans (HB6.out.mono BA.out.size)⟩
set_option maxRecDepth 100000 in
set_option maxHeartbeats 2000000 in
theorem qpin_full (h : IsQ w o j g x n su v E) (D : IsR w o q x S Ws) (hl : n ≤ E.length) (hl2 : E.length ≤ 1000) (hW : Ws.length ≤ 1000000) {k : Nat} {s : ByteArray} (hs : S[k]? = some s) (hne : ∀ e ∈ E, e.pg ≠ k) (he : errOf (rawAt Ws k s) = 0) (hno : ∀ e ∈ E, e.goes su = false) :
    Calls Tryz.prog 25 #[.pointer (some ⟨g, 0, none⟩), .int .i64 (k : Int)] w fun y w' => y = .returned (.tuple #[.string ⟨#[]⟩, .int .i64 6]) ∧ Below w.heap.size w w' := by
  have bA : Below w.heap.size w (w.alloc (.cells #[.int .i64 (k : Int), .string ⟨#[]⟩, .int .i64 0, .bool false, .int .i64 0, .int .i64 0] 76)) := (Below.refl _ w).alloc (Nat.le_refl _) _
  have CR := Lib.hid (rread_in (D.reads bA) k s hs hW)
  have hkl := (List.getElem?_eq_some_iff.1 hs).1
  have CF := Lib.hid (qfind_none h (k : Int) hl2 (fun e he y => hne e he (by omega)))
  obtain ⟨vl, vw, D⟩ := D
  obtain ⟨a, C, b, DD, rfl, rfl⟩ := D.slots
  have c0 := D.c0
  have e0 : w.cell? ⟨g, 0, none⟩ = some (.pointer (some ⟨x, 0, none⟩)) := h.hp.cell 0
  have e0' := (bA.cell (p := ⟨g, 0, none⟩) h.hp.lt).trans e0
  have k0 : ¬ (k : Int) < 0 := by omega
  have k1 : ¬ (S.length : Int) ≤ (k : Int) := by omega
  have BA := Lib.hid bA
  have HH := Lib.hid h; have HN := Lib.hid hno
  clear h D hs hne bA hno
  rw [he] at CR
  clear he
  generalize readOf (rawAt Ws k s) = rs at *
  go_enter Tryz.func25, Tryz.ntmps25
  go_wp2_with fail
  refine CF.out.mono ?_; rintro y W5 ⟨rfl, rfl⟩
  go_wp2_with fail
  refine CR.out.mono ?_; rintro y W6 ⟨rfl, B6⟩
  have b6 := BA.out.trans (B6.mono BA.out.size)
  have CN := Lib.hid (qfree_no (HH.out.reads b6) hl hl2 HN.out)
  have HB6 := Lib.hid b6
  clear b6 B6 CR CF BA HH
  go_wp2_with fail
  refine CN.out.mono ?_; rintro y W7 ⟨rfl, B7⟩
  have HB7 := Lib.hid B7
  clear B7 CN
  go_wp2_with fail
  go_ret2
  exact ⟨rfl, HB6.out.trans (HB7.out.mono HB6.out.size)⟩
end
end Go.Proofs.YthjlbfijfpfohaaGreat
