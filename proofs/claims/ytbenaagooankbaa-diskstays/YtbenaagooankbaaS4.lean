/-
  The contracts of package sum's Torn, and of the document's answer for it.
-/
import Derived.Test.YtbenaagooankbaaW3
import Derived.Test.YtbenaagooankbaaC2
import Derived.Lib.AppendStr
import Derived.Outline
import Derived.Lib.Hide
import Derived.Deep.DeepCutAuto
namespace Go.Proofs.Ytbenaagooankbaa
open Go.RowKit

section
variable {P : Program}
/-- make([]byte, 0, n) -/
theorem run_make_room (w : World) (t e : TypeId) (i : TypeInfo) (ht : P.underlying t = some (.slice e)) (hi : P.info? e = some i) (hz : i.zero = some (.int .u8 0)) (hsz : i.size = 1) (hb : i.bytes = 1)
    (k : Int) (n : Nat) (hk : k = n) (hn : n ≤ 281474976710656) :
    (Instr.makeSlice t (.int .i64 0) (.int .i64 k)).run P w = .ok (.slice (some ⟨w.heap.size, 0, none⟩) 0 n) (w.alloc (.cells (brow (List.replicate n 0)) e)) := by
  subst hk
  have h := run_make (P := P) w t e i (.int .u8 0) ht hi hz .i64 .i64 0 (n : Int) (by omega) (by omega) (by rw [hb]; omega) (by omega)
  rw [hsz, Int.toNat_natCast, Nat.mul_one, madeCells_bytes] at h
  exact h
/-- an append, by what it runs to, for the walk -/
theorem wpList_append_run {ops : Array Oper} {rest : List Oper} {o : Oper} {a : Act} {Q : Exit → Act → World → Prop} {w : World} (hgd : o.guard = none) (sl x : Operand) (t u : TypeId)
    (ho : o.op = .call { callee := .builtin .append, args := #[sl, x], argTypes := #[t, u] }) (v xv : Value) (hs : a.eval sl = v) (hx : a.eval x = xv) (v' : Value) (w' : World)
    (hr : (Builtin.append_ #[t, u] o.type #[v, xv]).run P w = .ok v' w') (h : wpList P ops Q rest (a.put o.dst v') w') : wpList P ops Q (o :: rest) a w := by
  refine wpList_plain hgd fun K hK => ?_
  unfold Oper.wp execOp
  simp only [ho, resolve, invoke, builtin, Sem.run_bind, Sem.run_pure, Result.andThen_ok, List.map_toArray, List.map_cons, List.map_nil, hs, hx, hr]
  exact hK _ _ h
/-- append(b, s...), b the newest row, with room -/
theorem run_append_bytes (w : World) (t u ty e : TypeId) (i : TypeInfo) (ht : P.underlying t = some (.slice e)) (hu : P.underlying u = some .string) (hi : P.info? e = some i) (hs1 : i.size = 1)
    (L C : Nat) (s : ByteArray) (l : List UInt8) (hr : L + s.size ≤ C) (hl : L + s.size ≤ l.length) :
    (Builtin.append_ #[t, u] ty #[.slice (some ⟨w.heap.size, 0, none⟩) L C, .string s]).run P (w.alloc (.cells (brow l) e)) =
      .ok (.slice (some ⟨w.heap.size, 0, none⟩) (L + s.size) C) (w.alloc (.cells (brow (spliceB l L s.data.toList)) e)) := by
  rw [Lib.run_append_room_string (P := P) (w.alloc (.cells (brow l) e)) t u ty e i ht hu hi hs1 w.heap.size L C (brow l) (heap_alloc_new w _) s hr (by rw [brow_size]; exact hl)]
  have e : ((brow l).toList.take L ++ Lib.strCells s ++ (brow l).toList.drop (L + s.size)).toArray = brow (spliceB l L s.data.toList) := by
    simp [brow, Lib.byteCells, spliceB, ← Lib.size_eq, Lib.strCells]
  rw [e, setRow_alloc_new]
end

theorem join_bytes (a b : List UInt8) : spliceB (spliceB (List.replicate (a.length + b.length) 0) 0 a) a.length b = a ++ b := by
  unfold spliceB
  simp
theorem tornOf_size (a b : ByteArray) (ha : a.size = 256) (hb : b.size = 256) : (tornOf a b).size = 256 := by
  unfold tornOf; rw [ByteArray.size_append, ByteArray.size_extract, ByteArray.size_extract]; omega
theorem extract_all (a : ByteArray) (n : Nat) (h : a.size ≤ n) : a.extract 0 n = a := by
  apply ba_ext; rw [extract_list, List.drop_zero, Nat.sub_zero, List.take_of_length_le (by rw [← Lib.size_eq]; exact h)]
theorem extract_none (a : ByteArray) (m n : Nat) (h : a.size ≤ m) : a.extract m n = ⟨#[]⟩ := by
  apply ba_ext; rw [extract_list, List.drop_eq_nil_of_le (by rw [← Lib.size_eq]; exact h), List.take_nil]
theorem app_nil (a : ByteArray) : a ++ (⟨#[]⟩ : ByteArray) = a := ByteArray.append_empty
theorem ba_empty (s : ByteArray) (h : s.size = 0) : s = ⟨#[]⟩ := by
  apply ByteArray.ext; exact Array.eq_empty_of_size_eq_zero h

set_option maxRecDepth 100000 in
set_option maxHeartbeats 400000 in
theorem torn_any (a b : ByteArray) (w : World) (ha : a.size ≤ 1000000) (hb : b.size ≤ 1000000) :
    Calls Try.prog 49 #[.string a, .string b] w fun e w' => e = .returned (.string (tornOf a b)) ∧ Below w.heap.size w w' := by
  go_enter Try.func49, Try.ntmps49
  go_upto_region 1 with fail
  go_cut [5] (fun s0 wx => wx = w ∧ ∃ A : ByteArray, s0 = .string A ∧ Hid (A = a.extract 0 128) ∧ A.size ≤ 128)
  case first =>
    go_wp2
    all_goals go_meet
    · exact ⟨rfl, _, rfl, Lib.hid (extract_all a 128 (by omega)).symm, by omega⟩
    · exact ⟨rfl, _, rfl, Lib.hid rfl, by rw [ByteArray.size_extract]; omega⟩
  case rest =>
    obtain ⟨rfl, A, rfl, HA, hA⟩ := hcut
    go_upto_region 2 with fail
    go_cut [6] (fun s0 wx => wx = wc ∧ ∃ B : ByteArray, s0 = .string B ∧ Hid (B = b.extract 128 b.size) ∧ B.size ≤ 1000000)
    case first =>
      go_wp2
      all_goals go_meet
      · exact ⟨rfl, _, rfl, Lib.hid (by rw [extract_none b 128 _ (by omega)]; rfl), by simp⟩
      · exact ⟨rfl, _, rfl, Lib.hid rfl, by rw [ByteArray.size_extract]; omega⟩
    case rest =>
      obtain ⟨rfl, B, rfl, HB, hB⟩ := hcut
      have HF := Lib.hid (show tornOf a b = A ++ B by rw [HA.out, HB.out]; rfl)
      clear HA HB
      obtain ⟨ib, hi, hz0, hz1, hz2⟩ := Try.info_byte
      have hmk := fun W => run_make_room (P := Try.prog) W 70 5 ib Try.underlying70 hi hz0 hz1 hz2 ((A.size : Int) + (B.size : Int)) (A.size + B.size) (by omega) (by omega)
      have hap1 := fun W => run_append_bytes (P := Try.prog) W 70 9 70 5 ib Try.underlying70 Try.underlying9 hi hz1 0 (A.size + B.size) A (List.replicate (A.size + B.size) 0) (by omega) (by simp)
      have hap2 := fun W => run_append_bytes (P := Try.prog) W 70 9 70 5 ib Try.underlying70 Try.underlying9 hi hz1 A.size (A.size + B.size) B (spliceB (List.replicate (A.size + B.size) 0) 0 A.data.toList) (by omega)
        (by rw [spliceB_length _ _ _ (by rw [List.length_replicate, ← Lib.size_eq]; omega), List.length_replicate]; omega)
      have hj := join_bytes A.data.toList B.data.toList
      rw [← Lib.size_eq, ← Lib.size_eq] at hj
      rw [hj] at hap2
      rw [Nat.zero_add] at hap1
      have hst := fun W => run_string_bytes (P := Try.prog) W 70 9 5 (A.size + B.size) (A.size + B.size) (A.data.toList ++ B.data.toList) (by rw [List.length_append, ← Lib.size_eq, ← Lib.size_eq]) Try.underlying70 Try.underlying5 Try.underlying9
      have hfin : (⟨(A.data.toList ++ B.data.toList).toArray⟩ : ByteArray) = A ++ B := by
        apply ba_ext; rw [ByteArray.data_append]; simp
      rw [hfin] at hst
      clear hi hz0 hz1 hz2 hj hfin
      generalize A.data.toList ++ B.data.toList = l at *
      generalize spliceB (List.replicate (A.size + B.size) 0) 0 A.data.toList = l1 at *
      generalize List.replicate (A.size + B.size) (0 : UInt8) = l0 at *
      have H1 := Lib.hid hap1; have H2 := Lib.hid hap2
      clear hap1 hap2
      go_wp2_with (first | (at_builtin; refine wpList_append_run rfl (.tmp 24) (.tmp 25) _ _ rfl _ _ rfl rfl _ _ (H1.out _) ?_) | (at_builtin; refine wpList_append_run rfl (.tmp 27) (.tmp 28) _ _ rfl _ _ rfl rfl _ _ (H2.out _) ?_))
      go_ret
      rw [HF.out]
      exact ⟨rfl, (Below.refl _ _).alloc (Nat.le_refl _) _⟩

set_option maxRecDepth 100000 in
set_option maxHeartbeats 400000 in
theorem rtorn_any (a b : ByteArray) (w : World) (ha : a.size ≤ 1000000) (hb : b.size ≤ 1000000) :
    Calls Try.prog 43 #[.string a, .string b] w fun e w' => e = .returned (.string (tornOf a b)) ∧ w = w' := by
  have HF := Lib.hid (show tornOf a b = a.extract 0 128 ++ b.extract 128 b.size from rfl)
  by_cases h1 : a.size ≤ 128
  · have H1 := Lib.hid (extract_all a 128 h1)
    by_cases h2 : b.size ≤ 128
    · have H2 := Lib.hid (extract_none b 128 b.size h2)
      go_enter Try.func43, Try.ntmps43
      go_wp2
      go_ret
      exact ⟨by rw [HF.out, H1.out, H2.out, app_nil]; rfl, rfl⟩
    · go_enter Try.func43, Try.ntmps43
      go_wp2
      go_ret
      exact ⟨by rw [HF.out, H1.out]; rfl, rfl⟩
  · by_cases h2 : b.size ≤ 128
    · have H2 := Lib.hid (extract_none b 128 b.size h2)
      go_enter Try.func43, Try.ntmps43
      go_wp2
      go_ret
      exact ⟨by rw [HF.out, H2.out, app_nil]; rfl, rfl⟩
    · go_enter Try.func43, Try.ntmps43
      go_wp2
      go_ret
      exact ⟨by rw [HF.out]; rfl, rfl⟩
end Go.Proofs.Ytbenaagooankbaa
