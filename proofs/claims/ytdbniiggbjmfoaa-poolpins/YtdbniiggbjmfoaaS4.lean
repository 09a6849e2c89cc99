/-
  The contracts of package sum's Torn, and of the document's answer for it.
-/
import Derived.Test.YtdbniiggbjmfoaaW3
import Derived.Test.YtdbniiggbjmfoaaC2
import Derived.Lib.AppendStr
import Derived.Outline
import Derived.Lib.Hide
import Derived.Deep.DeepCutAuto
namespace Go.Proofs.Ytdbniiggbjmfoaa
open Go.RowKit

section
variable {P : Program}
/-- make([]byte, 0, n) -/
theorem run_make_room (w : World) (t e : TypeId) (i : TypeInfo) (ht : P.underlying t = some (.slice e)) (hi : P.info? e = some i) (hz : i.zero = some (.int .u8 0)) (hsz : i.size = 1) (hb : i.bytes = 1)
    (k : Int) (n : Nat) (hk : k = n) (hn : n ≤ 281474976710656) :
    (Instr.makeSlice t (.int .i64 0) (.int .i64 k)).run P w = .ok (.slice (some ⟨w.heap.size, 0, none⟩) 0 n) (w.alloc (.cells (brow (List.replicate n 0)) e)) := by
  subst hk
  have h := run_make (P := P) w t e i (.int .u8 0) ht hi hz .i64 .i64 0 (n : Int) (by omega) (by omega) (by rw [hb]; omega) (by omega)
  rw [hsz, Int.toNat_natCast, Nat.mul_one, madeCells_bytes] at h
  exact h
/-- an append, by what it runs to, for the walk -/
theorem wpList_append_run {ops : Array Oper} {rest : List Oper} {o : Oper} {a : Act} {Q : Exit → Act → World → Prop} {w : World} (hgd : o.guard = none) (sl x : Operand) (t u : TypeId)
    (ho : o.op = .call { callee := .builtin .append, args := #[sl, x], argTypes := #[t, u] }) (v xv : Value) (hs : a.eval sl = v) (hx : a.eval x = xv) (v' : Value) (w' : World)
    (hr : (Builtin.append_ #[t, u] o.type #[v, xv]).run P w = .ok v' w') (h : wpList P ops Q rest (a.put o.dst v') w') : wpList P ops Q (o :: rest) a w := by
  refine wpList_plain hgd fun K hK => ?_
  unfold Oper.wp execOp
  simp only [ho, resolve, invoke, builtin, Sem.run_bind, Sem.run_pure, Result.andThen_ok, List.map_toArray, List.map_cons, List.map_nil, hs, hx, hr]
  exact hK _ _ h
/-- append(b, s...), b the newest row, with room -/
theorem run_append_bytes (w : World) (t u ty e : TypeId) (i : TypeInfo) (ht : P.underlying t = some (.slice e)) (hu : P.underlying u = some .string) (hi : P.info? e = some i) (hs1 : i.size = 1)
    (L C : Nat) (s : ByteArray) (l : List UInt8) (hr : L + s.size ≤ C) (hl : L + s.size ≤ l.length) :
    (Builtin.append_ #[t, u] ty #[.slice (some ⟨w.heap.size, 0, none⟩) L C, .string s]).run P (w.alloc (.cells (brow l) e)) =
      .ok (.slice (some ⟨w.heap.size, 0, none⟩) (L + s.size) C) (w.alloc (.cells (brow (spliceB l L s.data.toList)) e)) := by
  rw [Lib.run_append_room_string (P := P) (w.alloc (.cells (brow l) e)) t u ty e i ht hu hi hs1 w.heap.size L C (brow l) (heap_alloc_new w _) s hr (by rw [brow_size]; exact hl)]
  have e : ((brow l).toList.take L ++ Lib.strCells s ++ (brow l).toList.drop (L + s.size)).toArray = brow (spliceB l L s.data.toList) := by
    simp [brow, Lib.byteCells, spliceB, Lib.strCells]
  rw [e, setRow_alloc_new]
end

theorem join_bytes (a b : List UInt8) : spliceB (spliceB (List.replicate (a.length + b.length) 0) 0 a) a.length b = a ++ b := by
  unfold spliceB
  simp
theorem tornOf_size (a b : ByteArray) (ha : a.size = 256) (hb : b.size = 256) : (tornOf a b).size = 256 := by
  unfold tornOf; rw [ByteArray.size_append, ByteArray.size_extract, ByteArray.size_extract]; omega
theorem extract_all (a : ByteArray) (n : Nat) (h : a.size ≤ n) : a.extract 0 n = a := by
  apply ba_ext; rw [extract_list, List.drop_zero, Nat.sub_zero, List.take_of_length_le (by rw [← Lib.size_eq]; exact h)]
theorem extract_none (a : ByteArray) (m n : Nat) (h : a.size ≤ m) : a.extract m n = ⟨#[]⟩ := by
  apply ba_ext; rw [extract_list, List.drop_eq_nil_of_le (by rw [← Lib.size_eq]; exact h), List.take_nil]
theorem app_nil (a : ByteArray) : a ++ (⟨#[]⟩ : ByteArray) = a := ByteArray.append_empty
theorem ba_empty (s : ByteArray) (h : s.size = 0) : s = ⟨#[]⟩ := by
  apply ByteArray.ext; exact Array.eq_empty_of_size_eq_zero h


end Go.Proofs.Ytdbniiggbjmfoaa
