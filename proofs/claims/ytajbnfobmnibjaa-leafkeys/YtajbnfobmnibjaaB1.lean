/-
  Laws of a row of bytes that a call makes: made, copied into, stored into, read as a string. Over any program whose types are as named.
-/
import Derived.WalkKit
import Derived.WalkSpells
import Derived.Lib.Strings
import Derived.Lib.UnsafeStr
import Derived.Lib.BufferWrite
import Derived.Laws.MakeOwn
import Derived.Laws.IdiomStrings
namespace Go.Proofs.Ytajbnfobmnibjaa
open Go.RowKit

/-- the cells of a row that holds these bytes -/
def brow (l : List UInt8) : Array Value := (Lib.byteCells l).toArray
/-- l with m over it from place o on -/
def spliceB (l : List UInt8) (o : Nat) (m : List UInt8) : List UInt8 := l.take o ++ m ++ l.drop (o + m.length)

theorem brow_size (l : List UInt8) : (brow l).size = l.length := by simp [brow, Lib.byteCells]
theorem spliceB_length (l m : List UInt8) (o : Nat) (h : o + m.length ≤ l.length) : (spliceB l o m).length = l.length := by
  simp only [spliceB, List.length_append, List.length_take, List.length_drop]; omega
theorem spliceB_snoc (l m : List UInt8) (o : Nat) (x : UInt8) (h : o + m.length < l.length) : (spliceB l o m).set (o + m.length) x = spliceB l o (m ++ [x]) := by
  have hl : (l.take o ++ m).length = o + m.length := by rw [List.length_append, List.length_take]; omega
  unfold spliceB
  rw [List.set_append_right _ _ (by omega), hl, Nat.sub_self, List.drop_eq_getElem_cons h, List.set_cons_zero]
  simp [List.append_assoc, Nat.add_assoc]
theorem spliceB_cons (l m : List UInt8) (o : Nat) (x : UInt8) (h : o < l.length) : spliceB (l.set o x) (o + 1) m = spliceB l o (x :: m) := by
  unfold spliceB
  have e : (l.set o x).take (o + 1) = l.take o ++ [x] := by
    rw [List.take_succ_eq_append_getElem (by rw [List.length_set]; exact h), List.getElem_set_self, List.take_set_of_le (Nat.le_refl _)]
  rw [e, List.drop_set_of_lt (by omega), List.length_cons]
  simp [Nat.add_assoc, Nat.add_comm 1]
theorem spliceB_nil (l : List UInt8) (o : Nat) : spliceB l o [] = l := by simp [spliceB]
theorem spliceB_whole (l m : List UInt8) (h : l.length ≤ m.length) : spliceB l 0 m = m := by
  simp [spliceB, List.drop_eq_nil_of_le h]
theorem brow_get (l : List UInt8) (i : Nat) : (brow l)[i]? = l[i]?.map fun b => Value.int .u8 b.toNat := by
  simp [brow, Lib.byteCells]
theorem brow_some (l : List UInt8) (i : Nat) (h : i < l.length) : ∃ x, (brow l)[i]? = some (.int .u8 x) := by
  rw [brow_get, List.getElem?_eq_getElem h]; exact ⟨_, rfl⟩
theorem brow_set (l : List UInt8) (i : Nat) (x : Int) (h0 : 0 ≤ x) (h1 : x < 256) : (brow l).setIfInBounds i (.int .u8 x) = brow (l.set i (UInt8.ofNat x.toNat)) := by
  have e : x = ((UInt8.ofNat x.toNat).toNat : Int) := by rw [UInt8.toNat_ofNat']; omega
  simp only [brow, Lib.byteCells, List.setIfInBounds_toArray, List.map_set]
  rw [← e]
theorem madeCells_bytes (n : Nat) : madeCells (Value.int .u8 0).cells n = brow (List.replicate n 0) := by
  apply Array.ext
  · rw [size_madeCells, brow_size, List.length_replicate]
  · intro i h1 h2
    simp [madeCells, brow, Lib.byteCells, Value.cells, Nat.mod_one]

theorem setRow_alloc_new (w : World) (c d : Array Value) (t : TypeId) : (w.alloc (.cells c t)).setRow w.heap.size d = w.alloc (.cells d t) := by
  unfold World.setRow World.alloc
  congr 1
  apply Array.ext_getElem?
  intro k
  simp only [Array.getElem?_modify, Array.getElem?_push]
  by_cases hk : k = w.heap.size
  · subst hk; simp
  · simp [hk, Ne.symm hk]

variable {P : Program}
/-- make([]byte, n) -/
theorem run_make_bytes (w : World) (t e : TypeId) (i : TypeInfo) (ht : P.underlying t = some (.slice e)) (hi : P.info? e = some i) (hz : i.zero = some (.int .u8 0)) (hsz : i.size = 1) (hb : i.bytes = 1)
    (n : Nat) (hn : n ≤ 281474976710656) :
    (Instr.makeSlice t (.int .i64 (n : Int)) (.int .i64 (n : Int))).run P w = .ok (.slice (some ⟨w.heap.size, 0, none⟩) n n) (w.alloc (.cells (brow (List.replicate n 0)) e)) := by
  have h := run_make (P := P) w t e i (.int .u8 0) ht hi hz .i64 .i64 (n : Int) (n : Int) (by omega) (by omega) (by rw [hb]; omega) (by omega)
  rw [hsz, Int.toNat_natCast, Nat.mul_one, madeCells_bytes] at h
  exact h
/-- copy(b[o:], s), b the newest row -/
theorem run_copy_bytes (w : World) (dT sT ty elem : TypeId) (o dLen dCap : Nat) (s : ByteArray) (l : List UInt8)
    (hu : P.underlying dT = some (.slice elem)) (hs : (P.info? elem).map (·.size) = some 1) (hle : s.size ≤ dLen) (hfit : o + s.size ≤ l.length) :
    (Builtin.copy_ #[dT, sT] ty #[.slice (some ⟨w.heap.size, o, none⟩) dLen dCap, .string s]).run P (w.alloc (.cells (brow l) elem)) =
      .ok (goInt s.size) (w.alloc (.cells (brow (spliceB l o s.data.toList)) elem)) := by
  rw [Lib.run_copy_row_string (w.alloc (.cells (brow l) elem)) dT sT ty elem w.heap.size o dLen dCap s (brow l) elem hu hs (heap_alloc_new w _) hle (by rw [brow_size]; exact hfit)]
  have e : ((brow l).toList.take o ++ Lib.byteCells s.data.toList ++ (brow l).toList.drop (o + s.size)).toArray = brow (spliceB l o s.data.toList) := by
    simp [brow, Lib.byteCells, spliceB]
  rw [e, setRow_alloc_new]
/-- string(b), b the newest row, whole -/
theorem run_string_bytes (w : World) (src dst e : TypeId) (n c : Nat) (l : List UInt8) (hl : l.length = n) (hs : P.underlying src = some (.slice e)) (he : P.underlying e = some (.int .u8)) (hd : P.underlying dst = some .string) :
    (convert src dst (.slice (some ⟨w.heap.size, 0, none⟩) n c)).run P (w.alloc (.cells (brow l) e)) = .ok (.string ⟨l.toArray⟩) (w.alloc (.cells (brow l) e)) := by
  subst hl
  refine run_convert_bytes_back _ src dst e _ c l hs he hd ?_
  intro j hj
  have ea : Addr.add ⟨w.heap.size, 0, none⟩ j = ⟨w.heap.size, j, none⟩ := by simp [Addr.add]; exact fun h => h.symm
  rw [ea, World.cell?_alloc_at _ _ _ _ rfl, brow_get, List.getElem?_eq_getElem hj]; rfl
end Go.Proofs.Ytajbnfobmnibjaa
