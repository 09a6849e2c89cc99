/-
  FieldRow: texts one behind the other: the plain facts.
-/
import Derived.Test.YthakfbkcjfjihaaL3
import Derived.Test.YthakfbkcjfjihaaA1
namespace Go.Proofs.Ythakfbkcjfjihaa
open Go.RowKit

def encT (t : ByteArray) : List UInt8 := UInt8.ofNat t.size :: t.data.toList
def encL (ts : List ByteArray) : List UInt8 := ts.flatMap encT
/-- a text's first 40 bytes -/
def cut40 (x : ByteArray) : ByteArray := if x.size ≤ 40 then x else x.extract 0 40
theorem cut40_size (x : ByteArray) : (cut40 x).size ≤ 40 := by
  unfold cut40; split
  · assumption
  · rw [ByteArray.size_extract]; omega
theorem encT_length (t : ByteArray) : (encT t).length = 1 + t.size := by rw [encT, List.length_cons, ← Lib.size_eq]; omega
theorem encL_snoc (ts : List ByteArray) (t : ByteArray) : encL (ts ++ [t]) = encL ts ++ encT t := by simp [encL]
theorem encL_append (ts us : List ByteArray) : encL (ts ++ us) = encL ts ++ encL us := by simp [encL]
/-- where the k-th text begins -/
def atK (ts : List ByteArray) (k : Nat) : Nat := (encL (ts.take k)).length
theorem atK_succ (ts : List ByteArray) (k : Nat) (h : k < ts.length) : atK ts (k + 1) = atK ts k + 1 + ts[k].size := by
  unfold atK; rw [List.take_succ_eq_append_getElem h, encL_snoc, List.length_append, encT_length]; omega
theorem atK_le (ts : List ByteArray) (h : ∀ t ∈ ts, t.size ≤ 40) (k : Nat) (hk : k ≤ ts.length) : atK ts k ≤ 41 * k := by
  induction k with
  | zero => simp [atK, encL]
  | succ k ih =>
    have h1 := ih (by omega)
    have h2 := h ts[k] (List.getElem_mem _)
    rw [atK_succ ts k (by omega)]; omega
/-- the bytes have the first k texts one behind the other -/
def RowIs (X : ByteArray) (ts : List ByteArray) (k : Nat) : Prop := X.size = 1000 ∧ X.data.toList.take (atK ts k) = encL (ts.take k)

theorem row_put (X : ByteArray) (ts : List ByteArray) (k : Nat) (h : ∀ t ∈ ts, t.size ≤ 40) (hk : k < ts.length) (hn : ts.length ≤ 20) (hr : RowIs X ts k) : ∃ Y : ByteArray,
    (∀ w, Calls Try.prog 17 #[.string X, .int .i64 (atK ts k), .string ts[k]] w fun e w' => e = .returned (.tuple #[.string Y, .int .i64 (atK ts (k + 1)), .int .i64 0]) ∧ Below w.heap.size w w') ∧ RowIs Y ts (k + 1) := by
  obtain ⟨hx, hr⟩ := hr
  have h1 := atK_le ts h k (by omega)
  have h2 := h ts[k] (List.getElem_mem _)
  have hs := atK_succ ts k hk
  have hlen : (encT ts[k]).length = 1 + ts[k].size := encT_length _
  have hfit : atK ts k + (encT ts[k]).length ≤ X.data.toList.length := by rw [hlen, ← Lib.size_eq]; omega
  refine ⟨putB X (atK ts k) (encT ts[k]), fun w => ?_, ?_, ?_⟩
  · have c := putText_ok X ts[k] (atK ts k) w (by omega) (putTextErr_ok.2 (by omega))
    rw [Int.toNat_natCast] at c
    have e : ((atK ts (k + 1) : Nat) : Int) = (atK ts k : Int) + 1 + ts[k].size := by rw [hs]; omega
    rw [e]; exact c
  · rw [putB_size _ _ _ (by rw [hlen]; omega), hx]
  · show (spliceB X.data.toList (atK ts k) (encT ts[k])).take (atK ts (k + 1)) = _
    rw [List.take_succ_eq_append_getElem hk, encL_snoc, ← hr, hs]
    unfold spliceB
    apply List.take_left'
    rw [List.length_append, List.length_take, hlen]; rw [hlen] at hfit; omega

theorem row_get (X : ByteArray) (ts : List ByteArray) (k : Nat) (h : ∀ t ∈ ts, t.size ≤ 40) (hk : k < ts.length) (hn : ts.length ≤ 20) (hr : RowIs X ts ts.length) (w : World) :
    Calls Try.prog 15 #[.string X, .int .i64 (atK ts k)] w fun e w' => e = .returned (.tuple #[.string ts[k], .int .i64 ((atK ts k : Int) + 1 + ts[k].size), .int .i64 0]) ∧ Below w.heap.size w w' := by
  obtain ⟨hx, hr⟩ := hr
  have h1 := atK_le ts h k (by omega)
  have h2 := h ts[k] (List.getElem_mem _)
  have hs := atK_succ ts k hk
  have h3 := atK_le ts h (k + 1) (by omega)
  have hall : encL ts = encL (ts.take k) ++ (encT ts[k] ++ encL (ts.drop (k + 1))) := by
    rw [← List.append_assoc, ← encL_snoc, ← List.take_succ_eq_append_getElem hk, ← encL_append, List.take_append_drop]
  rw [List.take_length] at hr
  have hpart : (X.data.toList.drop (atK ts k)).take (1 + ts[k].size) = encT ts[k] := by
    have hle : atK ts k + (1 + ts[k].size) ≤ atK ts ts.length := by
      unfold atK; rw [List.take_length, hall, List.length_append, List.length_append, encT_length]; omega
    have e1 : ((X.data.toList.take (atK ts ts.length)).drop (atK ts k)).take (1 + ts[k].size) = (X.data.toList.drop (atK ts k)).take (1 + ts[k].size) := by
      rw [List.drop_take, List.take_take, Nat.min_eq_left (by omega)]
    rw [← e1, hr, hall, show atK ts k = (encL (ts.take k)).length from rfl, List.drop_left' rfl]
    apply List.take_left'
    exact encT_length _
  have hb0 : byteAt X.data.toList (atK ts k) = ts[k].size := by
    have e := congrArg (fun l => l[0]?) hpart
    simp only [List.getElem?_take, List.getElem?_drop, encT, List.getElem?_cons_zero, Nat.add_zero] at e
    rw [if_pos (by omega)] at e
    unfold byteAt; rw [List.getD_eq_getElem?_getD, e]
    simp [UInt8.toNat_ofNat', Nat.mod_eq_of_lt (show ts[k].size < 256 by omega)]
  have c := text_ok X (atK ts k) w (by omega) (textErr_ok.2 (by rw [Int.toNat_natCast, hb0, ← Lib.size_eq, hx]; omega))
  rw [Int.toNat_natCast, hb0] at c
  have e : X.extract (atK ts k + 1) (atK ts k + 1 + ts[k].size) = ts[k] := by
    apply ba_ext
    rw [Lib.extract_data, show atK ts k + 1 + ts[k].size - (atK ts k + 1) = ts[k].size by omega]
    have h5 := congrArg (List.drop 1) hpart
    rw [List.drop_take, List.drop_drop, encT, List.drop_succ_cons, List.drop_zero, show 1 + ts[k].size - 1 = ts[k].size by omega] at h5
    exact h5
  rw [e] at c
  exact c
end Go.Proofs.Ythakfbkcjfjihaa
