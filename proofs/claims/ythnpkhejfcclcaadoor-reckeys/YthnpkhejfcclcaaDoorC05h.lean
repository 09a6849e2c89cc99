/-
  The document's answer for layer 5 (budwoodref05): the contracts of number, Text, guess.
-/
import Derived.Test.YthnpkhejfcclcaaDoorC05g
import Derived.Test.YthnpkhejfcclcaaDoorO1
namespace Go.Proofs.YthnpkhejfcclcaaDoor
open Go.RowKit

set_option maxHeartbeats 400000 in
theorem rnumber_any (s : ByteArray) (a z : Int) (w : World) (hs : s.size ≤ 1000000) (hz : z ≤ 6) :
    Calls Tryd.prog 53 #[.string s, .int .i64 a, .int .i64 z] w fun e w' => e = .returned (.int .i64 (numAt s a z)) ∧ w = w' := by
  by_cases h : errAt s.size a z = 0
  · have C1 := Lib.hid (rget_ok s a z w hs h)
    have e : numAt s a z = ((Lib.leNat ((s.data.toList.drop a.toNat).take z.toNat) : Nat) : Int) := by unfold numAt; rw [if_pos h]
    have hlt : Lib.leNat ((s.data.toList.drop a.toNat).take z.toNat) < 281474976710656 := by
      have h1 := leNat_lt ((s.data.toList.drop a.toNat).take z.toNat)
      have h2 : ((s.data.toList.drop a.toNat).take z.toNat).length ≤ 6 := by rw [List.length_take]; have := (errAt_ok.1 h); omega
      calc _ < 256 ^ ((s.data.toList.drop a.toNat).take z.toNat).length := h1
        _ ≤ 256 ^ 6 := Nat.pow_le_pow_right (by decide) h2
        _ = 281474976710656 := rfl
    rw [e]
    clear e h
    generalize Lib.leNat ((s.data.toList.drop a.toNat).take z.toNat) = v at *
    have hc : (0 : Int) ≤ (v : Int) := by omega
    have hc2 : (v : Int) < 281474976710656 := by omega
    go_enter Tryd.func53, Tryd.ntmps53
    go_wp2_with fail
    refine C1.out.mono ?_; rintro e w1 ⟨rfl, rfl⟩
    go_wp2
    go_ret
    exact ⟨by first | rfl | (simp; done) | (simp; omega), rfl⟩
  · have e : numAt s a z = 0 := by unfold numAt; rw [if_neg h]
    rw [e]
    obtain ⟨k, hk⟩ : ∃ k, errAt s.size a z = k := ⟨_, rfl⟩
    have hk0 : (k != 0) = true := by rw [bne_iff_ne, ← hk]; exact h
    have C1 := Lib.hid (rget_bad s a z k w hs hk hk0)
    clear h e hk
    go_enter Tryd.func53, Tryd.ntmps53
    go_wp2_with fail
    refine C1.out.mono ?_; rintro e w1 ⟨rfl, rfl⟩
    go_wp2
    go_ret
    exact ⟨rfl, rfl⟩
theorem rtx_any (s : ByteArray) (a : Int) (w : World) (hs : s.size ≤ 1000000) :
    Calls Tryd.prog 54 #[.string s, .int .i64 a] w fun e w' => e = .returned (.tuple #[.string (txAt s a).1, .int .i64 (txAt s a).2.1, .int .i64 (txAt s a).2.2]) ∧ w = w' := by
  by_cases h : textErr s.data.toList a = 0
  · unfold txAt; rw [if_pos h]; exact rtext_ok s a w hs h
  · unfold txAt; rw [if_neg h]
    exact rtext_bad s a _ w hs rfl (by rw [bne_iff_ne]; exact h)
theorem txAt_size (s : ByteArray) (a : Int) : (txAt s a).1.size ≤ s.size := by
  unfold txAt; split
  · show (s.extract _ _).size ≤ _; rw [ByteArray.size_extract]; omega
  · exact Nat.zero_le _
theorem numAt_nonneg (s : ByteArray) (a z : Int) : 0 ≤ numAt s a z := by unfold numAt; split <;> omega
theorem numAt2_lt (s : ByteArray) (a : Int) : numAt s a 2 < 65536 := by
  unfold numAt; split
  · have h1 := leNat_lt ((s.data.toList.drop a.toNat).take (2 : Int).toNat)
    have h2 : ((s.data.toList.drop a.toNat).take (2 : Int).toNat).length ≤ 2 := by rw [List.length_take, show (2 : Int).toNat = 2 from rfl]; omega
    have h3 : 256 ^ ((s.data.toList.drop a.toNat).take (2 : Int).toNat).length ≤ 256 ^ 2 := Nat.pow_le_pow_right (by decide) h2
    have : (256 : Nat) ^ 2 = 65536 := rfl
    omega
  · omega
/-- pairs as cells -/
def pcells : Prs → List Value
  | [] => []
  | p :: l => .string p.1 :: .string p.2 :: pcells l
theorem pcells_length : ∀ l : Prs, (pcells l).length = l.length * 2
  | [] => rfl
  | x :: l => by simp [pcells, pcells_length l]; omega
theorem pcells_append : ∀ A B : Prs, pcells (A ++ B) = pcells A ++ pcells B
  | [], _ => rfl
  | x :: l, B => by simp [pcells, pcells_append l B]
theorem pcells_get : ∀ (l : Prs) (j : Nat) (x : ByteArray × ByteArray), l[j]? = some x → (pcells l)[j * 2]? = some (.string x.1) ∧ (pcells l)[j * 2 + 1]? = some (.string x.2)
  | [], _, _, h => by simp at h
  | y :: l, 0, x, h => by simp at h; subst h; simp [pcells]
  | y :: l, j + 1, x, h => by
    have := pcells_get l j x (by simpa using h)
    rw [show (j + 1) * 2 = j * 2 + 1 + 1 by omega]
    simpa [pcells] using this
theorem pcells_one (l : Prs) : ∀ u ∈ pcells l, u.oneCell' = true := by
  intro u hu
  induction l with
  | nil => simp [pcells] at hu
  | cons x l ih =>
    simp [pcells] at hu
    rcases hu with rfl | rfl | h
    · rfl
    · rfl
    · exact ih h
/-- a row of pairs: its slice, written out; where its pairs are -/
theorem row_pairs {w : World} {base : Nat} {v : Value} {l : Prs} (h : w.ownsRow base 47 2 v l.length (pcells l)) : ∃ a C, v = .slice a l.length C ∧ PairsAt w a l ∧ ∀ x, a = some x → base ≤ x.block := by
  rcases h.2 with ⟨rfl, h0⟩ | ⟨g, cap, cur, rfl, hb, hg, h1, h2, h3, h4⟩
  · have : l = [] := List.eq_nil_of_length_eq_zero h0
    subst this
    exact ⟨none, 0, rfl, pairsAt_nil _ _, fun x h => by cases h⟩
  · refine ⟨_, _, rfl, fun i p hp => ⟨g, 0, rfl, ?_⟩, fun x h => by cases h; exact hb⟩
    obtain ⟨q1, q2⟩ := pcells_get l i p hp
    have k1 := h.cells (g := g) rfl _ _ q1
    have k2 := h.cells (g := g) rfl _ _ q2
    rw [add_zero'] at k1 k2
    rw [Nat.zero_add]
    exact ⟨k1, k2⟩
theorem info_pair : (Tryd.prog.info? 47).map (fun i => (i.zero, i.size, i.bytes)) = some (some (.agg #[.string ⟨#[]⟩, .string ⟨#[]⟩]), 2, 32) := by kernel_rfl
theorem heap_set5 (w : World) (b j : Nat) (c : Array Value) (t : TypeId) (v : Value) (h : w.heap[b]? = some (.cells c t (0, 0))) : (w.setCell ⟨b, j, none⟩ v).heap[b]? = some (.cells (c.setIfInBounds j v) t (0, 0)) := by
  obtain ⟨hlt, hk⟩ := Array.getElem?_eq_some_iff.1 h
  show (w.heap.modify b _)[b]? = _
  rw [Array.getElem?_eq_getElem (by rw [Array.size_modify]; exact hlt), Array.getElem_modify_self, hk]
  rfl
section
variable {ty : TypeId} {w w' : World} {B : Nat} {k t : Int} {ke va : ByteArray} {pa un nu : Int} {v : Value}
theorem Box8.set1 (h : Box8 ty w B k t ke va pa un nu v) (x : Int) : Box8 ty (w.setCell ⟨B, 1, none⟩ (.int .i64 x)) B k x ke va pa un nu v := heap_set5 _ _ _ _ _ _ h
theorem Box8.set2 (h : Box8 ty w B k t ke va pa un nu v) (x : ByteArray) : Box8 ty (w.setCell ⟨B, 2, none⟩ (.string x)) B k t x va pa un nu v := heap_set5 _ _ _ _ _ _ h
theorem Box8.set3 (h : Box8 ty w B k t ke va pa un nu v) (x : ByteArray) : Box8 ty (w.setCell ⟨B, 3, none⟩ (.string x)) B k t ke x pa un nu v := heap_set5 _ _ _ _ _ _ h
theorem Box8.set4 (h : Box8 ty w B k t ke va pa un nu v) (x : Int) : Box8 ty (w.setCell ⟨B, 4, none⟩ (.int .i64 x)) B k t ke va x un nu v := heap_set5 _ _ _ _ _ _ h
theorem Box8.set5 (h : Box8 ty w B k t ke va pa un nu v) (x : Int) : Box8 ty (w.setCell ⟨B, 5, none⟩ (.int .i64 x)) B k t ke va pa x nu v := heap_set5 _ _ _ _ _ _ h
theorem Box8.set6 (h : Box8 ty w B k t ke va pa un nu v) (x : Int) : Box8 ty (w.setCell ⟨B, 6, none⟩ (.int .i64 x)) B k t ke va pa un x v := heap_set5 _ _ _ _ _ _ h
theorem Box8.set7 (h : Box8 ty w B k t ke va pa un nu v) (x : Value) : Box8 ty (w.setCell ⟨B, 7, none⟩ x) B k t ke va pa un nu x := heap_set5 _ _ _ _ _ _ h
theorem Box8.far (h : Box8 ty w B k t ke va pa un nu v) {p : Addr} (u : Value) (hne : B ≠ p.block) : Box8 ty (w.setCell p u) B k t ke va pa un nu v := (Below.heap_setCell _ _ _ _ hne).trans h
end
end Go.Proofs.YthnpkhejfcclcaaDoor
