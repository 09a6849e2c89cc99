/-
  The law package's fixed(): it answers true; the document's Ints.
-/
import Derived.Test.YtdbniiggbjmfoaaD5
import Derived.Test.YtdbniiggbjmfoaaS5
namespace Go.Proofs.Ytdbniiggbjmfoaa
open Go.RowKit Go.ChangeMaps

theorem below_drew (w : World) (m : Nat) : Below w.heap.size w (w.drewN m) := ⟨rfl, rfl, rfl, Nat.le_refl _, fun _ _ => rfl⟩
set_option maxRecDepth 100000 in
set_option maxHeartbeats 1000000 in
theorem ints_eq (w : World) (v1 v2 : Value) (l : List Int) (h1 : IsInts w v1 l) (h2 : IsInts w v2 l) (hl : l.length ≤ 1000000) :
    Calls Try.prog 36 #[v1, v2] w fun e w' => e = .returned (.bool true) ∧ Below w.heap.size w w' := by
  have H1 := Lib.hid h1
  have H2 := Lib.hid h2
  obtain ⟨a1, C1, rfl⟩ := h1.len
  obtain ⟨a2, C2, rfl⟩ := h2.len
  clear h1 h2
  go_enter Try.func36, Try.ntmps36
  go_wp2
  go_loopw [5] (fun i wr => ∃ k : Nat, k ≤ l.length ∧ i = .int .i64 (k : Int) ∧ ∃ m, wr = w.drewN m) (fun i _ => l.length - (intOf i).toNat)
  case atStart => exact ⟨0, by omega, rfl, 0, rfl⟩
  case round =>
    obtain ⟨k, hk, rfl, m, rfl⟩ := hrel
    by_cases hlt : k < l.length
    · have hlt' : (k : Int) < (l.length : Int) := by omega
      have h0 : (0 : Int) ≤ (k : Int) := by omega
      rcases H1.out with ⟨_, e⟩ | ⟨g1, D1, e1, c1⟩
      · rw [e] at hlt; simp at hlt
      rcases H2.out with ⟨_, e⟩ | ⟨g2, D2, e2, c2⟩
      · rw [e] at hlt; simp at hlt
      obtain ⟨x, hx⟩ : ∃ x, l[k]? = some x := ⟨_, List.getElem?_eq_getElem hlt⟩
      have d1 : (w.drewN m).cell? ⟨g1, k, none⟩ = some (.int .i64 x) := c1 k x hx
      have d2 : (w.drewN m).cell? ⟨g2, k, none⟩ = some (.int .i64 x) := c2 k x hx
      simp only [Value.slice.injEq, true_and] at e1 e2
      obtain ⟨rfl, rfl⟩ := e1
      obtain ⟨rfl, rfl⟩ := e2
      clear c1 c2 H1 H2
      obtain ⟨w1, HW⟩ : ∃ w1, Hid (w.drewN m = w1) := ⟨_, rfl⟩
      rw [HW.out] at d1 d2 ⊢
      go_wp2
      go_quiet (fail)
      go_wp2
      refine ⟨⟨k + 1, by omega, by go_num, m + nq, ?_⟩, by simp [intOf]; omega⟩
      rw [← HW.out]; simp [World.drewN, Nat.add_assoc]
    · obtain rfl : k = l.length := by omega
      go_wp2
      go_ret
      exact ⟨rfl, below_drew _ _⟩

theorem readOf_page (s : ByteArray) (h : s.size ≤ 252) : readOf (pageOf s) = padOf s 252 := by unfold readOf; rw [okPage_pageOf s h, if_pos rfl, pageOf_extract s h]
theorem errOf_page (s : ByteArray) (h : s.size ≤ 252) : errOf (pageOf s) = 0 := by unfold errOf; rw [okPage_pageOf s h]; rfl
theorem tornOf_list (a b : ByteArray) : (tornOf a b).data.toList = a.data.toList.take 128 ++ b.data.toList.drop 128 := by
  unfold tornOf
  have e : (b.data.toList.drop 128).take (b.size - 128) = b.data.toList.drop 128 := List.take_of_length_le (by rw [List.length_drop, ← Lib.size_eq]; omega)
  rw [ByteArray.data_append, Array.toList_append, extract_list, extract_list, List.drop_zero, e, Nat.sub_zero]
theorem page_one (x : UInt8) : (pageOf ⟨#[x]⟩).data.toList = (x :: List.replicate 127 0) ++ (List.replicate 124 0 ++ Lib.leBytes 4 (crcOf (padOf ⟨#[x]⟩ 252).data.toList)) := by
  rw [pageOf_list]
  have : (padOf ⟨#[x]⟩ 252).data.toList = (x :: List.replicate 127 0) ++ List.replicate 124 0 := by
    rw [padOf_list]
    show x :: List.replicate 251 0 = x :: (List.replicate 127 0 ++ List.replicate 124 0)
    rw [List.replicate_append_replicate]
  rw [this, List.append_assoc]
/-- of two pages of one byte each, torn, is none -/
theorem torn_bad : okPage (tornOf (pageOf ⟨#[98]⟩) (pageOf ⟨#[97]⟩)) = false := by
  refine okPage_set ⟨#[97]⟩ (by decide) _ 0 98 (by decide) ?_ ?_
  · rw [tornOf_list, page_one, page_one]
    rw [List.take_left' (by simp), List.drop_left' (by simp)]
    rfl
  · rw [page_one, List.cons_append, List.getElem?_cons_zero]; decide
theorem readOf_torn : readOf (tornOf (pageOf ⟨#[98]⟩) (pageOf ⟨#[97]⟩)) = ⟨#[]⟩ := by unfold readOf; rw [torn_bad]; rfl
theorem errOf_torn : errOf (tornOf (pageOf ⟨#[98]⟩) (pageOf ⟨#[97]⟩)) = 5 := by unfold errOf; rw [torn_bad]; rfl
def zeros (n : Nat) : ByteArray := ⟨(List.replicate n 0).toArray⟩
theorem zeros_size (n : Nat) : (zeros n).size = n := by rw [Lib.size_eq]; show (List.replicate n (0 : UInt8)).length = n; simp
section
variable (w : World)
theorem mk_zeros (n : Nat) (k : Int) (hk : k = n) (hn : n ≤ 1000000) : (Instr.makeSlice 84 (.int .i64 k) (.int .i64 k)).run Try.prog w = .ok (.slice (some ⟨w.heap.size, 0, none⟩) n n) (w.alloc (.cells (brow (List.replicate n 0)) 5)) := by
  subst hk
  obtain ⟨ib, hi, hz0, hz1, hz2⟩ := Try.info_byte
  exact run_make_bytes (P := Try.prog) w 84 5 ib Try.underlying84 hi hz0 hz1 hz2 n (by omega)
theorem st_zeros (n : Nat) : (convert 84 9 (.slice (some ⟨w.heap.size, 0, none⟩) n n)).run Try.prog (w.alloc (.cells (brow (List.replicate n 0)) 5)) = .ok (.string (zeros n)) (w.alloc (.cells (brow (List.replicate n 0)) 5)) :=
  run_string_bytes (P := Try.prog) w 84 9 5 n n (List.replicate n 0) (by simp) Try.underlying84 Try.underlying5 Try.underlying9
end
end Go.Proofs.Ytdbniiggbjmfoaa
