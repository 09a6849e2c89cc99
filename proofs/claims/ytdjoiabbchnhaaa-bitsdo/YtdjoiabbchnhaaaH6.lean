/-
  Package bits: Load.
-/
import Derived.Test.YtdjoiabbchnhaaaH5
import Derived.Test.YtdjoiabbchnhaaaK2
namespace Go.Proofs.Ytdjoiabbchnhaaa
open Go.RowKit Go.Shelf

theorem setRow_heap_other (w : World) (g k : Nat) (cs : Array Value) (h : k ≠ g) : (w.setRow g cs).heap[k]? = w.heap[k]? := by
  unfold World.setRow
  rw [Array.getElem?_modify, if_neg (by omega)]
theorem setRow_heap_same (w : World) (g : Nat) (c cs : Array Value) (t : TypeId) (h : w.heap[g]? = some (.cells c t (0, 0))) : (w.setRow g cs).heap[g]? = some (.cells cs t (0, 0)) := by
  unfold World.setRow
  rw [Array.getElem?_modify, if_pos rfl, h]; rfl
theorem isB_setRow {w : World} {p b : Nat} {M L : List Bool} (h : IsB w p b M) (cs : Array Value) (hl : L.length = M.length) (C : Nat) (cur : Array Value)
    (h1 : w.heap[p]? = some (.cells #[.int .i64 (M.length : Int), .slice (some ⟨b, 0, none⟩) ((M.length + 7) / 8) C] 53 (0, 0))) (h2 : w.heap[b]? = some (.cells cur 5 (0, 0))) (h3 : (M.length + 7) / 8 ≤ C) (h4 : cs.size = C)
    (h5 : ∀ j, j < (M.length + 7) / 8 → cs[j]? = some (.int .u8 (bt L j))) : IsB (w.setRow b cs) p b L := by
  refine ⟨⟨C, cs, ?_, setRow_heap_same _ _ _ _ _ h2, by rw [hl]; exact h3, h4, by rw [hl]; exact h5⟩, by rw [hl]; exact h.n1, by rw [hl]; exact h.n2⟩
  rw [setRow_heap_other _ _ _ _ h.ne, hl]; exact h1
theorem below_setRow {B : Nat} {a w : World} (h : Below B a w) (g : Nat) (cs : Array Value) (hg : B ≤ g) : Below B a (w.setRow g cs) :=
  h.trans ⟨rfl, rfl, rfl, by unfold World.setRow; simp, fun k hk => setRow_heap_other _ _ _ _ (by omega)⟩

theorem last_get (s : ByteArray) (k : Nat) (h : k < s.size) : s.data.toList[k]?.getD 0 = s[k]'h := by
  rw [List.getElem?_eq_getElem (by rw [← Lib.size_eq]; exact h)]; rfl
theorem int_shr (x m : Nat) : ((x : Int) / 2 ^ m) = ((x / 2 ^ m : Nat) : Int) := by simp
set_option maxHeartbeats 1000000 in
theorem load_arg (s : ByteArray) (n : Int) (w : World) (h : n < 1 ∨ 1024 < n) :
    Calls Try.prog 17 #[.string s, .int .i64 n] w fun e w' => e = .returned (.tuple #[.pointer none, .int .i64 1]) ∧ w = w' := by
  have C1 := Lib.hid (new_arg w n h)
  clear h
  go_enter Try.func17, Try.ntmps17
  go_wp2_with (go_at_call 9; refine C1.out.mono ?_; rintro e w' ⟨rfl, rfl⟩)
  go_ret2
  exact ⟨rfl, rfl⟩
set_option maxHeartbeats 1000000 in
theorem load_len (s : ByteArray) (n : Nat) (w : World) (h1 : 1 ≤ n) (h2 : n ≤ 1024) (hs : s.size ≠ (n + 7) / 8) :
    Calls Try.prog 17 #[.string s, .int .i64 (n : Int)] w fun e w' => e = .returned (.tuple #[.pointer none, .int .i64 4]) ∧ Below w.heap.size w w' := by
  have C1 := Lib.hid (new_ok w n h1 h2)
  have hne : ((s.size : Int) != (((n + 7) / 8 : Nat) : Int)) = true := by rw [bne_iff_ne]; omega
  go_enter Try.func17, Try.ntmps17
  go_wp2_with (go_at_call 9; refine C1.out.mono ?_; rintro e w' ⟨rfl, H, hb⟩; obtain ⟨C, cs⟩ := H.cs; rw [List.length_replicate] at cs)
  go_ret2
  exact ⟨rfl, hb⟩
set_option maxHeartbeats 1000000 in
theorem load_bad (s : ByteArray) (n : Nat) (w : World) (h1 : 1 ≤ n) (h2 : n ≤ 1024) (hs : s.size = (n + 7) / 8) (hb : ¬ okS s.data.toList n) :
    Calls Try.prog 17 #[.string s, .int .i64 (n : Int)] w fun e w' => e = .returned (.tuple #[.pointer none, .int .i64 4]) ∧ Below w.heap.size w w' := by
  have C1 := Lib.hid (new_ok w n h1 h2)
  have hl : s.data.toList.length = (n + 7) / 8 := by rw [← Lib.size_eq]; exact hs
  rw [okS_iff _ _ h1 hl, ← shr_le_one] at hb
  obtain ⟨nb, hnb⟩ : ∃ nb, (n + 7) / 8 = nb + 1 := ⟨(n - 1) / 8, by omega⟩
  have ej : (n - 1) / 8 = nb := by omega
  have em : ((n : Int) - 1) % 8 = (((n - 1) % 8 : Nat) : Int) := by omega
  rw [hnb] at hs hl
  rw [ej] at hb
  have hlt : nb < s.size := by omega
  have hbi : (1 : Int) < ((s[nb]'hlt).toNat : Int) / 2 ^ ((n - 1) % 8) := by
    rw [last_get s nb hlt] at hb
    rw [int_shr]; omega
  clear hb
  go_enter Try.func17, Try.ntmps17
  go_wp2_with (go_at_call 9; refine C1.out.mono ?_; rintro e w' ⟨rfl, H, hb⟩; obtain ⟨C, cs⟩ := H.cs; rw [List.length_replicate, hnb] at cs)
  go_ret2
  exact ⟨rfl, hb⟩
set_option maxHeartbeats 1000000 in
theorem load_ok (s : ByteArray) (n : Nat) (w : World) (h1 : 1 ≤ n) (h2 : n ≤ 1024) (ho : okS s.data.toList n) :
    Calls Try.prog 17 #[.string s, .int .i64 (n : Int)] w fun e w' => e = .returned (.tuple #[.pointer (some ⟨w.heap.size + 1, 0, none⟩), .int .i64 0]) ∧ IsB w' (w.heap.size + 1) w.heap.size (bitsOf s.data.toList n) ∧ Below w.heap.size w w' := by
  have C1 := Lib.hid (new_ok w n h1 h2)
  have hl := okS_length ho
  have hs : s.size = (n + 7) / 8 := by rw [Lib.size_eq]; exact hl
  have hb := ho
  have HO := Lib.hid ho
  rw [okS_iff _ _ h1 hl, ← shr_le_one] at hb
  obtain ⟨nb, hnb⟩ : ∃ nb, (n + 7) / 8 = nb + 1 := ⟨(n - 1) / 8, by omega⟩
  have ej : (n - 1) / 8 = nb := by omega
  have em : ((n : Int) - 1) % 8 = (((n - 1) % 8 : Nat) : Int) := by omega
  rw [hnb] at hs hl
  rw [ej] at hb
  have hlt : nb < s.size := by omega
  have hbi : ((s[nb]'hlt).toNat : Int) / 2 ^ ((n - 1) % 8) ≤ (1 : Int) := by
    rw [last_get s nb hlt] at hb
    rw [int_shr]; omega
  have hinfo : (Try.prog.info? 5).map (·.size) = some 1 := by kernel_rfl
  clear hb ho
  go_enter Try.func17, Try.ntmps17
  go_wp2_with (go_at_call 9; refine C1.out.mono ?_; rintro e w' ⟨rfl, H, hb⟩; have HH := Lib.hid H; obtain ⟨C, cur, k1, k2, k3, k4, _⟩ := H.ex; have cs : w'.cell? ⟨w.heap.size + 1, 1, none⟩ = some (.slice (some ⟨w.heap.size, 0, none⟩) (nb + 1) C) := (by rw [List.length_replicate, hnb] at k1; simp [World.cell?, k1]); have hcp := Lib.run_copy_row_string (P := Try.prog) w' 51 9 3 5 w.heap.size 0 (nb + 1) C s cur 5 Try.underlying51 hinfo k2 (by omega) (by rw [List.length_replicate] at k3; omega); have K1 := Lib.hid k1; have K2 := Lib.hid k2; have K3 := Lib.hid k3; have K4 := Lib.hid k4; clear k1 k2 k3 k4 H)
  trace_state
  go_ret2
  refine ⟨rfl, isB_setRow HH.out _ (by rw [bitsOf_length, List.length_replicate]) C cur K1.out K2.out K3.out ?_ ?_, below_setRow hb _ _ (Nat.le_refl _)⟩
  · simp [Lib.byteCells_length, hl]
    have := K3.out; have := K4.out
    rw [List.length_replicate] at *
    omega
  · intro j hj
    rw [List.length_replicate, hnb] at hj
    have e := brow_pack (bitsOf s.data.toList n) j (by rw [bitsOf_length]; omega)
    rw [show pack (bitsOf s.data.toList n) = s.data.toList from HO.out] at e
    rw [← e]
    simp [brow]
    rw [List.getElem?_append_left (by rw [Lib.byteCells_length]; omega)]
end Go.Proofs.Ytdjoiabbchnhaaa
