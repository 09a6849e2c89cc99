/-
  The document's pages: the contracts of Taken, Save, Run.
-/
import Derived.Test.YtdjoiabbchnhaaaR1
import Derived.Test.YtdjoiabbchnhaaaK2
namespace Go.Proofs.Ytdjoiabbchnhaaa
open Go.RowKit Go.Shelf

/-- the taken ones of the first t pages -/
def takenTo (L : List Bool) (t : Nat) : List Nat := (List.range t).filter (tk L)
theorem takenTo_hit (L : List Bool) (t : Nat) (h : tk L t = true) : takenTo L (t + 1) = takenTo L t ++ [t] := by simp [takenTo, List.range_succ, h]
theorem takenTo_miss (L : List Bool) (t : Nat) (h : tk L t = false) : takenTo L (t + 1) = takenTo L t := by simp [takenTo, List.range_succ, h]
theorem takenTo_length (L : List Bool) (t : Nat) : (takenTo L t).length ≤ t := by unfold takenTo; exact Nat.le_trans (List.length_filter_le _ _) (by simp)
theorem below_append {a W w1 : World} {n base : Nat} {e : TypeId} {size : Nat} {v : Value} {k : Nat} {xs : List Value} {tmp : Obj} (hB : Below n a W) (hrow : W.ownsRow base e size v k xs) (hgrow : (W.alloc tmp).grownBy w1 v.ownBlock) (hn : n ≤ base) (hs : n ≤ W.heap.size := by omega) : Below n a w1 := by
  refine (hB.alloc hs tmp).grown hgrow (by simp; omega) (fun j ej => ?_)
  rcases hrow.2 with ⟨rfl, _⟩ | ⟨g, cap, cur, rfl, hb, _⟩
  · simp [Value.ownBlock] at ej
  · obtain rfl : g = j := by simpa [Value.ownBlock] using ej
    omega
set_option maxHeartbeats 1000000 in
theorem rtaken_any (w : World) (p b : Nat) (L : List Bool) (H : IsR w p b L) :
    Calls Try.prog 22 #[.pointer (some ⟨p, 0, none⟩)] w fun e w' => ∃ v, e = .returned v ∧ IsInts w' v ((takenOf L).map (fun i : Nat => (i : Int))) ∧ Below w.heap.size w w' := by
  have hn2 := H.n2
  have HH := Lib.hid H
  clear H
  obtain ⟨i0, hi, hz0, hz1, hz2⟩ := info_parts info_int
  go_enter Try.func22, Try.ntmps22
  go_wp2
  go_loopw [3, 4] (fun v i wr => ∃ t : Nat, t ≤ L.length ∧ i = .int .i64 (t : Int) ∧ wr.ownsRow w.heap.size 3 1 v (takenTo L t).length ((takenTo L t).map (fun i : Nat => Value.int .i64 (i : Int))) ∧ Below w.heap.size w wr) (fun _ i _ => L.length - (intOf i).toNat)
  case atStart => exact ⟨0, by omega, rfl, World.ownsRow_made w #[] 0 (Nat.le_refl _) (by decide) rfl, (Below.refl _ w).alloc (Nat.le_refl _) _⟩
  case round =>
    obtain ⟨t, ht, rfl, hrow, hB⟩ := hrel
    have H' := HH.out.grew hB
    have cs := H'.cs
    have hpl := takenTo_length L t
    by_cases hlt : t < L.length
    · have h0 : (0 : Int) ≤ (t : Int) := by omega
      have h1 : (t : Int) < (L.length : Int) := by omega
      have cb := H'.cb t hlt
      have HR := Lib.hid hrow
      have HB := Lib.hid hB
      have hsz := hB.size
      clear H' hrow hB
      cases htk : tk L t
      · rw [htk] at cb
        go_wp2
        exact ⟨⟨t + 1, by omega, by go_num, by rw [takenTo_miss L t htk]; exact HR.out, HB.out⟩, by simp [intOf]; omega⟩
      · rw [htk] at cb
        go_wp2_with (at_builtin; refine wpList_append_own _ rfl _ _ 39 rfl w.heap.size 3 i0 (.int .i64 0) 1 8 Try.underlying39 hi hz0 hz1 hz2 rfl (by decide) _ _ _ rfl (HR.out.alloc _) ⟨wr.heap.size, 0, none⟩ 1 1 [.int .i64 (t : Int)] rfl rfl (cell_one_new _ _ _) (by simp [Value.oneCell']) (by simp [maxLen]; omega) (by omega) (by simp; omega) ?_; intro v' w1 hown' hgrow _)
        exact ⟨⟨t + 1, by omega, by go_num, by rw [takenTo_hit L t htk]; simpa using hown', below_append HB.out HR.out hgrow (Nat.le_refl _)⟩, by simp [intOf]; omega⟩
    · obtain rfl : t = L.length := by omega
      go_wp2
      go_ret
      refine ⟨_, rfl, ?_, hB⟩
      have := isInts_of_row (l := (takenOf L).map (fun i : Nat => (i : Int))) (by rw [List.length_map, List.map_map]; exact hrow)
      exact this

theorem ba_snoc (l : List UInt8) (x : UInt8) : (⟨l.toArray⟩ : ByteArray) ++ (⟨#[x]⟩ : ByteArray) = ⟨(l ++ [x]).toArray⟩ := by
  apply ByteArray.ext
  simp
theorem run_string_one (w : World) (src dst e : TypeId) (x : Nat) (hx : x < 256) (hs : Try.prog.underlying src = some (.slice e)) (he : Try.prog.underlying e = some (.int .u8)) (hd : Try.prog.underlying dst = some .string) :
    (convert src dst (.slice (some ⟨w.heap.size, 0, none⟩) 1 1)).run Try.prog (w.alloc (.cells #[.int .u8 (x : Int)] e)) = .ok (.string ⟨#[UInt8.ofNat x]⟩) (w.alloc (.cells #[.int .u8 (x : Int)] e)) := by
  have h := run_string_bytes (P := Try.prog) w src dst e 1 1 [UInt8.ofNat x] rfl hs he hd
  have eb : brow [UInt8.ofNat x] = #[.int .u8 (x : Int)] := by simp [brow, Lib.byteCells]; omega
  rw [eb] at h
  exact h
set_option maxHeartbeats 1000000 in
theorem rsave_any (w : World) (p b : Nat) (L : List Bool) (H : IsR w p b L) :
    Calls Try.prog 23 #[.pointer (some ⟨p, 0, none⟩)] w fun e w' => e = .returned (.string ⟨(pack L).toArray⟩) ∧ Below w.heap.size w w' := by
  have hn2 := H.n2
  have HH := Lib.hid H
  clear H
  go_enter Try.func23, Try.ntmps23
  go_wp2
  go_loopw [3, 4] (fun s i wr => ∃ j : Nat, 8 * j < L.length + 8 ∧ i = .int .i64 ((8 * j : Nat) : Int) ∧ s = .string ⟨((pack L).take j).toArray⟩ ∧ Below w.heap.size w wr) (fun _ i _ => L.length + 8 - (intOf i).toNat)
  case atStart => exact ⟨0, by omega, rfl, by simp, Below.refl _ w⟩
  case round =>
    obtain ⟨j, hj, rfl, rfl, hB⟩ := hrel
    have H' := HH.out.grew hB
    have cs := H'.cs
    obtain ⟨i, HI⟩ : ∃ i, Hid (8 * j = i) := ⟨_, rfl⟩
    rw [HI.out] at hj ⊢
    have hBH := Lib.hid hB
    have HX := Lib.hid H'
    obtain ⟨A, HA⟩ : ∃ A : ByteArray, Hid ((⟨((pack L).take j).toArray⟩ : ByteArray) = A) := ⟨_, rfl⟩
    have hAs : A.size ≤ 1000 := by
      rw [← HA.out]
      show ((pack L).take j).toArray.size ≤ 1000
      rw [List.size_toArray, List.length_take, pack_length]; omega
    rw [HA.out]
    clear hB H'
    by_cases hlt : i < L.length
    · have h1 : (i : Int) < (L.length : Int) := by omega
      go_wp2
      go_loop [5, 6, 7] (fun c bit k => ∃ m : Nat, m ≤ 8 ∧ i + m ≤ L.length ∧ c = .int .i64 ((pk (fun s => tk L (i + s)) m : Nat) : Int) ∧ bit = .int .i64 ((2 ^ m : Nat) : Int) ∧ k = .int .i64 ((i + m : Nat) : Int)) (fun _ _ k => i + 8 - (intOf k).toNat)
      case atStart => exact ⟨0, by omega, by omega, rfl, rfl, rfl⟩
      case round =>
        obtain ⟨m, hm, him, rfl, rfl, rfl⟩ := hrel
        have hpl := pk_lt (fun s => tk L (i + s)) m
        have hpm : 2 ^ m ≤ 2 ^ 8 := Nat.pow_le_pow_right (by omega) hm
        have HS := Lib.hid (show pk (fun s => tk L (i + s)) (m + 1) = pk (fun s => tk L (i + s)) m + (if tk L (i + m) then 2 ^ m else 0) from rfl)
        have HP := Lib.hid (Nat.pow_succ 2 m)
        by_cases hc : m < 8 ∧ i + m < L.length
        · obtain ⟨hc1, hc2⟩ := hc
          have cb := HX.out.cb (i + m) hc2
          obtain ⟨k, HK⟩ : ∃ k, Hid (i + m = k) := ⟨_, rfl⟩
          have hk := HK.out
          rw [HK.out] at him hc2 cb HS ⊢
          obtain ⟨X, HXX⟩ : ∃ X, Hid (pk (fun s => tk L (i + s)) m = X) := ⟨_, rfl⟩
          rw [HXX.out] at hpl HS ⊢
          obtain ⟨Y, HY⟩ : ∃ Y : Nat, Hid (2 ^ m = Y) := ⟨_, rfl⟩
          rw [HY.out] at hpl hpm HS HP ⊢
          have k0 : (0 : Int) ≤ (k : Int) := by omega
          have k1 : (k : Int) < (L.length : Int) := by omega
          have k2 : (k : Int) < (i : Int) + 8 := by omega
          have y1 : Y ≤ 256 := hpm
          have x1 : X < 256 := by omega
          clear hpl hpm hk
          cases htk : tk L k
          · rw [htk] at cb HS
            go_wp2
            have hk := HK.out
            refine ⟨⟨m + 1, by omega, by omega, by rw [HS.out]; simp, by rw [HP.out]; go_num, by rw [← Nat.add_assoc, HK.out]; go_num⟩, by simp [intOf]; omega⟩
          · rw [htk] at cb HS
            go_wp2
            have hk := HK.out
            refine ⟨⟨m + 1, by omega, by omega, by rw [HS.out]; simp, by rw [HP.out]; go_num, by rw [← Nat.add_assoc, HK.out]; go_num⟩, by simp [intOf]; omega⟩
        · have hbt : pk (fun s => tk L (i + s)) m = bt L j := by
            unfold bt
            rw [HI.out]
            by_cases h8 : m = 8
            · rw [h8]
            · exact (pk_short _ m 8 (fun s hs => tk_ge L _ (by omega)) (by omega)).symm
          rw [hbt]
          have hbl := bt_lt L j
          have HG := Lib.hid (pack_get L j (by have := HI.out; omega))
          obtain ⟨X, HXX⟩ : ∃ X, Hid (bt L j = X) := ⟨_, rfl⟩
          rw [HXX.out] at hbl HG ⊢
          have hcv := run_string_one wr 51 9 5 X hbl Try.underlying51 Try.underlying5 Try.underlying9
          have hxm : (X : Int) % 256 = (X : Int) := by omega
          have hil : i ≤ 1024 := by omega
          clear hbt hpl hpm HS HP
          go_wp2
          all_goals
            have hi8 := HI.out
            refine ⟨⟨j + 1, by omega, by rw [show 8 * (j + 1) = i + 8 by omega]; go_num, ?_, hBH.out.alloc hBH.out.size _⟩, by simp [intOf]; omega⟩
            rw [← HA.out, ba_snoc, List.take_add_one, HG.out]
            rfl
    · go_wp2
      go_ret
      refine ⟨?_, hBH.out⟩
      rw [← HA.out, List.take_of_length_le (by rw [pack_length]; have := HI.out; omega)]
      rfl
end Go.Proofs.Ytdjoiabbchnhaaa
