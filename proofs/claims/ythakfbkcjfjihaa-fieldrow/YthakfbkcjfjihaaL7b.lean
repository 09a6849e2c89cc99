/-
  FieldRow: the walk.
-/
import Derived.Test.YthakfbkcjfjihaaL7
import Derived.Deep.RegionHeld3
namespace Go.Proofs.Ythakfbkcjfjihaa
open Go.RowKit

theorem pad1000 (w : World) : Calls Try.prog 21 #[.string ⟨#[]⟩, .int .i64 1000] w fun e w' => e = .returned (.tuple #[.string (padOf ⟨#[]⟩ 1000), .int .i64 0]) ∧ Below w.heap.size w w' :=
  pad_ok ⟨#[]⟩ 1000 w (by decide) (by decide)

set_option maxRecDepth 100000 in
set_option maxHeartbeats 1000000 in
theorem row_walk (b off len cap : Nat) (ss : List ByteArray) (hl : ss.length = len) (hlen : len ≤ 2 ^ 63 - 1) (w : World) (hb : b < w.heap.size) (hcell : ∀ i, i < len → w.cell? ⟨b, off + i, none⟩ = some (.string (ss.getD i ByteArray.empty))) (hsz : ∀ s ∈ ss, s.size ≤ 2 ^ 63 - 1)
    (ts : List ByteArray) (hts : ts = (ss.take 20).map cut40) :
    Calls Try.prog 9 #[.slice (some ⟨b, off, none⟩) len cap] w fun e w' => e = .returned (.bool true) ∧ Below w.heap.size w w' := by
  have h40 : ∀ t ∈ ts, t.size ≤ 40 := by
    intro t ht; rw [hts] at ht
    obtain ⟨x, _, rfl⟩ := List.mem_map.1 ht
    exact cut40_size x
  have hn : ts.length = min len 20 := by rw [hts, List.length_map, List.length_take, hl]; omega
  have hget : ∀ k (hk : k < ts.length), ts[k] = cut40 (ss.getD k ByteArray.empty) := by
    intro k hk
    subst hts
    rw [List.getElem_map, List.getElem_take, List.getD_eq_getElem?_getD, List.getElem?_eq_getElem (by rw [hl]; omega)]; rfl
  have hssz : ∀ k, (ss.getD k ByteArray.empty).size ≤ 2 ^ 63 - 1 := by
    intro k
    rw [List.getD_eq_getElem?_getD]
    by_cases hk : k < ss.length
    · rw [List.getElem?_eq_getElem hk]; exact hsz _ (List.getElem_mem _)
    · rw [List.getElem?_eq_none (by omega)]; simp
  have H40 := Lib.hid h40; have HN := Lib.hid hn; have HG := Lib.hid hget; have HC := Lib.hid hcell; have HS := Lib.hid hssz
  have hp0 : RowIs (padOf ⟨#[]⟩ 1000) ts 0 := ⟨padOf_size _ _ (by decide), by simp [atK, encL]⟩
  have hps : (padOf ⟨#[]⟩ 1000).size = 1000 := hp0.1
  have HP0 := Lib.hid hp0
  clear h40 hn hget hcell hssz hp0 hts hsz
  have hpsb : (((padOf ⟨#[]⟩ 1000).size : Int) != 1000) = false := by rw [hps]; rfl
  clear hps
  have HPAD := Lib.hid pad1000
  generalize padOf ⟨#[]⟩ 1000 = X0 at *
  go_enter Try.func9, Try.ntmps9
  go_wp2_with fail
  refine (HPAD.out _).mono ?_; rintro e w1 ⟨rfl, b1⟩
  have HB1 := Lib.hid b1; clear b1
  go_wp2_with fail
  go_loopw [3, 5, 6] (fun s a i wx => ∃ (k : Nat) (X : ByteArray), k ≤ ts.length ∧ i = .int .i64 k ∧ s = .string X ∧ a = .int .i64 (atK ts k) ∧ RowIs X ts k ∧ Below w.heap.size w wx) (fun _ _ i _ => 20 - (intOf i).toNat)
  case atStart => exact ⟨0, X0, Nat.zero_le _, rfl, rfl, rfl, HP0.out, HB1.out⟩
  case round =>
    obtain ⟨k, X, hk, rfl, rfl, rfl, hrow, hbw⟩ := hrel
    have HBW := Lib.hid hbw; have HR := Lib.hid hrow; clear hbw hrow
    by_cases hlt : k < ts.length
    · have hk1 : (k : Int) < (len : Int) := by have := HN.out; omega
      have hk2 : (k : Int) < 20 := by have := HN.out; omega
      have hc0 : wr.cell? ⟨b, off + k, none⟩ = some (.string (ss.getD k ByteArray.empty)) := by
        rw [HBW.out.cell (p := ⟨b, off + k, none⟩) hb, HC.out k (by omega)]
      have hbr : b < wr.heap.size := Nat.lt_of_lt_of_le hb HBW.out.size
      obtain ⟨Y, c1, hY⟩ := row_put X ts k H40.out hlt (by have := HN.out; omega) HR.out
      have hYs := hY.1
      have hg := HG.out k hlt
      have hz := HS.out k
      have hYb : ((Y.size : Int) != 1000) = false := by rw [hYs]; rfl
      rw [hg] at c1
      have C1 := Lib.hid c1; have HY := Lib.hid hY
      clear c1 hYs hY hg
      generalize ss.getD k ByteArray.empty = x at *
      go_upto_region 8 with fail
      go_cut [7, 8, 9] from 25 to 61 (fun s7 s8 s9 wx => s7 = .string Y ∧ s8 = .int .i64 (atK ts (k + 1)) ∧ s9 = .int .i64 0 ∧ Below w.heap.size w wx)
      case first =>
        by_cases h40 : x.size ≤ 40
        · have e : cut40 x = x := if_pos h40
          rw [e] at C1; clear e
          have hif : (if (40 : Int) < (x.size : Int) then (40 : Int) else (x.size : Int)) = (x.size : Int) := if_neg (by omega)
          go_region_held3 (fun w' => w'.cell? ⟨b, off + k, none⟩ = some (.string x)) (first | exact hc0 | assumption)
            ((go_at_call 17; refine (C1.out _).mono ?_; rintro e w2 ⟨rfl, b2⟩; have hc2 : w2.cell? ⟨b, off + k, none⟩ = some (.string x) := (b2.cell (p := ⟨b, off + k, none⟩) hbr).trans hc0; have HB2 := Lib.hid b2; clear b2))
          all_goals
            go_wp2_with fail
            go_meet
            exact ⟨rfl, rfl, rfl, (HBW.out.drew).trans (HB2.out.mono HBW.out.size)⟩
        · have e : cut40 x = x.extract 0 40 := if_neg h40
          rw [e] at C1; clear e
          have h41 : (40 : Int) ≤ (x.size : Int) := by omega
          have hif : (if (40 : Int) < (x.size : Int) then (40 : Int) else (x.size : Int)) = 40 := if_pos (by omega)
          go_region_held3 (fun w' => w'.cell? ⟨b, off + k, none⟩ = some (.string x)) (first | exact hc0 | assumption)
            ((go_at_call 17; refine (C1.out _).mono ?_; rintro e w2 ⟨rfl, b2⟩; have hc2 : w2.cell? ⟨b, off + k, none⟩ = some (.string x) := (b2.cell (p := ⟨b, off + k, none⟩) hbr).trans hc0; have HB2 := Lib.hid b2; clear b2))
          all_goals
            go_wp2_with fail
            go_meet
            exact ⟨rfl, rfl, rfl, (HBW.out.drew).trans (HB2.out.mono HBW.out.size)⟩
      case rest =>
        obtain ⟨rfl, rfl, rfl, hbc⟩ := hcut
        have HBC := Lib.hid hbc; clear hbc
        go_wp2_with fail
        exact ⟨⟨k + 1, Y, hlt, by go_num, rfl, rfl, HY.out, HBC.out⟩, by simp [intOf]; omega⟩
    · obtain rfl : k = ts.length := by omega
      have hnn := HN.out
      have HNN := Lib.hid (show ¬ ((ts.length : Int) < (len : Int) ∧ (ts.length : Int) < 20) by omega)
      clear hnn
      by_cases hA : (ts.length : Int) < (len : Int)
      · have hB : ¬ (ts.length : Int) < 20 := fun h => HNN.out ⟨hA, h⟩
        go_wp2_with fail
        go_loopw [5, 10] (fun a i wx => ∃ k : Nat, k ≤ ts.length ∧ i = .int .i64 k ∧ a = .int .i64 (atK ts k) ∧ Below w.heap.size w wx) (fun _ i _ => 20 - (intOf i).toNat)
        case atStart => exact ⟨0, Nat.zero_le _, rfl, rfl, HBW.out⟩
        case round =>
          obtain ⟨k, hk, rfl, rfl, hbw2⟩ := hrel
          have HBW2 := Lib.hid hbw2; clear hbw2
          by_cases hlt : k < ts.length
          · have hk1 : (k : Int) < (len : Int) := by have := HN.out; omega
            have hk2 : (k : Int) < 20 := by have := HN.out; omega
            have c1 := fun w => row_get X ts k H40.out hlt (by have := HN.out; omega) HR.out w
            have hAs := atK_succ ts k hlt
            have hA1 := atK_le ts H40.out k (by omega)
            have hg := HG.out k hlt
            have hz := HS.out k
            have hx0 := HC.out k (by omega)
            have hts40 : ts[k].size ≤ 40 := H40.out _ (List.getElem_mem _)
            have hbr2 : b < wr.heap.size := Nat.lt_of_lt_of_le hb HBW2.out.size
            have hc0 : wr.cell? ⟨b, off + k, none⟩ = some (.string (ss.getD k ByteArray.empty)) := by
              rw [HBW2.out.cell (p := ⟨b, off + k, none⟩) hb, hx0]
            have hA2 : atK ts k ≤ 820 := by omega
            have HAS := Lib.hid hAs
            clear hx0 hAs hA1
            rw [hg] at c1 HAS hts40
            clear hg
            generalize ss.getD k ByteArray.empty = x at *
            generalize atK ts k = A at *
            by_cases h40 : x.size ≤ 40
            · have e : cut40 x = x := if_pos h40
              rw [e] at c1 HAS hts40; clear e
              have C1 := Lib.hid c1; clear c1
              have hif : (if (40 : Int) < (x.size : Int) then (40 : Int) else (x.size : Int)) = (x.size : Int) := if_neg (by omega)
              go_wp2_with fail
              refine (C1.out _).mono ?_; rintro e w2 ⟨rfl, b2⟩
              have hc2 : w2.cell? ⟨b, off + k, none⟩ = some (.string x) := (b2.cell (p := ⟨b, off + k, none⟩) hbr2).trans hc0
              have HB2 := Lib.hid b2; clear b2
              go_wp2_with fail
              have e0 : IntKind.i64.wrap ((A : Int) + 1) = (A : Int) + 1 := IntWalk.i64_in _ (by omega)
              have e1 : IntKind.i64.wrap ((A : Int) + 1 + (x.size : Int)) = (A : Int) + 1 + (x.size : Int) := IntWalk.i64_in _ (by omega)
              go_quiet (fail)
              clear e0 e1
              go_wp2_with fail
              exact ⟨⟨k + 1, hlt, by go_num, by rw [HAS.out]; try go_num, below_drewN (HBW2.out.trans (HB2.out.mono HBW2.out.size)) _⟩, by simp [intOf]; omega⟩
            · have e : cut40 x = x.extract 0 40 := if_neg h40
              rw [e] at c1 HAS hts40; clear e
              have C1 := Lib.hid c1; clear c1
              have h41 : (40 : Int) ≤ (x.size : Int) := by omega
              have hif : (if (40 : Int) < (x.size : Int) then (40 : Int) else (x.size : Int)) = 40 := if_pos (by omega)
              go_wp2_with fail
              refine (C1.out _).mono ?_; rintro e w2 ⟨rfl, b2⟩
              have hc2 : w2.cell? ⟨b, off + k, none⟩ = some (.string x) := (b2.cell (p := ⟨b, off + k, none⟩) hbr2).trans hc0
              have HB2 := Lib.hid b2; clear b2
              go_wp2_with fail
              have e0 : IntKind.i64.wrap ((A : Int) + 1) = (A : Int) + 1 := IntWalk.i64_in _ (by omega)
              have e1 : IntKind.i64.wrap ((A : Int) + 1 + ((x.extract 0 40).size : Int)) = (A : Int) + 1 + ((x.extract 0 40).size : Int) := IntWalk.i64_in _ (by omega)
              go_quiet (fail)
              clear e0 e1
              go_wp2_with fail
              exact ⟨⟨k + 1, hlt, by go_num, by rw [HAS.out, ByteArray.size_extract]; congr 1, below_drewN (HBW2.out.trans (HB2.out.mono HBW2.out.size)) _⟩, by simp [intOf]; omega⟩
          · obtain rfl : k = ts.length := by omega
            go_wp2_with fail
            refine (fixed_true _).mono ?_; rintro e w3 ⟨rfl, b3⟩
            go_wp2_with fail
            go_ret
            exact ⟨rfl, HBW2.out.trans (b3.mono HBW2.out.size)⟩
      · go_wp2_with fail
        go_loopw [5, 10] (fun a i wx => ∃ k : Nat, k ≤ ts.length ∧ i = .int .i64 k ∧ a = .int .i64 (atK ts k) ∧ Below w.heap.size w wx) (fun _ i _ => 20 - (intOf i).toNat)
        case atStart => exact ⟨0, Nat.zero_le _, rfl, rfl, HBW.out⟩
        case round =>
          obtain ⟨k, hk, rfl, rfl, hbw2⟩ := hrel
          have HBW2 := Lib.hid hbw2; clear hbw2
          by_cases hlt : k < ts.length
          · have hk1 : (k : Int) < (len : Int) := by have := HN.out; omega
            have hk2 : (k : Int) < 20 := by have := HN.out; omega
            have c1 := fun w => row_get X ts k H40.out hlt (by have := HN.out; omega) HR.out w
            have hAs := atK_succ ts k hlt
            have hA1 := atK_le ts H40.out k (by omega)
            have hg := HG.out k hlt
            have hz := HS.out k
            have hx0 := HC.out k (by omega)
            have hts40 : ts[k].size ≤ 40 := H40.out _ (List.getElem_mem _)
            have hbr2 : b < wr.heap.size := Nat.lt_of_lt_of_le hb HBW2.out.size
            have hc0 : wr.cell? ⟨b, off + k, none⟩ = some (.string (ss.getD k ByteArray.empty)) := by
              rw [HBW2.out.cell (p := ⟨b, off + k, none⟩) hb, hx0]
            have hA2 : atK ts k ≤ 820 := by omega
            have HAS := Lib.hid hAs
            clear hx0 hAs hA1
            rw [hg] at c1 HAS hts40
            clear hg
            generalize ss.getD k ByteArray.empty = x at *
            generalize atK ts k = A at *
            by_cases h40 : x.size ≤ 40
            · have e : cut40 x = x := if_pos h40
              rw [e] at c1 HAS hts40; clear e
              have C1 := Lib.hid c1; clear c1
              have hif : (if (40 : Int) < (x.size : Int) then (40 : Int) else (x.size : Int)) = (x.size : Int) := if_neg (by omega)
              go_wp2_with fail
              refine (C1.out _).mono ?_; rintro e w2 ⟨rfl, b2⟩
              have hc2 : w2.cell? ⟨b, off + k, none⟩ = some (.string x) := (b2.cell (p := ⟨b, off + k, none⟩) hbr2).trans hc0
              have HB2 := Lib.hid b2; clear b2
              go_wp2_with fail
              have e0 : IntKind.i64.wrap ((A : Int) + 1) = (A : Int) + 1 := IntWalk.i64_in _ (by omega)
              have e1 : IntKind.i64.wrap ((A : Int) + 1 + (x.size : Int)) = (A : Int) + 1 + (x.size : Int) := IntWalk.i64_in _ (by omega)
              go_quiet (fail)
              clear e0 e1
              go_wp2_with fail
              exact ⟨⟨k + 1, hlt, by go_num, by rw [HAS.out]; try go_num, below_drewN (HBW2.out.trans (HB2.out.mono HBW2.out.size)) _⟩, by simp [intOf]; omega⟩
            · have e : cut40 x = x.extract 0 40 := if_neg h40
              rw [e] at c1 HAS hts40; clear e
              have C1 := Lib.hid c1; clear c1
              have h41 : (40 : Int) ≤ (x.size : Int) := by omega
              have hif : (if (40 : Int) < (x.size : Int) then (40 : Int) else (x.size : Int)) = 40 := if_pos (by omega)
              go_wp2_with fail
              refine (C1.out _).mono ?_; rintro e w2 ⟨rfl, b2⟩
              have hc2 : w2.cell? ⟨b, off + k, none⟩ = some (.string x) := (b2.cell (p := ⟨b, off + k, none⟩) hbr2).trans hc0
              have HB2 := Lib.hid b2; clear b2
              go_wp2_with fail
              have e0 : IntKind.i64.wrap ((A : Int) + 1) = (A : Int) + 1 := IntWalk.i64_in _ (by omega)
              have e1 : IntKind.i64.wrap ((A : Int) + 1 + ((x.extract 0 40).size : Int)) = (A : Int) + 1 + ((x.extract 0 40).size : Int) := IntWalk.i64_in _ (by omega)
              go_quiet (fail)
              clear e0 e1
              go_wp2_with fail
              exact ⟨⟨k + 1, hlt, by go_num, by rw [HAS.out, ByteArray.size_extract]; congr 1, below_drewN (HBW2.out.trans (HB2.out.mono HBW2.out.size)) _⟩, by simp [intOf]; omega⟩
          · obtain rfl : k = ts.length := by omega
            go_wp2_with fail
            refine (fixed_true _).mono ?_; rintro e w3 ⟨rfl, b3⟩
            go_wp2_with fail
            go_ret
            exact ⟨rfl, HBW2.out.trans (b3.mono HBW2.out.size)⟩

set_option maxRecDepth 100000 in
set_option maxHeartbeats 1000000 in
theorem row_empty (a : Option Addr) (cap : Nat) (w : World) :
    Calls Try.prog 9 #[.slice a 0 cap] w fun e w' => e = .returned (.bool true) ∧ Below w.heap.size w w' := by
  have hps : (padOf ⟨#[]⟩ 1000).size = 1000 := padOf_size _ _ (by decide)
  have hpsb : (((padOf ⟨#[]⟩ 1000).size : Int) != 1000) = false := by rw [hps]; rfl
  clear hps
  have HPAD := Lib.hid pad1000
  generalize padOf ⟨#[]⟩ 1000 = X0 at *
  go_enter Try.func9, Try.ntmps9
  go_wp2_with fail
  refine (HPAD.out _).mono ?_; rintro e w1 ⟨rfl, b1⟩
  have HB1 := Lib.hid b1; clear b1
  go_wp2_with fail
  go_loopw [6] (fun i wx => i = .int .i64 0 ∧ Below w.heap.size w wx) (fun _ _ => 0)
  case atStart => exact ⟨rfl, HB1.out⟩
  case round =>
    obtain ⟨rfl, hbw⟩ := hrel
    have HBW := Lib.hid hbw; clear hbw
    go_wp2_with fail
    go_loopw [10] (fun i wx => i = .int .i64 0 ∧ Below w.heap.size w wx) (fun _ _ => 0)
    case atStart => exact ⟨rfl, HBW.out⟩
    case round =>
      obtain ⟨rfl, hbw2⟩ := hrel
      have HBW2 := Lib.hid hbw2; clear hbw2
      go_wp2_with fail
      refine (fixed_true _).mono ?_; rintro e w3 ⟨rfl, b3⟩
      go_wp2_with fail
      go_ret
      exact ⟨rfl, HBW2.out.trans (b3.mono HBW2.out.size)⟩

theorem walk_FieldRow (a : Option Addr) (len cap : Nat) (ss : List ByteArray) (w : World) (h : IsStrs w a len ss) (hlen : len ≤ maxLen) :
    Calls Try.prog 9 #[.slice a len cap] w fun e w' => e = .returned (.bool true) ∧ Below w.heap.size w w' := by
  by_cases h0 : len = 0
  · subst h0; exact row_empty a cap w
  · rcases h with ⟨_, h1, _⟩ | ⟨x, rfl, hl, hcell, hsz⟩
    · exact absurd h1 h0
    · obtain ⟨b, off, spot⟩ := x
      have hc := hcell 0 (by omega)
      have hspot : spot = none := by simpa [Addr.add] using World.cell?_spot hc
      subst hspot
      have hcs : ∀ i, i < len → w.cell? ⟨b, off + i, none⟩ = some (.string (ss.getD i ByteArray.empty)) := by
        intro i hi
        have := hcell i hi
        unfold Addr.add at this
        by_cases hz : i = 0
        · subst hz; simpa using this
        · simpa [hz] using this
      exact row_walk b off len cap ss hl hlen w (block_lt_of_cell (hcs 0 (by omega))) hcs hsz _ rfl
end Go.Proofs.Ythakfbkcjfjihaa
