/-
  DiskNews: the walk.
-/
import Derived.Test.YtapandklbadahaaD7
namespace Go.Proofs.Ytapandklbadahaa
open Go.RowKit Go.ChangeMaps

set_option maxRecDepth 100000 in
set_option maxHeartbeats 2000000 in
theorem walk_DiskNews (n : Int) (h0 : (Lit.int .i64 n).wf = true) (w : World) :
    Calls Try.prog 4 #[.int .i64 n] w fun e w' => e = .returned (.bool true) ∧ Below w.heap.size w w' := by
  have CF := Lib.hid fixed_true
  have Q0 := Lib.hid fun W => rpad252 ⟨#[]⟩ W (by decide)
  clear h0
  by_cases hn : n < 1 ∨ 1024 < n
  · have CN := Lib.hid (fun W => dnew_arg W n hn)
    have hd : (decide (1 ≤ n) && decide (n ≤ 1024)) = false := by simp; omega
    generalize padOf ⟨#[]⟩ 252 = B0 at *
    clear hd
    by_cases h1 : n < 1
    · clear hn
      go_enter Try.func4, Try.ntmps4
      go_wp2_with fail
      refine (CN.out _).mono ?_; rintro e _ ⟨rfl, rfl⟩
      go_wp2_with fail
      refine (Q0.out _).mono ?_; rintro e w1 ⟨rfl, b1⟩
      have HB := Lib.hid b1; clear b1
      go_wp2_with fail
      go_loopw [7] (fun c wr => c = .int .i64 0 ∧ wr = w1) (fun _ _ => 0)
      case atStart => exact ⟨rfl, rfl⟩
      case round =>
        obtain ⟨rfl, rfl⟩ := hrel
        go_wp2_with fail
        refine (CF.out _).mono ?_; rintro e w2 ⟨rfl, b2⟩
        have HB2 := Lib.hid b2; clear b2
        go_wp2
        go_ret
        exact ⟨rfl, HB.out.trans (HB2.out.mono HB.out.size)⟩
    · have h2 := hn.resolve_left h1
      clear hn
      go_enter Try.func4, Try.ntmps4
      go_wp2_with fail
      refine (CN.out _).mono ?_; rintro e _ ⟨rfl, rfl⟩
      go_wp2_with fail
      refine (Q0.out _).mono ?_; rintro e w1 ⟨rfl, b1⟩
      have HB := Lib.hid b1; clear b1
      go_wp2_with fail
      go_loopw [7] (fun c wr => c = .int .i64 0 ∧ wr = w1) (fun _ _ => 0)
      case atStart => exact ⟨rfl, rfl⟩
      case round =>
        obtain ⟨rfl, rfl⟩ := hrel
        go_wp2_with fail
        refine (CF.out _).mono ?_; rintro e w2 ⟨rfl, b2⟩
        have HB2 := Lib.hid b2; clear b2
        go_wp2
        go_ret
        exact ⟨rfl, HB.out.trans (HB2.out.mono HB.out.size)⟩
  · obtain ⟨N, rfl⟩ : ∃ N : Nat, n = (N : Int) := ⟨n.toNat, by omega⟩
    have n1 : (1 : Int) ≤ (N : Int) := by omega
    have n2 : (N : Int) ≤ 1024 := by omega
    have CN := Lib.hid (fun W => dnew_ok W (fun _ => 0) 1 N (by omega) (by omega))
    have r0 := readOf_page ⟨#[]⟩ (by decide); have e0 := errOf_page ⟨#[]⟩ (by decide)
    rw [show blank = pageOf ⟨#[]⟩ from rfl] at CN
    generalize pageOf ⟨#[]⟩ = P0 at *
    generalize padOf ⟨#[]⟩ 252 = B0 at *
    have x0 : (B0.toList == B0.toList) = true := by simp
    have R0 := Lib.hid r0; have E0 := Lib.hid e0
    clear hn r0 e0
    go_enter Try.func4, Try.ntmps4
    go_wp2_with fail
    refine (CN.out _).mono ?_; rintro e w1 ⟨p, o1, rfl, h1, s1⟩
    have D1 := Lib.hid h1; have Z1 := Lib.hid ((Since.start w).step s1 (by decide)); clear h1 s1 CN
    go_wp2_with fail
    refine (Q0.out _).mono ?_; rintro e w2 ⟨rfl, b2⟩
    have D2 := Lib.hid (D1.out.reads b2); have Z2 := Lib.hid (Z1.out.reads b2); clear D1 Z1 b2
    go_wp2_with fail
    go_loopw [7] (fun c wr => ∃ t : Nat, t ≤ N ∧ t ≤ 20 ∧ c = .int .i64 (t : Int) ∧ IsD wr o1 1 p (List.replicate N P0) [] ∧ Since w o1 wr) (fun c _ => N - (intOf c).toNat)
    case atStart => exact ⟨0, by omega, by omega, rfl, D2.out, Z2.out⟩
    case round =>
      obtain ⟨t, ht, ht2, rfl, hD, hZ⟩ := hrel
      have HD := Lib.hid hD; have HZ := Lib.hid hZ
      clear hD hZ D2 Z2
      by_cases hc : t < N ∧ t < 20
      · obtain ⟨hc1, hc2⟩ := hc
        have c1 : (t : Int) < (N : Int) := by omega
        have c2 : (t : Int) < 20 := by omega
        go_wp2_with fail
        refine (d_read HD.out t P0 (by rw [List.getElem?_replicate, if_pos hc1])).mono ?_
        rw [show rawAt [] t P0 = P0 from rfl, R0.out, E0.out]
        rintro e w3 ⟨rfl, b3⟩
        have D3 := Lib.hid (HD.out.reads b3); have Z3 := Lib.hid (HZ.out.reads b3); clear HD HZ b3
        go_wp2
        exact ⟨⟨t + 1, by omega, by omega, by go_num, D3.out, Z3.out⟩, by simp [intOf]; omega⟩
      · have done : ∀ (K : Prop), K → K := fun _ h => h
        have hl : (List.replicate N P0).length = N := by simp
        by_cases hc1 : t < N
        · have c1 : (t : Int) < (N : Int) := by omega
          have c2 : (20 : Int) ≤ (t : Int) := by omega
          clear hc done
          go_wp2_with fail
          refine (d_len HD.out).mono ?_; rw [hl]; rintro e _ ⟨rfl, rfl⟩
          go_wp2_with fail
          refine (d_dirty HD.out 3 (by simp)).mono ?_; rintro e w4 ⟨u2, o4, rfl, h4, _, _, b4⟩
          have Z4 := Lib.hid (HZ.out.reads b4)
          obtain ⟨a2, C2, rfl⟩ := h4.ints.len
          clear h4 b4 HD HZ
          go_wp2_with fail
          refine (CF.out _).mono ?_; rintro e w5 ⟨rfl, b5⟩
          have Z5 := Lib.hid (Z4.out.reads b5); clear b5
          go_wp2
          go_ret
          exact ⟨rfl, Z5.out.bel⟩
        · have c1 : (N : Int) ≤ (t : Int) := by omega
          clear hc done
          go_wp2_with fail
          refine (d_len HD.out).mono ?_; rw [hl]; rintro e _ ⟨rfl, rfl⟩
          go_wp2_with fail
          refine (d_dirty HD.out 3 (by simp)).mono ?_; rintro e w4 ⟨u2, o4, rfl, h4, _, _, b4⟩
          have Z4 := Lib.hid (HZ.out.reads b4)
          obtain ⟨a2, C2, rfl⟩ := h4.ints.len
          clear h4 b4 HD HZ
          go_wp2_with fail
          refine (CF.out _).mono ?_; rintro e w5 ⟨rfl, b5⟩
          have Z5 := Lib.hid (Z4.out.reads b5); clear b5
          go_wp2
          go_ret
          exact ⟨rfl, Z5.out.bel⟩
end Go.Proofs.Ytapandklbadahaa
