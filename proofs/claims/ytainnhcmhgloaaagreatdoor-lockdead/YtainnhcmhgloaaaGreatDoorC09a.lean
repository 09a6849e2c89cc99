/-
  The document's answer for layer 8, as stage 9's program has it: the contracts of there, table, Clash, Fits, Covers, both, Join.
-/
import Derived.Test.YtainnhcmhgloaaaGreatDoorK09m
namespace Go.Proofs.YtainnhcmhgloaaaGreatDoor
open Go.RowKit

theorem there_any (k : Int) (w : World) : Calls Tryz.prog 34 #[.int .i64 k] w fun e w' => e = .returned (.bool (md k)) ∧ w = w' := by
  unfold md
  by_cases h1 : 0 ≤ k
  · by_cases h2 : k < 7
    · rw [decide_eq_true ⟨h1, h2⟩]
      go_enter Tryz.func34, Tryz.ntmps34
      go_wp2
      go_ret
      exact ⟨by first | rfl | (simp; done) | (simp; omega), rfl⟩
    · rw [decide_eq_false (fun h => h2 h.2)]
      have g : 7 ≤ k := by omega
      go_enter Tryz.func34, Tryz.ntmps34
      go_wp2
      go_ret
      exact ⟨by first | rfl | (simp; done) | (simp; omega), rfl⟩
  · rw [decide_eq_false (fun h => h1 h.1)]
    have g : k < 0 := by omega
    go_enter Tryz.func34, Tryz.ntmps34
    go_wp2
    go_ret
    exact ⟨by first | rfl | (simp; done) | (simp; omega), rfl⟩
def rows7 : Nat → ByteArray | 0 => ⟨#[46, 46, 46, 46, 46, 46, 46]⟩ | 1 => ⟨#[46, 46, 46, 46, 120, 46, 120]⟩ | 2 => ⟨#[46, 46, 46, 120, 120, 120, 120]⟩ | 3 => ⟨#[46, 46, 120, 46, 120, 46, 120]⟩ | 4 => ⟨#[46, 120, 120, 120, 120, 120, 120]⟩ | 5 => ⟨#[46, 46, 120, 46, 120, 120, 120]⟩ | _ => ⟨#[46, 120, 120, 120, 120, 120, 120]⟩
theorem table_any (w : World) : Calls Tryz.prog 70 #[] w fun e w' =>
    e = .returned (.slice (some ⟨w.heap.size, 0, none⟩) 7 7) ∧ (∀ k, k < 7 → w'.cell? ⟨w.heap.size, k, none⟩ = some (.string (rows7 k))) ∧ Below w.heap.size w w' := by
  go_enter Tryz.func70, Tryz.ntmps70
  go_wp2
  go_ret
  refine ⟨rfl, fun k hk => ?_, (Below.refl _ _).alloc (Nat.le_refl _) _⟩
  obtain rfl | rfl | rfl | rfl | rfl | rfl | rfl := seven k hk
  all_goals (simp [rows7, go_sem]; done)
set_option maxHeartbeats 4000000 in
theorem clash_in (a b : Nat) (ha : a < 7) (hb : b < 7) (w : World) :
    Calls Tryz.prog 35 #[.int .i64 (a : Int), .int .i64 (b : Int)] w fun e w' => e = .returned (.bool (!fitN a b)) ∧ Below w.heap.size w w' := by
  have H1 := Lib.hid table_any
  obtain rfl | rfl | rfl | rfl | rfl | rfl | rfl := seven a ha
  all_goals
    obtain rfl | rfl | rfl | rfl | rfl | rfl | rfl := seven b hb
  all_goals
    clear ha hb
    go_enter Tryz.func35, Tryz.ntmps35
    go_wp2_with fail
    refine (H1.out _).mono ?_; rintro e w1 ⟨rfl, hc, b1⟩
    have c0 := hc 0 (by decide)
    have c1 := hc 1 (by decide)
    have c2 := hc 2 (by decide)
    have c3 := hc 3 (by decide)
    have c4 := hc 4 (by decide)
    have c5 := hc 5 (by decide)
    have c6 := hc 6 (by decide)
    simp only [rows7] at c0 c1 c2 c3 c4 c5 c6
    have B1 := Lib.hid b1
    clear hc b1
    go_wp2_with fail
    go_ret
    exact ⟨by first | rfl | (simp; done) | decide, B1.out⟩
theorem rfits_any (a b : Int) (w : World) :
    Calls Tryz.prog 13 #[.int .i64 a, .int .i64 b] w fun e w' => e = .returned (.bool (fitB a b)) ∧ Below w.heap.size w w' := by
  have C1 := there_any a
  have C2 := there_any b
  by_cases ha : md a = true
  · by_cases hb : md b = true
    · rw [ha] at C1
      rw [hb] at C2
      have H1 := Lib.hid C1
      have H2 := Lib.hid C2
      obtain ⟨x, hx, rfl⟩ := md_in ha
      obtain ⟨y, hy, rfl⟩ := md_in hb
      rw [fitB_nat x y hx hy]
      have H3 := Lib.hid (fun W => clash_in x y hx hy W)
      clear C1 C2 ha hb hx hy
      cases g : fitN x y
      all_goals
        rw [g] at H3
        go_enter Tryz.func13, Tryz.ntmps13
        go_wp2_with fail
        refine (H1.out _).mono ?_; rintro e w1 ⟨rfl, rfl⟩
        go_wp2_with fail
        refine (H2.out _).mono ?_; rintro e w1 ⟨rfl, rfl⟩
        go_wp2_with fail
        refine (H3.out _).mono ?_; rintro e w1 ⟨rfl, b1⟩
        have B1 := Lib.hid b1
        clear b1
        go_wp2_with fail
        go_ret
        exact ⟨rfl, B1.out⟩
    · have e : fitB a b = false := by unfold fitB; rw [Bool.eq_false_iff.2 hb]; simp
      rw [e]
      rw [ha] at C1
      rw [Bool.eq_false_iff.2 hb] at C2
      have H1 := Lib.hid C1
      have H2 := Lib.hid C2
      clear C1 C2 ha hb e
      go_enter Tryz.func13, Tryz.ntmps13
      go_wp2_with fail
      refine (H1.out _).mono ?_; rintro e w1 ⟨rfl, rfl⟩
      go_wp2_with fail
      refine (H2.out _).mono ?_; rintro e w1 ⟨rfl, rfl⟩
      go_wp2_with fail
      go_ret
      exact ⟨rfl, Below.refl _ _⟩
  · have e : fitB a b = false := by unfold fitB; rw [Bool.eq_false_iff.2 ha]; simp
    rw [e]
    rw [Bool.eq_false_iff.2 ha] at C1
    have H1 := Lib.hid C1
    clear C1 C2 ha e
    go_enter Tryz.func13, Tryz.ntmps13
    go_wp2_with fail
    refine (H1.out _).mono ?_; rintro e w1 ⟨rfl, rfl⟩
    go_wp2_with fail
    go_ret
    exact ⟨rfl, Below.refl _ _⟩
/-- are there, among the modes from k on, only such as a clashes with, if b does? -/
def covK (a b k : Nat) : Bool := (List.range 7).all (fun m => decide (m < k) || (fitN a m == false || fitN b m))
theorem covK_end (a b : Nat) : covK a b 7 = true := by
  unfold covK
  rw [List.all_eq_true]
  intro m hm
  rw [List.mem_range] at hm
  simp [hm]
theorem covK_zero : ∀ a, a < 7 → ∀ b, b < 7 → (b ≠ 6 ∨ a = 6) → covN a b = covK a b 0 := by decide +kernel
theorem covK_step : ∀ k, k < 7 → ∀ a, a < 7 → ∀ b, b < 7 → covK a b k = ((fitN a k == false || fitN b k) && covK a b (k + 1)) := by decide +kernel
set_option maxHeartbeats 4000000 in
theorem rcovers_in (a b : Nat) (ha : a < 7) (hb : b < 7) (w : World) :
    Calls Tryz.prog 19 #[.int .i64 (a : Int), .int .i64 (b : Int)] w fun e w' => e = .returned (.bool (covN a b)) ∧ Below w.heap.size w w' := by
  have C1 := there_any (a : Int)
  have C2 := there_any (b : Int)
  rw [md_nat, decide_eq_true ha] at C1
  rw [md_nat, decide_eq_true hb] at C2
  have H1 := Lib.hid C1
  have H2 := Lib.hid C2
  have HA := Lib.hid ha
  have HBb := Lib.hid hb
  clear C1 C2
  have a6 : ((a : Int) != 6) = decide (a ≠ 6) := by by_cases h : a = 6 <;> simp [h] <;> omega
  have b6 : ((b : Int) == 6) = decide (b = 6) := by by_cases h : b = 6 <;> simp [h] <;> omega
  by_cases h6 : b = 6 ∧ a ≠ 6
  · have e : covN a b = false := by
      obtain ⟨h1, h2⟩ := h6
      subst h1
      exact (cov_rx a ha).trans (decide_eq_false h2)
    rw [e]
    rw [decide_eq_true h6.2] at a6
    rw [decide_eq_true h6.1] at b6
    clear e h6 ha hb
    go_enter Tryz.func19, Tryz.ntmps19
    go_wp2_with fail
    refine (H1.out _).mono ?_; rintro e w1 ⟨rfl, rfl⟩
    go_wp2_with fail
    refine (H2.out _).mono ?_; rintro e w1 ⟨rfl, rfl⟩
    go_wp2_with fail
    go_ret
    exact ⟨rfl, Below.refl _ _⟩
  · have h7 : b ≠ 6 ∨ a = 6 := by omega
    obtain ⟨R, HR⟩ : ∃ R, Hid (covN a b = R) := ⟨_, Lib.hid rfl⟩
    rw [HR.out]
    have HZ := Lib.hid ((covK_zero a ha b hb h7).symm.trans HR.out)
    have hcase : (b = 6 ∧ a = 6) ∨ b ≠ 6 := by omega
    clear h6 h7
    obtain hcase | hcase := hcase
    case' inl =>
      rw [decide_eq_false (by omega)] at a6
      rw [decide_eq_true hcase.1] at b6
    case' inr =>
      rw [decide_eq_false hcase] at b6
    all_goals
      clear hcase ha hb
      go_enter Tryz.func19, Tryz.ntmps19
      go_wp2_with fail
      refine (H1.out _).mono ?_; rintro e w1 ⟨rfl, rfl⟩
      go_wp2_with fail
      refine (H2.out _).mono ?_; rintro e w1 ⟨rfl, rfl⟩
      go_wp2_with fail
      go_loopw [5] (fun i wr => ∃ k : Nat, k ≤ 7 ∧ i = .int .i64 (k : Int) ∧ covK a b k = R ∧ Below w.heap.size w wr) (fun i _ => 7 - (intOf i).toNat)
      case atStart => exact ⟨0, by omega, rfl, HZ.out, Below.refl _ _⟩
      case round =>
        obtain ⟨k, hk, rfl, hR, bel⟩ := hrel
        have HB := Lib.hid bel
        clear bel
        by_cases hc : k < 7
        · have c1 : (k : Int) < 7 := by omega
          have K1 := Lib.hid (fun W => clash_in b k HBb.out hc W)
          have K2 := Lib.hid (fun W => clash_in a k HA.out hc W)
          rw [covK_step k hc a HA.out b HBb.out] at hR
          have HRR := Lib.hid hR
          clear hR
          cases g1 : fitN b k
          · rw [g1] at K1
            cases g2 : fitN a k
            · rw [g2] at K2
              have hR := HRR.out
              rw [g1, g2] at hR
              have HRR := Lib.hid hR
              clear hR g1 g2
              go_wp2_with fail
              refine (K1.out _).mono ?_; rintro e w1 ⟨rfl, b1⟩
              have HB := Lib.hid (HB.out.trans (b1.mono HB.out.size))
              clear b1
              go_wp2_with fail
              refine (K2.out _).mono ?_; rintro e w2 ⟨rfl, b1⟩
              have HB := Lib.hid (HB.out.trans (b1.mono HB.out.size))
              clear b1
              go_wp2_with fail
              exact ⟨⟨k + 1, by omega, by go_num, by simpa using HRR.out, HB.out⟩, by simp [intOf]; omega⟩
            · rw [g2] at K2
              have hR := HRR.out
              rw [g1, g2] at hR
              obtain rfl : false = R := by simpa using hR
              clear hR g1 g2
              go_wp2_with fail
              refine (K1.out _).mono ?_; rintro e w1 ⟨rfl, b1⟩
              have HB := Lib.hid (HB.out.trans (b1.mono HB.out.size))
              clear b1
              go_wp2_with fail
              refine (K2.out _).mono ?_; rintro e w2 ⟨rfl, b1⟩
              have HB := Lib.hid (HB.out.trans (b1.mono HB.out.size))
              clear b1
              go_wp2_with fail
              go_ret
              exact ⟨rfl, HB.out⟩
          · rw [g1] at K1
            have hR := HRR.out
            rw [g1] at hR
            have HRR := Lib.hid hR
            clear hR g1
            go_wp2_with fail
            refine (K1.out _).mono ?_; rintro e w1 ⟨rfl, b1⟩
            have HB := Lib.hid (HB.out.trans (b1.mono HB.out.size))
            clear b1
            go_wp2_with fail
            exact ⟨⟨k + 1, by omega, by go_num, by simpa using HRR.out, HB.out⟩, by simp [intOf]; omega⟩
        · obtain rfl : k = 7 := by omega
          rw [covK_end] at hR
          subst hR
          go_wp2_with fail
          go_ret
          exact ⟨rfl, HB.out⟩
theorem rcovers_any (a b : Int) (w : World) :
    Calls Tryz.prog 19 #[.int .i64 a, .int .i64 b] w fun e w' => e = .returned (.bool (covB a b)) ∧ Below w.heap.size w w' := by
  by_cases ha : md a = true
  · by_cases hb : md b = true
    · obtain ⟨x, hx, rfl⟩ := md_in ha
      obtain ⟨y, hy, rfl⟩ := md_in hb
      rw [covB_nat x y hx hy]
      exact rcovers_in x y hx hy w
    · have C1 := there_any a
      have C2 := there_any b
      have e : covB a b = false := by unfold covB; rw [Bool.eq_false_iff.2 hb]; simp
      rw [e]
      rw [ha] at C1
      rw [Bool.eq_false_iff.2 hb] at C2
      have H1 := Lib.hid C1
      have H2 := Lib.hid C2
      clear C1 C2 ha hb e
      go_enter Tryz.func19, Tryz.ntmps19
      go_wp2_with fail
      refine (H1.out _).mono ?_; rintro e w1 ⟨rfl, rfl⟩
      go_wp2_with fail
      refine (H2.out _).mono ?_; rintro e w1 ⟨rfl, rfl⟩
      go_wp2_with fail
      go_ret
      exact ⟨rfl, Below.refl _ _⟩
  · have C1 := there_any a
    have e : covB a b = false := by unfold covB; rw [Bool.eq_false_iff.2 ha]; simp
    rw [e]
    rw [Bool.eq_false_iff.2 ha] at C1
    have H1 := Lib.hid C1
    clear C1 ha e
    go_enter Tryz.func19, Tryz.ntmps19
    go_wp2_with fail
    refine (H1.out _).mono ?_; rintro e w1 ⟨rfl, rfl⟩
    go_wp2_with fail
    go_ret
    exact ⟨rfl, Below.refl _ _⟩
theorem rboth_any (m a b : Int) (w : World) :
    Calls Tryz.prog 84 #[.int .i64 m, .int .i64 a, .int .i64 b] w fun e w' => e = .returned (.bool (covB m a && covB m b)) ∧ Below w.heap.size w w' := by
  have C1 := rcovers_any m a
  have C2 := rcovers_any m b
  generalize covB m a = x at *
  generalize covB m b = y at *
  have H1 := Lib.hid C1
  have H2 := Lib.hid C2
  clear C1 C2
  cases x <;> cases y
  all_goals
    go_enter Tryz.func84, Tryz.ntmps84
    go_wp2_with fail
    refine (H1.out _).mono ?_; rintro e w1 ⟨rfl, b1⟩
    have B1 := Lib.hid b1
    clear b1
    go_wp2_with fail
    try (refine (H2.out _).mono ?_; rintro e w1 ⟨rfl, b2⟩; have B1 := Lib.hid (B1.out.trans (b2.mono B1.out.size)); clear b2)
    try go_wp2_with fail
    go_ret
    exact ⟨rfl, B1.out⟩

/-- does k cover both? -/
def boB (a b : Int) (k : Nat) : Bool := covB (k : Int) a && covB (k : Int) b
/-- m covers both, and is covered by all below k that do -/
def lst (a b : Int) (m : Nat) : Nat → Bool
  | 0 => boB a b m
  | k + 1 => lst a b m k && (!boB a b k || covN k m)
theorem lst_in : ∀ a : Nat, a < 7 → ∀ b : Nat, b < 7 → ∀ m : Nat, m < 7 → lst (a : Int) (b : Int) m 7 = decide (m = jn a b 7) := by decide +kernel
theorem lst_out (a b : Int) (h : (md a && md b) = false) (m : Nat) : lst a b m 7 = false := by
  have g : boB a b m = false := by
    unfold boB covB
    cases h1 : md a <;> cases h2 : md b <;> simp_all
  simp [lst, g]
theorem lst_yes (a b : Int) (m : Nat) (hm : m < 7) (h : lst a b m 7 = true) : joV a b = (m : Int) ∧ okE (md a && md b) = 0 := by
  cases g : md a && md b
  · rw [lst_out a b g] at h; cases h
  · have g' := g
    rw [Bool.and_eq_true] at g'
    obtain ⟨x, hx, rfl⟩ := md_in g'.1
    obtain ⟨y, hy, rfl⟩ := md_in g'.2
    rw [lst_in x hx y hy m hm] at h
    have e := of_decide_eq_true h
    unfold joV
    rw [g]
    exact ⟨by simp [e], rfl⟩
theorem lst_no (a b : Int) (h : ∀ m, m < 7 → lst a b m 7 = false) : joV a b = 0 ∧ okE (md a && md b) = 1 := by
  cases g : md a && md b
  · unfold joV; rw [g]; exact ⟨rfl, rfl⟩
  · rw [Bool.and_eq_true] at g
    obtain ⟨x, hx, rfl⟩ := md_in g.1
    obtain ⟨y, hy, rfl⟩ := md_in g.2
    have hj := jn_lt x y 7 (by decide)
    have := h _ hj
    rw [lst_in x hx y hy _ hj, decide_eq_true rfl] at this
    cases this
set_option maxHeartbeats 4000000 in
theorem rjoin_any (a b : Int) (w : World) :
    Calls Tryz.prog 54 #[.int .i64 a, .int .i64 b] w fun e w' => e = .returned (.tuple #[.int .i64 (joV a b), .int .i64 (okE (md a && md b))]) ∧ Below w.heap.size w w' := by
  obtain ⟨J, HJ⟩ : ∃ J, Hid (joV a b = J) := ⟨_, Lib.hid rfl⟩
  obtain ⟨E, HE⟩ : ∃ E, Hid (okE (md a && md b) = E) := ⟨_, Lib.hid rfl⟩
  rw [HJ.out, HE.out]
  go_enter Tryz.func54, Tryz.ntmps54
  go_wp2_with fail
  go_loopw [6] (fun i wr => ∃ k : Nat, k ≤ 7 ∧ i = .int .i64 (k : Int) ∧ (∀ m, m < k → lst a b m 7 = false) ∧ Below w.heap.size w wr) (fun i _ => 7 - (intOf i).toNat)
  case atStart => exact ⟨0, by omega, rfl, fun m h => absurd h (by omega), Below.refl _ _⟩
  case round =>
    obtain ⟨m, hm, rfl, hno, bel⟩ := hrel
    have HB := Lib.hid bel
    have HN := Lib.hid hno
    clear bel hno
    by_cases hc : m < 7
    · have c1 : (m : Int) < 7 := by omega
      have K0 := Lib.hid (fun W => rboth_any (m : Int) a b W)
      go_wp2_with fail
      refine (K0.out _).mono ?_; rintro e w1 ⟨rfl, b1⟩
      have HB := Lib.hid (HB.out.trans (b1.mono HB.out.size))
      clear b1 K0
      generalize hL0 : (covB (m : Int) a && covB (m : Int) b) = L0
      have HL0 := Lib.hid hL0
      clear hL0
      go_wp2_with fail
      go_loopw [7, 8] (fun l i wr => ∃ k : Nat, k ≤ 7 ∧ i = .int .i64 (k : Int) ∧ l = .bool (lst a b m k) ∧ Below w.heap.size w wr) (fun _ i _ => 7 - (intOf i).toNat)
      case atStart => exact ⟨0, by omega, rfl, by rw [← HL0.out]; rfl, HB.out⟩
      case round =>
        clear HB HL0
        obtain ⟨k, hk, rfl, rfl, bel⟩ := hrel
        have HB := Lib.hid bel
        clear bel
        by_cases hd : k < 7
        · have d1 : (k : Int) < 7 := by omega
          have hn : lst a b m (k + 1) = (lst a b m k && (!boB a b k || covN k m)) := rfl
          have HS := Lib.hid hn
          clear hn
          cases g1 : lst a b m k
          · go_wp2_with fail
            exact ⟨⟨k + 1, by omega, by go_num, by rw [HS.out, g1]; rfl, HB.out⟩, by simp [intOf]; omega⟩
          · have K1 := fun W => rboth_any (k : Int) a b W
            rw [show (covB (k : Int) a && covB (k : Int) b) = boB a b k from rfl] at K1
            have K2 := fun W => rcovers_in k m hd hc W
            have K1 := Lib.hid K1
            have K2 := Lib.hid K2
            cases g2 : boB a b k
            · rw [g2] at K1
              go_wp2_with fail
              refine (K1.out _).mono ?_; rintro e w2 ⟨rfl, b2⟩
              have HB := Lib.hid (HB.out.trans (b2.mono HB.out.size))
              clear b2
              go_wp2_with fail
              exact ⟨⟨k + 1, by omega, by go_num, by rw [HS.out, g1, g2]; rfl, HB.out⟩, by simp [intOf]; omega⟩
            · rw [g2] at K1
              go_wp2_with fail
              refine (K1.out _).mono ?_; rintro e w2 ⟨rfl, b2⟩
              have HB := Lib.hid (HB.out.trans (b2.mono HB.out.size))
              clear b2
              go_wp2_with fail
              refine (K2.out _).mono ?_; rintro e w2 ⟨rfl, b2⟩
              have HB := Lib.hid (HB.out.trans (b2.mono HB.out.size))
              clear b2
              cases g3 : covN k m
              all_goals
                go_wp2_with fail
                exact ⟨⟨k + 1, by omega, by go_num, by rw [HS.out, g1, g2, g3]; rfl, HB.out⟩, by simp [intOf]; omega⟩
        · obtain rfl : k = 7 := by omega
          cases g : lst a b m 7
          · go_wp2_with fail
            exact ⟨⟨m + 1, by omega, by go_num, fun j hj => by
              by_cases h : j = m
              · subst h; exact g
              · exact HN.out j (by omega), HB.out⟩, by simp [intOf]; omega⟩
          · obtain ⟨e1, e2⟩ := lst_yes a b m hc g
            rw [HJ.out] at e1
            rw [HE.out] at e2
            subst e1
            subst e2
            go_wp2_with fail
            go_ret2
            exact ⟨rfl, HB.out⟩
    · obtain rfl : m = 7 := by omega
      obtain ⟨e1, e2⟩ := lst_no a b HN.out
      rw [HJ.out] at e1
      rw [HE.out] at e2
      subst e1
      subst e2
      go_wp2_with fail
      go_ret2
      exact ⟨rfl, HB.out⟩
end Go.Proofs.YtainnhcmhgloaaaGreatDoor
