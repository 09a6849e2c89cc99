/-
  The document's answer for layer 8 (budwoodref08): the contracts of Covers of any numbers, both, Join, Above, Name, Parse: the same plain answers as the program's.
-/
import Derived.Test.YtnphgfcbdmhloaaDoorC08b
import Derived.Test.YtnphgfcbdmhloaaDoorE08b
namespace Go.Proofs.YtnphgfcbdmhloaaDoor
open Go.RowKit

theorem rcovers_any (a b : Int) (w : World) :
    Calls Tryd.prog 18 #[.int .i64 a, .int .i64 b] w fun e w' => e = .returned (.bool (covB a b)) ∧ Below w.heap.size w w' := by
  by_cases ha : md a = true
  · by_cases hb : md b = true
    · obtain ⟨x, hx, rfl⟩ := md_in ha
      obtain ⟨y, hy, rfl⟩ := md_in hb
      rw [covB_nat x y hx hy]
      exact rcovers_in x y hx hy w
    · have C1 := there_any a
      have C2 := there_any b
      have e : covB a b = false := by unfold covB; rw [Bool.eq_false_iff.2 hb]; simp
      rw [e]
      rw [ha] at C1
      rw [Bool.eq_false_iff.2 hb] at C2
      have H1 := Lib.hid C1
      have H2 := Lib.hid C2
      clear C1 C2 ha hb e
      go_enter Tryd.func18, Tryd.ntmps18
      go_wp2_with fail
      refine (H1.out _).mono ?_; rintro e w1 ⟨rfl, rfl⟩
      go_wp2_with fail
      refine (H2.out _).mono ?_; rintro e w1 ⟨rfl, rfl⟩
      go_wp2_with fail
      go_ret
      exact ⟨rfl, Below.refl _ _⟩
  · have C1 := there_any a
    have e : covB a b = false := by unfold covB; rw [Bool.eq_false_iff.2 ha]; simp
    rw [e]
    rw [Bool.eq_false_iff.2 ha] at C1
    have H1 := Lib.hid C1
    clear C1 ha e
    go_enter Tryd.func18, Tryd.ntmps18
    go_wp2_with fail
    refine (H1.out _).mono ?_; rintro e w1 ⟨rfl, rfl⟩
    go_wp2_with fail
    go_ret
    exact ⟨rfl, Below.refl _ _⟩
theorem rboth_any (m a b : Int) (w : World) :
    Calls Tryd.prog 23 #[.int .i64 m, .int .i64 a, .int .i64 b] w fun e w' => e = .returned (.bool (covB m a && covB m b)) ∧ Below w.heap.size w w' := by
  have C1 := rcovers_any m a
  have C2 := rcovers_any m b
  generalize covB m a = x at *
  generalize covB m b = y at *
  have H1 := Lib.hid C1
  have H2 := Lib.hid C2
  clear C1 C2
  cases x <;> cases y
  all_goals
    go_enter Tryd.func23, Tryd.ntmps23
    go_wp2_with fail
    refine (H1.out _).mono ?_; rintro e w1 ⟨rfl, b1⟩
    have B1 := Lib.hid b1
    clear b1
    go_wp2_with fail
    try (refine (H2.out _).mono ?_; rintro e w1 ⟨rfl, b2⟩; have B1 := Lib.hid (B1.out.trans (b2.mono B1.out.size)); clear b2)
    try go_wp2_with fail
    go_ret
    exact ⟨rfl, B1.out⟩

/-- does k cover both? -/
def boB (a b : Int) (k : Nat) : Bool := covB (k : Int) a && covB (k : Int) b
/-- m covers both, and is covered by all below k that do -/
def lst (a b : Int) (m : Nat) : Nat → Bool
  | 0 => boB a b m
  | k + 1 => lst a b m k && (!boB a b k || covN k m)
theorem lst_in : ∀ a : Nat, a < 7 → ∀ b : Nat, b < 7 → ∀ m : Nat, m < 7 → lst (a : Int) (b : Int) m 7 = decide (m = jn a b 7) := by decide +kernel
theorem lst_out (a b : Int) (h : (md a && md b) = false) (m : Nat) : lst a b m 7 = false := by
  have g : boB a b m = false := by
    unfold boB covB
    cases h1 : md a <;> cases h2 : md b <;> simp_all
  simp [lst, g]
theorem lst_yes (a b : Int) (m : Nat) (hm : m < 7) (h : lst a b m 7 = true) : joV a b = (m : Int) ∧ okE (md a && md b) = 0 := by
  cases g : md a && md b
  · rw [lst_out a b g] at h; cases h
  · have g' := g
    rw [Bool.and_eq_true] at g'
    obtain ⟨x, hx, rfl⟩ := md_in g'.1
    obtain ⟨y, hy, rfl⟩ := md_in g'.2
    rw [lst_in x hx y hy m hm] at h
    have e := of_decide_eq_true h
    unfold joV
    rw [g]
    exact ⟨by simp [e], rfl⟩
theorem lst_no (a b : Int) (h : ∀ m, m < 7 → lst a b m 7 = false) : joV a b = 0 ∧ okE (md a && md b) = 1 := by
  cases g : md a && md b
  · unfold joV; rw [g]; exact ⟨rfl, rfl⟩
  · rw [Bool.and_eq_true] at g
    obtain ⟨x, hx, rfl⟩ := md_in g.1
    obtain ⟨y, hy, rfl⟩ := md_in g.2
    have hj := jn_lt x y 7 (by decide)
    have := h _ hj
    rw [lst_in x hx y hy _ hj, decide_eq_true rfl] at this
    cases this
set_option maxHeartbeats 4000000 in
theorem rjoin_any (a b : Int) (w : World) :
    Calls Tryd.prog 10 #[.int .i64 a, .int .i64 b] w fun e w' => e = .returned (.tuple #[.int .i64 (joV a b), .int .i64 (okE (md a && md b))]) ∧ Below w.heap.size w w' := by
  obtain ⟨J, HJ⟩ : ∃ J, Hid (joV a b = J) := ⟨_, Lib.hid rfl⟩
  obtain ⟨E, HE⟩ : ∃ E, Hid (okE (md a && md b) = E) := ⟨_, Lib.hid rfl⟩
  rw [HJ.out, HE.out]
  go_enter Tryd.func10, Tryd.ntmps10
  go_wp2_with fail
  go_loopw [6] (fun i wr => ∃ k : Nat, k ≤ 7 ∧ i = .int .i64 (k : Int) ∧ (∀ m, m < k → lst a b m 7 = false) ∧ Below w.heap.size w wr) (fun i _ => 7 - (intOf i).toNat)
  case atStart => exact ⟨0, by omega, rfl, fun m h => absurd h (by omega), Below.refl _ _⟩
  case round =>
    obtain ⟨m, hm, rfl, hno, bel⟩ := hrel
    have HB := Lib.hid bel
    have HN := Lib.hid hno
    clear bel hno
    by_cases hc : m < 7
    · have c1 : (m : Int) < 7 := by omega
      have K0 := Lib.hid (fun W => rboth_any (m : Int) a b W)
      go_wp2_with fail
      refine (K0.out _).mono ?_; rintro e w1 ⟨rfl, b1⟩
      have HB := Lib.hid (HB.out.trans (b1.mono HB.out.size))
      clear b1 K0
      generalize hL0 : (covB (m : Int) a && covB (m : Int) b) = L0
      have HL0 := Lib.hid hL0
      clear hL0
      go_wp2_with fail
      go_loopw [7, 8] (fun l i wr => ∃ k : Nat, k ≤ 7 ∧ i = .int .i64 (k : Int) ∧ l = .bool (lst a b m k) ∧ Below w.heap.size w wr) (fun _ i _ => 7 - (intOf i).toNat)
      case atStart => exact ⟨0, by omega, rfl, by rw [← HL0.out]; rfl, HB.out⟩
      case round =>
        clear HB HL0
        obtain ⟨k, hk, rfl, rfl, bel⟩ := hrel
        have HB := Lib.hid bel
        clear bel
        by_cases hd : k < 7
        · have d1 : (k : Int) < 7 := by omega
          have hn : lst a b m (k + 1) = (lst a b m k && (!boB a b k || covN k m)) := rfl
          have HS := Lib.hid hn
          clear hn
          cases g1 : lst a b m k
          · go_wp2_with fail
            exact ⟨⟨k + 1, by omega, by go_num, by rw [HS.out, g1]; rfl, HB.out⟩, by simp [intOf]; omega⟩
          · have K1 := fun W => rboth_any (k : Int) a b W
            rw [show (covB (k : Int) a && covB (k : Int) b) = boB a b k from rfl] at K1
            have K2 := fun W => rcovers_in k m hd hc W
            have K1 := Lib.hid K1
            have K2 := Lib.hid K2
            cases g2 : boB a b k
            · rw [g2] at K1
              go_wp2_with fail
              refine (K1.out _).mono ?_; rintro e w2 ⟨rfl, b2⟩
              have HB := Lib.hid (HB.out.trans (b2.mono HB.out.size))
              clear b2
              go_wp2_with fail
              exact ⟨⟨k + 1, by omega, by go_num, by rw [HS.out, g1, g2]; rfl, HB.out⟩, by simp [intOf]; omega⟩
            · rw [g2] at K1
              go_wp2_with fail
              refine (K1.out _).mono ?_; rintro e w2 ⟨rfl, b2⟩
              have HB := Lib.hid (HB.out.trans (b2.mono HB.out.size))
              clear b2
              go_wp2_with fail
              refine (K2.out _).mono ?_; rintro e w2 ⟨rfl, b2⟩
              have HB := Lib.hid (HB.out.trans (b2.mono HB.out.size))
              clear b2
              cases g3 : covN k m
              all_goals
                go_wp2_with fail
                exact ⟨⟨k + 1, by omega, by go_num, by rw [HS.out, g1, g2, g3]; rfl, HB.out⟩, by simp [intOf]; omega⟩
        · obtain rfl : k = 7 := by omega
          cases g : lst a b m 7
          · go_wp2_with fail
            exact ⟨⟨m + 1, by omega, by go_num, fun j hj => by
              by_cases h : j = m
              · subst h; exact g
              · exact HN.out j (by omega), HB.out⟩, by simp [intOf]; omega⟩
          · obtain ⟨e1, e2⟩ := lst_yes a b m hc g
            rw [HJ.out] at e1
            rw [HE.out] at e2
            subst e1
            subst e2
            go_wp2_with fail
            go_ret2
            exact ⟨rfl, HB.out⟩
    · obtain rfl : m = 7 := by omega
      obtain ⟨e1, e2⟩ := lst_no a b HN.out
      rw [HJ.out] at e1
      rw [HE.out] at e2
      subst e1
      subst e2
      go_wp2_with fail
      go_ret2
      exact ⟨rfl, HB.out⟩
theorem rabove_any (a : Int) (w : World) :
    Calls Tryd.prog 12 #[.int .i64 a] w fun e w' => e = .returned (.tuple #[.int .i64 (abV a), .int .i64 (okE (md a))]) ∧ Below w.heap.size w w' := by
  have C1 := there_any a
  by_cases ha : md a = true
  · unfold abV okE
    rw [ha] at C1 ⊢
    have H1 := Lib.hid C1
    obtain ⟨x, hx, rfl⟩ := md_in ha
    clear C1 ha
    obtain rfl | rfl | rfl | rfl | rfl | rfl | rfl := seven x hx
    all_goals
      clear hx
      go_enter Tryd.func12, Tryd.ntmps12
      go_wp2_with fail
      refine (H1.out _).mono ?_; rintro e w1 ⟨rfl, rfl⟩
      go_wp2_with fail
      go_ret2
      exact ⟨rfl, (Below.refl _ _).alloc (Nat.le_refl _) _⟩
  · unfold abV okE
    rw [Bool.eq_false_iff.2 ha] at C1 ⊢
    have H1 := Lib.hid C1
    clear C1 ha
    go_enter Tryd.func12, Tryd.ntmps12
    go_wp2_with fail
    refine (H1.out _).mono ?_; rintro e w1 ⟨rfl, rfl⟩
    go_wp2_with fail
    go_ret2
    exact ⟨rfl, Below.refl _ _⟩
theorem rname_any (a : Int) (w : World) :
    Calls Tryd.prog 20 #[.int .i64 a] w fun e w' => e = .returned (.string (nmV a)) ∧ Below w.heap.size w w' := by
  have C1 := there_any a
  by_cases ha : md a = true
  · unfold nmV
    rw [ha] at C1 ⊢
    have H1 := Lib.hid C1
    obtain ⟨x, hx, rfl⟩ := md_in ha
    clear C1 ha
    obtain rfl | rfl | rfl | rfl | rfl | rfl | rfl := seven x hx
    all_goals
      clear hx
      go_enter Tryd.func20, Tryd.ntmps20
      go_wp2_with fail
      refine (H1.out _).mono ?_; rintro e w1 ⟨rfl, rfl⟩
      go_wp2_with fail
      go_ret
      exact ⟨rfl, (Below.refl _ _).alloc (Nat.le_refl _) _⟩
  · unfold nmV
    rw [Bool.eq_false_iff.2 ha] at C1 ⊢
    have H1 := Lib.hid C1
    clear C1 ha
    go_enter Tryd.func20, Tryd.ntmps20
    go_wp2_with fail
    refine (H1.out _).mono ?_; rintro e w1 ⟨rfl, rfl⟩
    go_wp2_with fail
    go_ret
    exact ⟨rfl, Below.refl _ _⟩
theorem nmV_in (a : Nat) (h : a < 7) : nmV (a : Int) = nmS a := by unfold nmV; rw [md_nat, decide_eq_true h]; rfl
set_option maxHeartbeats 4000000 in
theorem rparse_any (s : ByteArray) (w : World) :
    Calls Tryd.prog 14 #[.string s] w fun e w' => e = .returned (.tuple #[.int .i64 (paV (paN s 7)), .int .i64 (paE (paN s 7))]) ∧ Below w.heap.size w w' := by
  obtain ⟨R, HR⟩ : ∃ R, Hid (paN s 7 = R) := ⟨_, Lib.hid rfl⟩
  rw [HR.out]
  go_enter Tryd.func14, Tryd.ntmps14
  go_wp2_with fail
  go_loopw [4] (fun i wr => ∃ k : Nat, k ≤ 7 ∧ i = .int .i64 (k : Int) ∧ paN s (7 - k) = R ∧ Below w.heap.size w wr) (fun i _ => 7 - (intOf i).toNat)
  case atStart => exact ⟨0, by omega, rfl, HR.out, Below.refl _ _⟩
  case round =>
    obtain ⟨k, hk, rfl, hp, bel⟩ := hrel
    have HB := Lib.hid bel
    clear bel
    by_cases hc : k < 7
    · have g1 : (k : Int) < 7 := by omega
      have K := fun W => rname_any (k : Int) W
      rw [nmV_in k hc] at K
      have K := Lib.hid K
      rw [show 7 - k = (6 - k) + 1 by omega] at hp
      unfold paN at hp
      rw [show 6 - (6 - k) = k by omega] at hp
      by_cases he : nmS k = s
      · rw [if_pos he] at hp
        subst hp
        have g3 : ((nmS k).toList == s.toList) = true := by rw [toList_beq8, decide_eq_true he]
        clear he
        generalize nmS k = N at *
        go_wp2_with fail
        refine (K.out _).mono ?_; rintro e w2 ⟨rfl, b2⟩
        have HB := Lib.hid (HB.out.trans (b2.mono HB.out.size))
        clear b2
        go_wp2_with fail
        go_ret2
        exact ⟨rfl, HB.out⟩
      · rw [if_neg he] at hp
        have g3 : ((nmS k).toList == s.toList) = false := by rw [toList_beq8, decide_eq_false he]
        clear he
        generalize nmS k = N at *
        go_wp2_with fail
        refine (K.out _).mono ?_; rintro e w2 ⟨rfl, b2⟩
        have HB := Lib.hid (HB.out.trans (b2.mono HB.out.size))
        clear b2
        go_wp2_with fail
        exact ⟨⟨k + 1, by omega, by go_num, by rw [show 7 - (k + 1) = 6 - k by omega]; exact hp, HB.out⟩, by simp [intOf]; omega⟩
    · obtain rfl : k = 7 := by omega
      subst hp
      go_wp2_with fail
      go_ret2
      exact ⟨rfl, HB.out⟩
end Go.Proofs.YtnphgfcbdmhloaaDoor
