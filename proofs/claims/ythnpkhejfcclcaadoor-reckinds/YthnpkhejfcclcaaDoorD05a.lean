/-
  Package rec: what a kind has (the package variable partsOf), and the contracts of isKind, Key, Value, upTo, rightTxn, rightFar, rightKey, rightValue.
-/
import Derived.Test.YthnpkhejfcclcaaDoorC05l
namespace Go.Proofs.YthnpkhejfcclcaaDoor
open Go.RowKit

def hasT (k : Nat) : Bool := decide (k ≤ 5)
def hasF (k : Nat) : Bool := decide (6 ≤ k)
def hasK (k : Nat) : Bool := decide (k = 2 ∨ k = 3)
def hasV (k : Nat) : Bool := decide (k = 2)
def hasL (k : Nat) : Bool := decide (k = 7)
/-- the package variable partsOf, as the program's text lays it -/
def Laid5 (w : World) : Prop := ∀ k : Nat, 1 ≤ k → k ≤ 7 → w.cell? ⟨0, k * 5, none⟩ = some (.bool (hasT k)) ∧ w.cell? ⟨0, k * 5 + 1, none⟩ = some (.bool (hasF k)) ∧ w.cell? ⟨0, k * 5 + 2, none⟩ = some (.bool (hasK k)) ∧ w.cell? ⟨0, k * 5 + 3, none⟩ = some (.bool (hasV k)) ∧ w.cell? ⟨0, k * 5 + 4, none⟩ = some (.bool (hasL k))
theorem Laid5.below {w w' : World} {n : Nat} (h : Laid5 w) (b : Below n w w') (hn : 0 < n) : Laid5 w' := fun k h1 h2 => by
  obtain ⟨c0, c1, c2, c3, c4⟩ := h k h1 h2
  exact ⟨(b.cell hn).trans c0, (b.cell hn).trans c1, (b.cell hn).trans c2, (b.cell hn).trans c3, (b.cell hn).trans c4⟩
theorem Laid5.pos {w : World} (h : Laid5 w) : 0 < w.heap.size := World.block_lt_of_cell? w _ (h 1 (by decide) (by decide)).1
theorem Laid5.step {w w' : World} (h : Laid5 w) (b : Below w.heap.size w w') : Laid5 w' := h.below b h.pos

def txnB (h : Bool) (t : Int) : Bool := if h then inR t 1 1099511627776 else t == 0
def farB (h : Bool) (pa un nu : Int) : Bool := if h then inR pa 0 4 && (inR un 0 1099511627776 && inR nu 0 1099511627776) else pa == 0 && (un == 0 && nu == 0)
def kyB (h : Bool) (s : ByteArray) : Bool := if h then keyB s else decide (s = ⟨#[]⟩)
def vlB (h : Bool) (s : ByteArray) : Bool := if h then valB s else decide (s = ⟨#[]⟩)
def prB (h : Bool) (l : Prs) : Bool := if h then rowB l else decide (l = [])

theorem isKind_any (k : Int) (w : World) : Calls Tryd.prog 25 #[.int .i64 k] w fun e w' => e = .returned (.bool (decide (1 ≤ k ∧ k < 8))) ∧ w = w' := by
  by_cases h1 : 1 ≤ k
  · by_cases h2 : k < 8
    · rw [decide_eq_true ⟨h1, h2⟩]
      go_enter Tryd.func25, Tryd.ntmps25
      go_wp2
      go_ret
      exact ⟨by first | rfl | (simp; done) | (simp; omega), rfl⟩
    · rw [decide_eq_false (fun h => h2 h.2)]
      have g : 8 ≤ k := by omega
      go_enter Tryd.func25, Tryd.ntmps25
      go_wp2
      go_ret
      exact ⟨by first | rfl | (simp; done) | (simp; omega), rfl⟩
  · rw [decide_eq_false (fun h => h1 h.1)]
    have g : k < 1 := by omega
    go_enter Tryd.func25, Tryd.ntmps25
    go_wp2
    go_ret
    exact ⟨by first | rfl | (simp; done) | (simp; omega), rfl⟩
set_option maxHeartbeats 400000 in
theorem key_any (s : ByteArray) (w : World) (hs : s.size ≤ 1000000) :
    Calls Tryd.prog 18 #[.string s] w fun e w' => e = .returned (.bool (keyB s)) ∧ w = w' := by
  by_cases h1 : 1 ≤ s.size
  · by_cases h2 : s.size ≤ 16
    · have : keyB s = true := by simp [keyB]; omega
      rw [this]
      have g1 : (1 : Int) ≤ (s.size : Int) := by omega
      have g2 : (s.size : Int) ≤ 16 := by omega
      go_enter Tryd.func18, Tryd.ntmps18
      go_wp2
      go_ret
      exact ⟨by first | rfl | (simp; done) | (simp; omega), rfl⟩
    · have : keyB s = false := by simp [keyB]; omega
      rw [this]
      have g1 : (1 : Int) ≤ (s.size : Int) := by omega
      have g2 : (16 : Int) < (s.size : Int) := by omega
      go_enter Tryd.func18, Tryd.ntmps18
      go_wp2
      go_ret
      exact ⟨by first | rfl | (simp; done) | (simp; omega), rfl⟩
  · have : keyB s = false := by simp [keyB]; omega
    rw [this]
    have g1 : (s.size : Int) < 1 := by omega
    go_enter Tryd.func18, Tryd.ntmps18
    go_wp2
    go_ret
    exact ⟨by first | rfl | (simp; done) | (simp; omega), rfl⟩
set_option maxHeartbeats 400000 in
theorem value_any (s : ByteArray) (w : World) (hs : s.size ≤ 1000000) :
    Calls Tryd.prog 20 #[.string s] w fun e w' => e = .returned (.bool (valB s)) ∧ w = w' := by
  by_cases h2 : s.size ≤ 32
  · have : valB s = true := by simp [valB]; omega
    rw [this]
    have g2 : (s.size : Int) ≤ 32 := by omega
    go_enter Tryd.func20, Tryd.ntmps20
    go_wp2
    go_ret
    exact ⟨by first | rfl | (simp; done) | (simp; omega), rfl⟩
  · have : valB s = false := by simp [valB]; omega
    rw [this]
    have g2 : (32 : Int) < (s.size : Int) := by omega
    go_enter Tryd.func20, Tryd.ntmps20
    go_wp2
    go_ret
    exact ⟨by first | rfl | (simp; done) | (simp; omega), rfl⟩
set_option maxHeartbeats 400000 in
theorem upTo_any (n b : Int) (w : World) :
    Calls Tryd.prog 44 #[.int .i64 n, .int .i64 b] w fun e w' => e = .returned (.bool (inR n 0 b)) ∧ w = w' := by
  by_cases h1 : 0 ≤ n
  · by_cases h2 : n ≤ b
    · have : inR n 0 b = true := by simp [inR]; omega
      rw [this]
      clear this
      go_enter Tryd.func44, Tryd.ntmps44
      go_wp2
      go_ret
      exact ⟨by first | rfl | (simp; done) | (simp; omega), rfl⟩
    · have : inR n 0 b = false := by simp [inR]; omega
      rw [this]
      clear this
      have g2 : b < n := by omega
      go_enter Tryd.func44, Tryd.ntmps44
      go_wp2
      go_ret
      exact ⟨by first | rfl | (simp; done) | (simp; omega), rfl⟩
  · have : inR n 0 b = false := by simp [inR]; omega
    rw [this]
    clear this
    have g1 : n < 0 := by omega
    go_enter Tryd.func44, Tryd.ntmps44
    go_wp2
    go_ret
    exact ⟨by first | rfl | (simp; done) | (simp; omega), rfl⟩
/-- the box of a record that came as an argument -/
abbrev boxW (w : World) (k t : Int) (ke va : ByteArray) (pa un nu : Int) (v : Value) : World := w.alloc (.cells #[.int .i64 k, .int .i64 t, .string ke, .string va, .int .i64 pa, .int .i64 un, .int .i64 nu, v] QT)
theorem boxW_bel (w : World) (k t : Int) (ke va : ByteArray) (pa un nu : Int) (v : Value) : Below w.heap.size w (boxW w k t ke va pa un nu v) := (Below.refl w.heap.size w).alloc (Nat.le_refl _) _
set_option maxHeartbeats 400000 in
theorem rightTxn_any (k t : Int) (ke va : ByteArray) (pa un nu : Int) (v : Value) (h : Bool) (w : World) :
    Calls Tryd.prog 26 #[.agg #[.int .i64 k, .int .i64 t, .string ke, .string va, .int .i64 pa, .int .i64 un, .int .i64 nu, v], .bool h] w fun e w' => e = .returned (.bool (txnB h t)) ∧ Below w.heap.size w w' := by
  have HB := Lib.hid (boxW_bel w k t ke va pa un nu v)
  cases h with
  | false =>
    have e : txnB false t = (t == 0) := rfl
    rw [e]
    go_enter Tryd.func26, Tryd.ntmps26
    go_wp2
    go_ret
    exact ⟨by first | rfl | (simp; done), HB.out⟩
  | true =>
    have e : txnB true t = inR t 1 1099511627776 := rfl
    rw [e]
    by_cases h1 : 1 ≤ t
    · by_cases h2 : t ≤ 1099511627776
      · rw [(inR_iff _ _ _).2 ⟨h1, h2⟩]
        go_enter Tryd.func26, Tryd.ntmps26
        go_wp2
        go_ret
        exact ⟨by first | rfl | (simp; done) | (simp; omega), HB.out⟩
      · have : inR t 1 1099511627776 = false := by simp [inR]; omega
        rw [this]
        have g : 1099511627776 < t := by omega
        go_enter Tryd.func26, Tryd.ntmps26
        go_wp2
        go_ret
        exact ⟨by first | rfl | (simp; done) | (simp; omega), HB.out⟩
    · have : inR t 1 1099511627776 = false := by simp [inR]; omega
      rw [this]
      have g : t < 1 := by omega
      go_enter Tryd.func26, Tryd.ntmps26
      go_wp2
      go_ret
      exact ⟨by first | rfl | (simp; done) | (simp; omega), HB.out⟩
set_option maxHeartbeats 1000000 in
theorem rightFar_any (k t : Int) (ke va : ByteArray) (pa un nu : Int) (v : Value) (h : Bool) (w : World) :
    Calls Tryd.prog 27 #[.agg #[.int .i64 k, .int .i64 t, .string ke, .string va, .int .i64 pa, .int .i64 un, .int .i64 nu, v], .bool h] w fun e w' => e = .returned (.bool (farB h pa un nu)) ∧ Below w.heap.size w w' := by
  have HB := Lib.hid (boxW_bel w k t ke va pa un nu v)
  cases h with
  | false =>
    have e : farB false pa un nu = (pa == 0 && (un == 0 && nu == 0)) := rfl
    rw [e]
    by_cases h1 : pa = 0
    · by_cases h2 : un = 0
      · have x1 : (pa == 0) = true := by simpa using h1
        have x2 : (un == 0) = true := by simpa using h2
        rw [x1, x2]
        clear h1 h2
        go_enter Tryd.func27, Tryd.ntmps27
        go_wp2
        go_ret
        exact ⟨by first | rfl | (simp; done), HB.out⟩
      · have x1 : (pa == 0) = true := by simpa using h1
        have x2 : (un == 0) = false := by simpa using h2
        rw [x1, x2]
        clear h1 h2
        go_enter Tryd.func27, Tryd.ntmps27
        go_wp2
        go_ret
        exact ⟨by first | rfl | (simp; done), HB.out⟩
    · have x1 : (pa == 0) = false := by simpa using h1
      rw [x1]
      go_enter Tryd.func27, Tryd.ntmps27
      go_wp2
      go_ret
      exact ⟨by first | rfl | (simp; done), HB.out⟩
  | true =>
    have e : farB true pa un nu = (inR pa 0 4 && (inR un 0 1099511627776 && inR nu 0 1099511627776)) := rfl
    rw [e]
    have C1 := fun W => upTo_any pa 4 W
    have C2 := fun W => upTo_any un 1099511627776 W
    have C3 := fun W => upTo_any nu 1099511627776 W
    generalize inR pa 0 4 = x1 at *
    generalize inR un 0 1099511627776 = x2 at *
    generalize inR nu 0 1099511627776 = x3 at *
    have H1 := Lib.hid C1; have H2 := Lib.hid C2; have H3 := Lib.hid C3
    clear C1 C2 C3 e
    cases x1 with
    | false =>
      go_enter Tryd.func27, Tryd.ntmps27
      go_wp2_with fail
      refine (H1.out _).mono ?_; rintro e w1 ⟨rfl, rfl⟩
      go_wp2
      go_ret
      exact ⟨rfl, HB.out⟩
    | true =>
      cases x2 with
      | false =>
        go_enter Tryd.func27, Tryd.ntmps27
        go_wp2_with fail
        refine (H1.out _).mono ?_; rintro e w1 ⟨rfl, rfl⟩
        go_wp2_with fail
        refine (H2.out _).mono ?_; rintro e w1 ⟨rfl, rfl⟩
        go_wp2
        go_ret
        exact ⟨rfl, HB.out⟩
      | true =>
        go_enter Tryd.func27, Tryd.ntmps27
        go_wp2_with fail
        refine (H1.out _).mono ?_; rintro e w1 ⟨rfl, rfl⟩
        go_wp2_with fail
        refine (H2.out _).mono ?_; rintro e w1 ⟨rfl, rfl⟩
        go_wp2_with fail
        refine (H3.out _).mono ?_; rintro e w1 ⟨rfl, rfl⟩
        go_wp2
        go_ret
        exact ⟨by simp, HB.out⟩
theorem empty_beq (s : ByteArray) : s.toList.isEmpty = decide (s = ⟨#[]⟩) := by
  by_cases h : s.size = 0
  · obtain rfl := ba_empty5 s h; rw [decide_eq_true rfl, Lib.toList_data]; rfl
  · rw [decide_eq_false (fun e => h (by rw [e]; rfl))]
    have := toList_nonempty s (by omega)
    simpa using this
set_option maxHeartbeats 400000 in
theorem rightKey_any (k t : Int) (ke va : ByteArray) (pa un nu : Int) (v : Value) (h : Bool) (w : World) (hs : ke.size ≤ 1000000) :
    Calls Tryd.prog 28 #[.agg #[.int .i64 k, .int .i64 t, .string ke, .string va, .int .i64 pa, .int .i64 un, .int .i64 nu, v], .bool h] w fun e w' => e = .returned (.bool (kyB h ke)) ∧ Below w.heap.size w w' := by
  have HB := Lib.hid (boxW_bel w k t ke va pa un nu v)
  cases h with
  | false =>
    have e : kyB false ke = decide (ke = ⟨#[]⟩) := rfl
    rw [e, ← empty_beq]
    clear e
    go_enter Tryd.func28, Tryd.ntmps28
    go_wp2
    go_ret
    exact ⟨by first | rfl | (simp; done), HB.out⟩
  | true =>
    have H1 := Lib.hid (fun W => key_any ke W hs)
    have e : kyB true ke = keyB ke := rfl
    rw [e]
    go_enter Tryd.func28, Tryd.ntmps28
    go_wp2_with fail
    refine (H1.out _).mono ?_; rintro e w1 ⟨rfl, rfl⟩
    go_wp2
    go_ret
    exact ⟨rfl, HB.out⟩
set_option maxHeartbeats 400000 in
theorem rightValue_any (k t : Int) (ke va : ByteArray) (pa un nu : Int) (v : Value) (h : Bool) (w : World) (hs : va.size ≤ 1000000) :
    Calls Tryd.prog 29 #[.agg #[.int .i64 k, .int .i64 t, .string ke, .string va, .int .i64 pa, .int .i64 un, .int .i64 nu, v], .bool h] w fun e w' => e = .returned (.bool (vlB h va)) ∧ Below w.heap.size w w' := by
  have HB := Lib.hid (boxW_bel w k t ke va pa un nu v)
  cases h with
  | false =>
    have e : vlB false va = decide (va = ⟨#[]⟩) := rfl
    rw [e, ← empty_beq]
    clear e
    go_enter Tryd.func29, Tryd.ntmps29
    go_wp2
    go_ret
    exact ⟨by first | rfl | (simp; done), HB.out⟩
  | true =>
    have H1 := Lib.hid (fun W => value_any va W hs)
    have e : vlB true va = valB va := rfl
    rw [e]
    go_enter Tryd.func29, Tryd.ntmps29
    go_wp2_with fail
    refine (H1.out _).mono ?_; rintro e w1 ⟨rfl, rfl⟩
    go_wp2
    go_ret
    exact ⟨rfl, HB.out⟩
end Go.Proofs.YthnpkhejfcclcaaDoor
