/-
  The document's answer for layer 5 (budwoodref05): the contracts of Same, Right.
-/
import Derived.Test.YthnpkhejfcclcaaDoorC05b
namespace Go.Proofs.YthnpkhejfcclcaaDoor
open Go.RowKit

/-- a record as a value: its pairs lie at a -/
def recV (r : RecP) (a : Option Addr) (C : Nat) : Value := .agg #[.int .i64 r.kind, .int .i64 r.txn, .string r.key, .string r.value, .int .i64 r.pass, .int .i64 r.unit, .int .i64 r.num, .slice a r.pairs.length C]
theorem recP_eq (a b : RecP) : a = b ↔ (a.kind = b.kind ∧ a.txn = b.txn ∧ a.key = b.key ∧ a.value = b.value ∧ a.pass = b.pass ∧ a.unit = b.unit ∧ a.num = b.num ∧ a.pairs = b.pairs) := by
  cases a; cases b; simp
/-- are two alike? -/
def sameB (a b : RecP) : Bool := (a.kind == b.kind) && ((a.txn == b.txn) && ((a.key.toList == b.key.toList) && ((a.value.toList == b.value.toList) && ((a.pass == b.pass) && ((a.unit == b.unit) && ((a.num == b.num) && decide (a.pairs = b.pairs)))))))
theorem sameB_iff (a b : RecP) : sameB a b = true ↔ a = b := by
  rw [recP_eq]
  simp only [sameB, Bool.and_eq_true, beq_iff_eq, text_beq, decide_eq_true_iff]
theorem below_drew5 (w : World) (m : Nat) : Below w.heap.size w (w.drewN m) := ⟨rfl, rfl, rfl, Nat.le_refl _, fun _ _ => rfl⟩
set_option maxRecDepth 100000 in
set_option maxHeartbeats 2000000 in
theorem rsame_any (w : World) (x y : RecP) (a b : Option Addr) (C D : Nat) (hP : PairsAt w a x.pairs) (hQ : PairsAt w b y.pairs) (hn : x.pairs.length ≤ 1000000) (hm : y.pairs.length ≤ 1000000) :
    Calls Tryd.prog 17 #[recV x a C, recV y b D] w fun e w' => e = .returned (.bool (sameB x y)) ∧ Below w.heap.size w w' := by
  obtain ⟨k, t, ke, va, pa, un, nu, pr⟩ := x
  obtain ⟨k', t', ke', va', pa', un', nu', pr'⟩ := y
  dsimp only [recV, sameB] at *
  have CP := Lib.hid (fun W (h : Below w.heap.size w W) => rpairs_any W a b pr pr' C D (hP.below h) (hQ.below h) hn hm)
  generalize decide (pr = pr') = R at *
  clear hP hQ
  cases h1 : (k == k') with
  | false =>
    go_enter Tryd.func17, Tryd.ntmps17
    go_wp2
    go_ret
    exact ⟨rfl, (((Below.refl _ w).alloc (Nat.le_refl _) _).alloc (by simp) _)⟩
  | true =>
    cases h2 : (t == t') with
    | false =>
      go_enter Tryd.func17, Tryd.ntmps17
      go_wp2
      go_ret
      exact ⟨rfl, (((Below.refl _ w).alloc (Nat.le_refl _) _).alloc (by simp) _)⟩
    | true =>
      cases h3 : (ke.toList == ke'.toList) with
      | false =>
        go_enter Tryd.func17, Tryd.ntmps17
        go_wp2
        go_ret
        exact ⟨rfl, (((Below.refl _ w).alloc (Nat.le_refl _) _).alloc (by simp) _)⟩
      | true =>
        cases h4 : (va.toList == va'.toList) with
        | false =>
          go_enter Tryd.func17, Tryd.ntmps17
          go_wp2
          go_ret
          exact ⟨rfl, (((Below.refl _ w).alloc (Nat.le_refl _) _).alloc (by simp) _)⟩
        | true =>
          cases h5 : (pa == pa') with
          | false =>
            go_enter Tryd.func17, Tryd.ntmps17
            go_wp2
            go_ret
            exact ⟨rfl, (((Below.refl _ w).alloc (Nat.le_refl _) _).alloc (by simp) _)⟩
          | true =>
            cases h6 : (un == un') with
            | false =>
              go_enter Tryd.func17, Tryd.ntmps17
              go_wp2
              go_ret
              exact ⟨rfl, (((Below.refl _ w).alloc (Nat.le_refl _) _).alloc (by simp) _)⟩
            | true =>
              cases h7 : (nu == nu') with
              | false =>
                go_enter Tryd.func17, Tryd.ntmps17
                go_wp2
                go_ret
                exact ⟨rfl, (((Below.refl _ w).alloc (Nat.le_refl _) _).alloc (by simp) _)⟩
              | true =>
                have hB := ((Below.refl w.heap.size w).alloc (Nat.le_refl _) (.cells #[.int .i64 k, .int .i64 t, .string ke, .string va, .int .i64 pa, .int .i64 un, .int .i64 nu, .slice a pr.length C] 28)).alloc (by simp) (.cells #[.int .i64 k', .int .i64 t', .string ke', .string va', .int .i64 pa', .int .i64 un', .int .i64 nu', .slice b pr'.length D] 28)
                have CC := Lib.hid (CP.out _ hB)
                have HB := Lib.hid hB
                clear hB CP
                go_enter Tryd.func17, Tryd.ntmps17
                go_wp2_with fail
                refine CC.out.mono ?_; rintro e w2 ⟨rfl, m, rfl⟩
                go_wp2
                go_ret
                exact ⟨rfl, HB.out.trans ((below_drew5 _ m).mono (by simp; omega))⟩
end Go.Proofs.YthnpkhejfcclcaaDoor
