/-
  A record that may be, made another kind: when it may be again. No program in this text.
-/
import Derived.Test.YthnpkhejfcclcaaDoorH05
namespace Go.Proofs.YthnpkhejfcclcaaDoor

theorem right_kind (k n : Nat) (k1 : 1 ≤ k) (k7 : k ≤ 7) (n1 : 1 ≤ n) (n7 : n ≤ 7) (t : Int) (ke va : ByteArray) (pa un nu : Int) (pr : Prs) (h : RightP ⟨k, t, ke, va, pa, un, nu, pr⟩) :
    rightB ⟨n, t, ke, va, pa, un, nu, pr⟩ = ((hasT k == hasT n) && ((hasK k == hasK n) && ((!(hasV k && !hasV n) || decide (va = ⟨#[]⟩)) && (!(hasL k && !hasL n) || decide (pr = []))))) := by
  have hr := (rightB_iff _).2 h
  rw [rightB_parts k k1 k7] at hr
  simp only [Bool.and_eq_true] at hr
  obtain ⟨h1, h2, h3, h4, h5⟩ := hr
  rw [rightB_parts n n1 n7]
  have hF : ∀ m, hasF m = !hasT m := fun m => by unfold hasF hasT; by_cases hm : m ≤ 5 <;> simp [hm] <;> omega
  rw [hF] at h2
  rw [hF]
  -- Txn, Pass, Unit, Num
  have e1 : (txnB (hasT n) t && farB (!hasT n) pa un nu) = (hasT k == hasT n) := by
    by_cases e : hasT k = hasT n
    · rw [← e, h1, h2]; simp
    · have ex : (hasT k == hasT n) = false := by simpa using e
      rw [ex]
      cases hk : hasT k <;> cases hn : hasT n
      · exact absurd (hk.trans hn.symm) e
      · rw [hk] at h1
        have h0 : t = 0 := by simpa [txnB] using h1
        subst h0; simp [txnB, inR]
      · rw [hk] at h1
        have h0 : 1 ≤ t := by have h' : inR t 1 1099511627776 = true := h1; exact ((inR_iff _ _ _).1 h').1
        have : (t == 0) = false := by rw [beq_eq_false_iff_ne]; omega
        simp [txnB, this]
      · exact absurd (hk.trans hn.symm) e
  have e2 : kyB (hasK n) ke = (hasK k == hasK n) := by
    by_cases e : hasK k = hasK n
    · rw [← e, h3]; simp
    · have ex : (hasK k == hasK n) = false := by simpa using e
      rw [ex]
      cases hk : hasK k <;> cases hn : hasK n
      · exact absurd (hk.trans hn.symm) e
      · rw [hk] at h3
        have h0 : ke = ⟨#[]⟩ := by simpa [kyB] using h3
        subst h0; decide
      · rw [hk] at h3
        have h0 := (keyB_size (show keyB ke = true from h3)).1
        show decide (ke = ⟨#[]⟩) = false
        rw [decide_eq_false_iff_not]; intro h; rw [h] at h0; exact absurd h0 (by decide)
      · exact absurd (hk.trans hn.symm) e
  have e3 : vlB (hasV n) va = (!(hasV k && !hasV n) || decide (va = ⟨#[]⟩)) := by
    cases hk : hasV k <;> cases hn : hasV n
    · rw [hk] at h4; simpa using h4
    · rw [hk] at h4
      have h0 : va = ⟨#[]⟩ := by simpa [vlB] using h4
      subst h0; decide
    · rfl
    · rw [hk] at h4; simpa using h4
  have e4 : prB (hasL n) pr = (!(hasL k && !hasL n) || decide (pr = [])) := by
    cases hk : hasL k <;> cases hn : hasL n
    · rw [hk] at h5; simpa using h5
    · rw [hk] at h5
      have h0 : pr = [] := by simpa [prB] using h5
      subst h0; decide
    · rfl
    · rw [hk] at h5; simpa using h5
  rw [← Bool.and_assoc, e1, e2, e3, e4]
theorem right_edge (n : Int) (h : n = 0 ∨ n = 8) (t : Int) (ke va : ByteArray) (pa un nu : Int) (pr : Prs) : rightB ⟨n, t, ke, va, pa, un, nu, pr⟩ = false :=
  rightB_no (fun h' => by obtain ⟨a1, a2, _⟩ := h'; dsimp only at a1 a2; omega)
end Go.Proofs.YthnpkhejfcclcaaDoor
