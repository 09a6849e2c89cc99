/-
  Reading records, plain: what is read off bytes, step by step; that it is what was written, and the other way round. No program in this text.
-/
import Derived.Test.YthnpkhejfcclcaaDoorD05g
namespace Go.Proofs.YthnpkhejfcclcaaDoor

def numL (z : Nat) (l : List UInt8) : Option (Nat × List UInt8) := if z ≤ l.length then some (Lib.leNat (l.take z), l.drop z) else none
def textL : List UInt8 → Option (ByteArray × List UInt8)
  | [] => none
  | c :: l => if c.toNat ≤ l.length then some (baL (l.take c.toNat), l.drop c.toNat) else none
theorem textL_cons (c : UInt8) (l : List UInt8) : textL (c :: l) = if c.toNat ≤ l.length then some (baL (l.take c.toNat), l.drop c.toNat) else none := rfl
def pairsR : Nat → List UInt8 → Option (Prs × List UInt8)
  | 0, l => some ([], l)
  | n + 1, l => match textL l with
    | none => none
    | some (k, l1) => match textL l1 with
      | none => none
      | some (v, l2) => match pairsR n l2 with
        | none => none
        | some (pr, l3) => some ((k, v) :: pr, l3)
theorem numL_put (z v : Nat) (x : List UInt8) (h : v < 256 ^ z) : numL z (Lib.leBytes z v ++ x) = some (v, x) := by
  unfold numL
  rw [if_pos (by rw [List.length_append, Lib.leBytes_length]; omega), List.take_left' (Lib.leBytes_length _ _), List.drop_left' (Lib.leBytes_length _ _), Lib.leNat_leBytes _ _ h]
theorem leBytes_leNat : ∀ l : List UInt8, Lib.leBytes l.length (Lib.leNat l) = l
  | [] => rfl
  | b :: l => by
    have ih := leBytes_leNat l
    have hb := b.toNat_lt
    simp only [List.length_cons, Lib.leBytes, Lib.leNat]
    rw [show (b.toNat + 256 * Lib.leNat l) / 256 = Lib.leNat l by omega, ih]
    congr 1
    apply UInt8.toNat_inj.1
    simp
theorem numL_got {z : Nat} {l x : List UInt8} {v : Nat} (h : numL z l = some (v, x)) : l = Lib.leBytes z v ++ x ∧ v < 256 ^ z ∧ x = l.drop z ∧ z ≤ l.length := by
  unfold numL at h
  split at h
  · rename_i hz
    simp only [Option.some.injEq, Prod.mk.injEq] at h
    obtain ⟨rfl, rfl⟩ := h
    have e : (l.take z).length = z := by rw [List.length_take]; omega
    have h1 := leBytes_leNat (l.take z)
    rw [e] at h1
    have h2 := leNat_lt (l.take z)
    rw [e] at h2
    exact ⟨by rw [h1, List.take_append_drop], h2, rfl, hz⟩
  · cases h
theorem textL_put (t : ByteArray) (x : List UInt8) (h : t.size ≤ 255) : textL (txtL t ++ x) = some (t, x) := by
  unfold txtL
  rw [List.cons_append, textL_cons]
  have e : t.size.toUInt8.toNat = t.size := by rw [Nat.toUInt8, UInt8.toNat_ofNat', Nat.mod_eq_of_lt (by omega)]
  rw [e, Lib.size_eq, if_pos (by simp), List.take_left' rfl, List.drop_left' rfl]
  rfl
theorem textL_got {l x : List UInt8} {t : ByteArray} (h : textL l = some (t, x)) : l = txtL t ++ x ∧ t.size ≤ 255 ∧ x = l.drop (1 + t.size) := by
  cases l with
  | nil => cases h
  | cons c l =>
    rw [textL_cons] at h
    split at h
    · rename_i hc
      simp only [Option.some.injEq, Prod.mk.injEq] at h
      obtain ⟨rfl, rfl⟩ := h
      have hb := c.toNat_lt
      have e : (baL (l.take c.toNat)).size = c.toNat := by rw [baL_size, List.length_take]; omega
      refine ⟨?_, by omega, ?_⟩
      · unfold txtL
        rw [e, List.cons_append]
        congr 1
        · apply UInt8.toNat_inj.1; simp
        · show l = (l.take c.toNat) ++ l.drop c.toNat
          rw [List.take_append_drop]
      · rw [e, Nat.add_comm]; rfl
    · cases h
theorem pairsR_put : ∀ (pr : Prs) (x : List UInt8), risesB pr = true → pairsR pr.length (pairsL pr ++ x) = some (pr, x)
  | [], x, _ => rfl
  | (k, v) :: pr, x, h => by
    obtain ⟨h1, h2, h3⟩ := risesB_head h
    have s1 := keyB_size h1; have s2 := valB_size h2
    dsimp only at s1 s2
    have e : pairsL ((k, v) :: pr) ++ x = txtL k ++ (txtL v ++ (pairsL pr ++ x)) := by simp [pairsL, pairL, List.append_assoc]
    rw [e, List.length_cons]
    simp only [pairsR, textL_put k _ (by omega), textL_put v _ (by omega), pairsR_put pr x h3]
theorem pairsR_got : ∀ (n : Nat) (l x : List UInt8) (pr : Prs), pairsR n l = some (pr, x) → l = pairsL pr ++ x ∧ pr.length = n
  | 0, l, x, pr, h => by simp [pairsR] at h; obtain ⟨rfl, rfl⟩ := h; exact ⟨rfl, rfl⟩
  | n + 1, l, x, pr, h => by
    simp only [pairsR] at h
    split at h
    · cases h
    · rename_i k l1 h1
      split at h
      · cases h
      · rename_i v l2 h2
        split at h
        · cases h
        · rename_i pr' l3 h3
          simp only [Option.some.injEq, Prod.mk.injEq] at h
          obtain ⟨rfl, rfl⟩ := h
          obtain ⟨e3, e4⟩ := pairsR_got n _ _ _ h3
          refine ⟨?_, by simp [e4]⟩
          rw [(textL_got h1).1, (textL_got h2).1, e3]
          simp [pairsL, pairL, List.append_assoc]
/-- the record that bytes begin with, and what stands behind it -/
def parseL (l : List UInt8) : Option (RecP × List UInt8) :=
  match numL 1 l with
  | none => none
  | some (n, l1) =>
    if 1 ≤ n ∧ n ≤ 7 then
      if n ≤ 5 then
        match numL 6 l1 with
        | none => none
        | some (t, l2) =>
          if n = 2 ∨ n = 3 then
            match textL l2 with
            | none => none
            | some (ke, l3) =>
              if n = 2 then
                match textL l3 with
                | none => none
                | some (va, l4) => some (⟨n, t, ke, va, 0, 0, 0, []⟩, l4)
              else some (⟨n, t, ke, ⟨#[]⟩, 0, 0, 0, []⟩, l3)
          else some (⟨n, t, ⟨#[]⟩, ⟨#[]⟩, 0, 0, 0, []⟩, l2)
      else
        match numL 6 l1 with
        | none => none
        | some (pa, l2) => match numL 6 l2 with
          | none => none
          | some (un, l3) => match numL 6 l3 with
            | none => none
            | some (nu, l4) =>
              if n = 7 then
                match numL 2 l4 with
                | none => none
                | some (m, l5) => match pairsR m l5 with
                  | none => none
                  | some (pr, l6) => some (⟨n, 0, ⟨#[]⟩, ⟨#[]⟩, pa, un, nu, pr⟩, l6)
              else some (⟨n, 0, ⟨#[]⟩, ⟨#[]⟩, pa, un, nu, []⟩, l4)
    else none
theorem leBytes_one (n : Nat) (h : n < 256) : Lib.leBytes 1 n = [n.toUInt8] := by
  simp [Lib.leBytes, Nat.mod_eq_of_lt h]
theorem num6_leBytes (n : Nat) : num6 (n : Int) = Lib.leBytes 6 n := by unfold num6; rw [Int.toNat_natCast]
theorem parseL_got {l x : List UInt8} {r : RecP} (h : parseL l = some (r, x)) : l = encL r ++ x := by
  unfold parseL at h
  split at h
  · cases h
  rename_i n l1 h1
  have e1 := (numL_got h1).1
  have hn := (numL_got h1).2.1
  rw [show (256 : Nat) ^ 1 = 256 from rfl] at hn
  rw [leBytes_one n hn] at e1
  split at h
  · rename_i hk
    split at h
    · rename_i h5
      split at h
      · cases h
      rename_i t l2 h2
      have e2 := (numL_got h2).1
      split at h
      · rename_i h23
        split at h
        · cases h
        rename_i ke l3 h3
        have e3 := (textL_got h3).1
        split at h
        · rename_i h22
          split at h
          · cases h
          rename_i va l4 h4
          have e4 := (textL_got h4).1
          simp only [Option.some.injEq, Prod.mk.injEq] at h
          obtain ⟨rfl, rfl⟩ := h
          subst h22
          rw [e1, e2, e3, e4]
          simp [encL, num6_leBytes]
        · rename_i h22
          simp only [Option.some.injEq, Prod.mk.injEq] at h
          obtain ⟨rfl, rfl⟩ := h
          obtain rfl : n = 3 := by omega
          rw [e1, e2, e3]
          simp [encL, num6_leBytes]
      · rename_i h23
        simp only [Option.some.injEq, Prod.mk.injEq] at h
        obtain ⟨rfl, rfl⟩ := h
        rw [e1, e2]
        unfold encL
        dsimp only
        rw [if_pos (show (n : Int) ≤ 5 by omega), if_neg (show ¬ ((n : Int) = 2 ∨ (n : Int) = 3) by omega), if_neg (show ¬ (n : Int) = 2 by omega), if_neg (show ¬ (n : Int) = 7 by omega)]
        simp [num6_leBytes]
    · rename_i h5
      split at h
      · cases h
      rename_i pa l2 h2
      have e2 := (numL_got h2).1
      split at h
      · cases h
      rename_i un l3 h3
      have e3 := (numL_got h3).1
      split at h
      · cases h
      rename_i nu l4 h4
      have e4 := (numL_got h4).1
      split at h
      · rename_i h7
        split at h
        · cases h
        rename_i m l5 h5
        have e5 := (numL_got h5).1
        split at h
        · cases h
        rename_i pr l6 h6
        obtain ⟨e6, e7⟩ := pairsR_got _ _ _ _ h6
        simp only [Option.some.injEq, Prod.mk.injEq] at h
        obtain ⟨rfl, rfl⟩ := h
        subst h7
        rw [e1, e2, e3, e4, e5, e6, ← e7]
        simp [encL, num6_leBytes]
      · rename_i h7
        simp only [Option.some.injEq, Prod.mk.injEq] at h
        obtain ⟨rfl, rfl⟩ := h
        obtain rfl : n = 6 := by omega
        rw [e1, e2, e3, e4]
        simp [encL, num6_leBytes]
  · cases h
theorem num6_lt {n : Int} (h0 : 0 ≤ n) (h1 : n ≤ 1099511627776) : n.toNat < 256 ^ 6 := by rw [show (256 : Nat) ^ 6 = 281474976710656 from rfl]; omega
theorem numL_six {n : Int} (h0 : 0 ≤ n) (h1 : n ≤ 1099511627776) (x : List UInt8) : numL 6 (num6 n ++ x) = some (n.toNat, x) := numL_put 6 n.toNat x (num6_lt h0 h1)
theorem parseL_put (r : RecP) (x : List UInt8) (hr : RightP r) : parseL (encL r ++ x) = some (r, x) := by
  obtain ⟨k, t, ke, va, pa, un, nu, pr⟩ := r
  obtain ⟨a1, a2, a3, a4, a5, a6⟩ := hr
  dsimp only at a1 a2 a3 a4 a5 a6
  obtain ⟨n, rfl⟩ := Int.eq_ofNat_of_zero_le (show 0 ≤ k by omega)
  unfold top at a3
  have hd : ∀ y, numL 1 (n.toUInt8 :: y) = some (n, y) := fun y => by
    have := numL_put 1 n y (by rw [show (256 : Nat) ^ 1 = 256 from rfl]; omega)
    rw [leBytes_one n (by omega)] at this; exact this
  have hk : 1 ≤ n ∧ n ≤ 7 := by omega
  unfold encL
  dsimp only
  rw [List.cons_append, Int.toNat_natCast]
  unfold parseL
  rw [hd]
  dsimp only
  rw [if_pos hk]
  by_cases h5 : n ≤ 5
  · rw [if_pos h5, if_pos (show (n : Int) ≤ 5 by omega)]
    rw [if_pos (show (n : Int) ≤ 5 by omega)] at a3
    rw [if_neg (show ¬ (n : Int) = 7 by omega)] at a6 ⊢
    obtain ⟨t1, t2, rfl, rfl, rfl⟩ := a3
    subst a6
    simp only [List.append_assoc, List.append_nil, numL_six (show 0 ≤ t by omega) t2]
    have et : ((t.toNat : Nat) : Int) = t := by omega
    by_cases h23 : n = 2 ∨ n = 3
    · have h23' : (n : Int) = 2 ∨ (n : Int) = 3 := by omega
      rw [if_pos h23'] at a4
      simp only [if_pos h23, if_pos h23']
      have z1 := keyB_size a4
      simp only [textL_put ke _ (show ke.size ≤ 255 by omega)]
      by_cases h22 : n = 2
      · have h22' : (n : Int) = 2 := by omega
        rw [if_pos h22'] at a5
        have z2 := valB_size a5
        simp only [if_pos h22, if_pos h22', textL_put va _ (show va.size ≤ 255 by omega), et]
      · have h22' : ¬ (n : Int) = 2 := by omega
        rw [if_neg h22'] at a5
        simp only [if_neg h22, if_neg h22', et, a5, List.nil_append]
    · have h23' : ¬ ((n : Int) = 2 ∨ (n : Int) = 3) := by omega
      have h22' : ¬ (n : Int) = 2 := by omega
      rw [if_neg h23'] at a4
      rw [if_neg h22'] at a5
      simp only [if_neg h23, if_neg h23', if_neg h22', et, a4, a5, List.nil_append]
  · rw [if_neg h5, if_neg (show ¬ (n : Int) ≤ 5 by omega)]
    rw [if_neg (show ¬ (n : Int) ≤ 5 by omega)] at a3
    have h23' : ¬ ((n : Int) = 2 ∨ (n : Int) = 3) := by omega
    have h22' : ¬ (n : Int) = 2 := by omega
    rw [if_neg h23'] at a4 ⊢
    rw [if_neg h22'] at a5 ⊢
    obtain ⟨rfl, p1, p2, p3, p4, p5, p6⟩ := a3
    simp only [List.append_assoc, List.nil_append, numL_six p1 (show pa ≤ 1099511627776 by omega), numL_six p3 p4, numL_six p5 p6]
    have e1 : ((pa.toNat : Nat) : Int) = pa := by omega
    have e2 : ((un.toNat : Nat) : Int) = un := by omega
    have e3 : ((nu.toNat : Nat) : Int) = nu := by omega
    by_cases h7 : n = 7
    · have h7' : (n : Int) = 7 := by omega
      rw [if_pos h7'] at a6
      obtain ⟨l1, l2⟩ := rowB_parts a6
      have hm := fun y => numL_put 2 pr.length y (by rw [show (256 : Nat) ^ 2 = 65536 from rfl]; omega)
      simp only [if_pos h7, if_pos h7', List.append_assoc, hm, pairsR_put pr _ l2, e1, e2, e3, a4, a5]
    · have h7' : ¬ (n : Int) = 7 := by omega
      rw [if_neg h7'] at a6
      simp only [if_neg h7, if_neg h7', e1, e2, e3, a4, a5, a6, List.nil_append]
end Go.Proofs.YthnpkhejfcclcaaDoor
