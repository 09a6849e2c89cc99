/-
  Reading leaves, plain: what is read off bytes, step by step; that it is what was written, and the other way round. No program in this text.
-/
import Derived.Test.YtajbnfobmnibjaaD10n
namespace Go.Proofs.Ytajbnfobmnibjaa
open Go.RowKit

def numL10 (z : Nat) (l : List UInt8) : Option (Nat × List UInt8) := if z ≤ l.length then some (Lib.leNat (l.take z), l.drop z) else none
def textL10 : List UInt8 → Option (ByteArray × List UInt8)
  | [] => none
  | c :: l => if c.toNat ≤ l.length then some (baL10 (l.take c.toNat), l.drop c.toNat) else none
theorem textL_cons10 (c : UInt8) (l : List UInt8) : textL10 (c :: l) = if c.toNat ≤ l.length then some (baL10 (l.take c.toNat), l.drop c.toNat) else none := rfl
def pairsR10 : Nat → List UInt8 → Option (Prs × List UInt8)
  | 0, l => some ([], l)
  | n + 1, l => match textL10 l with
    | none => none
    | some (k, l1) => match textL10 l1 with
      | none => none
      | some (v, l2) => match pairsR10 n l2 with
        | none => none
        | some (pr, l3) => some ((k, v) :: pr, l3)
theorem numL_put10 (z v : Nat) (x : List UInt8) (h : v < 256 ^ z) : numL10 z (Lib.leBytes z v ++ x) = some (v, x) := by
  unfold numL10
  rw [if_pos (by rw [List.length_append, Lib.leBytes_length]; omega), List.take_left' (Lib.leBytes_length _ _), List.drop_left' (Lib.leBytes_length _ _), Lib.leNat_leBytes _ _ h]
theorem leBytes_leNat10 : ∀ l : List UInt8, Lib.leBytes l.length (Lib.leNat l) = l
  | [] => rfl
  | b :: l => by
    have ih := leBytes_leNat10 l
    have hb := b.toNat_lt
    simp only [List.length_cons, Lib.leBytes, Lib.leNat]
    rw [show (b.toNat + 256 * Lib.leNat l) / 256 = Lib.leNat l by omega, ih]
    congr 1
    apply UInt8.toNat_inj.1
    simp
theorem numL_got10 {z : Nat} {l x : List UInt8} {v : Nat} (h : numL10 z l = some (v, x)) : l = Lib.leBytes z v ++ x ∧ v < 256 ^ z ∧ x = l.drop z ∧ z ≤ l.length := by
  unfold numL10 at h
  split at h
  · rename_i hz
    simp only [Option.some.injEq, Prod.mk.injEq] at h
    obtain ⟨rfl, rfl⟩ := h
    have e : (l.take z).length = z := by rw [List.length_take]; omega
    have h1 := leBytes_leNat10 (l.take z)
    rw [e] at h1
    have h2 := leNat_lt (l.take z)
    rw [e] at h2
    exact ⟨by rw [h1, List.take_append_drop], h2, rfl, hz⟩
  · cases h
theorem textL_put10 (t : ByteArray) (x : List UInt8) (h : t.size ≤ 255) : textL10 (txtL t ++ x) = some (t, x) := by
  unfold txtL
  rw [List.cons_append, textL_cons10]
  have e : t.size.toUInt8.toNat = t.size := by rw [Nat.toUInt8, UInt8.toNat_ofNat', Nat.mod_eq_of_lt (by omega)]
  rw [e, Lib.size_eq, if_pos (by simp), List.take_left' rfl, List.drop_left' rfl]
  rfl
theorem textL_got10 {l x : List UInt8} {t : ByteArray} (h : textL10 l = some (t, x)) : l = txtL t ++ x ∧ t.size ≤ 255 ∧ x = l.drop (1 + t.size) := by
  cases l with
  | nil => cases h
  | cons c l =>
    rw [textL_cons10] at h
    split at h
    · rename_i hc
      simp only [Option.some.injEq, Prod.mk.injEq] at h
      obtain ⟨rfl, rfl⟩ := h
      have hb := c.toNat_lt
      have e : (baL10 (l.take c.toNat)).size = c.toNat := by rw [baL10_size, List.length_take]; omega
      refine ⟨?_, by omega, ?_⟩
      · unfold txtL
        rw [e, List.cons_append]
        congr 1
        · apply UInt8.toNat_inj.1; simp
        · show l = (l.take c.toNat) ++ l.drop c.toNat
          rw [List.take_append_drop]
      · rw [e, Nat.add_comm]; rfl
    · cases h
theorem pairsR_put10 : ∀ (pr : Prs) (x : List UInt8), risesB pr = true → pairsR10 pr.length (pairsL pr ++ x) = some (pr, x)
  | [], x, _ => rfl
  | (k, v) :: pr, x, h => by
    obtain ⟨h1, h2, h3⟩ := risesB_head h
    have s1 := keyB_size h1; have s2 := valB_size h2
    dsimp only at s1 s2
    have e : pairsL ((k, v) :: pr) ++ x = txtL k ++ (txtL v ++ (pairsL pr ++ x)) := by simp [pairsL, pairL, List.append_assoc]
    rw [e, List.length_cons]
    simp only [pairsR10, textL_put10 k _ (by omega), textL_put10 v _ (by omega), pairsR_put10 pr x h3]
theorem pairsR_got10 : ∀ (n : Nat) (l x : List UInt8) (pr : Prs), pairsR10 n l = some (pr, x) → l = pairsL pr ++ x ∧ pr.length = n
  | 0, l, x, pr, h => by simp [pairsR10] at h; obtain ⟨rfl, rfl⟩ := h; exact ⟨rfl, rfl⟩
  | n + 1, l, x, pr, h => by
    simp only [pairsR10] at h
    split at h
    · cases h
    · rename_i k l1 h1
      split at h
      · cases h
      · rename_i v l2 h2
        split at h
        · cases h
        · rename_i pr' l3 h3
          simp only [Option.some.injEq, Prod.mk.injEq] at h
          obtain ⟨rfl, rfl⟩ := h
          obtain ⟨e3, e4⟩ := pairsR_got10 n _ _ _ h3
          refine ⟨?_, by simp [e4]⟩
          rw [(textL_got10 h1).1, (textL_got10 h2).1, e3]
          simp [pairsL, pairL, List.append_assoc]
def headL (l : LfP) : List UInt8 := [76] ++ (Lib.leBytes 1 l.pairs.length ++ Lib.leBytes 2 l.next.toNat)
/-- a leaf's bytes -/
def encLf (l : LfP) : List UInt8 := headL l ++ (txtL l.high ++ pairsL l.pairs)
/-- the leaf that bytes begin with, behind their mark, and what stands behind it -/
def parseT (l0 : List UInt8) : Option (LfP × List UInt8) :=
  match numL10 1 l0 with
  | none => none
  | some (n, l1) => match numL10 2 l1 with
    | none => none
    | some (nx, l2) => match textL10 l2 with
      | none => none
      | some (h, l3) => match pairsR10 n l3 with
        | none => none
        | some (pr, x) => some (⟨pr, h, nx⟩, x)
def parseLf : List UInt8 → Option (LfP × List UInt8)
  | [] => none
  | c :: l0 => if c = 76 then parseT l0 else none
theorem parseLf_cons (c : UInt8) (l0 : List UInt8) : parseLf (c :: l0) = if c = 76 then parseT l0 else none := rfl
theorem parseLf_put {l : LfP} (x : List UInt8) (hr : rightL l = true) : parseLf (encLf l ++ x) = some (l, x) := by
  obtain ⟨h1, h2, h3, h4, h5⟩ := rightL_iff.1 hr
  have hn := wgt_len l.pairs
  have hh : l.high.size ≤ 16 := by
    unfold highB at h3
    rcases Bool.or_eq_true _ _ ▸ h3 with h | h
    · rw [of_decide_eq_true h]; decide
    · exact (keyB_size (Bool.and_eq_true _ _ ▸ h).1).2
  have e : encLf l ++ x = 76 :: (Lib.leBytes 1 l.pairs.length ++ (Lib.leBytes 2 l.next.toNat ++ (txtL l.high ++ (pairsL l.pairs ++ x)))) := by
    unfold encLf headL; simp [List.append_assoc]
  rw [e]
  rw [parseLf_cons, if_pos rfl]
  unfold parseT
  rw [numL_put10 1 _ _ (by rw [show (256 : Nat) ^ 1 = 256 from rfl]; omega)]
  simp only
  rw [numL_put10 2 _ _ (by rw [show (256 : Nat) ^ 2 = 65536 from rfl]; omega)]
  simp only
  rw [textL_put10 _ _ (by omega)]
  simp only
  rw [pairsR_put10 _ _ h2]
  simp only [Option.some.injEq, Prod.mk.injEq, and_true]
  rw [Int.toNat_of_nonneg h4]
theorem parseLf_got {l x : List UInt8} {r : LfP} (h : parseLf l = some (r, x)) : l = encLf r ++ x ∧ 0 ≤ r.next := by
  cases l with
  | nil => cases h
  | cons c l0 =>
    rw [parseLf_cons] at h
    by_cases hc : c = 76
    · rw [if_pos hc] at h
      unfold parseT at h
      split at h
      · cases h
      · rename_i n l1 e1
        split at h
        · cases h
        · rename_i nx l2 e2
          split at h
          · cases h
          · rename_i hi l3 e3
            split at h
            · cases h
            · rename_i pr y e4
              simp only [Option.some.injEq, Prod.mk.injEq] at h
              obtain ⟨rfl, rfl⟩ := h
              obtain ⟨g4, g5⟩ := pairsR_got10 _ _ _ _ e4
              refine ⟨?_, Int.natCast_nonneg _⟩
              unfold encLf headL
              rw [(numL_got10 e1).1, (numL_got10 e2).1, (textL_got10 e3).1, g4, hc, g5]
              simp [List.append_assoc]
    · rw [if_neg hc] at h; cases h
end Go.Proofs.Ytajbnfobmnibjaa
