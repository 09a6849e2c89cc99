/-
  What the walks of layer 5's laws share: a record cut, in its box; lengths; which bytes are no record's.
-/
import Derived.Test.YthnpkhejfcclcaaDoorF05
import Derived.Test.YthnpkhejfcclcaaDoorC05m
import Derived.Test.YthnpkhejfcclcaaDoorA05
namespace Go.Proofs.YthnpkhejfcclcaaDoor
open Go.RowKit

structure CutOK (q : RecP) : Prop where
  key : q.key.size ≤ 60
  val : q.value.size ≤ 60
  sm : SmallP q.pairs
  len : q.pairs.length ≤ 40
theorem cutP_ok (r : RecP) : CutOK (cutP r) := ⟨cut60_size _, cut60_size _, fun p hp => by
  obtain ⟨x, _, rfl⟩ := List.mem_map.1 hp
  have := cut60_size x.1; have := cut60_size x.2
  exact ⟨by show (cut60 x.1).size ≤ _; omega, by show (cut60 x.2).size ≤ _; omega⟩, by
  show ((r.pairs.take 40).map cutPr).length ≤ 40
  rw [List.length_map, List.length_take]; omega⟩
/-- Cut, of a record that came in -/
theorem cut_step (w0 w : World) (r : RecP) (a : Option Addr) (C : Nat) (h : ArgRec w0 a r) (b : Below w0.heap.size w0 w) :
    Calls Tryd.prog 10 #[recV r a C] w fun e w' => ∃ q a' C', e = .returned (recV q a' C') ∧ CutOK q ∧ PairsAt w' a' q.pairs ∧ Below w.heap.size w w' ∧ ∀ y, a' = some y → w.heap.size ≤ y.block := by
  refine (cut_any r a C w (h.prs.below b) h.len h.key h.val h.each).mono ?_
  rintro e w' ⟨a', C', rfl, p, bl, f⟩
  exact ⟨_, a', C', rfl, cutP_ok r, p, bl, f⟩
/-- what was cut, laid where it came from -/
theorem recAt_put {w : World} {B : Nat} {k t : Int} {ke va : ByteArray} {pa un nu : Int} {v : Value} (x : Box8 QT w B k t ke va pa un nu v) (q : RecP) (a : Option Addr) (C : Nat) (p : PairsAt w a q.pairs) (f : ∀ y, a = some y → y.block ≠ B) :
    RecAt (put8 w B q.kind q.txn q.key q.value q.pass q.unit q.num (.slice a q.pairs.length C)) B q a C :=
  ⟨x.put _ _ _ _ _ _ _ _, put8_pairs' p f _ _ _ _ _ _ _ _⟩
theorem rightP_sizes {q : RecP} (h : RightP q) : q.key.size ≤ 16 ∧ q.value.size ≤ 32 := by
  obtain ⟨_, _, _, r4, r5, _⟩ := h
  constructor
  · split at r4
    · exact (keyB_size r4).2
    · rw [r4]; decide
  · split at r5
    · exact valB_size r5
    · rw [r5]; decide
theorem rightP_small {q : RecP} (h : RightP q) : SmallP q.pairs ∧ q.pairs.length ≤ 4000 := by
  have h6 := h.2.2.2.2.2
  split at h6
  · obtain ⟨l1, l2⟩ := rowB_parts h6
    refine ⟨fun p hp => ?_, l1⟩
    obtain ⟨m1, m2⟩ := risesB_mem l2 p hp
    have := keyB_size m1; have := valB_size m2
    omega
  · rw [h6]; exact ⟨fun p hp => by simp at hp, by simp⟩
theorem encL_len {q : RecP} (h : RightP q) : (encL q).length ≤ 300000 := by
  have hs := rightP_sizes h
  have h6 := h.2.2.2.2.2
  unfold encL
  rw [List.length_cons, List.length_append, List.length_append, List.length_append]
  have e1 : (if q.kind ≤ 5 then num6 q.txn else num6 q.pass ++ (num6 q.unit ++ num6 q.num)).length ≤ 18 := by
    split
    · rw [num6_len]; omega
    · rw [List.length_append, List.length_append, num6_len, num6_len, num6_len]; omega
  have e2 : (if q.kind = 2 ∨ q.kind = 3 then txtL q.key else []).length ≤ 17 := by
    split
    · rw [txtL_len]; omega
    · simp
  have e3 : (if q.kind = 2 then txtL q.value else []).length ≤ 33 := by
    split
    · rw [txtL_len]; omega
    · simp
  have e4 : (if q.kind = 7 then Lib.leBytes 2 q.pairs.length ++ pairsL q.pairs else []).length ≤ 200002 := by
    by_cases h7 : q.kind = 7
    · rw [if_pos h7] at h6 ⊢
      obtain ⟨l1, l2⟩ := rowB_parts h6
      have := pairsL_len l2
      rw [List.length_append, Lib.leBytes_length]; omega
    · rw [if_neg h7]; simp
  omega
theorem encB_size {q : RecP} (h : RightP q) : (encB q).size ≤ 300000 := by rw [encB_baL, baL_size]; exact encL_len h
/-- a record's bytes without their end, or with one more -/
theorem cut_none {q : RecP} (h : RightP q) (j : Nat) (hj : j < (encB q).size) : ∀ x, RightP x → encB x ≠ (encB q).extract 0 j := fun x hx he => by
  have e : encL x = (encL q).take j := by
    have := congrArg (fun b : ByteArray => b.data.toList) he
    rw [encB_list, Lib.extract_data, encB_list] at this
    simpa using this
  have h2 : encL x ++ (encL q).drop j = encL q ++ [] := by rw [e, List.take_append_drop, List.append_nil]
  have := (enc_unique hx h h2).2
  have := congrArg List.length this
  rw [List.length_drop] at this
  rw [encB_baL, baL_size] at hj
  simp at this
  omega
theorem more_none {q : RecP} (h : RightP q) (c : UInt8) : ∀ x, RightP x → encB x ≠ encB q ++ baL [c] := fun x hx he => by
  have e : encL x = encL q ++ [c] := by
    have := congrArg (fun b : ByteArray => b.data.toList) he
    rw [encB_list, ByteArray.data_append, Array.toList_append, encB_list] at this
    exact this
  have h2 : encL x ++ [] = encL q ++ [c] := by rw [e, List.append_nil]
  have := (enc_unique hx h h2).2
  cases this
theorem dec_split (s : ByteArray) : (∃ q, RightP q ∧ encB q = s) ∨ (∀ q, RightP q → encB q ≠ s) := by
  by_cases h : ∃ q, RightP q ∧ encB q = s
  · exact .inl h
  · exact .inr (fun q h1 h2 => h ⟨q, h1, h2⟩)
theorem encOut_yes {q : RecP} (h : rightB q = true) : encOut q = encB q := by unfold encOut; rw [if_pos h]
theorem encOut_no {q : RecP} (h : rightB q = false) : encOut q = ⟨#[]⟩ := by unfold encOut; rw [if_neg (by rw [h]; decide)]
/-- min(len(s), m) in a walk, under one letter -/
theorem cutM_at (s : ByteArray) (m : Nat) : ∃ n : Nat, (if (m : Int) < (s.size : Int) then (m : Int) else (s.size : Int)) = (n : Int) ∧ (0 : Int) ≤ (n : Int) ∧ (n : Int) ≤ (s.size : Int) ∧ (s.extract 0 n).size ≤ m := by
  refine ⟨min s.size m, by split <;> omega, by omega, by omega, ?_⟩
  rw [ByteArray.size_extract]; omega
theorem i64_and16 (n : Int) : bits .and .i64 n 65535 = n % 65536 := by
  have h7 : (BitVec.ofInt 64 65535).toNat = 2 ^ 16 - 1 := by decide
  have key : (BitVec.ofInt 64 n &&& BitVec.ofInt 64 65535).toNat = (n % ((2 ^ 64 : Nat) : Int)).toNat % 2 ^ 16 := by
    rw [BitVec.toNat_and, BitVec.toNat_ofInt, h7, Nat.and_two_pow_sub_one_eq_mod]
  show IntKind.i64.wrap ((BitVec.ofInt 64 n &&& BitVec.ofInt 64 65535).toNat : Nat) = n % 65536
  rw [key, IntKind.wrap_i64]
  omega
end Go.Proofs.YthnpkhejfcclcaaDoor
