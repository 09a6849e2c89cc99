/-
  Package leaf: the contract of find: where a key stands among pairs whose keys rise.
-/
import Derived.Test.YtajbnfobmnibjaaD10b
import Derived.Test.YtajbnfobmnibjaaS10
namespace Go.Proofs.Ytajbnfobmnibjaa
open Go.RowKit

theorem cmp_lt10 : ∀ a b : List UInt8, decide (Lib.compareBytes a b < 0) = lexB a b
  | [], [] => by simp [Lib.compareBytes, lexB]
  | [], _ :: _ => by simp [Lib.compareBytes, lexB]
  | _ :: _, [] => by simp [Lib.compareBytes, lexB]
  | x :: a, y :: b => by
    unfold Lib.compareBytes lexB
    by_cases e : x = y
    · subst e
      have : ¬ x < x := by simp
      rw [if_neg this, if_neg this, if_pos rfl]; exact cmp_lt10 a b
    · rw [if_neg e]
      have hn : x.toNat ≠ y.toNat := fun h => e (UInt8.toNat_inj.1 h)
      by_cases h1 : x < y
      · rw [if_pos h1]; rw [UInt8.lt_iff_toNat_lt] at h1; simp [h1]
      · rw [if_neg h1]
        rw [UInt8.lt_iff_toNat_lt] at h1
        have h2 : y < x := by rw [UInt8.lt_iff_toNat_lt]; omega
        rw [if_pos h2]; simp [h1]
theorem cmp_eq10 : ∀ a b : List UInt8, Lib.compareBytes a b = 0 ↔ a = b
  | [], [] => by simp [Lib.compareBytes]
  | [], _ :: _ => by simp [Lib.compareBytes]
  | _ :: _, [] => by simp [Lib.compareBytes]
  | x :: a, y :: b => by
    unfold Lib.compareBytes
    by_cases e : x = y
    · subst e
      have : ¬ x < x := by simp
      rw [if_neg this, if_neg this, cmp_eq10 a b]; simp
    · have hn : x.toNat ≠ y.toNat := fun h => e (UInt8.toNat_inj.1 h)
      by_cases h1 : x < y
      · rw [if_pos h1]; simp [e]
      · rw [UInt8.lt_iff_toNat_lt] at h1
        have h2 : y < x := by rw [UInt8.lt_iff_toNat_lt]; omega
        rw [if_neg (by rw [UInt8.lt_iff_toNat_lt]; exact h1), if_pos h2]; simp [e]
def cmpK (a b : ByteArray) : Int := Lib.compareBytes a.data.toList b.data.toList
theorem cmpK_lt (a b : ByteArray) : decide (cmpK a b < 0) = lessB a b := cmp_lt10 _ _
theorem cmpK_eq (a b : ByteArray) : (cmpK a b == 0) = decide (a = b) := by
  by_cases e : a = b
  · subst e; rw [decide_eq_true rfl]; exact beq_iff_eq.2 ((cmp_eq10 _ _).2 rfl)
  · rw [decide_eq_false e, beq_eq_false_iff_ne]
    exact fun h => e (ba_ext ((cmp_eq10 _ _).1 h))
theorem cmpF10 (k v key : ByteArray) (w : World) : Calls Try.prog 70 #[.agg #[.string k, .string v], .string key] w fun e w' => e = .returned (.int .i64 (cmpK k key)) ∧ Below w.heap.size w w' := by
  have HB := Lib.hid ((Below.refl w.heap.size w).alloc (Nat.le_refl _) (.cells #[.string k, .string v] 44))
  have CC := Lib.hid (fun W => l10_strings_Compare k key W)
  go_enter Try.func70, Try.ntmps70
  go_wp2_with fail
  refine (CC.out _).mono ?_; rintro e w1 ⟨rfl, rfl⟩
  go_wp2_with fail
  go_ret
  exact ⟨rfl, HB.out⟩
theorem hasN_at {l : Prs} {k : ByteArray} {i : Nat} {p : ByteArray × ByteArray} (hf : findN l k = i) (hp : l[i]? = some p) : hasN l k = decide (p.1 = k) := by unfold hasN; rw [hf, hp]
theorem hasN_end {l : Prs} {k : ByteArray} {i : Nat} (hf : findN l k = i) (hp : l[i]? = none) : hasN l k = false := by unfold hasN; rw [hf, hp]
set_option maxRecDepth 100000 in
set_option maxHeartbeats 4000000 in
theorem search10 (a : Option Addr) (C : Nat) (l : Prs) (key : ByteArray) (w : World) (hP : PairsAt w a l) (hr : Rise l) (hn : l.length ≤ 1000000) :
    Calls Try.prog 69 #[.slice a l.length C, .string key, .func (.func 70) #[] #[]] w fun e w' => e = .returned (.tuple #[.int .i64 (findN l key : Int), .bool (hasN l key)]) ∧ Below w.heap.size w w' := by
  have HP := Lib.hid hP; have HR := Lib.hid hr
  have CF := Lib.hid cmpF10
  clear hP hr
  obtain ⟨F, hF⟩ : ∃ F, findN l key = F := ⟨_, rfl⟩
  obtain ⟨G, hG⟩ : ∃ G, hasN l key = G := ⟨_, rfl⟩
  rw [hF, hG]
  have HF := Lib.hid hF; have HG := Lib.hid hG
  clear hF hG
  go_enter Try.func69, Try.ntmps69
  go_wp2_with fail
  go_loopw [9, 10] (fun u v wr => ∃ i j : Nat, i ≤ j ∧ j ≤ l.length ∧ u = .int .i64 (i : Int) ∧ v = .int .i64 (j : Int) ∧ (∀ p ∈ l.take i, lessB p.1 key = true) ∧ (∀ p ∈ l.drop j, lessB p.1 key = false) ∧ Below w.heap.size w wr) (fun u v _ => (intOf v).toNat - (intOf u).toNat)
  case atStart => exact ⟨0, l.length, by omega, by omega, rfl, rfl, by simp, by simp, Below.refl _ _⟩
  case round =>
    obtain ⟨i, j, hij, hj, rfl, rfl, h1, h2, hb⟩ := hrel
    have H1 := Lib.hid h1; have H2 := Lib.hid h2; have HB := Lib.hid hb
    clear h1 h2 hb
    have i0 : (0 : Int) ≤ (i : Int) := by omega
    have j0 : (0 : Int) ≤ (j : Int) := by omega
    have j9 : (j : Int) ≤ 1000000 := by omega
    by_cases hlt : i < j
    · have c1 : (i : Int) < (j : Int) := by omega
      obtain ⟨h, hh⟩ : ∃ h, (i + j) / 2 = h := ⟨_, rfl⟩
      have c2 : i ≤ h := by omega
      have c3 : h < j := by omega
      have c4 : (h : Int) < (l.length : Int) := by omega
      have c5 : (0 : Int) ≤ (h : Int) := by omega
      obtain ⟨⟨pk, pv⟩, hp⟩ : ∃ p, l[h]? = some p := ⟨_, List.getElem?_eq_getElem (by omega)⟩
      obtain ⟨g, off, rfl, d0, d1⟩ := HP.out.below HB.out h _ hp
      dsimp only at d0 d1
      have hI : ((i : Int) + (j : Int)) / 2 = (h : Int) := by omega
      have hcl := cmpK_lt pk key
      have CFk := Lib.hid (fun W => CF.out pk pv key W)
      generalize cmpK pk key = ck at *
      cases hb : lessB pk key with
      | true =>
        rw [hb] at hcl
        have hc1 : ck < 0 := of_decide_eq_true hcl
        have H1' := Lib.hid (show ∀ p ∈ l.take (h + 1), lessB p.1 key = true from fun p hpm => by
          obtain ⟨q, hq, rfl⟩ := List.mem_iff_getElem.1 hpm
          rw [List.length_take] at hq
          rw [List.getElem_take]
          by_cases e : q = h
          · subst e
            have := (List.getElem?_eq_some_iff.1 hp).2
            rw [this]; exact hb
          · have h3 := List.pairwise_iff_getElem.1 HR.out.ord q h (by omega) (by omega) (by omega)
            rw [(List.getElem?_eq_some_iff.1 hp).2] at h3
            exact lessT h3 hb)
        clear hcl hp H1 hb
        go_wp2_with fail
        refine (CFk.out _).mono ?_; rintro r w2 ⟨rfl, b2⟩
        have HB2 := Lib.hid (HB.out.trans (b2.mono HB.out.size))
        clear b2 d0 d1 CFk HB
        go_wp2_with fail
        exact ⟨⟨h + 1, j, by omega, hj, by go_num, rfl, H1'.out, H2.out, HB2.out⟩, by simp [intOf]; omega⟩
      | false =>
        rw [hb] at hcl
        have hc1 : ¬ ck < 0 := of_decide_eq_false hcl
        have H2' := Lib.hid (show ∀ p ∈ l.drop h, lessB p.1 key = false from fun p hpm => by
          obtain ⟨q, hq, rfl⟩ := List.mem_iff_getElem.1 hpm
          rw [List.length_drop] at hq
          rw [List.getElem_drop]
          by_cases e : q = 0
          · subst e
            have := (List.getElem?_eq_some_iff.1 hp).2
            simp only [Nat.add_zero]
            rw [this]; exact hb
          · have h3 := List.pairwise_iff_getElem.1 HR.out.ord h (h + q) (by omega) (by omega) (by omega)
            rw [(List.getElem?_eq_some_iff.1 hp).2] at h3
            cases h4 : lessB (l[h + q]).1 key with
            | false => rfl
            | true => rw [lessT h3 h4] at hb; cases hb)
        clear hcl hp H2 hb
        go_wp2_with fail
        refine (CFk.out _).mono ?_; rintro r w2 ⟨rfl, b2⟩
        have HB2 := Lib.hid (HB.out.trans (b2.mono HB.out.size))
        clear b2 d0 d1 CFk HB
        go_wp2_with fail
        exact ⟨⟨i, h, c2, by omega, rfl, by go_num, H1.out, H2'.out, HB2.out⟩, by simp [intOf]; omega⟩
    · obtain rfl : i = j := by omega
      have hf : findN l key = i := findN_is hj H1.out (fun p hp => H2.out p (by
        have hlt := (List.getElem?_eq_some_iff.1 hp).1
        rw [List.drop_eq_getElem_cons hlt, (List.getElem?_eq_some_iff.1 hp).2]; simp))
      have HFI := Lib.hid hf
      obtain rfl : F = i := by rw [← HF.out, hf]
      have c1 : ¬ (F : Int) < (F : Int) := by omega
      clear H1 H2 hf
      by_cases hl : F < l.length
      · have c4 : (F : Int) < (l.length : Int) := by omega
        obtain ⟨⟨pk, pv⟩, hp⟩ : ∃ p, l[F]? = some p := ⟨_, List.getElem?_eq_getElem (by omega)⟩
        obtain ⟨g, off, rfl, d0, d1⟩ := HP.out.below HB.out F _ hp
        dsimp only at d0 d1
        have hce := cmpK_eq pk key
        have CFk := Lib.hid (fun W => CF.out pk pv key W)
        have hg := hasN_at HFI.out hp
        simp only at hg
        rw [HG.out] at hg
        rw [← hg] at hce
        generalize cmpK pk key = ck at *
        clear hp hg
        go_wp2_with fail
        refine (CFk.out _).mono ?_; rintro r w2 ⟨rfl, b2⟩
        have HB2 := Lib.hid (HB.out.trans (b2.mono HB.out.size))
        clear b2 d0 d1 CFk HB
        go_wp2_with fail
        go_ret2
        exact ⟨rfl, HB2.out⟩
      · have c4 : ¬ (F : Int) < (l.length : Int) := by omega
        obtain rfl : G = false := by rw [← HG.out]; exact hasN_end HFI.out (List.getElem?_eq_none (by omega))
        go_wp2_with fail
        go_ret2
        exact ⟨rfl, HB.out⟩
theorem find10 (a : Option Addr) (C : Nat) (l : Prs) (key : ByteArray) (w : World) (hP : PairsAt w a l) (hr : Rise l) (hn : l.length ≤ 1000000) :
    Calls Try.prog 53 #[.slice a l.length C, .string key] w fun e w' => e = .returned (.tuple #[.int .i64 (findN l key : Int), .bool (hasN l key)]) ∧ Below w.heap.size w w' := by
  have CS := Lib.hid (search10 a C l key w hP hr hn)
  clear hP hr hn
  generalize findN l key = f at *
  generalize hasN l key = h at *
  go_enter Try.func53, Try.ntmps53
  go_wp2_with fail
  refine CS.out.mono ?_; rintro r w2 ⟨rfl, b2⟩
  have HB2 := Lib.hid b2
  clear b2
  go_wp2_with fail
  go_ret2
  exact ⟨rfl, HB2.out⟩
end Go.Proofs.Ytajbnfobmnibjaa
