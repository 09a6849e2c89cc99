/-
  Package rec: the contracts of rightPairs and Right.
-/
import Derived.Test.YthnpkhejfcclcaaDoorD05a
import Derived.Laws.Cover1
namespace Go.Proofs.YthnpkhejfcclcaaDoor
open Go.RowKit

theorem lexB_bytesLess : ∀ a b : List UInt8, Op.bytesLess a b = lexB a b
  | [], [] => by simp [Op.bytesLess, lexB]
  | _ :: _, [] => by simp [Op.bytesLess, lexB]
  | [], _ :: _ => by simp [Op.bytesLess, lexB]
  | x :: a, y :: b => by
    rw [Op.bytesLess, lexB_bytesLess a b, lexB]
    by_cases h : x = y
    · subst h; simp
    · rw [if_neg h]
      have : x.toNat ≠ y.toNat := fun e => h (UInt8.toNat_inj.1 e)
      simp [h, UInt8.lt_iff_toNat_lt]
theorem lexB_irr : ∀ a : List UInt8, lexB a a = false
  | [] => rfl
  | x :: a => by simp [lexB, lexB_irr a]
theorem lexB_total : ∀ a b : List UInt8, (lexB a b || a == b) = !lexB b a
  | [], [] => by simp [lexB]
  | _ :: _, [] => by simp [lexB]
  | [], _ :: _ => by simp [lexB]
  | x :: a, y :: b => by
    by_cases h : x = y
    · subst h; simpa [lexB] using lexB_total a b
    · have h' : ¬ y = x := fun e => h e.symm
      have : x.toNat ≠ y.toNat := fun e => h (UInt8.toNat_inj.1 e)
      simp only [lexB, if_neg h, if_neg h']
      have e : (x :: a == y :: b) = false := by rw [beq_eq_false_iff_ne]; intro e; cases e; exact h rfl
      rw [e, Bool.or_false]
      by_cases hlt : x.toNat < y.toNat
      · rw [decide_eq_true hlt, decide_eq_false (by omega)]; rfl
      · rw [decide_eq_false hlt, decide_eq_true (by omega)]; rfl
/-- 'p <= q' in a walk -/
theorem leq_is (p q : ByteArray) : (Op.bytesLess p.toList q.toList || p.toList == q.toList) = !lessB q p := by
  rw [lexB_bytesLess, Lib.toList_data, Lib.toList_data]; exact lexB_total _ _
theorem lessB_empty (s : ByteArray) (h : keyB s = true) : lessB ⟨#[]⟩ s = true := by
  have := (keyB_size h).1
  unfold lessB
  rw [Lib.size_eq] at this
  cases hs : s.data.toList with
  | nil => rw [hs] at this; simp at this
  | cons x l => rfl
/-- the last key of the first k pairs -/
def lastKey (l : Prs) : Nat → ByteArray
  | 0 => ⟨#[]⟩
  | k + 1 => (l[k]?.map (·.1)).getD ⟨#[]⟩
theorem rises_step (l : Prs) (k : Nat) (p : ByteArray × ByteArray) (hp : l[k]? = some p) (hr : risesB (l.take k) = true) : risesB (l.take (k + 1)) = (keyB p.1 && (valB p.2 && lessB (lastKey l k) p.1)) := by
  cases k with
  | zero =>
    rw [rises_zero l _ hp]
    cases hk : keyB p.1 with
    | false => rfl
    | true => simp [lastKey, lessB_empty _ hk]
  | succ k =>
    obtain ⟨q, hq⟩ : ∃ q, l[k]? = some q := ⟨_, List.getElem?_eq_getElem (by have := (List.getElem?_eq_some_iff.1 hp).1; omega)⟩
    rw [rises_next l k q _ hq hp, hr]
    simp [lastKey, hq, Bool.and_assoc]
set_option maxRecDepth 100000 in
set_option maxHeartbeats 2000000 in
theorem rightPairs_any (k t : Int) (ke va : ByteArray) (pa un nu : Int) (a : Option Addr) (C : Nat) (pr : Prs) (h : Bool) (w : World) (hP : PairsAt w a pr) (hS : SmallP pr) (hn : pr.length ≤ 1000000) :
    Calls Tryd.prog 30 #[.agg #[.int .i64 k, .int .i64 t, .string ke, .string va, .int .i64 pa, .int .i64 un, .int .i64 nu, .slice a pr.length C], .bool h] w fun e w' => e = .returned (.bool (prB h pr)) ∧ Below w.heap.size w w' := by
  have HB := Lib.hid (boxW_bel w k t ke va pa un nu (.slice a pr.length C))
  cases h with
  | false =>
    have e : prB false pr = ((pr.length : Int) == 0) := by
      show decide (pr = []) = _
      cases pr with
      | nil => rfl
      | cons x l => simp; omega
    rw [e]
    clear e hP hS
    go_enter Tryd.func30, Tryd.ntmps30
    go_wp2
    go_ret
    exact ⟨by first | rfl | (simp; done), HB.out⟩
  | true =>
    have e : prB true pr = rowB pr := rfl
    rw [e]
    clear e
    by_cases hl : pr.length ≤ 4000
    · have HP := Lib.hid hP; have HS := Lib.hid hS
      clear hP hS
      have g1 : (pr.length : Int) ≤ 4000 := by omega
      go_enter Tryd.func30, Tryd.ntmps30
      go_wp2
      go_loopw [5, 21] (fun la i wr => ∃ k : Nat, k ≤ pr.length ∧ i = .int .i64 (k : Int) ∧ la = .string (lastKey pr k) ∧ risesB (pr.take k) = true ∧ Below w.heap.size w wr) (fun _ i _ => pr.length - (intOf i).toNat)
      case atStart => exact ⟨0, by omega, rfl, rfl, rfl, HB.out⟩
      case round =>
        obtain ⟨k, hk, rfl, rfl, hr, bel⟩ := hrel
        have HR := Lib.hid hr; have HW := Lib.hid bel
        clear hr bel
        by_cases hc : k < pr.length
        · have c1 : (k : Int) < (pr.length : Int) := by omega
          have c0 : (0 : Int) ≤ (k : Int) := by omega
          obtain ⟨⟨pk, pv⟩, hp⟩ : ∃ p, pr[k]? = some p := ⟨_, List.getElem?_eq_getElem hc⟩
          obtain ⟨s1, s2⟩ := HS.out _ (List.mem_of_getElem? hp)
          obtain ⟨g, off, rfl, d0, d1⟩ := HP.out.below HW.out k _ hp
          dsimp only at s1 s2 d0 d1
          have HN := Lib.hid (rises_step pr k _ hp HR.out)
          have HL := Lib.hid (show lastKey pr (k + 1) = pk by simp [lastKey, hp])
          have CK := fun W => key_any pk W s1
          have CV := fun W => value_any pv W s2
          have X := leq_is pk (lastKey pr k)
          dsimp only at HN
          generalize lastKey pr k = la at *
          have HB2 := Lib.hid (HW.out.trans (((Below.refl wr.heap.size wr).alloc (Nat.le_refl _) (.cells #[.string pk, .string pv] 47)).mono HW.out.size))
          have HF : Hid (risesB (pr.take (k + 1)) = false → rowB pr = false) := fun h => by unfold rowB; rw [rises_bad pr (k + 1) h, Bool.and_false]
          clear hp
          cases hkb : keyB pk with
          | false =>
            rw [hkb] at CK HN
            have HF2 := Lib.hid (HF.out HN.out)
            have HK := Lib.hid CK; clear CK CV X hkb HF HN
            go_wp2_with fail
            refine (HK.out _).mono ?_; rintro e w1 ⟨rfl, rfl⟩
            go_wp2
            go_ret
            rw [HF2.out]
            exact ⟨rfl, HB2.out⟩
          | true =>
            rw [hkb] at CK HN
            cases hvb : valB pv with
            | false =>
              rw [hvb] at CV HN
              have HF2 := Lib.hid (HF.out HN.out)
              have HK := Lib.hid CK; have HV := Lib.hid CV; clear CK CV X hkb hvb HF HN
              go_wp2_with fail
              refine (HK.out _).mono ?_; rintro e w1 ⟨rfl, rfl⟩
              go_wp2_with fail
              refine (HV.out _).mono ?_; rintro e w1 ⟨rfl, rfl⟩
              go_wp2
              go_ret
              rw [HF2.out]
              exact ⟨rfl, HB2.out⟩
            | true =>
              rw [hvb] at CV HN
              cases hlb : lessB la pk with
              | false =>
                rw [hlb] at X HN
                have HF2 := Lib.hid (HF.out HN.out)
                have HK := Lib.hid CK; have HV := Lib.hid CV; clear CK CV hkb hvb HF HN hlb
                go_wp2_with fail
                refine (HK.out _).mono ?_; rintro e w1 ⟨rfl, rfl⟩
                go_wp2_with fail
                refine (HV.out _).mono ?_; rintro e w1 ⟨rfl, rfl⟩
                go_wp2
                go_ret
                rw [HF2.out]
                exact ⟨rfl, HB2.out⟩
              | true =>
                rw [hlb] at X HN
                have HK := Lib.hid CK; have HV := Lib.hid CV; clear CK CV hkb hvb HF hlb
                go_wp2_with fail
                refine (HK.out _).mono ?_; rintro e w1 ⟨rfl, rfl⟩
                go_wp2_with fail
                refine (HV.out _).mono ?_; rintro e w1 ⟨rfl, rfl⟩
                go_wp2
                exact ⟨⟨k + 1, by omega, by go_num, by rw [HL.out], HN.out, HB2.out⟩, by simp [intOf]; omega⟩
        · obtain rfl : k = pr.length := by omega
          have HF := Lib.hid (show rowB pr = true by have := HR.out; rw [List.take_length] at this; unfold rowB; rw [this, decide_eq_true hl]; rfl)
          clear HR
          go_wp2
          go_ret
          rw [HF.out]
          exact ⟨rfl, HW.out⟩
    · have HF := Lib.hid (show rowB pr = false by unfold rowB; rw [decide_eq_false hl]; rfl)
      have g1 : (4000 : Int) < (pr.length : Int) := by omega
      clear hP hS
      go_enter Tryd.func30, Tryd.ntmps30
      go_wp2
      go_ret
      rw [HF.out]
      exact ⟨rfl, HB.out⟩
theorem rightB_parts (n : Nat) (h1 : 1 ≤ n) (h2 : n ≤ 7) (t : Int) (ke va : ByteArray) (pa un nu : Int) (pr : Prs) :
    rightB ⟨n, t, ke, va, pa, un, nu, pr⟩ = (txnB (hasT n) t && (farB (hasF n) pa un nu && (kyB (hasK n) ke && (vlB (hasV n) va && prB (hasL n) pr)))) := by
  rw [Bool.eq_iff_iff, rightB_iff]
  obtain rfl | rfl | rfl | rfl | rfl | rfl | rfl : n = 1 ∨ n = 2 ∨ n = 3 ∨ n = 4 ∨ n = 5 ∨ n = 6 ∨ n = 7 := by omega
  · rw [show ((1 : Nat) : Int) = 1 from rfl, right_1]; simp [txnB, farB, kyB, vlB, prB, hasT, hasF, hasK, hasV, hasL]; intro _; constructor <;> (rintro h; simp_all)
  · rw [show ((2 : Nat) : Int) = 2 from rfl, right_2]; simp [txnB, farB, kyB, vlB, prB, hasT, hasF, hasK, hasV, hasL]; intro _; constructor <;> (rintro h; simp_all)
  · rw [show ((3 : Nat) : Int) = 3 from rfl, right_3]; simp [txnB, farB, kyB, vlB, prB, hasT, hasF, hasK, hasV, hasL]; intro _; constructor <;> (rintro h; simp_all)
  · rw [show ((4 : Nat) : Int) = 4 from rfl, right_4]; simp [txnB, farB, kyB, vlB, prB, hasT, hasF, hasK, hasV, hasL]; intro _; constructor <;> (rintro h; simp_all)
  · rw [show ((5 : Nat) : Int) = 5 from rfl, right_5]; simp [txnB, farB, kyB, vlB, prB, hasT, hasF, hasK, hasV, hasL]; intro _; constructor <;> (rintro h; simp_all)
  · rw [show ((6 : Nat) : Int) = 6 from rfl, right_6]; simp [txnB, farB, kyB, vlB, prB, hasT, hasF, hasK, hasV, hasL]; intro _; constructor <;> (rintro h; simp_all)
  · rw [show ((7 : Nat) : Int) = 7 from rfl, right_7]; simp [txnB, farB, kyB, vlB, prB, hasT, hasF, hasK, hasV, hasL]; intro _; constructor <;> (rintro h; simp_all)
end Go.Proofs.YthnpkhejfcclcaaDoor
