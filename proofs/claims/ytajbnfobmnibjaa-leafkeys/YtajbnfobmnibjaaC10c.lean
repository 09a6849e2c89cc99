/-
  The document's answer for layer 10 (budwoodref10): Right.
-/
import Derived.Test.YtajbnfobmnibjaaC10b
namespace Go.Proofs.Ytajbnfobmnibjaa
open Go.RowKit

set_option maxRecDepth 100000 in
set_option maxHeartbeats 8000000 in
theorem dright10 (a : Option Addr) (C : Nat) (l : LfP) (w : World) (hP : PairsAt w a l.pairs) (hS : SmallP l.pairs) (hh : l.high.size ≤ 1000000) (hw : wgt l.pairs ≤ 1000000) :
    Calls Try.prog 14 #[lfV a C l] w fun e w' => e = .returned (.bool (rightL l)) ∧ Below w.heap.size w w' := by
  have hl := wgt_len l.pairs
  have X := Lib.hid (At.new w #[.slice a l.pairs.length C, .string l.high, .int .i64 l.next] 29)
  have hb := (Below.refl w.heap.size w).alloc (Nat.le_refl _) (.cells #[.slice a l.pairs.length C, .string l.high, .int .i64 l.next] 29)
  have HP := Lib.hid (hP.below hb)
  have HB := Lib.hid hb; have HS := Lib.hid hS
  have CW := Lib.hid (fun W (b : Below w.heap.size w W) => dweight10 a C l.pairs W (hP.below b) hw)
  have XH := empty10 l.high
  have HH := Lib.hid hh
  have HL := Lib.hid (show l.pairs.length ≤ 1000000 by omega)
  obtain ⟨res, hres⟩ : ∃ r, Hid (rightL l = r) := ⟨_, rfl⟩
  rw [hres.out]
  clear hb hP hw hl hh hS
  unfold lfV
  go_enter Try.func14, Try.ntmps14
  go_upto_region 1 with fail
  generalize w.alloc (.cells #[.slice a l.pairs.length C, .string l.high, .int .i64 l.next] 29) = W1 at *
  go_wp2_with fail
  go_loopw [3] (fun i wr => ∃ k : Nat, k ≤ l.pairs.length ∧ i = .int .i64 (k : Int) ∧ risesB (l.pairs.take k) = true ∧ (l.high = noB ∨ ∀ p ∈ l.pairs.take k, lessB p.1 l.high = true) ∧ ∃ m, wr = W1.drewN m) (fun i _ => l.pairs.length - (intOf i).toNat)
  case atStart => exact ⟨0, by omega, rfl, rfl, .inr (fun p hp => by simp at hp), 0, rfl⟩
  case round =>
    obtain ⟨k, hk, rfl, hr, hlo, m, rfl⟩ := hrel
    have HR := Lib.hid hr; have HLO := Lib.hid hlo
    clear hr hlo
    have X2 := X.out.drewN m
    have c0 := X2.cell 0
    have c1' := X2.cell 1
    have c2' := X2.cell 2
    simp only [List.getElem?_toArray, List.getElem?_cons_zero, List.getElem?_cons_succ] at c0 c1' c2'
    obtain ⟨w1, HW⟩ : ∃ w1, Hid (W1.drewN m = w1) := ⟨_, rfl⟩
    have HX2 := Lib.hid X2
    rw [HW.out] at c0 c1' c2' ⊢
    clear X2
    by_cases hc : k < l.pairs.length
    · have c1 : (k : Int) < (l.pairs.length : Int) := by omega
      have cz : (0 : Int) ≤ (k : Int) := by omega
      have k9 : (l.pairs.length : Int) ≤ 1000000 := by have := HL.out; omega
      have HJ := Lib.hid hc
      obtain ⟨⟨pk, pv⟩, hp⟩ : ∃ p, l.pairs[k]? = some p := ⟨_, List.getElem?_eq_getElem hc⟩
      obtain ⟨s1, s2⟩ := HS.out _ (List.mem_of_getElem? hp)
      obtain ⟨g, off, rfl, d0, d1⟩ := HP.out k _ hp
      dsimp only at s1 s2 d0 d1
      replace d0 : w1.cell? ⟨g, off + k * 2, none⟩ = some (.string pk) := by rw [← HW.out]; exact d0
      replace d1 : w1.cell? ⟨g, off + k * 2 + 1, none⟩ = some (.string pv) := by rw [← HW.out]; exact d1
      have CK := fun W => rkey_any pk W s1
      have CV := fun W => rvalue_any pv W s2
      have HX : Hid (keyB pk = false ∨ valB pv = false → res = false) := by
        intro h
        rw [← hres.out]
        apply right_norise
        rw [rises_bad l.pairs (k + 1) ?_]
        cases k with
        | zero => rw [rises_zero l.pairs _ hp]; rcases h with h | h <;> simp [h]
        | succ k =>
          obtain ⟨q, hq⟩ : ∃ q, l.pairs[k]? = some q := ⟨_, List.getElem?_eq_getElem (by omega)⟩
          rw [rises_next l.pairs k q _ hq hp]; rcases h with h | h <;> simp [h]
      cases hkb : keyB pk with
      | false =>
        rw [hkb] at CK
        have HF := Lib.hid (HX.out (.inl hkb))
        clear HX hkb CV
        have HK := Lib.hid CK; clear CK
        go_wp2_with fail
        go_quiet ((go_at_call 34; exact Calls.quiet_of_same ((HK.out _).mono fun e w' h => quiet_flip h)))
        go_wp2
        go_ret
        rw [HF.out, ← HW.out, drewN_drewN]
        exact ⟨rfl, HB.out.trans ((below_drewN W1 _).mono HB.out.size)⟩
      | true =>
        rw [hkb] at CK
        cases hvb : valB pv with
        | false =>
          rw [hvb] at CV
          have HF := Lib.hid (HX.out (.inr hvb))
          clear HX hkb hvb
          have HK := Lib.hid CK; have HV := Lib.hid CV; clear CK CV
          go_wp2_with fail
          go_quiet (first | (go_at_call 34; exact Calls.quiet_of_same ((HK.out _).mono fun e w' h => quiet_flip h)) | (go_at_call 35; exact Calls.quiet_of_same ((HV.out _).mono fun e w' h => quiet_flip h)))
          go_wp2
          go_ret
          rw [HF.out, ← HW.out, drewN_drewN]
          exact ⟨rfl, HB.out.trans ((below_drewN W1 _).mono HB.out.size)⟩
        | true =>
          rw [hvb] at CV
          clear HX
          have HK := Lib.hid CK; have HV := Lib.hid CV; clear CK CV
          have CH := fun W => less_any pk l.high W s1 HH.out
          have HMem := Lib.hid (List.mem_of_getElem? hp)
          cases k with
          | zero =>
            have HT := Lib.hid (show risesB (l.pairs.take 1) = true by rw [rises_zero l.pairs _ hp, hkb, hvb]; rfl)
            have HTK := Lib.hid (show l.pairs.take 1 = [(pk, pv)] by rw [List.take_add_one, hp]; rfl)
            have HSub := Lib.hid (show ∀ p ∈ l.pairs.take 1, lessB pk l.high = true → lessB p.1 l.high = true from fun p hp h => by rw [HTK.out] at hp; obtain rfl := List.mem_singleton.1 hp; exact h)
            clear hkb hvb HR hp HTK
            simp only [Int.cast_ofNat_Int, Nat.zero_mul, Nat.add_zero] at *
            go_wp2_with fail
            go_quiet (first | (go_at_call 34; exact Calls.quiet_of_same ((HK.out _).mono fun e w' h => quiet_flip h)) | (go_at_call 35; exact Calls.quiet_of_same ((HV.out _).mono fun e w' h => quiet_flip h)))
            clear HK HV
            by_cases hn : l.high = noB
            · have XH1 := XH
              rw [decide_eq_true hn] at XH1
              have HNB := Lib.hid hn
              have c1r : (w1.drewN nq).cell? ⟨w.heap.size, 1, none⟩ = some (.string l.high) := c1'
              clear CH hn XH
              obtain ⟨w2, HW2⟩ : ∃ w2, Hid (w1.drewN nq = w2) := ⟨_, rfl⟩
              rw [HW2.out] at c1r ⊢
              go_wp2_with fail
              go_quiet (fail)
              go_wp2
              refine ⟨⟨1, by have := HJ.out; omega, by go_num, HT.out, .inl HNB.out, ?_⟩, by simp [intOf]; have := HJ.out; omega⟩
              rw [← HW2.out, ← HW.out, drewN_drewN, drewN_drewN]
              exact ⟨_, rfl⟩
            · have XH1 := XH
              rw [decide_eq_false hn] at XH1
              have c0r : (w1.drewN nq).cell? ⟨w.heap.size, 0, none⟩ = some (.slice (some ⟨g, off, none⟩) l.pairs.length C) := c0
              have c1r : (w1.drewN nq).cell? ⟨w.heap.size, 1, none⟩ = some (.string l.high) := c1'
              have d0r : (w1.drewN nq).cell? ⟨g, off, none⟩ = some (.string pk) := d0
              clear XH
              obtain ⟨w2, HW2⟩ : ∃ w2, Hid (w1.drewN nq = w2) := ⟨_, rfl⟩
              rw [HW2.out] at c0r c1r d0r ⊢
              cases hlh : lessB pk l.high with
              | true =>
                rw [hlh] at CH
                have HCH := Lib.hid CH
                have HAll := Lib.hid (show ∀ p ∈ l.pairs.take (1), lessB p.1 l.high = true from fun p hp => HSub.out p hp hlh)
                clear CH hlh hn
                go_wp2_with fail
                go_quiet ((go_at_call 38; exact Calls.quiet_of (HCH.out _)))
                go_wp2
                refine ⟨⟨1, by have := HJ.out; omega, by go_num, HT.out, .inr HAll.out, ?_⟩, by simp [intOf]; have := HJ.out; omega⟩
                rw [← HW2.out, ← HW.out, drewN_drewN, drewN_drewN]
                exact ⟨_, rfl⟩
              | false =>
                rw [hlh] at CH
                have HCH := Lib.hid CH
                have HF := Lib.hid (show res = false by rw [← hres.out]; exact right_nohigh HMem.out hn hlh)
                clear CH hlh hn
                go_wp2_with fail
                go_quiet ((go_at_call 38; exact Calls.quiet_of (HCH.out _)))
                go_wp2
                go_ret
                rw [HF.out, ← HW2.out, ← HW.out, drewN_drewN, drewN_drewN]
                exact ⟨rfl, HB.out.trans ((below_drewN W1 _).mono HB.out.size)⟩
          | succ k =>
            obtain ⟨⟨qk, qv⟩, hq⟩ : ∃ q, l.pairs[k]? = some q := ⟨_, List.getElem?_eq_getElem (by omega)⟩
            have HN : risesB (l.pairs.take (k + 1 + 1)) = _ := rises_next l.pairs k _ _ hq hp
            rw [HR.out, hkb, hvb] at HN
            dsimp only at HN
            obtain ⟨g', off', e', f0, _⟩ := HP.out k _ hq
            obtain ⟨rfl, rfl⟩ : g = g' ∧ off = off' := by simpa using e'
            dsimp only at f0
            replace f0 : w1.cell? ⟨g, off + k * 2, none⟩ = some (.string qk) := by rw [← HW.out]; exact f0
            obtain ⟨t1, _⟩ := HS.out _ (List.mem_of_getElem? hq)
            have CL := fun W => less_any qk pk W t1 s1
            have e1 : (((k + 1 : Nat) : Int) - 1) = (k : Int) := by omega
            have e2 : IntKind.i64.wrap (((k + 1 : Nat) : Int) - 1) = (k : Int) := by rw [IntWalk.i64_in _ (by have := HL.out; omega)]; omega
            have e3 : IntKind.i64.wrap (k : Int) = (k : Int) := IntWalk.i64_in _ (by have := HL.out; omega)
            have c2 : (k : Int) < (l.pairs.length : Int) := by omega
            have c3 : (0 : Int) ≤ (k : Int) := by omega
            have c4 : decide ((0 : Int) < ((k + 1 : Nat) : Int)) = true := by rw [decide_eq_true_iff]; omega
            have c5 : decide (0 < k + 1) = true := by rw [decide_eq_true_iff]; omega
            have c6 : ¬ ((k + 1 : Nat) : Int) = 0 := by omega
            generalize hj : k + 1 = j at *
            cases hlb : lessB qk pk with
            | false =>
              rw [hlb] at CL
              have HF := Lib.hid (show res = false by rw [← hres.out]; exact right_norise (rises_bad l.pairs (j + 1) (by rw [HN, hlb]; rfl)))
              clear hkb hvb hlb HN HR hp hq e' CH
              have HL2 := Lib.hid CL; clear CL
              go_wp2_with fail
              go_quiet (first | (go_at_call 34; exact Calls.quiet_of_same ((HK.out _).mono fun e w' h => quiet_flip h)) | (go_at_call 35; exact Calls.quiet_of_same ((HV.out _).mono fun e w' h => quiet_flip h)) | (go_at_call 38; exact Calls.quiet_of (HL2.out _)))
              go_wp2
              go_ret
              rw [HF.out, ← HW.out, drewN_drewN]
              exact ⟨rfl, HB.out.trans ((below_drewN W1 _).mono HB.out.size)⟩
            | true =>
              rw [hlb] at CL
              have HT := Lib.hid (show risesB (l.pairs.take (j + 1)) = true by rw [HN, hlb]; rfl)
              have HTK := Lib.hid (show l.pairs.take (j + 1) = l.pairs.take j ++ [(pk, pv)] by rw [List.take_add_one, hp]; rfl)
              have HSub := Lib.hid (show ∀ p ∈ l.pairs.take (j + 1), lessB pk l.high = true → (¬ l.high = noB) → lessB p.1 l.high = true from fun p hp h hne => by
                rw [HTK.out] at hp
                rcases List.mem_append.1 hp with hp | hp
                · rcases HLO.out with e | e
                  · exact absurd e hne
                  · exact e p hp
                · obtain rfl := List.mem_singleton.1 hp; exact h)
              clear hkb hvb hlb HN HR hp hq e' HTK
              have HL2 := Lib.hid CL; clear CL
              go_wp2_with fail
              go_quiet (first | (go_at_call 34; exact Calls.quiet_of_same ((HK.out _).mono fun e w' h => quiet_flip h)) | (go_at_call 35; exact Calls.quiet_of_same ((HV.out _).mono fun e w' h => quiet_flip h)) | (go_at_call 38; exact Calls.quiet_of (HL2.out _)))
              clear HK HV HL2
              by_cases hn : l.high = noB
              · have XH1 := XH
                rw [decide_eq_true hn] at XH1
                have HNB := Lib.hid hn
                have c1r : (w1.drewN nq).cell? ⟨w.heap.size, 1, none⟩ = some (.string l.high) := c1'
                clear CH hn XH
                obtain ⟨w2, HW2⟩ : ∃ w2, Hid (w1.drewN nq = w2) := ⟨_, rfl⟩
                rw [HW2.out] at c1r ⊢
                go_wp2_with fail
                go_quiet (fail)
                go_wp2
                refine ⟨⟨j + 1, by have := HJ.out; omega, by go_num, HT.out, .inl HNB.out, ?_⟩, by simp [intOf]; have := HJ.out; omega⟩
                rw [← HW2.out, ← HW.out, drewN_drewN, drewN_drewN]
                exact ⟨_, rfl⟩
              · have XH1 := XH
                rw [decide_eq_false hn] at XH1
                have c0r : (w1.drewN nq).cell? ⟨w.heap.size, 0, none⟩ = some (.slice (some ⟨g, off, none⟩) l.pairs.length C) := c0
                have c1r : (w1.drewN nq).cell? ⟨w.heap.size, 1, none⟩ = some (.string l.high) := c1'
                have d0r : (w1.drewN nq).cell? ⟨g, off + j * 2, none⟩ = some (.string pk) := d0
                clear XH
                obtain ⟨w2, HW2⟩ : ∃ w2, Hid (w1.drewN nq = w2) := ⟨_, rfl⟩
                rw [HW2.out] at c0r c1r d0r ⊢
                cases hlh : lessB pk l.high with
                | true =>
                  rw [hlh] at CH
                  have HCH := Lib.hid CH
                  have HAll := Lib.hid (show ∀ p ∈ l.pairs.take (j + 1), lessB p.1 l.high = true from fun p hp => HSub.out p hp hlh hn)
                  clear CH hlh hn
                  go_wp2_with fail
                  go_quiet ((go_at_call 38; exact Calls.quiet_of (HCH.out _)))
                  go_wp2
                  refine ⟨⟨j + 1, by have := HJ.out; omega, by go_num, HT.out, .inr HAll.out, ?_⟩, by simp [intOf]; have := HJ.out; omega⟩
                  rw [← HW2.out, ← HW.out, drewN_drewN, drewN_drewN]
                  exact ⟨_, rfl⟩
                | false =>
                  rw [hlh] at CH
                  have HCH := Lib.hid CH
                  have HF := Lib.hid (show res = false by rw [← hres.out]; exact right_nohigh HMem.out hn hlh)
                  clear CH hlh hn
                  go_wp2_with fail
                  go_quiet ((go_at_call 38; exact Calls.quiet_of (HCH.out _)))
                  go_wp2
                  go_ret
                  rw [HF.out, ← HW2.out, ← HW.out, drewN_drewN, drewN_drewN]
                  exact ⟨rfl, HB.out.trans ((below_drewN W1 _).mono HB.out.size)⟩
    · obtain rfl : k = l.pairs.length := by omega
      have HRL := HR.out
      have HLL := HLO.out
      rw [List.take_length] at HRL HLL
      have hpt := right_parts HRL HLL
      rw [hres.out] at hpt
      have HPT := Lib.hid hpt
      have CW1 := Lib.hid (CW.out w1 (by rw [← HW.out]; exact HB.out.trans ((below_drewN W1 m).mono HB.out.size)))
      have HBw := Lib.hid (show Below w.heap.size w w1 from by rw [← HW.out]; exact HB.out.trans ((below_drewN W1 m).mono HB.out.size))
      clear HRL HLL hpt HR HLO CW hc
      have lh : (l.high.size : Int) ≤ 1000000 := by have := HH.out; omega
      by_cases h1 : l.high.size ≤ 16
      · have g1 : decide ((l.high.size : Int) ≤ 16) = true := by rw [decide_eq_true_iff]; omega
        have g1' : decide (l.high.size ≤ 16) = true := decide_eq_true h1
        by_cases h2 : 0 ≤ l.next
        · have g2 : decide ((0 : Int) ≤ l.next) = true := decide_eq_true h2
          by_cases h3 : l.next ≤ 1024
          · have g3 : decide (l.next ≤ 1024) = true := decide_eq_true h3
            have HPT := Lib.hid (show res = decide (wgt l.pairs ≤ 231) by rw [HPT.out, g1', g2, g3]; rfl)
            clear h1 h2 h3 g1'
            go_wp2_with fail
            refine CW1.out.mono ?_; rintro e w3 ⟨rfl, b⟩
            have HBz := Lib.hid (HBw.out.trans (b.mono HBw.out.size))
            clear b
            go_wp2_with fail
            go_ret
            exact ⟨by rw [HPT.out]; simp; omega, HBz.out⟩
          · have g3 : decide (l.next ≤ 1024) = false := decide_eq_false h3
            have HPT := Lib.hid (show res = false by rw [HPT.out, g1', g2, g3]; rfl)
            clear h1 h2 h3 g1'
            go_wp2_with fail
            go_ret
            exact ⟨by rw [HPT.out]; rfl, HBw.out⟩
        · have g2 : decide ((0 : Int) ≤ l.next) = false := decide_eq_false h2
          have HPT := Lib.hid (show res = false by rw [HPT.out, g1', g2]; rfl)
          clear h1 h2 g1'
          go_wp2_with fail
          go_ret
          exact ⟨by rw [HPT.out]; rfl, HBw.out⟩
      · have g1 : decide ((l.high.size : Int) ≤ 16) = false := by rw [decide_eq_false_iff_not]; omega
        have g1' : decide (l.high.size ≤ 16) = false := decide_eq_false h1
        have HPT := Lib.hid (show res = false by rw [HPT.out, g1']; rfl)
        clear h1
        go_wp2_with fail
        go_ret
        exact ⟨by rw [HPT.out]; rfl, HBw.out⟩
end Go.Proofs.Ytajbnfobmnibjaa
