/-
  Package rec: the contract of the reader's pairs.
-/
import Derived.Test.YthnpkhejfcclcaaDoorD05i
namespace Go.Proofs.YthnpkhejfcclcaaDoor
open Go.RowKit

/-- the reader's pairs, in its loop -/
structure InP (w0 w : World) (R : Nat) (s : ByteArray) (p : Nat) (v : Value) (pr : Prs) : Prop where
  rd : Rd w R s p
  row : w.ownsRow w0.heap.size 47 2 v pr.length (pcells pr)
  gr : w0.grownBy w (some R)
  lt : R < w0.heap.size
section
variable {w0 w w' : World} {R : Nat} {s : ByteArray} {p q : Nat} {v : Value} {pr : Prs}
theorem InP.step (h : InP w0 w R s p v pr) (g : w.grownBy w' (some R)) (hr : Rd w' R s q) : InP w0 w' R s q v pr :=
  ⟨hr, h.row.kept g (by
    cases hv : v.ownBlock with
    | none => exact .inl rfl
    | some b => refine .inr (fun e => ?_); cases e; have := (h.row.lt _ hv).1; have := h.lt; omega), h.gr.trans g, h.lt⟩
theorem InP.append (h : InP w0 w R s p v pr) (a b : ByteArray) (hl : pr.length ≤ 100000) :
    ∃ g C w', (Builtin.append_ #[22, 22] 22 #[v, .slice (some ⟨w.heap.size, 0, none⟩) 1 1]).run Tryd.prog (w.alloc (.cells #[.string a, .string b] 47)) = .ok (.slice (some ⟨g, 0, none⟩) (pr.length + 1) C) w' ∧
      InP w0 w' R s p (.slice (some ⟨g, 0, none⟩) (pr.length + 1) C) (pr ++ [(a, b)]) := by
  obtain ⟨i0, hi, hz0, hz1, hz2⟩ := info_parts info_pair
  have ba := (Below.refl w.heap.size w).alloc (Nat.le_refl _) (.cells #[.string a, .string b] 47)
  have h1 := h.step (grown_ofBelow ba _) (h.rd.below ba)
  obtain ⟨v', w', hr, h2, h3, _, h5⟩ := run_append_own_at (P := Tryd.prog) (w.alloc (.cells #[.string a, .string b] 47)) w0.heap.size 22 22 47 i0 _ 2 32 Tryd.underlying22 hi hz0 hz1 hz2 rfl (by decide) v pr.length (pcells pr) h1.row ⟨w.heap.size, 0, none⟩ 1 1 [.string a, .string b] rfl (cell_two5 w _ _ _) (by intro u hu; simp at hu; rcases hu with rfl | rfl <;> rfl) (by unfold maxLen; omega) (by omega) h1.gr.size
  obtain ⟨g, C, rfl⟩ : ∃ g C, v' = .slice (some ⟨g, 0, none⟩) (pr.length + 1) C := by
    rcases h2.2 with ⟨_, h⟩ | ⟨g, C, cur, h, _⟩
    · omega
    · exact ⟨g, C, h⟩
  have e1 : pcells pr ++ [.string a, .string b] = pcells (pr ++ [(a, b)]) := by rw [pcells_append]; rfl
  rw [e1] at h2
  have nv : ∀ x, v.ownBlock = some x → w0.heap.size ≤ x := fun x hx => (h.row.lt x hx).1
  refine ⟨g, C, w', hr, ⟨(h3.block R h1.rd.lt (fun e => by have := nv R e.symm; have := h.lt; omega)).trans h1.rd, ?_, ?_, h.lt⟩⟩
  · have : (pr ++ [(a, b)]).length = pr.length + 1 := by simp
    rw [this]; exact h2
  · exact h1.gr.andThen h3 (fun j hj => .inl (nv j hj))
end
/-- what the reader's pairs answer -/
def PairsOut (w : World) (R : Nat) (s : ByteArray) (res : Option (Prs × List UInt8)) (e : Ending) (w' : World) : Prop := w.grownBy w' (some R) ∧
  match res with
  | none => e = .panicked odd5
  | some (pr, x) => ∃ a C p, e = .returned (.slice a pr.length C) ∧ PairsAt w' a pr ∧ Rd w' R s p ∧ x = s.data.toList.drop p ∧ p ≤ s.size ∧ ∀ y, a = some y → w.heap.size ≤ y.block
def joinP (A : Prs) (o : Option (Prs × List UInt8)) : Option (Prs × List UInt8) := o.map fun y => (A ++ y.1, y.2)
theorem pairsR_none1 {n : Nat} {l : List UInt8} (h : textL l = none) : pairsR (n + 1) l = none := by simp [pairsR, h]
theorem pairsR_none2 {n : Nat} {l l1 : List UInt8} {k : ByteArray} (h : textL l = some (k, l1)) (h1 : textL l1 = none) : pairsR (n + 1) l = none := by simp [pairsR, h, h1]
theorem pairsR_more {n : Nat} {l l1 l2 : List UInt8} {k v : ByteArray} (A : Prs) (h : textL l = some (k, l1)) (h1 : textL l1 = some (v, l2)) : joinP A (pairsR (n + 1) l) = joinP (A ++ [(k, v)]) (pairsR n l2) := by
  simp only [pairsR, h, h1, joinP]
  cases pairsR n l2 with
  | none => rfl
  | some y => simp
set_option maxRecDepth 100000 in
set_option maxHeartbeats 2000000 in
theorem pairs_any (w : World) (R : Nat) (s : ByteArray) (p m : Nat) (x : List UInt8) (hR : Rd w R s p) (hs : s.size ≤ 1000000) (hp : p ≤ s.size) (h : numL 2 (s.data.toList.drop p) = some (m, x)) :
    Calls Tryd.prog 52 #[.pointer (some ⟨R, 0, none⟩)] w (PairsOut w R s (pairsR m x)) := by
  have C1 := number_ok w R s p 2 m x hR hs (by decide) (by decide) hp h
  have hm := (numL_got h).2.1
  rw [show (256 : Nat) ^ 2 = 65536 from rfl] at hm
  have hlt := hR.lt
  have H1 := Lib.hid C1
  obtain ⟨res, Hres⟩ : ∃ res, Hid (pairsR m x = res) := ⟨_, rfl⟩
  rw [Hres.out]
  clear C1 h hR
  go_enter Tryd.func52, Tryd.ntmps52
  go_wp2_with fail
  refine H1.out.mono ?_; rintro e w1 ⟨rfl, r1, x1, q1, g1⟩
  have I0 := Lib.hid (show InP w w1 R s (p + 2) (.slice none 0 0) [] from ⟨r1, World.ownsRow_nil _ _ _ _, g1, hlt⟩)
  have HX := Lib.hid x1
  clear x1 r1 g1 H1
  go_wp2_with fail
  go_loopw [3, 8] (fun v i wr => ∃ (k q : Nat) (A : Prs), k ≤ m ∧ i = .int .i64 (k : Int) ∧ InP w wr R s q v A ∧ q ≤ s.size ∧ A.length = k ∧ res = joinP A (pairsR (m - k) (s.data.toList.drop q))) (fun _ i _ => m - (intOf i).toNat)
  case atStart =>
    refine ⟨0, p + 2, [], by omega, rfl, I0.out, q1, rfl, ?_⟩
    rw [← Hres.out, HX.out, Nat.sub_zero]
    unfold joinP
    cases pairsR m (s.data.toList.drop (p + 2)) <;> rfl
  case round =>
    obtain ⟨k, q, A, hk, rfl, hI, hq, hA, hres⟩ := hrel
    clear I0 HX Hres
    have HI := Lib.hid hI; have HRS := Lib.hid hres; have HA := Lib.hid hA
    clear hI hres hA
    by_cases hc : k < m
    · have c1 : (k : Int) < (m : Int) := by omega
      obtain ⟨n, hn⟩ : ∃ n, m - k = n + 1 := ⟨m - k - 1, by omega⟩
      cases ht : textL (s.data.toList.drop q) with
      | none =>
        have CT := Lib.hid (text_no _ R s q HI.out.rd hs hq ht)
        have HE := Lib.hid (show res = none by rw [HRS.out, hn, pairsR_none1 ht]; rfl)
        have HG := Lib.hid HI.out.gr
        clear ht HRS HI
        go_wp2_with fail
        refine CT.out.mono ?_; rintro e w2 ⟨rfl, g2⟩
        go_wp2
        rw [HE.out]
        exact ⟨rfl, HG.out.trans g2, rfl⟩
      | some y =>
        obtain ⟨kk, l1⟩ := y
        have CT := Lib.hid (text_yes _ R s kk q l1 HI.out.rd hs hq ht)
        go_wp2_with fail
        refine CT.out.mono ?_; rintro e w2 ⟨rfl, r2, x2, q2, g2⟩
        have I2 := Lib.hid (HI.out.step g2 r2)
        clear r2 g2 CT HI
        cases hu : textL l1 with
        | none =>
          have CT := Lib.hid (text_no _ R s _ I2.out.rd hs q2 (by rw [← x2]; exact hu))
          have HE := Lib.hid (show res = none by rw [HRS.out, hn, pairsR_none2 ht hu]; rfl)
          have HG := Lib.hid I2.out.gr
          clear ht hu HRS I2 x2
          go_wp2_with fail
          refine CT.out.mono ?_; rintro e w3 ⟨rfl, g3⟩
          go_wp2
          rw [HE.out]
          exact ⟨rfl, HG.out.trans g3, rfl⟩
        | some y =>
          obtain ⟨vv, l2⟩ := y
          have CT := Lib.hid (text_yes _ R s vv _ l2 I2.out.rd hs q2 (by rw [← x2]; exact hu))
          have HM := Lib.hid (pairsR_more (n := n) A ht hu)
          clear ht hu x2
          go_wp2_with fail
          refine CT.out.mono ?_; rintro e w3 ⟨rfl, r3, x3, q3, g3⟩
          have I3 := Lib.hid (I2.out.step g3 r3)
          have hAl := HA.out
          obtain ⟨g, C, w4, hap, I4⟩ := I3.out.append kk vv (by omega)
          have HAP := Lib.hid hap; have HI4 := Lib.hid I4
          have HX3 := Lib.hid x3
          clear r3 g3 CT I2 I3 hap I4 x3 hAl
          go_wp2_with (at_builtin; refine wpList_append_run5 rfl (.tmp 14) (.tmp 18) _ _ rfl _ _ rfl rfl _ _ HAP.out ?_)
          refine ⟨⟨k + 1, _, A ++ [(kk, vv)], by omega, by go_num, HI4.out, q3, by simp [HA.out], ?_⟩, by simp [intOf]; omega⟩
          rw [HRS.out, hn, HM.out, HX3.out, show m - (k + 1) = n by omega]
    · obtain rfl : k = m := by omega
      have HE := Lib.hid (show res = some (A, s.data.toList.drop q) by rw [HRS.out, Nat.sub_self]; simp [pairsR, joinP])
      obtain ⟨va, vC, rfl, hPA, hFr⟩ := row_pairs HI.out.row
      have HPA := Lib.hid hPA; have HFr := Lib.hid hFr
      clear hPA hFr HRS
      go_wp2
      go_ret
      rw [HE.out]
      exact ⟨HI.out.gr, va, vC, q, rfl, HPA.out, HI.out.rd, rfl, hq, HFr.out⟩
theorem pairs_no (w : World) (R : Nat) (s : ByteArray) (p : Nat) (hR : Rd w R s p) (hs : s.size ≤ 1000000) (hp : p ≤ s.size) (h : numL 2 (s.data.toList.drop p) = none) :
    Calls Tryd.prog 52 #[.pointer (some ⟨R, 0, none⟩)] w fun e w' => e = .panicked odd5 ∧ w.grownBy w' (some R) := by
  have H1 := Lib.hid (number_no w R s p 2 hR hs hp h)
  clear h hR
  go_enter Tryd.func52, Tryd.ntmps52
  go_wp2_with fail
  refine H1.out.mono ?_; rintro e w1 ⟨rfl, g1⟩
  go_wp2
  exact ⟨rfl, rfl, g1⟩
end Go.Proofs.YthnpkhejfcclcaaDoor
