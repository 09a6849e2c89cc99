/-
  The document's log: where it lies in memory; the contract of Open.
-/
import Derived.Test.YthjlbfijfpfohaaV06b
namespace Go.Proofs.Ythjlbfijfpfohaa
open Go.RowKit Go.ChangeMaps
def tuT : Option ByteArray → ByteArray | none => ⟨#[]⟩ | some s => s
abbrev logD (p hf ag pg : Nat) (v : Value) (wr su : Nat) (tu : ByteArray) : Array Value := #[.pointer (some ⟨p, 0, none⟩), .int .i64 (hf : Int), .int .i64 (ag : Int), .int .i64 (pg : Int), v, .int .i64 (wr : Int), .int .i64 (su : Int), .string tu]
abbrev logT : TypeId := 74
structure IsVv (w : World) (o : Nat → Nat) (j g p : Nat) (L : LogP) (v : Value) : Prop where
  at' : At w g (logD p L.h L.A L.n v L.wr L.su (tuT L.tu)) logT
  own : o g = j
  recs : RowS w o j v L.R
def IsV (w : World) (o : Nat → Nat) (j g p : Nat) (L : LogP) : Prop := ∃ v, IsVv w o j g p L v
section
variable {w w' : World} {o o' : Nat → Nat} {i j g q p m : Nat} {S : List ByteArray} {Ws : Wrs} {L : LogP}
theorem IsV.other (h : IsV w o j g p L) (s : Stp o i w o' w') (hne : j ≠ i) : IsV w' o' j g p L := by
  obtain ⟨v, h⟩ := h
  exact ⟨v, at_other h.at' s (by rw [h.own]; exact hne), own_other h.at' h.own s, Row.other h.recs s hne⟩
theorem IsV.reads (h : IsV w o j g p L) (b : Below w.heap.size w w') : IsV w' o j g p L := by
  obtain ⟨v, h⟩ := h
  exact ⟨v, h.at'.reads b, h.own, Row.reads h.recs b⟩
/-- what Open holds: half, pages, records -/
structure OpV (w wx : World) (g p hf ag pg : Nat) (v : Value) (R : List ByteArray) : Prop where
  at' : At wx g (logD p hf ag pg v 0 0 ⟨#[]⟩) logT
  new : NewS w wx v R
  bel : Below w.heap.size w wx
  ge : w.heap.size ≤ g
theorem OpV.reads {wx wy : World} {hf ag pg : Nat} {v : Value} {R : List ByteArray} (h : OpV w wx g p hf ag pg v R) (b : Below wx.heap.size wx wy) : OpV w wy g p hf ag pg v R :=
  ⟨h.at'.reads b, h.new.reads b, h.bel.trans (b.mono h.bel.size), h.ge⟩
theorem OpV.set {wx : World} {hf ag pg hf' ag' pg' : Nat} {v : Value} {R : List ByteArray} (h : OpV w wx g p hf ag pg v R) (k : Nat) (u : Value) (e : (logD p hf ag pg v 0 0 ⟨#[]⟩).setIfInBounds k u = logD p hf' ag' pg' v 0 0 ⟨#[]⟩) : OpV w (wx.setCell ⟨g, k, none⟩ u) g p hf' ag' pg' v R :=
  ⟨by have := h.at'.set k u; rw [e] at this; exact this, h.new.grown (grow6_set wx g k u) (row_ne h.new.row h.at' (by decide)), h.bel.setCell (p := ⟨g, k, none⟩) h.ge u, h.ge⟩
/-- another row of records -/
theorem OpV.setRow {wx : World} {hf ag pg : Nat} {v v' : Value} {R R' : List ByteArray} (h : OpV w wx g p hf ag pg v R) (n : NewS w wx v' R') : OpV w (wx.setCell ⟨g, 4, none⟩ v') g p hf ag pg v' R' :=
  ⟨h.at'.set 4 v', n.grown (grow6_set wx g 4 v') (row_ne n.row h.at' (by decide)), h.bel.setCell (p := ⟨g, 4, none⟩) h.ge v', h.ge⟩
theorem max3 (a b c : Nat) : max (max (a : Int) (b : Int)) (c : Int) = ((max a (max b c) : Nat) : Int) := by omega
set_option maxRecDepth 100000 in
set_option maxHeartbeats 8000000 in
theorem vopen_ok (H : IsR w o q p S Ws) (hn : 4 ≤ S.length) (ht : maxTag (rawsOf S Ws) < 1099511627776) (hW : Ws.length ≤ 1000000) (j : Nat) :
    Calls Try.prog 9 #[.pointer (some ⟨p, 0, none⟩)] w fun e w' => ∃ g, e = .returned (.tuple #[.pointer (some ⟨g, 0, none⟩), .int .i64 0]) ∧ IsV w' (gives o w.heap.size j) j g p (openedL (rawsOf S Ws)) ∧ Below w.heap.size w w' := by
  have hn2 : S.length ≤ 1024 := by obtain ⟨vl, vw, H'⟩ := H; exact H'.n2
  have hn' : ¬ (S.length : Int) < 4 := by omega
  obtain ⟨m, hm⟩ : ∃ m, S.length / 2 = m := ⟨_, rfl⟩
  have HD := Lib.hid H
  obtain ⟨Rw, hRw⟩ : ∃ R, rawsOf S Ws = R := ⟨_, rfl⟩
  have hRl : Rw.length = S.length := by rw [← hRw]; exact rawsOf_length _ _
  have hRd : ∀ k, k < S.length → ∃ s r, S[k]? = some s ∧ rawAt Ws k s = r ∧ Rw[k]? = some r ∧ r.size = 256 := fun k hk => by
    refine ⟨S[k], _, List.getElem?_eq_getElem hk, rfl, ?_, ?_⟩
    · rw [← hRw, rawsOf_get, List.getElem?_eq_getElem hk]; rfl
    · obtain ⟨vl, vw, H'⟩ := H
      exact rawAt_size Ws k _ (fun x hx => (H'.ws x hx).2) (H'.sz _ (List.getElem_mem hk))
  have hCH := fun W (h : IsR W o q p S Ws) (k : Nat) (hk : k < 2) => hRw ▸ rscan h k m hk hm hW
  have hag : Aged (halfL Rw 0) ∧ Aged (halfL Rw 1) := ⟨halfL_aged _ _, halfL_aged _ _⟩
  rw [hRw] at ht ⊢
  obtain ⟨T, hT⟩ : ∃ T, maxTag Rw = T := ⟨_, rfl⟩
  have hTf : Rw.foldl mxT 0 = T := by rw [← hT]; rfl
  rw [hT] at ht
  obtain ⟨bb, hbb⟩ : ∃ b, decide (0 < (outH (halfL Rw 1)).length ∧ ((outH (halfL Rw 0)).length = 0 ∨ ageH (halfL Rw 0) < ageH (halfL Rw 1))) = b := ⟨_, rfl⟩
  have HO := openS_cases Rw bb hbb
  have CH0 := fun W h => hCH W h 0 (by omega)
  have CH1 := fun W h => hCH W h 1 (by omega)
  have pos0 : 0 < (outH (halfL Rw 0)).length → 0 < ageH (halfL Rw 0) := fun h => by
    obtain ⟨x, t, _, _, e, hx⟩ := pos_head hag.1 (out_pos (fun e => by rw [e] at h; exact absurd h (by simp)))
    rw [e]; exact hx
  have pos1 : 0 < (outH (halfL Rw 1)).length → 0 < ageH (halfL Rw 1) := fun h => by
    obtain ⟨x, t, _, _, e, hx⟩ := pos_head hag.2 (out_pos (fun e => by rw [e] at h; exact absurd h (by simp)))
    rw [e]; exact hx
  obtain ⟨a0, ha0⟩ : ∃ a, ageH (halfL Rw 0) = a := ⟨_, rfl⟩
  obtain ⟨a1, ha1⟩ : ∃ a, ageH (halfL Rw 1) = a := ⟨_, rfl⟩
  obtain ⟨p0, hp0⟩ : ∃ a, pgsH (halfL Rw 0) = a := ⟨_, rfl⟩
  obtain ⟨p1, hp1⟩ : ∃ a, pgsH (halfL Rw 1) = a := ⟨_, rfl⟩
  obtain ⟨R0, hR0⟩ : ∃ a, (outH (halfL Rw 0)).map bt = a := ⟨_, rfl⟩
  obtain ⟨R1, hR1⟩ : ∃ a, (outH (halfL Rw 1)).map bt = a := ⟨_, rfl⟩
  have l0 : (outH (halfL Rw 0)).length = R0.length := by rw [← hR0, List.length_map]
  have l1 : (outH (halfL Rw 1)).length = R1.length := by rw [← hR1, List.length_map]
  rw [ha0, hp0, hR0] at CH0
  rw [ha1, hp1, hR1] at CH1
  rw [ha0, l0] at pos0
  rw [ha1, l1] at pos1
  rw [ha0, ha1, l0, l1] at hbb
  have hopn : openedL Rw = if bb = true then ⟨1, T + 1, p1, R1, R1.length, R1.length, none⟩ else ⟨0, T + 1, p0, R0, R0.length, R0.length, none⟩ := by
    unfold openedL
    rw [HO, hT]
    cases bb
    · simp only [Bool.false_eq_true, if_false]; rw [hp0, hR0, l0]
    · simp only [if_true]; rw [hp1, hR1, l1]
  obtain ⟨LL, hLL⟩ : ∃ L, openedL Rw = L := ⟨_, rfl⟩
  rw [hLL]
  rw [hLL] at hopn
  obtain ⟨bst, hbst⟩ : ∃ b : Nat, (if R0 = [] then 0 else a0) = b := ⟨_, rfl⟩
  have hbb2 : (0 < R1.length ∧ bst < a1) ↔ bb = true := by
    rw [← hbb, decide_eq_true_iff, ← hbst]
    by_cases hz : R0 = []
    · rw [if_pos hz, hz]
      simp only [List.length_nil, true_or, and_true]
      exact ⟨fun h => h.1, fun h => ⟨h, pos1 h⟩⟩
    · rw [if_neg hz]
      have : R0.length ≠ 0 := fun e => hz (List.eq_nil_of_length_eq_zero e)
      simp [this]
  obtain ⟨hf, RF, pF, hF⟩ : ∃ (hf : Nat) (RF : List ByteArray) (pF : Nat), (bb = true ∧ hf = 1 ∧ RF = R1 ∧ pF = p1) ∨ (bb = false ∧ hf = 0 ∧ RF = R0 ∧ pF = p0) := by
    cases bb
    · exact ⟨0, R0, p0, .inr ⟨rfl, rfl, rfl, rfl⟩⟩
    · exact ⟨1, R1, p1, .inl ⟨rfl, rfl, rfl, rfl⟩⟩
  have hLF : LL = ⟨hf, T + 1, pF, RF, RF.length, RF.length, none⟩ := by
    rw [hopn]
    rcases hF with ⟨h1, h2, h3, h4⟩ | ⟨h1, h2, h3, h4⟩
    · rw [if_pos h1, h2, h3, h4]
    · rw [if_neg (by rw [h1]; decide), h2, h3, h4]
  subst hLF
  have HC0 := Lib.hid CH0; have HC1 := Lib.hid CH1; have HP0 := Lib.hid pos0; have HB2 := Lib.hid hbb2; have HBS := Lib.hid hbst; have HF := Lib.hid hF; have HRd := Lib.hid hRd; have HTF := Lib.hid hTf; have HTt := Lib.hid ht; have HRl := Lib.hid hRl
  obtain ⟨vl, vw, D⟩ := H
  obtain ⟨da, dC, db, dD, rfl, rfl⟩ := D.slots
  have c0 := D.c0
  clear hCH HO CH0 CH1 ha0 ha1 hp0 hp1 hR0 hR1 l0 l1 pos0 pos1 hbb hopn hbb2 hbst hF hT hRw hag hRd hTf ht hRl D hLL
  go_enter Try.func9, Try.ntmps9
  go_upto_region 5 with fail
  have b1 : Below w.heap.size w (w.alloc (.cells #[] 9)) := (Below.refl _ w).alloc (Nat.le_refl _) _
  have hz1 : (w.alloc (.cells #[] 9)).heap.size = w.heap.size + 1 := by simp
  have A2 := At.new (w.alloc (.cells #[] 9)) (logD p 0 0 0 (.slice (some ⟨w.heap.size, 0, none⟩) 0 0) 0 0 ⟨#[]⟩) logT
  rw [hz1] at A2
  have bN : Below (w.alloc (.cells #[] 9)).heap.size (w.alloc (.cells #[] 9)) ((w.alloc (.cells #[] 9)).alloc (.cells (logD p 0 0 0 (.slice (some ⟨w.heap.size, 0, none⟩) 0 0) 0 0 ⟨#[]⟩) logT)) := (Below.refl _ _).alloc (Nat.le_refl _) _
  have N1 : NewS w (w.alloc (.cells #[] 9)) (.slice (some ⟨w.heap.size, 0, none⟩) 0 0) [] := ⟨World.ownsRow_made w #[] 0 (Nat.zero_le _) (by decide) (by simp), fun g hg => by cases hg; exact Nat.le_refl _⟩
  have X2 : OpV w ((w.alloc (.cells #[] 9)).alloc (.cells (logD p 0 0 0 (.slice (some ⟨w.heap.size, 0, none⟩) 0 0) 0 0 ⟨#[]⟩) logT)) (w.heap.size + 1) p 0 0 0 (.slice (some ⟨w.heap.size, 0, none⟩) 0 0) [] := ⟨A2, N1.reads bN, b1.trans (bN.mono b1.size), Nat.le_succ _⟩
  have HX2 := Lib.hid X2
  have HC0w := Lib.hid c0; have hpl := World.block_lt_of_cell? w _ c0
  clear A2 N1 bN b1 hz1 X2 c0
  generalize (w.alloc (.cells #[] 9)).alloc (.cells (logD p 0 0 0 (.slice (some ⟨w.heap.size, 0, none⟩) 0 0) 0 0 ⟨#[]⟩) logT) = W2 at *
  obtain ⟨g, hg⟩ : ∃ g, w.heap.size + 1 = g := ⟨_, rfl⟩
  rw [hg] at HX2 ⊢
  have HD2 := Lib.hid (HD.out.reads HX2.out.bel)
  go_wp2_with fail
  refine (HC0.out _ HD2.out).mono ?_; rintro e w3 ⟨v3, rfl, N3, b3⟩
  obtain ⟨x3, C3, rfl, _⟩ := N3.slice
  have X3 := HX2.out.reads b3
  have Y3 := X3.set (hf' := 0) (ag' := 0) (pg' := p0) 3 (.int .i64 (p0 : Int)) rfl
  have f3 := X3.at'.cell 3; have z3 := X3.at'.fz 3
  have HY := Lib.hid Y3
  clear X3 Y3 N3 b3 HX2 HD2 hg
  go_wp2_with fail
  go_loopw [5, 9] (fun bv kv wr => ∃ (k bs hf' pg' : Nat) (b : Option Addr) (n D : Nat) (R : List ByteArray), k ≤ 2 ∧ bv = .int .i64 (bs : Int) ∧ kv = .int .i64 (k : Int) ∧ (k = 0 → bs = 0 ∧ hf' = 0 ∧ pg' = p0 ∧ R = []) ∧ (k = 1 → bs = bst ∧ hf' = 0 ∧ pg' = p0 ∧ R = R0) ∧ (k = 2 → hf' = hf ∧ pg' = pF ∧ R = RF) ∧ OpV w wr g p hf' 0 pg' (.slice b n D) R) (fun _ k _ => 2 - (intOf k).toNat)
  case atStart => exact ⟨0, 0, 0, p0, _, _, _, [], by omega, rfl, rfl, fun _ => ⟨rfl, rfl, rfl, rfl⟩, fun h => by omega, fun h => by omega, HY.out⟩
  case round =>
    obtain ⟨k, bs, hf', pg', b, n, D, R, hk, rfl, rfl, hk0, hk1, hk2, hX⟩ := hrel
    have HDr := Lib.hid (HD.out.reads hX.bel)
    clear HY f3 z3
    by_cases k0 : k = 0
    · have hkI : (k : Int) < 2 := by omega
      obtain ⟨hb0, rfl, rfl, rfl⟩ := hk0 k0
      have HKK := Lib.hid k0; have HB0 := Lib.hid hb0
      have CK := HC0.out
      rw [show ((0 : Nat) : Int) = (k : Int) by omega] at CK
      have CK := Lib.hid CK
      clear hk0 hk1 hk2 k0 hb0
      go_wp2_with fail
      refine (CK.out _ HDr.out).mono ?_; rintro e w3 ⟨v3, rfl, N3, b3⟩
      obtain ⟨x3, C3, rfl, _⟩ := N3.slice
      have X3 := hX.reads b3
      have N3' : NewS w w3 (.slice x3 R0.length C3) R0 := N3.since hX.bel.size
      by_cases hz : R0 = []
      · have hr0 : ¬ (0 : Int) < (R0.length : Int) := by rw [hz]; decide
        have hbz : bst = 0 := by rw [← HBS.out, if_pos hz]
        have HX3 := Lib.hid X3
        have HZ := Lib.hid hz
        clear X3 N3 N3' hX b3 HDr hz
        have HBZ := Lib.hid hbz
        clear hbz
        go_wp2_with fail
        exact ⟨⟨k + 1, bs, 0, pg', _, _, _, [], by omega, rfl, by go_num, fun h => by omega, fun _ => ⟨by rw [HB0.out, HBZ.out], rfl, rfl, HZ.out.symm⟩, fun h => by have := HKK.out; omega, HX3.out⟩, by simp [intOf]; omega⟩
      · have hlp : 0 < R0.length := List.length_pos_iff.2 hz
        have hr0 : (0 : Int) < (R0.length : Int) := by omega
        have ha0' := HP0.out hlp
        have hac : (bs : Int) < (a0 : Int) := by have := HB0.out; omega
        have HBZ := Lib.hid (show bst = a0 by rw [← HBS.out, if_neg hz])
        clear hz hlp ha0'
        have Y1 := X3.set (hf' := 0) (ag' := 0) (pg' := pg') 1 (.int .i64 (k : Int)) (by rw [HKK.out]; rfl)
        have n1 := N3'.grown (grow6_set w3 g 1 (.int .i64 (k : Int))) (row_ne N3'.row X3.at' (by decide))
        have Y2 := Y1.setRow n1
        have Y3 := Y2.set (hf' := 0) (ag' := 0) (pg' := pg') 3 (.int .i64 (pg' : Int)) rfl
        have f1 := X3.at'.cell 1; have z1 := X3.at'.fz 1
        have f4 := Y1.at'.cell 4; have z4 := Y1.at'.fz 4
        have f3 := Y2.at'.cell 3; have z3 := Y2.at'.fz 3
        have HY := Lib.hid Y3
        clear X3 N3 N3' Y1 Y2 Y3 n1 hX b3 HDr
        go_wp2_with fail
        exact ⟨⟨k + 1, a0, 0, pg', _, _, _, R0, by omega, rfl, by go_num, fun h => by omega, fun _ => ⟨HBZ.out.symm, rfl, rfl, rfl⟩, fun h => by have := HKK.out; omega, HY.out⟩, by simp [intOf]; omega⟩
    · by_cases k1 : k = 1
      · have hkI : (k : Int) < 2 := by omega
        obtain ⟨hb1, rfl, rfl, rfl⟩ := hk1 k1
        have HKK := Lib.hid k1; have HB1 := Lib.hid hb1
        have CK := HC1.out
        rw [show ((1 : Nat) : Int) = (k : Int) by omega] at CK
        have CK := Lib.hid CK
        clear hk0 hk1 hk2 k0 k1 hb1
        go_wp2_with fail
        refine (CK.out _ HDr.out).mono ?_; rintro e w3 ⟨v3, rfl, N3, b3⟩
        obtain ⟨x3, C3, rfl, _⟩ := N3.slice
        have X3 := hX.reads b3
        have N3' : NewS w w3 (.slice x3 R1.length C3) R1 := N3.since hX.bel.size
        by_cases hc : 0 < R1.length ∧ bs < a1
        · have hr0 : (0 : Int) < (R1.length : Int) := by omega
          have hac : (bs : Int) < (a1 : Int) := by omega
          have hbt : bb = true := HB2.out.1 (by rw [← HB1.out]; exact hc)
          have hfin := Lib.hid (show 1 = hf ∧ p1 = pF ∧ R1 = RF by
            rcases HF.out with ⟨h1, h2, h3, h4⟩ | ⟨h1, _⟩
            · exact ⟨h2.symm, h4.symm, h3.symm⟩
            · rw [hbt] at h1; cases h1)
          clear hc hbt
          have Y1 := X3.set (hf' := 1) (ag' := 0) (pg' := pg') 1 (.int .i64 (k : Int)) (by rw [HKK.out]; rfl)
          have n1 := N3'.grown (grow6_set w3 g 1 (.int .i64 (k : Int))) (row_ne N3'.row X3.at' (by decide))
          have Y2 := Y1.setRow n1
          have Y3 := Y2.set (hf' := 1) (ag' := 0) (pg' := p1) 3 (.int .i64 (p1 : Int)) rfl
          have f1 := X3.at'.cell 1; have z1 := X3.at'.fz 1
          have f4 := Y1.at'.cell 4; have z4 := Y1.at'.fz 4
          have f3 := Y2.at'.cell 3; have z3 := Y2.at'.fz 3
          have HY := Lib.hid Y3
          clear X3 N3 N3' Y1 Y2 Y3 n1 hX b3 HDr
          go_wp2_with fail
          exact ⟨⟨k + 1, a1, 1, p1, _, _, _, R1, by omega, rfl, by go_num, fun h => by omega, fun h => by have := HKK.out; omega, fun _ => hfin.out, HY.out⟩, by simp [intOf]; omega⟩
        · have hbt : bb = false := by
            cases hb : bb with
            | false => rfl
            | true => exact absurd (by rw [HB1.out]; exact HB2.out.2 hb) hc
          have hfin := Lib.hid (show 0 = hf ∧ pg' = pF ∧ R = RF by
            rcases HF.out with ⟨h1, _⟩ | ⟨h1, h2, h3, h4⟩
            · rw [hbt] at h1; cases h1
            · exact ⟨h2.symm, h4.symm, h3.symm⟩)
          have HX3 := Lib.hid X3
          clear hbt
          clear X3 N3 N3' hX b3 HDr
          by_cases hr : 0 < R1.length
          · have hr0 : (0 : Int) < (R1.length : Int) := by omega
            have hac : ¬ (bs : Int) < (a1 : Int) := by omega
            clear hc
            go_wp2_with fail
            exact ⟨⟨k + 1, bs, 0, pg', _, _, _, R, by omega, rfl, by go_num, fun h => by omega, fun h => by have := HKK.out; omega, fun _ => hfin.out, HX3.out⟩, by simp [intOf]; omega⟩
          · have hr0 : ¬ (0 : Int) < (R1.length : Int) := by omega
            clear hc
            go_wp2_with fail
            exact ⟨⟨k + 1, bs, 0, pg', _, _, _, R, by omega, rfl, by go_num, fun h => by omega, fun h => by have := HKK.out; omega, fun _ => hfin.out, HX3.out⟩, by simp [intOf]; omega⟩
      · have hkI : ¬ (k : Int) < 2 := by omega
        obtain ⟨rfl, rfl, rfl⟩ := hk2 (by omega)
        clear hk0 hk1 hk2 k0 k1
        have HX := Lib.hid hX
        clear hX HC0 HC1 HP0 HB2 HBS HF
        go_wp2_with fail
        go_loopw [13] (fun iv wx => ∃ t : Nat, t ≤ S.length ∧ iv = .int .i64 (t : Int) ∧ OpV w wx g p hf' ((Rw.take t).foldl mxT 0) pg' (.slice b n D) R) (fun i _ => S.length - (intOf i).toNat)
        case atStart => exact ⟨0, by omega, rfl, HX.out⟩
        case round =>
          obtain ⟨t, ht, rfl, hX⟩ := hrel
          have HXt := Lib.hid hX
          have c0 := (hX.bel.cell (p := ⟨p, 0, none⟩) hpl).trans HC0w.out
          clear HX hX
          by_cases hlt : t < S.length
          · have hlt' : (t : Int) < (S.length : Int) := by omega
            obtain ⟨s, r, h1, h2, h3, h4⟩ := HRd.out t hlt
            have C1 := rraw_in (HD.out.reads HXt.out.bel) t s h1 hW
            rw [h2] at C1
            have C1 := Lib.hid C1
            have hft := Lib.hid (show (Rw.take (t + 1)).foldl mxT 0 = max ((Rw.take t).foldl mxT 0) (max (numL r 0 6) (numL r 244 6)) from fold_take Rw t r h3)
            have CA := fun W => rat r 0 6 0 6 W rfl rfl (by omega) (by omega) (by omega) (by omega)
            have CB := fun W => rat r 244 6 244 6 W rfl rfl (by omega) (by omega) (by omega) (by omega)
            have hlA := numL_lt r 0 6; have hlB := numL_lt r 244 6
            have hl0 := fold_lt (Rw.take t) 0 (by omega)
            generalize numL r 0 6 = x at *
            generalize numL r 244 6 = y at *
            have Y := HXt.out.set (hf' := hf') (ag' := (Rw.take (t + 1)).foldl mxT 0) (pg' := pg') 2 (.int .i64 (((Rw.take (t + 1)).foldl mxT 0 : Nat) : Int)) rfl
            have HEM := Lib.hid (show ∀ z : Nat, (if (if z < x then (x : Int) else (z : Int)) < (y : Int) then (y : Int) else if z < x then (x : Int) else (z : Int)) = ((max z (max x y) : Nat) : Int) from fun z => by (repeat' split) <;> omega)
            have f2 := HXt.out.at'.cell 2; have z2 := HXt.out.at'.fz 2
            have HY2 := Lib.hid Y
            have CA := Lib.hid CA; have CB := Lib.hid CB
            rw [hft.out] at HY2
            generalize (Rw.take t).foldl mxT 0 = z at *
            clear Y h1 h2 h3 h4 HXt
            go_wp2_with fail
            refine C1.out.mono ?_; rintro e w5 ⟨rfl, rfl⟩
            go_wp2_with fail
            go_region_law
              (first
                | (go_simp; go_at_call 35; ((with_reducible refine (CA.out _).mono ?_); rintro e v1 ⟨rfl, rfl⟩))
                | (go_simp; go_at_call 35; ((with_reducible refine (CB.out _).mono ?_); rintro e v1 ⟨rfl, rfl⟩)))
            all_goals
              rw [HEM.out]
              go_wp2_with fail
              exact ⟨⟨t + 1, by omega, by go_num, by rw [hft.out]; exact HY2.out.reads (below_drew _ 1)⟩, by simp [intOf]; omega⟩
          · obtain rfl : t = S.length := by omega
            have X := HXt.out
            rw [← HRl.out, List.take_length, HTF.out] at X
            obtain ⟨b', C', ev, hsR⟩ := X.new.slice
            obtain ⟨rfl, rfl, rfl⟩ : b = b' ∧ n = R.length ∧ D = C' := by simpa using ev
            obtain ⟨A1, hA1⟩ : ∃ A : Nat, T + 1 = A := ⟨_, rfl⟩
            have e1 : (T : Int) + 1 = (A1 : Int) := by omega
            have HW2 := Lib.hid (show wrap64 (A1 : Int) = (A1 : Int) from IntWalk.wrap64_in _ (by have := HTt.out; omega))
            have HT' := Lib.hid (show decide ((1099511627776 : Int) ≤ (T : Int)) = false from decide_eq_false (by have := HTt.out; omega))
            have f2 := X.at'.cell 2; have z2 := X.at'.fz 2
            have A2 := X.at'.set 2 (.int .i64 (A1 : Int))
            have f4 := A2.cell 4; have f5 := A2.cell 5; have z5 := A2.fz 5
            have A5 := A2.set 5 (.int .i64 (R.length : Int))
            have g4 := A5.cell 4; have f6 := A5.cell 6; have z6 := A5.fz 6
            have A6 := A5.set 6 (.int .i64 (R.length : Int))
            have G := grow6_trans (grow6_trans (grow6_set wr g 2 (.int .i64 (A1 : Int))) (grow6_set _ g 5 (.int .i64 (R.length : Int)))) (grow6_set _ g 6 (.int .i64 (R.length : Int)))
            have N6 := X.new.grown G (row_ne X.new.row X.at' (by decide))
            have B6 := ((X.bel.setCell (p := ⟨g, 2, none⟩) X.ge (.int .i64 (A1 : Int))).setCell (p := ⟨g, 5, none⟩) X.ge (.int .i64 (R.length : Int))).setCell (p := ⟨g, 6, none⟩) X.ge (.int .i64 (R.length : Int))
            have HA6 := Lib.hid A6; have HN6 := Lib.hid N6; have HB6 := Lib.hid B6; have HGE := Lib.hid X.ge
            have HA1 := Lib.hid hA1; have HE1 := Lib.hid e1
            clear X A2 A5 A6 G N6 B6 hsR ev HXt hA1 e1
            go_upto_if 95 with fail
            have hT' := HT'.out
            rw [hT']
            clear hT' HT' HTt
            have e1 := HE1.out
            have hw2 := HW2.out
            go_wp2_with fail
            go_ret2
            refine ⟨g, rfl, ⟨_, ?_, gives_new HGE.out, HN6.out.own o j⟩, HB6.out⟩
            rw [HA1.out]
            exact HA6.out
end
end Go.Proofs.Ythjlbfijfpfohaa
