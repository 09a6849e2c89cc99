/-
  The document's log: the contract of Scan.
-/
import Derived.Test.YthjlbfijfpfohaaV06a
namespace Go.Proofs.Ythjlbfijfpfohaa
open Go.RowKit Go.ChangeMaps
theorem fresh_owner6 (o : Nat → Nat) (n j q : Nat) : ∃ r, r ≠ j ∧ r ≠ q ∧ ∀ k, k < n → o k ≠ r := by
  have : ∃ M, ∀ k, k < n → o k ≤ M := by
    induction n with
    | zero => exact ⟨0, fun k h => absurd h (by omega)⟩
    | succ n ih =>
      obtain ⟨M, hM⟩ := ih
      refine ⟨M + o n, fun k hk => ?_⟩
      by_cases h : k = n
      · rw [h]; omega
      · have := hM k (by omega); omega
  obtain ⟨M, hM⟩ := this
  exact ⟨M + j + q + 1, by omega, by omega, fun k hk => by have := hM k hk; omega⟩
section
variable {w w' : World} {o o' : Nat → Nat} {i j g q p r : Nat} {S : List ByteArray} {Ws : Wrs}
theorem stp_below6 (s : Stp o r w o' w') (hr : ∀ k, k < w.heap.size → o k ≠ r) : Below w.heap.size w w' := ⟨s.1, s.2, s.3, s.size, fun k hk => s.blk k hk (hr k hk)⟩
/-- a fresh owner's row is new memory -/
theorem news_of {v : Value} {R : List ByteArray} (h : RowS w' o' r v R) (s : Stp o r w o' w') (hr : ∀ k, k < w.heap.size → o k ≠ r) : NewS w w' v R :=
  ⟨h.row, fun g hg => by
    rcases Nat.lt_or_ge g w.heap.size with h1 | h1
    · have := h.own g hg
      rw [s.own g h1] at this
      exact absurd this (hr g h1)
    · exact h1⟩
theorem rrecords2 (w : World) (s0 : ByteArray) (hz0 : s0.size ≤ 300000) :
    Calls Try.prog 63 #[.string s0] w fun e w' => ∃ v, e = .returned (.tuple #[v, .string (bt (partR (bl s0)).2)]) ∧ NewS w w' v (partS (bl s0)) ∧ Below w.heap.size w w' := by
  refine (rrecords w (fun _ => 0) 1 s0 hz0).mono ?_
  rintro e w' ⟨v, rfl, o', h, s⟩
  exact ⟨v, rfl, news_of h s (fun _ _ => by decide), stp_below6 s (fun _ _ => by decide)⟩
/-- so far: k pages, the last one's age a, bytes that are no whole record yet, the records C -/
def ScanD (L : Lfs) (k a : Nat) (l : List UInt8) (C : List ByteArray) : Prop := k ≤ L.length ∧ runS scS0 (L.take k) = ⟨a, l, C.map bl, k⟩
theorem ScanD.zero (L : Lfs) : ScanD L 0 0 [] [] := ⟨Nat.zero_le _, rfl⟩
theorem ScanD.go {L : Lfs} {k a : Nat} {l : List UInt8} {C : List ByteArray} (H : ScanD L k a l C) {x : Option LeafP} (h : L[k]? = some x) : runS scS0 (L.take (k + 1)) = runS ⟨a, l, C.map bl, k⟩ [x] := by
  have hk := (List.getElem?_eq_some_iff.1 h).1
  rw [take_snoc h, runS_append _ _ _ (by rw [H.2]; simp; omega), H.2]
theorem ScanD.step {L : Lfs} {k a : Nat} {l : List UInt8} {C : List ByteArray} (H : ScanD L k a l C) {y : LeafP} (h : L[k]? = some (some y)) (hok : ¬ (y.age < a ∨ (a < y.age ∧ y.beg = false))) :
    ScanD L (k + 1) y.age (partR ((if a < y.age then [] else l) ++ y.s)).2 (C ++ partS ((if a < y.age then [] else l) ++ y.s)) := by
  have hk := (List.getElem?_eq_some_iff.1 h).1
  refine ⟨hk, ?_⟩
  rw [H.go h, runS_go _ (stepS_yes _ y hok), List.map_append, partS_bl]
  rfl
theorem ScanD.stop {L : Lfs} {k a : Nat} {l : List UInt8} {C : List ByteArray} (H : ScanD L k a l C) {x : Option LeafP} (h : L[k]? = some x) (hx : ∀ y, x = some y → y.age < a ∨ (a < y.age ∧ y.beg = false)) : (outH L).map bt = C ∧ pgsH L = k := by
  have hk := (List.getElem?_eq_some_iff.1 h).1
  have e : L = L.take k ++ (x :: L.drop (k + 1)) := by
    rw [List.getElem?_eq_getElem hk] at h
    simp only [Option.some.injEq] at h
    rw [← h, ← List.drop_eq_getElem_cons hk, List.take_append_drop]
  have : runS scS0 L = ⟨a, l, C.map bl, k⟩ := by
    rw [show runS scS0 L = runS scS0 (L.take k ++ (x :: L.drop (k + 1))) by rw [← e], runS_append _ _ _ (by rw [H.2]; simp; omega), H.2]
    refine runS_stopped _ _ _ ?_
    cases x with
    | none => rfl
    | some y => exact stepS_no _ y (hx y rfl)
  unfold outH pgsH
  rw [this]
  exact ⟨map_bl_bt C, rfl⟩
theorem ScanD.all {L : Lfs} {a : Nat} {l : List UInt8} {C : List ByteArray} (H : ScanD L L.length a l C) : (outH L).map bt = C ∧ pgsH L = L.length := by
  have := H.2; rw [List.take_length] at this
  unfold outH pgsH
  rw [this]
  exact ⟨map_bl_bt C, rfl⟩
theorem bt_append (a b : List UInt8) : bt a ++ bt b = bt (a ++ b) := by
  apply ba_ext
  rw [ByteArray.toList_data_append]
set_option maxRecDepth 100000 in
set_option maxHeartbeats 4000000 in
theorem rscan (H : IsR w o q p S Ws) (h m : Nat) (hh : h < 2) (hm : S.length / 2 = m) (hW : Ws.length ≤ 1000000) :
    Calls Try.prog 34 #[.pointer (some ⟨p, 0, none⟩), .int .i64 (h : Int)] w fun e w' => ∃ v, e = .returned (.tuple #[.int .i64 (ageH (halfL (rawsOf S Ws) h) : Int), v, .int .i64 (pgsH (halfL (rawsOf S Ws) h) : Int)]) ∧ NewS w w' v ((outH (halfL (rawsOf S Ws) h)).map bt) ∧ Below w.heap.size w w' := by
  have hn2 : S.length ≤ 1024 := by obtain ⟨vl, vw, H'⟩ := H; exact H'.n2
  have hm5 : m ≤ 512 := by omega
  obtain ⟨r, hrq, _, hro⟩ := fresh_owner6 o w.heap.size q q
  obtain ⟨L, hL⟩ : ∃ L, halfL (rawsOf S Ws) h = L := ⟨_, rfl⟩
  have hLl : L.length = m := by rw [← hL, halfL_length, rawsOf_length, hm]
  have hRd : ∀ k, k < m → ∃ s, S[h * m + k]? = some s ∧ L[k]? = some (pgLeaf (rawAt Ws (h * m + k) s) k) := fun k hk => by
    have hin := half_in S.length h k hh (by rw [hm]; exact hk)
    rw [hm] at hin
    refine ⟨_, List.getElem?_eq_getElem hin, ?_⟩
    rw [← hL]
    have := halfL_raw (S := S) (Ws := Ws) (h := h) (k := k) (s := S[h * m + k]) (by rw [hm]; exact hk) (by rw [hm]; exact List.getElem?_eq_getElem hin)
    rw [hm] at this; exact this
  have hag : Aged L := by rw [← hL]; exact halfL_aged _ _
  obtain ⟨ag, hA⟩ : ∃ a, ageH L = a := ⟨_, rfl⟩
  obtain ⟨pg, hP⟩ : ∃ a, pgsH L = a := ⟨_, rfl⟩
  obtain ⟨RR, hRR⟩ : ∃ a, (outH L).map bt = a := ⟨_, rfl⟩
  rw [hL, hA, hP, hRR]
  have HRd := Lib.hid hRd; have HAg := Lib.hid hag; have HA := Lib.hid hA; have HP := Lib.hid hP; have HRR := Lib.hid hRR
  have HD := Lib.hid H; have HRO := Lib.hid hro; have HLl := Lib.hid hLl; have HM := Lib.hid hm
  have s0' := stp_new o r w (.cells #[] 9)
  have R0 := Lib.hid (show RowS (w.alloc (.cells #[] 9)) (gives o w.heap.size r) r (.slice (some ⟨w.heap.size, 0, none⟩) 0 0) [] from Row.made w o r 9 1)
  have S0 := Lib.hid s0'
  have hmI : Int.tdiv (S.length : Int) 2 = (m : Int) := by rw [Int.tdiv_eq_ediv_of_nonneg (by omega)]; omega
  clear hRd hag hA hP hRR H hL hro hLl hm s0'
  go_enter Try.func34, Try.ntmps34
  go_wp2_with fail
  go_loopw [7, 8, 9, 10, 11] (fun ov lv av gv iv wr => ∃ (k a g : Nat) (l : List UInt8) (C : List ByteArray) (b : Option Addr) (n D : Nat) (o1 : Nat → Nat), iv = .int .i64 (k : Int) ∧ av = .int .i64 (a : Int) ∧ gv = .int .i64 (g : Int) ∧ lv = .string (bt l) ∧ ov = .slice b n D ∧ n = C.length ∧ RowS wr o1 r (.slice b n D) C ∧ Stp o r w o1 wr ∧ ScanD L k a l C ∧ 3 * C.length + l.length ≤ 234 * k ∧ (k = 0 → a = 0 ∧ g = 0) ∧ (1 ≤ k → g = ag)) (fun _ _ _ _ i _ => m - (intOf i).toNat)
  case atStart => exact ⟨0, 0, 0, [], [], _, _, _, _, rfl, rfl, rfl, rfl, rfl, rfl, R0.out, S0.out, ScanD.zero L, by simp, fun _ => ⟨rfl, rfl⟩, fun h => by omega⟩
  case round =>
    obtain ⟨k, a, g, l, C, b, n, D, o1, rfl, rfl, rfl, rfl, rfl, hn, hR, hS, hSc, hz, hk0, hk1⟩ := hrel
    have HN := Lib.hid hn; have HR := Lib.hid hR; have HS := Lib.hid hS; have HSc := Lib.hid hSc; have HK0 := Lib.hid hk0; have HK1 := Lib.hid hk1
    have hkm : k ≤ m := by have := hSc.1; rw [HLl.out] at this; exact this
    have hDw := HD.out.other hS hrq.symm
    have HDw := Lib.hid hDw
    obtain ⟨vl, vw, D'⟩ := hDw
    obtain ⟨da, dC, db, dD, rfl, rfl⟩ := D'.slots
    have c0 := D'.c0
    clear hn hR hS hSc hk0 hk1 R0 S0 D'
    by_cases hlt : k < m
    · have hlt' : (k : Int) < (m : Int) := by omega
      obtain ⟨s, hs1, hs2⟩ := HRd.out k hlt
      have C1 := Lib.hid (rreadLeaf HDw.out h k m HM.out hh hlt s hs1 hW)
      have hXf : ∀ y, pgLeaf (rawAt Ws (h * m + k) s) k = some y → y.s.length ≤ 234 ∧ y.age < 281474976710656 := fun y e => by
        have ht := pgLeaf_tags e
        refine ⟨ht.2.2.2, ?_⟩
        rw [← ht.1]; unfold tgA tagA
        exact Nat.lt_of_lt_of_le (leNat_lt _) (Nat.le_trans (Nat.pow_le_pow_right (by omega) (show _ ≤ 6 by rw [List.length_take]; omega)) (by decide))
      have HXf := Lib.hid hXf
      clear hXf
      generalize pgLeaf (rawAt Ws (h * m + k) s) k = X at *
      have HX := Lib.hid hs2
      clear hs2 hs1
      cases X with
      | none =>
        simp only [leafV, Option.isSome] at C1
        obtain ⟨t1, t2⟩ := HSc.out.stop HX.out (fun y e => by cases e)
        rw [HRR.out] at t1
        rw [HP.out] at t2
        have hge : g = ag := by
          rcases Nat.eq_zero_or_pos k with h0 | h0
          · obtain ⟨_, e2⟩ := HK0.out h0
            subst h0
            rw [e2, ← HA.out]; exact (age_none (fun y e => by rw [HX.out] at e; cases e)).symm
          · exact HK1.out h0
        subst hge t1 t2
        go_wp2_with fail
        refine C1.out.mono ?_; rintro e w1 ⟨rfl, b1⟩
        have b2 := b1.trans (((Below.refl w1.heap.size w1).alloc (Nat.le_refl _) (.cells #[.int .i64 0, .int .i64 0, .bool false, .string ⟨#[]⟩] 105)).mono b1.size)
        have HR2 := Lib.hid (Row.reads HR.out b2)
        have HS2 := Lib.hid (HS.out.trans (Stp.ofBelow b2 o1 r))
        clear b1 b2 C1 HR HS
        go_wp2_with fail
        go_ret3
        exact ⟨_, rfl, news_of HR2.out HS2.out HRO.out, stp_below6 HS2.out HRO.out⟩
      | some y =>
        simp only [leafV, Option.isSome] at C1
        have hya : 1 ≤ y.age := HAg.out y (List.mem_of_getElem? HX.out)
        have hys : y.s.length ≤ 234 := (HXf.out y rfl).1
        have hyt : y.age < 281474976710656 := (HXf.out y rfl).2
        obtain ⟨ya, yb, ys⟩ := y
        simp only at C1 hya hys hyt
        go_wp2_with fail
        refine C1.out.mono ?_; rintro e w1 ⟨rfl, b1⟩
        have bA := (Below.refl w1.heap.size w1).alloc (Nat.le_refl _) (.cells #[.int .i64 (ya : Int), .int .i64 (k : Int), .bool yb, .string (bt ys)] 105)
        have b2 := b1.trans (bA.mono b1.size)
        have HR2 := Lib.hid (Row.reads HR.out b2)
        have HS2 := Lib.hid (HS.out.trans (Stp.ofBelow b2 o1 r))
        have AL := Lib.hid (At.new w1 #[.int .i64 (ya : Int), .int .i64 (k : Int), .bool yb, .string (bt ys)] 105)
        go_upto_region 6 with fail
        clear b1 b2 bA C1 HR HS c0
        generalize w1.alloc (.cells #[.int .i64 (ya : Int), .int .i64 (k : Int), .bool yb, .string (bt ys)] 105) = W2 at *
        generalize w1.heap.size = Lb at *
        have k0 : W2.cell? ⟨Lb, 0, none⟩ = some (.int .i64 (ya : Int)) := AL.out.cell 0
        have k2 : W2.cell? ⟨Lb, 2, none⟩ = some (.bool yb) := AL.out.cell 2
        have k3 : W2.cell? ⟨Lb, 3, none⟩ = some (.string (bt ys)) := AL.out.cell 3
        by_cases c1 : ya < a
        · have c1' : (ya : Int) < (a : Int) := by omega
          have h0 : 1 ≤ k := by
            rcases Nat.eq_zero_or_pos k with h0 | h0
            · have := (HK0.out h0).1; omega
            · exact h0
          obtain ⟨t1, t2⟩ := HSc.out.stop HX.out (fun y e => by cases e; exact .inl c1)
          rw [HRR.out] at t1
          rw [HP.out] at t2
          have hge : g = ag := HK1.out h0
          subst hge t1 t2
          go_wp2_with fail
          go_ret3
          exact ⟨_, rfl, news_of HR2.out HS2.out HRO.out, stp_below6 HS2.out HRO.out⟩
        · have c1' : ¬ (ya : Int) < (a : Int) := by omega
          by_cases c2 : a < ya ∧ yb = false
          · obtain ⟨c2, rfl⟩ := c2
            have c2' : (a : Int) < (ya : Int) := by omega
            obtain ⟨t1, t2⟩ := HSc.out.stop HX.out (fun y e => by cases e; exact .inr ⟨c2, rfl⟩)
            rw [HRR.out] at t1
            rw [HP.out] at t2
            have hge : g = ag := by
              rcases Nat.eq_zero_or_pos k with h0 | h0
              · obtain ⟨_, e2⟩ := HK0.out h0
                subst h0
                rw [e2, ← HA.out]; exact (age_none (fun y e => by rw [HX.out] at e; cases e; rfl)).symm
              · exact HK1.out h0
            subst hge t1 t2
            go_wp2_with fail
            go_ret3
            exact ⟨_, rfl, news_of HR2.out HS2.out HRO.out, stp_below6 HS2.out HRO.out⟩
          · have hst := HSc.out.step HX.out (by
              rintro (h | ⟨h1, h2⟩)
              · exact c1 h
              · exact c2 ⟨h1, h2⟩)
            simp only at hst
            have HG0 := Lib.hid (show k = 0 → ya = ag from fun h0 => by
              rw [← HA.out]
              cases hb : yb with
              | true => exact (age_first (by rw [← h0]; exact HX.out) hb).symm
              | false => have := (HK0.out h0).1; exact absurd ⟨by omega, hb⟩ c2)
            by_cases c3 : a < ya
            · have c3' : (a : Int) < (ya : Int) := by omega
              obtain rfl : yb = true := by
                cases yb with
                | true => rfl
                | false => exact absurd ⟨c3, rfl⟩ c2
              rw [if_pos c3] at hst
              obtain ⟨X0, hX0⟩ : ∃ X, [] ++ ys = X := ⟨_, rfl⟩
              rw [hX0] at hst
              have HX0l := Lib.hid (show X0.length ≤ l.length + ys.length by rw [← hX0]; simp)
              have hcat : (⟨#[]⟩ : ByteArray) ++ bt ys = bt X0 := by rw [← hX0]; exact bt_append [] ys
              clear hX0 c1 c2 c3
              have HSt := Lib.hid hst
              have hXl : X0.length ≤ l.length + ys.length := HX0l.out
              have CR := rrecords2 W2 (bt X0) (by rw [bt_size]; omega)
              rw [bl_bt] at CR
              have hpl := partS_length X0.length X0 (Nat.le_refl _)
              obtain ⟨P3, hP3⟩ : ∃ P, partS X0 = P := ⟨_, rfl⟩
              obtain ⟨l3, hl3⟩ : ∃ x, (partR X0).2 = x := ⟨_, rfl⟩
              rw [hP3, hl3] at CR hpl
              rw [hP3, hl3] at hst
              have HSt := Lib.hid hst
              have HCR := Lib.hid CR
              clear CR hst hP3 hl3 HX0l
              by_cases h0 : k = 0
              case' pos => have k00 : ((k : Int) == 0) = true := by simp [h0]
              case' neg => have k00 : ((k : Int) == 0) = false := by simp [h0]
              all_goals
                go_wp2_with fail
                refine HCR.out.mono ?_; rintro e w3 ⟨v3, rfl, N3, b3⟩
                have hR3 : RowS w3 o1 r (.slice b n D) C := Row.reads HR2.out b3
                obtain ⟨i0, hi, hz0, hz1, hz2⟩ := info_parts info_str
                obtain ⟨v', w', hap, hR', hS', _, _⟩ := Row.appendRow (P := Try.prog) (t := 49) (ty := 49) hR3 (N3.own o1 r) Try.underlying49 hi hz0 hz1 hz2 rfl (by decide) (strs_one P3) (by simp [maxLen]; omega) (by omega)
                have hR4 : RowS w' (gives o1 w3.heap.size r) r v' (C ++ P3) := by
                  show Row _ _ _ _ _ _ (C ++ P3).length ((C ++ P3).map Value.string)
                  rw [List.length_append, List.map_append]; exact hR'
                obtain ⟨a4, C4, e4, _⟩ := RowS.slice hR4
                subst e4
                obtain ⟨a3, C3, e3, _⟩ := N3.slice
                subst e3
                have HAP := Lib.hid hap; have HR4 := Lib.hid hR4; have HS4 := Lib.hid ((HS2.out.trans (Stp.ofBelow b3 o1 r)).trans hS')
                have hlen4 : 3 * (C ++ P3).length + l3.length ≤ 234 * (k + 1) := by rw [List.length_append]; omega
                have HL4 := Lib.hid hlen4
                obtain ⟨n4, hn4⟩ : ∃ n4, (C ++ P3).length = n4 := ⟨_, rfl⟩
                rw [hn4] at HAP
                have HN4 := Lib.hid hn4.symm
                have HR5 := Lib.hid (show RowS w' (gives o1 w3.heap.size r) r (.slice a4 n4 C4) (C ++ P3) by rw [← hn4]; exact HR4.out)
                clear hap hR' hS' hR3 hR4 N3 b3 HCR k0 k2 k3 hlen4 hi hz0 hz1 hz2 HR4 hn4
                go_wp2_with (at_builtin; refine wpList_append_run rfl (.tmp 74) (.tmp 75) _ _ rfl _ _ rfl rfl _ _ HAP.out ?_)
              all_goals
                first
                | exact ⟨⟨k + 1, ya, ya, l3, C ++ P3, _, _, _, _, by go_num, rfl, rfl, rfl, rfl, HN4.out, HR5.out, HS4.out, HSt.out, HL4.out, fun h => by omega, fun _ => HG0.out h0⟩, by simp [intOf]; omega⟩
                | exact ⟨⟨k + 1, ya, g, l3, C ++ P3, _, _, _, _, by go_num, rfl, rfl, rfl, rfl, HN4.out, HR5.out, HS4.out, HSt.out, HL4.out, fun h => by omega, fun _ => HK1.out (by omega)⟩, by simp [intOf]; omega⟩
            · obtain rfl : ya = a := by omega
              have c3' : ¬ (ya : Int) < (ya : Int) := by omega
              rw [if_neg c3] at hst
              obtain ⟨X0, hX0⟩ : ∃ X, l ++ ys = X := ⟨_, rfl⟩
              rw [hX0] at hst
              have HX0l := Lib.hid (show X0.length ≤ l.length + ys.length by rw [← hX0]; simp)
              have hcat : bt l ++ bt ys = bt X0 := by rw [← hX0]; exact bt_append l ys
              clear hX0 c1 c2 c3
              have HSt := Lib.hid hst
              have hXl : X0.length ≤ l.length + ys.length := HX0l.out
              have CR := rrecords2 W2 (bt X0) (by rw [bt_size]; omega)
              rw [bl_bt] at CR
              have hpl := partS_length X0.length X0 (Nat.le_refl _)
              obtain ⟨P3, hP3⟩ : ∃ P, partS X0 = P := ⟨_, rfl⟩
              obtain ⟨l3, hl3⟩ : ∃ x, (partR X0).2 = x := ⟨_, rfl⟩
              rw [hP3, hl3] at CR hpl
              rw [hP3, hl3] at hst
              have HSt := Lib.hid hst
              have HCR := Lib.hid CR
              clear CR hst hP3 hl3 HX0l
              by_cases h0 : k = 0
              case' pos => have k00 : ((k : Int) == 0) = true := by simp [h0]
              case' neg => have k00 : ((k : Int) == 0) = false := by simp [h0]
              all_goals
                go_wp2_with fail
                refine HCR.out.mono ?_; rintro e w3 ⟨v3, rfl, N3, b3⟩
                have hR3 : RowS w3 o1 r (.slice b n D) C := Row.reads HR2.out b3
                obtain ⟨i0, hi, hz0, hz1, hz2⟩ := info_parts info_str
                obtain ⟨v', w', hap, hR', hS', _, _⟩ := Row.appendRow (P := Try.prog) (t := 49) (ty := 49) hR3 (N3.own o1 r) Try.underlying49 hi hz0 hz1 hz2 rfl (by decide) (strs_one P3) (by simp [maxLen]; omega) (by omega)
                have hR4 : RowS w' (gives o1 w3.heap.size r) r v' (C ++ P3) := by
                  show Row _ _ _ _ _ _ (C ++ P3).length ((C ++ P3).map Value.string)
                  rw [List.length_append, List.map_append]; exact hR'
                obtain ⟨a4, C4, e4, _⟩ := RowS.slice hR4
                subst e4
                obtain ⟨a3, C3, e3, _⟩ := N3.slice
                subst e3
                have HAP := Lib.hid hap; have HR4 := Lib.hid hR4; have HS4 := Lib.hid ((HS2.out.trans (Stp.ofBelow b3 o1 r)).trans hS')
                have hlen4 : 3 * (C ++ P3).length + l3.length ≤ 234 * (k + 1) := by rw [List.length_append]; omega
                have HL4 := Lib.hid hlen4
                obtain ⟨n4, hn4⟩ : ∃ n4, (C ++ P3).length = n4 := ⟨_, rfl⟩
                rw [hn4] at HAP
                have HN4 := Lib.hid hn4.symm
                have HR5 := Lib.hid (show RowS w' (gives o1 w3.heap.size r) r (.slice a4 n4 C4) (C ++ P3) by rw [← hn4]; exact HR4.out)
                clear hap hR' hS' hR3 hR4 N3 b3 HCR k0 k2 k3 hlen4 hi hz0 hz1 hz2 HR4 hn4
                go_wp2_with (at_builtin; refine wpList_append_run rfl (.tmp 74) (.tmp 75) _ _ rfl _ _ rfl rfl _ _ HAP.out ?_)
              all_goals
                first
                | exact ⟨⟨k + 1, ya, ya, l3, C ++ P3, _, _, _, _, by go_num, rfl, rfl, rfl, rfl, HN4.out, HR5.out, HS4.out, HSt.out, HL4.out, fun h => by omega, fun _ => HG0.out h0⟩, by simp [intOf]; omega⟩
                | exact ⟨⟨k + 1, ya, g, l3, C ++ P3, _, _, _, _, by go_num, rfl, rfl, rfl, rfl, HN4.out, HR5.out, HS4.out, HSt.out, HL4.out, fun h => by omega, fun _ => HK1.out (by omega)⟩, by simp [intOf]; omega⟩
    · obtain rfl : k = m := by omega
      have hlt' : ¬ (k : Int) < (k : Int) := by omega
      have hge : g = ag := by
        rcases Nat.eq_zero_or_pos k with h0 | h0
        · have hnil : L = [] := List.eq_nil_of_length_eq_zero (by rw [HLl.out]; exact h0)
          rw [(HK0.out h0).2, ← HA.out, hnil]; rfl
        · exact HK1.out h0
      have hall := HSc.out
      rw [← HLl.out] at hall
      obtain ⟨t1, t2⟩ := hall.all
      rw [HRR.out] at t1
      rw [HP.out, HLl.out] at t2
      clear hall
      subst hge t1 t2
      go_wp2_with fail
      go_quiet (fail)
      have HR2 := Lib.hid (Row.reads HR.out (below_drew wr nq))
      have HS2 := Lib.hid (HS.out.trans (Stp.ofBelow (below_drew wr nq) o1 r))
      go_wp2_with fail
      go_ret3
      exact ⟨_, rfl, news_of HR2.out HS2.out HRO.out, stp_below6 HS2.out HRO.out⟩
end
end Go.Proofs.Ythjlbfijfpfohaa
