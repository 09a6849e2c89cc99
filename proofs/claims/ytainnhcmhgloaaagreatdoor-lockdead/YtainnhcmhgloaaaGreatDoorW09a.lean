/-
  Package lock: the contracts of an entry's own calls: modeOf, isHolder, against, canHave, isNext; isLock, joined; strings.Clone.
-/
import Derived.Test.YtainnhcmhgloaaaGreatDoorS09b
import Derived.Maps.RangeWalk
namespace Go.Proofs.YtainnhcmhgloaaaGreatDoor
open Go.RowKit Go.Shelf Go.MapKept Go.Maps Go.Sort

theorem below_append {a W w1 : World} {n base : Nat} {e : TypeId} {size : Nat} {v : Value} {k : Nat} {xs : List Value} {tmp : Obj} (hB : Below n a W) (hrow : W.ownsRow base e size v k xs) (hgrow : (W.alloc tmp).grownBy w1 v.ownBlock) (hn : n ≤ base) (hs : n ≤ W.heap.size := by omega) : Below n a w1 := by
  refine (hB.alloc hs tmp).grown hgrow (by simp; omega) (fun j ej => ?_)
  rcases hrow.2 with ⟨rfl, _⟩ | ⟨g, cap, cur, rfl, hb, _⟩
  · simp [Value.ownBlock] at ej
  · obtain rfl : g = j := by simpa [Value.ownBlock] using ej
    omega
theorem info_int : (Tryz.prog.info? 3).map (fun i => (i.zero, i.size, i.bytes)) = some (some (.int .i64 0), 1, 8) := by kernel_rfl
theorem cell_one_new (w : World) (x : Int) : ∀ (j : Nat) (u : Value), [Value.int .i64 x][j]? = some u → (w.alloc (.cells #[.int .i64 x] 3)).cell? (Addr.add ⟨w.heap.size, 0, none⟩ j) = some u := by
  intro j u h
  rw [add_zero', World.cell?_alloc_at _ _ _ _ rfl]
  match j with
  | 0 => simpa using h
  | j + 1 => simp at h
theorem nodup_len {α : Type} : ∀ (l r : List α), l.Nodup → (∀ x ∈ l, x ∈ r) → l.length ≤ r.length
  | [], _, _, _ => Nat.zero_le _
  | x :: l, r, hn, h => by
    obtain ⟨r1, r2, rfl⟩ := List.append_of_mem (h x (by simp))
    have hn' := List.nodup_cons.1 hn
    have := nodup_len l (r1 ++ r2) hn'.2 (fun y hy => by
      rcases mem_mid (h y (by simp [hy])) with e | e
      · exact absurd (e ▸ hy) hn'.1
      · exact List.mem_append.2 e)
    simp at this ⊢; omega
/-- how somebody holds a name, of its holders -/
def hsM (hs : List (Int × Nat)) (o : Int) : Nat := match hs.find? (fun p => decide (p.1 = o)) with | some p => p.2 | none => 0
theorem hsM_mem {hs : List (Int × Nat)} (hn : (hs.map (·.1)).Nodup) {p : Int × Nat} (hp : p ∈ hs) : hsM hs p.1 = p.2 := by
  unfold hsM
  induction hs with
  | nil => cases hp
  | cons z l ih =>
    simp only [List.map_cons, List.nodup_cons] at hn
    rcases List.mem_cons.1 hp with e1 | e1
    · rw [List.find?_cons_of_pos (by simp [e1]), e1]
    · have : z.1 ≠ p.1 := fun e => hn.1 (by rw [e]; exact List.mem_map.2 ⟨p, e1, rfl⟩)
      rw [List.find?_cons_of_neg (by simpa using this)]
      exact ih hn.2 e1
theorem hsM_none {hs : List (Int × Nat)} {o : Int} (h : ∀ p ∈ hs, p.1 ≠ o) : hsM hs o = 0 := by
  unfold hsM
  rw [List.find?_eq_none.2 (fun p hp => by simpa using h p hp)]
theorem hs_cases (hs : List (Int × Nat)) (o : Int) : (∀ p ∈ hs, p.1 ≠ o) ∨ ∃ p ∈ hs, p.1 = o := by
  by_cases h : ∃ p ∈ hs, p.1 = o
  · exact .inr h
  · exact .inl (fun p hp e => h ⟨p, hp, e⟩)
/-- those against whom somebody can't have a name -/
def badP (hs : List (Int × Nat)) (o : Int) (m : Nat) (x : Int) : Bool := decide (x ≠ o) && !fitN m (hsM hs x)
section
variable {w w' : World} {b hb : Nat} {nm : ByteArray} {qv : Value} {hs : List (Int × Nat)}
set_option maxRecDepth 100000 in
theorem c_modeOf (h : At w b #[.string nm, .map (some hb), qv] 70) (M : MapAt (.int .i64) w hb (hs.map hskv)) (o : Int) :
    Calls Tryz.prog 36 #[ptr9 b, .int .i64 o] w fun e w' => e = .returned (.int .i64 (hsM hs o : Int)) ∧ w = w' := by
  have c1 : w.cell? ⟨b, 1, none⟩ = some (.map (some hb)) := h.cell 1
  have lk : (Instr.lookup 68 (.map (some hb)) (.int .i64 o) false).run Tryz.prog w = .ok (.int .i64 (hsM hs o : Int)) w := by
    rcases hs_cases hs o with hno | ⟨p, hp, rfl⟩
    · rw [hsM_none hno]
      exact M.lookNo Tryz.underlying68 Tryz.underlying3 (show IsKey (.int .i64) (.int .i64 o) from rfl) (fun x hx e => by obtain ⟨p, hp, rfl⟩ := List.mem_map.1 hx; exact hno p hp (by simpa [hskv] using e)) (Tryz.zeroValue3 w) false
    · rw [hsM_mem (hs_nodup M) hp]
      exact M.look Tryz.underlying68 Tryz.underlying3 (List.mem_map.2 ⟨p, hp, rfl⟩) false
  generalize ((hsM hs o : Nat) : Int) = r at *
  clear h M
  unfold ptr9
  go_enter Tryz.func36, Tryz.ntmps36
  go_wp2
  go_ret
  exact ⟨rfl, rfl⟩
set_option maxRecDepth 100000 in
theorem c_isHolder (h : At w b #[.string nm, .map (some hb), qv] 70) (M : MapAt (.int .i64) w hb (hs.map hskv)) (o : Int) :
    Calls Tryz.prog 79 #[ptr9 b, .int .i64 o] w fun e w' => e = .returned (.bool (decide (hsM hs o ≠ 0))) ∧ w = w' := by
  have C := Lib.hid (c_modeOf h M o)
  have hz : ((hsM hs o : Int) != 0) = decide (hsM hs o ≠ 0) := by
    by_cases e : hsM hs o = 0
    · simp [e]
    · have : ((hsM hs o : Int) == 0) = false := by rw [beq_eq_false_iff_ne]; omega
      simp [bne, this, e]
  generalize decide (hsM hs o ≠ 0) = z at *
  generalize ((hsM hs o : Nat) : Int) = r at *
  clear h M
  go_enter Tryz.func79, Tryz.ntmps79
  go_wp2_with fail
  refine C.out.mono ?_; rintro x w1 ⟨rfl, rfl⟩
  go_wp2_with fail
  go_ret
  exact ⟨rfl, rfl⟩
set_option maxRecDepth 100000 in
theorem c_isLock (x : Int) (w : World) : Calls Tryz.prog 44 #[.int .i64 x] w fun e w' => e = .returned (.bool (decide (0 < x ∧ x < 7))) ∧ w = w' := by
  by_cases h1 : 0 < x
  · by_cases h2 : x < 7
    · rw [decide_eq_true ⟨h1, h2⟩]
      go_enter Tryz.func44, Tryz.ntmps44
      go_wp2
      go_ret
      exact ⟨by first | rfl | (simp; done) | (simp; omega), rfl⟩
    · rw [decide_eq_false (fun h => h2 h.2)]
      have g : 7 ≤ x := by omega
      go_enter Tryz.func44, Tryz.ntmps44
      go_wp2
      go_ret
      exact ⟨by first | rfl | (simp; done) | (simp; omega), rfl⟩
  · rw [decide_eq_false (fun h => h1 h.1)]
    have g : x ≤ 0 := by omega
    go_enter Tryz.func44, Tryz.ntmps44
    go_wp2
    go_ret
    exact ⟨by first | rfl | (simp; done) | (simp; omega), rfl⟩
set_option maxRecDepth 100000 in
theorem c_joined (a b : Nat) (ha : a < 7) (hb : b < 7) (w : World) (hL : Laid9 w) : Calls Tryz.prog 45 #[.int .i64 (a : Int), .int .i64 (b : Int)] w fun e w' => e = .returned (.int .i64 (jn a b 7 : Int)) ∧ Below w.heap.size w w' := by
  have C := Lib.hid (join_in a b ha hb w hL)
  generalize ((jn a b 7 : Nat) : Int) = r at *
  clear hL
  go_enter Tryz.func45, Tryz.ntmps45
  go_wp2_with fail
  refine C.out.mono ?_; rintro x w1 ⟨rfl, b1⟩
  have HB := Lib.hid b1
  clear b1
  go_wp2_with fail
  go_ret
  exact ⟨rfl, HB.out⟩
set_option maxRecDepth 100000 in
theorem c_clone (s : ByteArray) (hs : s.size ≤ 281474976710656) (w : World) : Calls Tryz.prog 37 #[.string s] w fun e w' => e = .returned (.string s) ∧ Below w.heap.size w w' := by
  have C := Lib.hid (l9_stringslite_Clone s w hs)
  clear hs
  go_enter Tryz.func37, Tryz.ntmps37
  go_wp2_with fail
  refine C.out.mono ?_; rintro x w1 ⟨rfl, b1⟩
  have HB := Lib.hid b1
  clear b1
  go_wp2_with fail
  go_ret
  exact ⟨rfl, HB.out⟩
theorem leftover {ss : List Int} (f : Int → Bool) (x : Int) : (ss ++ [x]).filter f = ss.filter f ++ (if f x then [x] else []) := by
  rw [List.filter_append]; congr 1
  cases h : f x <;> simp [h]
set_option maxRecDepth 100000 in
set_option maxHeartbeats 4000000 in
theorem c_against (h : At w b #[.string nm, .map (some hb), qv] 70) (M : MapAt (.int .i64) w hb (hs.map hskv)) (hl : hs.length ≤ 1000) (hk : ∀ p ∈ hs, 0 ≤ p.1 ∧ p.1 ≤ 9223372036854775807) (hm : ∀ p ∈ hs, p.2 < 7) (o : Int) (want : Nat) (hw7 : want < 7) (hL : Laid9 w) :
    Calls Tryz.prog 72 #[ptr9 b, .int .i64 o, .int .i64 (want : Int)] w fun e w' => ∃ (v : Value) (l : List Int), e = .returned v ∧ l.Perm ((hs.map (·.1)).filter (badP hs o want)) ∧ w'.ownsRow w.heap.size 3 1 v l.length (l.map (Value.int .i64)) ∧ Below w.heap.size w w' := by
  obtain ⟨D0, hown, hperm, hsize⟩ := M.ownsI hl hk
  obtain ⟨i0, hi, hz0, hz1, hz2⟩ := info_parts info_int
  have c1 : w.cell? ⟨b, 1, none⟩ = some (.map (some hb)) := h.cell 1
  have hn := hs_nodup M
  have HBL := Lib.hid M.lt; have HM := Lib.hid M; have HK := Lib.hid hk; have HP := Lib.hid hperm; have HL := Lib.hid hL; have HMM := Lib.hid hm; have HN := Lib.hid hn; have HLN := Lib.hid hl
  clear hsize hl hk h hperm M hL hm hn
  unfold ptr9
  go_enter Tryz.func72, Tryz.ntmps72
  go_wp2_with (at_range; refine wpList_range_own _ rfl _ 68 rfl 3 3 (int_keyed Tryz.underlying3) Tryz.underlying68 RI9 hb hs.length D0 rfl hown ?_; intro w0 hrg0 hg0 hs0)
  have B0 : Below w.heap.size w w0 := (Below.refl _ w).grown hg0 (Nat.le_refl _) (fun j hj => by cases hj)
  have HB0 := Lib.hid B0
  have HS0 : Hid (w.heap.size + 1 ≤ w0.heap.size) := Lib.hid (by omega)
  clear B0 hg0 hs0
  have HO := Lib.hid hown
  clear hown c1
  go_frame
  go_loopw [7] (fun u wr => ∃ (left : Lit → Bool) (cnt : Nat) (ss : List Int), wr.ranges Tryz.prog 3 RI9 hb w.heap.size hs.length D0 left cnt ∧ CollectedI D0 left ss ∧ wr.ownsRow (w.heap.size + 1) 3 1 u (ss.filter (badP hs o want)).length ((ss.filter (badP hs o want)).map (Value.int .i64)) ∧ Below w.heap.size w wr ∧ w.heap.size + 1 ≤ wr.heap.size ∧ ∀ y ∈ ss, y ∈ hs.map (·.1))
    (fun _ wr => wr.rangeLeft hb w.heap.size)
  case atStart => exact ⟨_, _, [], hrg0, CollectedI.start D0, World.ownsRow_nil _ _ _ _, HB0.out, HS0.out, by simp⟩
  case round =>
    obtain ⟨left, cnt, ss, hrg, hC, hrow, hB, hsz, hsl⟩ := hrel
    have HB := Lib.hid hB; have HC := Lib.hid hC; have HR := Lib.hid hrow; have HSL := Lib.hid hsl; have HSZ := Lib.hid hsz
    clear hB hC hrow hrg0 hsl hsz
    go_wp2_with (at_next; refine wpList_next_ranges _ rfl _ rfl 3 (int_keyed Tryz.underlying3) RI9 encZ id (fun key kl hk => by obtain ⟨x, hx, _⟩ := Maps.keyOf_i64 Tryz.underlying3 hk; exact ⟨x, hx⟩) (fun v _ _ => ⟨v, rfl⟩) hb w.heap.size hs.length D0 _ _ rfl hrg ?_ ?_)
    · intro hc0 hl0
      have HL0 := Lib.hid hl0
      clear hl0 hc0 hrg
      go_wp2
      go_ret
      exact ⟨_, _, rfl, ((HC.out.perm HO.out (int_keyed Tryz.underlying3) Tryz.underlying3 HL0.out).trans HP.out).filter _, ownsRow_base_a HR.out (Nat.le_succ _), HB.out⟩
    · intro kx c kl yd yp w2 cnt2 hkey hlk hv hat hrg2 hlt hg2 hs2 hen
      have hb2 : Below w.heap.size w w2 := HB.out.grown hg2 HB.out.size (fun j hj => by cases hj; exact Nat.le_refl _)
      have hM2 := HM.out.same (hb2.block hb HM.out.lt)
      have hmem := hM2.ranged RI9_one (int_keyed Tryz.underlying3) Tryz.underlying68 (Tryz.zeroValue3 w2) (own_mono9 HO.out (hb2.block hb HM.out.lt)) hkey hv hat (by obtain ⟨n, _, e⟩ := RI9_inv hv; rw [e]; simp)
      obtain ⟨⟨px, pm⟩, hp, hpe⟩ := List.mem_map.1 hmem
      simp only [hskv, Prod.mk.injEq] at hpe
      obtain ⟨hpe1, rfl⟩ := hpe
      obtain rfl : px = kx := by simpa [encZ] using hpe1
      obtain ⟨z, hy1, hy2, _⟩ := Maps.keyOf_i64 Tryz.underlying3 hkey
      obtain rfl : px = z := by simpa [encZ] using hy1
      have hz3 : kl = .int .i64 px := hy2
      subst hz3
      have hC2 := HC.out.step hlk hat
      have hms : w2.rangeLeft hb w.heap.size < wr.rangeLeft hb w.heap.size := by rw [hrg2.left_eq, hrg.left_eq]; exact hlt
      have hsl2 : ∀ y ∈ ss ++ [px], y ∈ hs.map (·.1) := fun y hy => by
        rcases List.mem_append.1 hy with hy | hy
        · exact HSL.out y hy
        · obtain rfl := List.mem_singleton.1 hy; exact List.mem_map.2 ⟨(y, pm), hp, rfl⟩
      have hlen : ss.length ≤ 1000 := by
        have := nodup_len ss (hs.map (·.1)) HC.out.1 HSL.out
        rw [List.length_map] at this; exact Nat.le_trans this HLN.out
      have hfl : (ss.filter (badP hs o want)).length ≤ 1000 := Nat.le_trans (List.length_filter_le _ _) hlen
      have hF := leftover (ss := ss) (badP hs o want) px
      have hbad : badP hs o want px = (decide (px ≠ o) && !fitN want pm) := by unfold badP; rw [hsM_mem HN.out hp]
      have hpm : pm < 7 := HMM.out _ hp
      have CF := Lib.hid (fits_in want pm hw7 hpm w2 (HL.out.step hb2))
      have hR2 := HR.out.kept hg2 (by
        rcases HR.out.2 with ⟨e, _⟩ | ⟨g, cap, cur, e, hbase, _⟩
        · rw [e]; exact .inl rfl
        · rw [e]; refine .inr (fun x => ?_)
          have : g = w.heap.size := by simpa [Value.ownBlock] using x
          omega)
      have HR2 := Lib.hid hR2; have HC2 := Lib.hid hC2; have HMS := Lib.hid hms; have HRG := Lib.hid hrg2; have HB2 := Lib.hid hb2; have HSL2 := Lib.hid hsl2; have HF := Lib.hid hF
      have hs2' : w.heap.size + 1 ≤ w2.heap.size := by rw [hs2]; exact HSZ.out
      have HBAD := Lib.hid hbad
      clear hR2 hC2 hms hrg2 hb2 hsl2 hF hbad hp hmem hM2 hkey hlk hv hat hlt hg2 hs2 hrg hy1 hy2 hpe1 HR HC HSL HM HP HO HB HMM HN HK
      simp only [encZ] at hen ⊢
      by_cases hox : px = o
      · have e1 : badP hs o want px = false := by rw [HBAD.out]; simp [hox]
        rw [e1] at HF
        simp only [Bool.false_eq_true, if_false, List.append_nil] at HF
        have e2 : (px != o) = false := by simp [hox]
        clear hox
        go_wp2_with fail
        exact ⟨⟨_, cnt2, ss ++ [px], HRG.out, HC2.out, by rw [HF.out]; exact HR2.out, HB2.out, hs2', HSL2.out⟩, HMS.out⟩
      · have e2 : (px != o) = true := by simp [hox]
        cases hf : fitN want pm with
        | true =>
          have e1 : badP hs o want px = false := by rw [HBAD.out, hf]; simp
          rw [e1] at HF
          simp only [Bool.false_eq_true, if_false, List.append_nil] at HF
          rw [hf] at CF
          clear hox hf
          go_wp2_with (go_at_call 90; refine CF.out.mono ?_; rintro e w3 ⟨rfl, rfl⟩)
          exact ⟨⟨_, cnt2, ss ++ [px], HRG.out, HC2.out, by rw [HF.out]; exact HR2.out, HB2.out, hs2', HSL2.out⟩, HMS.out⟩
        | false =>
          have e1 : badP hs o want px = true := by rw [HBAD.out, hf]; simp [hox]
          rw [e1] at HF
          simp only [if_true] at HF
          rw [hf] at CF
          clear hox hf
          generalize ss.filter (badP hs o want) = F at *
          go_wp2_with fail
          (go_at_call 90; refine CF.out.mono ?_; rintro e w3 ⟨rfl, rfl⟩)
          clear CF
          go_wp2_with (at_builtin; refine wpList_append_own _ rfl _ _ 36 rfl (w.heap.size + 1) 3 i0 (.int .i64 0) 1 8 Tryz.underlying36 hi hz0 hz1 hz2 rfl (by decide) _ _ _ rfl (HR2.out.alloc _) ⟨w2.heap.size, 0, none⟩ 1 1 [.int .i64 px] rfl rfl (cell_one_new _ _) (by simp [Value.oneCell']) (by simp [maxLen]; omega) (by omega) (by simp; omega) ?_; intro v' w4 hown' hgrow _)
          have hb4 := below_append HB2.out HR2.out hgrow (Nat.le_succ _) (by omega)
          have hrg4 := HRG.out.alloc (.cells #[.int .i64 px] 3)
          have hrg5 := hrg4.kept hgrow ?n1 ?n2
          exact ⟨⟨_, cnt2, ss ++ [px], hrg5, HC2.out, by rw [HF.out]; simpa using hown', hb4, by have := hgrow.size; simp at this; omega, HSL2.out⟩, by rw [hrg5.left_eq, ← HRG.out.left_eq]; exact HMS.out⟩
          case n1 => exact fun e => by have := (HR2.out.lt _ e.symm).1; have := HBL.out; omega
          case n2 => exact fun e => by have := (HR2.out.lt _ e.symm).1; omega
/-- can somebody have it? -/
def canH (hs : List (Int × Nat)) (o : Int) (m : Nat) : Bool := decide (((hs.map (·.1)).filter (badP hs o m)).length = 0)
set_option maxRecDepth 100000 in
set_option maxHeartbeats 1000000 in
theorem c_canHave (h : At w b #[.string nm, .map (some hb), qv] 70) (M : MapAt (.int .i64) w hb (hs.map hskv)) (hl : hs.length ≤ 1000) (hk : ∀ p ∈ hs, 0 ≤ p.1 ∧ p.1 ≤ 9223372036854775807) (hm : ∀ p ∈ hs, p.2 < 7) (o : Int) (want : Nat) (hw7 : want < 7) (hL : Laid9 w) :
    Calls Tryz.prog 48 #[ptr9 b, .int .i64 o, .int .i64 (want : Int)] w fun e w' => e = .returned (.bool (canH hs o want)) ∧ Below w.heap.size w w' := by
  have C := Lib.hid (c_against h M hl hk hm o want hw7 hL)
  have he : ∀ l : List Int, l.Perm ((hs.map (·.1)).filter (badP hs o want)) → ((l.length : Int) == 0) = canH hs o want := fun l hp => by
    unfold canH
    rw [← hp.length_eq]
    by_cases e : l.length = 0
    · simp [e]
    · have : ((l.length : Int) == 0) = false := by rw [beq_eq_false_iff_ne]; omega
      rw [this]; simp [e]
  obtain ⟨r, hr⟩ : ∃ r, canH hs o want = r := ⟨_, rfl⟩
  rw [hr] at he ⊢
  have HE := Lib.hid he
  clear h M hl hk hm hL hw7 he hr
  go_enter Tryz.func48, Tryz.ntmps48
  go_wp2_with fail
  refine C.out.mono ?_; rintro x w1 ⟨v, l, rfl, hp, hrow, b1⟩
  have hz := HE.out l hp
  have HB := Lib.hid b1
  obtain ⟨a, c, rfl⟩ : ∃ a c, v = .slice a l.length c := by
    rcases hrow.2 with ⟨rfl, h0⟩ | ⟨g, cap, cur, rfl, _⟩
    · exact ⟨none, 0, by rw [h0]⟩
    · exact ⟨_, _, rfl⟩
  clear hp hrow b1 HE C
  go_wp2_with fail
  go_ret
  exact ⟨rfl, HB.out⟩
set_option maxRecDepth 100000 in
set_option maxHeartbeats 1000000 in
theorem c_isNext (n : Nat) (a : Option Addr) (c : Nat) (h : At w b #[.string nm, .map (some hb), .slice a n c] 70) (M : MapAt (.int .i64) w hb (hs.map hskv)) (o : Int) :
    Calls Tryz.prog 47 #[ptr9 b, .int .i64 o] w fun e w' => e = .returned (.bool (decide (hsM hs o ≠ 0) || decide (n = 0))) ∧ Below w.heap.size w w' := by
  have C := Lib.hid (c_isHolder h M o)
  have c2 : w.cell? ⟨b, 2, none⟩ = some (.slice a n c) := h.cell 2
  have hz : ((n : Int) == 0) = decide (n = 0) := by
    by_cases e : n = 0
    · simp [e]
    · have : ((n : Int) == 0) = false := by rw [beq_eq_false_iff_ne]; omega
      rw [this]; simp [e]
  generalize decide (n = 0) = z at *
  clear h M
  unfold ptr9 at *
  cases hd : decide (hsM hs o ≠ 0) with
  | true =>
    rw [hd] at C
    clear hd
    go_enter Tryz.func47, Tryz.ntmps47
    go_wp2_with fail
    refine C.out.mono ?_; rintro x w1 ⟨rfl, rfl⟩
    go_wp2_with fail
    go_ret
    exact ⟨rfl, Below.refl _ _⟩
  | false =>
    rw [hd] at C
    clear hd
    go_enter Tryz.func47, Tryz.ntmps47
    go_wp2_with fail
    refine C.out.mono ?_; rintro x w1 ⟨rfl, rfl⟩
    go_wp2_with fail
    go_ret
    exact ⟨by first | rfl | (simp; done), Below.refl _ _⟩
end
end Go.Proofs.YtainnhcmhgloaaaGreatDoor
