/-
  Package leaf: the contract of changed: pairs with others instead of some, in memory of their own.
-/
import Derived.Test.YtajbnfobmnibjaaM10
namespace Go.Proofs.Ytajbnfobmnibjaa
open Go.RowKit

theorem wpList_copy_run10 {P : Program} {ops : Array Oper} {rest : List Oper} {o : Oper} {a : Act} {Q : Exit → Act → World → Prop} {w : World} (hgd : o.guard = none) (sl x : Operand) (t u : TypeId)
    (ho : o.op = .call { callee := .builtin .copy, args := #[sl, x], argTypes := #[t, u] }) (v xv : Value) (hs : a.eval sl = v) (hx : a.eval x = xv) (v' : Value) (w' : World)
    (hr : (Builtin.copy_ #[t, u] o.type #[v, xv]).run P w = .ok v' w') (h : wpList P ops Q rest (a.put o.dst v') w') : wpList P ops Q (o :: rest) a w := by
  refine wpList_plain hgd fun K hK => ?_
  unfold Oper.wp execOp
  simp only [ho, resolve, invoke, builtin, Sem.run_bind, Sem.run_pure, Result.andThen_ok, List.map_toArray, List.map_cons, List.map_nil, hs, hx, hr]
  exact hK _ _ h
theorem PairsAt.take {w : World} {a : Option Addr} {l : Prs} (h : PairsAt w a l) (k : Nat) : PairsAt w a (l.take k) := fun i p hp => h i p (by
  rw [List.getElem?_take] at hp
  split at hp
  · exact hp
  · cases hp)
theorem PairsAt.drop {w : World} {b off : Nat} {l : Prs} (h : PairsAt w (some ⟨b, off, none⟩) l) (k : Nat) : PairsAt w (some ⟨b, off + k * 2, none⟩) (l.drop k) := fun i p hp => by
  rw [List.getElem?_drop] at hp
  obtain ⟨g, o, e, c0, c1⟩ := h (k + i) p hp
  cases e
  refine ⟨b, off + k * 2, rfl, ?_, ?_⟩
  · rw [show off + k * 2 + i * 2 = off + (k + i) * 2 by omega]; exact c0
  · rw [show off + k * 2 + i * 2 = off + (k + i) * 2 by omega]; exact c1
theorem Only10.keeps {w0 w w' : World} {m : Nat} {a : Option Addr} {Y : Prs} (h : Only10 m w w') (hY0 : PairsAt w0 a Y) (hY : PairsAt w a Y) (hm : w0.heap.size ≤ m) : PairsAt w' a Y := by
  intro i p hp
  obtain ⟨b, off, e, c0, _⟩ := hY0 i p hp
  obtain ⟨b', off', e', d0, d1⟩ := hY i p hp
  rw [e] at e'; cases e'
  have hb : b ≠ m := by have := World.block_lt_of_cell? _ _ c0; simp only at this; omega
  have key : ∀ j v, w.cell? ⟨b, j, none⟩ = some v → w'.cell? ⟨b, j, none⟩ = some v := fun j v hc => by
    have := h.blk b hb
    simp only [World.cell?, this] at hc ⊢
    exact hc
  exact ⟨b, off, e, key _ _ d0, key _ _ d1⟩
theorem set_same10 (cs : Array Value) (j : Nat) (v : Value) (h : cs[j]? = some v) : cs.setIfInBounds j v = cs := by
  apply Array.ext_getElem?
  intro i
  rw [Array.getElem?_setIfInBounds]
  by_cases e : j = i
  · subst e
    have := (Array.getElem?_eq_some_iff.1 h).1
    rw [if_pos rfl, if_pos this, h]
  · rw [if_neg e]
theorem PB.same {w : World} {B : Nat} {X : Prs} (h : PB w B X) {j : Nat} {v : Value} (hj : (pc10 X)[j]? = some v) : PB (w.setCell ⟨B, j, none⟩ v) B X := by
  have := At.set h j v
  rw [set_same10 _ _ _ (by rw [List.getElem?_toArray]; exact hj)] at this
  exact this
theorem PB.at0 {w : World} {B i : Nat} {X : Prs} {p : ByteArray × ByteArray} (h : PB w B X) (hp : X[i]? = some p) : w.cell? ⟨B, i * 2, none⟩ = some (.string p.1) := by
  rw [At.cell h, List.getElem?_toArray]; exact (pc10_at hp).1
theorem PB.at1 {w : World} {B i : Nat} {X : Prs} {p : ByteArray × ByteArray} (h : PB w B X) (hp : X[i]? = some p) : w.cell? ⟨B, i * 2 + 1, none⟩ = some (.string p.2) := by
  rw [At.cell h, List.getElem?_toArray]; exact (pc10_at hp).2
theorem PB.reads {w w' : World} {B : Nat} {X : Prs} (h : PB w B X) (b : Below w.heap.size w w') : PB w' B X := At.reads h b
/-- what a leaf's pairs are at -/
structure PrAt (w : World) (a : Option Addr) (C : Nat) (l : Prs) : Prop where
  at' : PairsAt w a l
  cap : l.length ≤ C
  max : C ≤ 9223372036854775807
  nil : a = none → C = 0
  form : ∀ x, a = some x → x.spot = none
theorem PrAt.below {w w' : World} {a : Option Addr} {C : Nat} {l : Prs} (h : PrAt w a C l) (b : Below w.heap.size w w') : PrAt w' a C l := ⟨h.at'.below b, h.cap, h.max, h.nil, h.form⟩
set_option maxRecDepth 100000 in
set_option maxHeartbeats 8000000 in
theorem changed10 (a b : Option Addr) (C D : Nat) (l m : Prs) (f t : Nat) (w : World) (hA : PrAt w a C l) (hM : PairsAt w b m) (hft : f ≤ t) (ht : t ≤ l.length) (hl : l.length ≤ 1000) (hm : m.length ≤ 1000) (hS : SmallP l) (hT : SmallP m) (R : Prs) (hRR : l.take f ++ m ++ l.drop t = R) :
    Calls Try.prog 59 #[.slice a l.length C, .int .i64 (f : Int), .int .i64 (t : Int), .slice b m.length D] w fun e w' => ∃ a' C', e = .returned (.slice a' R.length C') ∧ PrAt w' a' C' R ∧ Below w.heap.size w w' := by
  have HRR := Lib.hid hRR
  clear hRR
  obtain ⟨d, hd⟩ : ∃ d, t - f = d := ⟨_, rfl⟩
  obtain ⟨e, he⟩ : ∃ e, l.length - d = e := ⟨_, rfl⟩
  obtain ⟨N, hN⟩ : ∃ N, e + m.length = N := ⟨_, rfl⟩
  have hR : (l.take f ++ m ++ l.drop t).length = N := by simp; omega
  have i1 : (t : Int) - (f : Int) = (d : Int) := by omega
  have i2 : (l.length : Int) - (d : Int) = (e : Int) := by omega
  have i3 : (e : Int) + (m.length : Int) = (N : Int) := by omega
  have i4 : (N : Int) ≤ 3000 := by omega
  have i5 : (0 : Int) ≤ (N : Int) := by omega
  have i6 : (0 : Int) ≤ (f : Int) := by omega
  have i7 : (0 : Int) ≤ (t : Int) := by omega
  by_cases h0 : N = 0
  · have hX : l.take f ++ m ++ l.drop t = [] := List.eq_nil_of_length_eq_zero (by omega)
    obtain rfl : R = [] := by rw [← HRR.out]; exact hX
    have i8 : ((N : Int) == 0) = true := by rw [beq_iff_eq]; omega
    clear hA hM hS hT hX
    go_enter Try.func59, Try.ntmps59
    go_wp2_with fail
    go_ret
    exact ⟨none, 0, rfl, ⟨pairsAt_nil _ _, Nat.le_refl _, by omega, fun _ => rfl, fun x h => by cases h⟩, Below.refl _ _⟩
  · have i8 : ((N : Int) == 0) = false := by rw [beq_eq_false_iff_ne]; omega
    have mk := mk_pairs10 w N (by omega)
    have bel1 : Below w.heap.size w (w.alloc (.cells (pc10 (List.replicate N (noB, noB))).toArray 44)) := (Below.refl _ w).alloc (Nat.le_refl _) _
    have P1 : PB (w.alloc (.cells (pc10 (List.replicate N (noB, noB))).toArray 44)) w.heap.size (List.replicate N (noB, noB)) := At.new _ _ _
    have HA := Lib.hid hA; have HM := Lib.hid hM; have HS := Lib.hid hS; have HT := Lib.hid hT; have HR := Lib.hid hR
    have HP1 := Lib.hid P1; have HB1 := Lib.hid bel1
    have c1 : (f : Int) ≤ (C : Int) := by have := hA.cap; omega
    have c2 : (t : Int) ≤ (l.length : Int) := by omega
    have c3 : (l.length : Int) ≤ (C : Int) := by have := hA.cap; omega
    have c4 : (C : Int) ≤ 9223372036854775807 := by have := hA.max; omega
    clear hA hM hS hT hR P1 bel1
    go_enter Try.func59, Try.ntmps59
    go_upto_region 5 with fail
    generalize w.alloc (.cells (pc10 (List.replicate N (noB, noB))).toArray 44) = w1 at *
    have P2 := run_copy_pairs w1 3 w.heap.size 0 N N a C (List.replicate N (noB, noB)) (l.take f) HP1.out ((HA.out.below HB1.out).at'.take f) (by rw [List.length_take]; omega) (by rw [List.length_take, List.length_replicate]; omega)
    have hlf : (l.take f).length = f := by rw [List.length_take]; omega
    rw [hlf] at P2
    obtain ⟨w2, hc2, P2, O2⟩ := P2
    simp only [Nat.zero_mul, List.take_zero, List.nil_append, Nat.zero_add] at hc2 P2
    have HP2 := Lib.hid P2; have HB2 := Lib.hid (O2.below HB1.out (Nat.le_refl _))
    have HM2 := Lib.hid (O2.keeps HM.out (HM.out.below HB1.out) (Nat.le_refl _))
    have HA2 := Lib.hid (O2.keeps HA.out.at' (HA.out.at'.below HB1.out) (Nat.le_refl _))
    have hX2 : (l.take f ++ (List.replicate N (noB, noB)).drop f).length = N := by simp; omega
    obtain ⟨k, hk⟩ : ∃ k, f + m.length = k := ⟨_, rfl⟩
    have k1 : (f : Int) + (m.length : Int) = (k : Int) := by omega
    have k2 : (k : Int) ≤ (N : Int) := by omega
    have k3 : (0 : Int) ≤ (k : Int) := by omega
    have k4 : (f : Int) ≤ (N : Int) := by omega
    clear P2 O2 HP1 HB1 mk
    go_upto_region 6 with fail
    go_cut [11] (fun v wx => v = .int .i64 (k : Int) ∧ PB wx w.heap.size (l.take f ++ m ++ (List.replicate N (noB, noB)).drop k) ∧ Below w.heap.size w wx ∧ PairsAt wx a l)
    case first =>
      by_cases hfN : f = N
      · have hm0 : m = [] := List.eq_nil_of_length_eq_zero (by omega)
        have hkf : k = f := by rw [hm0] at hk; simpa using hk.symm
        obtain ⟨w3, hc3, P3, O3⟩ := run_copy_pairs w2 3 w.heap.size 0 0 0 b D (l.take f ++ (List.replicate N (noB, noB)).drop f) m HP2.out HM2.out (by rw [hm0]; simp) (by rw [hm0]; simp)
        simp only [Nat.zero_mul, List.take_zero, List.nil_append, Nat.zero_add] at hc3 P3
        have HP3 := Lib.hid (show PB w3 w.heap.size (l.take f ++ m ++ (List.replicate N (noB, noB)).drop k) by rw [hkf]; rw [hm0] at P3 ⊢; simpa using P3)
        have HB3 := Lib.hid (O3.below HB2.out (Nat.le_refl _))
        have HA3 := Lib.hid (O3.keeps HA.out.at' HA2.out (Nat.le_refl _))
        clear P3 O3 HP2 HB2 HA2 HM2
        subst hfN
        subst hkf
        have hml : m.length = 0 := by rw [hm0]; rfl
        have hc4 := hc3
        rw [hml] at hc4
        clear hm0
        have hk0 : (k : Int) + 0 = (k : Int) := by omega
        go_wp2_with fail
        go_meet
        exact ⟨rfl, HP3.out, HB3.out, HA3.out⟩
      · obtain ⟨w3, hc3, P3, O3⟩ := run_copy_pairs w2 3 w.heap.size f (N - f) (N - f) b D (l.take f ++ (List.replicate N (noB, noB)).drop f) m HP2.out HM2.out (by omega) (by rw [hX2]; omega)
        have e1 : (l.take f ++ (List.replicate N (noB, noB)).drop f).take f = l.take f := List.take_left' (by rw [List.length_take]; omega)
        have e2 : (l.take f ++ (List.replicate N (noB, noB)).drop f).drop (f + m.length) = (List.replicate N (noB, noB)).drop k := by
          rw [List.drop_append, List.length_take, List.drop_eq_nil_of_le (by rw [List.length_take]; omega), List.nil_append, List.drop_drop]; congr 1; omega
        rw [e1, e2] at P3
        have HP3 := Lib.hid P3
        have HB3 := Lib.hid (O3.below HB2.out (Nat.le_refl _))
        have HA3 := Lib.hid (O3.keeps HA.out.at' HA2.out (Nat.le_refl _))
        clear P3 O3 HP2 HB2 HA2 HM2
        go_wp2_with fail
        go_meet
        exact ⟨rfl, HP3.out, HB3.out, HA3.out⟩
    case rest =>
      obtain ⟨rfl, P3, B3, A3⟩ := hcut
      have HP3 := Lib.hid P3; have HB3 := Lib.hid B3; have HA3 := Lib.hid A3
      clear P3 B3 A3 HP2 HB2 HA2 HM2 hc2
      go_upto_region 7 with fail
      go_cut [10] (fun v wx => v = .slice (some ⟨w.heap.size, 0, none⟩) N N ∧ PB wx w.heap.size (l.take f ++ m ++ l.drop t) ∧ Below w.heap.size w wx)
      case first =>
        have hX3 : (l.take f ++ m ++ (List.replicate N (noB, noB)).drop k).length = N := by simp; omega
        by_cases hkN : k = N
        · have htl : t = l.length := by omega
          have hfin : l.take f ++ m ++ (List.replicate N (noB, noB)).drop k = l.take f ++ m ++ l.drop t := by
            rw [List.drop_eq_nil_of_le (by rw [List.length_replicate]; omega), List.drop_eq_nil_of_le (by omega)]
          rw [hfin] at HP3
          have hcp : ∀ (a' : Option Addr) (c' : Nat), ∃ w', (Builtin.copy_ #[22, 22] 3 #[.slice (some ⟨w.heap.size, 0, none⟩) 0 0, .slice a' 0 c']).run Try.prog wc.drew = .ok (.int .i64 0) w' ∧ PB w' w.heap.size (l.take f ++ m ++ l.drop t) ∧ Only10 w.heap.size wc.drew w' := fun a' c' => by
            obtain ⟨w', h1, h2, h3⟩ := run_copy_pairs wc.drew 3 w.heap.size 0 0 0 a' c' (l.take f ++ m ++ l.drop t) [] HP3.out (pairsAt_nil _ _) (Nat.le_refl _) (by simp)
            exact ⟨w', by simpa using h1, by simpa using h2, h3⟩
          have HCP := Lib.hid hcp
          clear hcp hfin hX3
          subst hkN
          subst htl
          rcases a with _ | ⟨g, off, sp⟩
          · have hl0 : l = [] := List.eq_nil_of_length_eq_zero (by have := HA.out.nil rfl; have := HA.out.cap; omega)
            have hC0 := HA.out.nil rfl
            obtain ⟨w4, h4, P4, O4⟩ := HCP.out none 0
            have HP4 := Lib.hid P4; have HB4 := Lib.hid (O4.below HB3.out.drew (Nat.le_refl _))
            subst hC0
            subst hl0
            clear P4 O4 HCP
            go_still_tail 6, (by kernel_rfl)
            change wpList _ _ _ _ _ wc.drew
            go_wp2_with fail
            go_meet
            exact ⟨rfl, HP4.out, HB4.out⟩
          · obtain rfl : sp = none := HA.out.form _ rfl
            by_cases hC : l.length = C
            · obtain ⟨w4, h4, P4, O4⟩ := HCP.out (some ⟨g, off, none⟩) 0
              have HP4 := Lib.hid P4; have HB4 := Lib.hid (O4.below HB3.out.drew (Nat.le_refl _))
              clear P4 O4 HCP
              subst hC
              go_still_tail 6, (by kernel_rfl)
              change wpList _ _ _ _ _ wc.drew
              go_wp2_with fail
              go_meet
              exact ⟨rfl, HP4.out, HB4.out⟩
            · obtain ⟨w4, h4, P4, O4⟩ := HCP.out (some ⟨g, off + l.length * 2, none⟩) (C - l.length)
              have HP4 := Lib.hid P4; have HB4 := Lib.hid (O4.below HB3.out.drew (Nat.le_refl _))
              clear P4 O4 HCP
              go_still_tail 6, (by kernel_rfl)
              change wpList _ _ _ _ _ wc.drew
              go_wp2_with fail
              go_meet
              exact ⟨rfl, HP4.out, HB4.out⟩
        · have htl : t < l.length := by omega
          rcases a with _ | ⟨g, off, sp⟩
          · have := HA.out.nil rfl; have := HA.out.cap; omega
          · obtain rfl : sp = none := HA.out.form _ rfl
            have hY := HA3.out.drop t
            have hYl : (l.drop t).length = l.length - t := List.length_drop
            obtain ⟨w4, h4, P4, O4⟩ := run_copy_pairs wc.drew 3 w.heap.size k (N - k) (N - k) (some ⟨g, off + t * 2, none⟩) (C - t) (l.take f ++ m ++ (List.replicate N (noB, noB)).drop k) (l.drop t) HP3.out hY (by rw [hYl]; omega) (by rw [hYl, hX3]; omega)
            have hk2 : (l.take f ++ m).length = k := by simp; omega
            have e1 : (l.take f ++ m ++ (List.replicate N (noB, noB)).drop k).take k = l.take f ++ m := List.take_left' hk2
            have e2 : (l.take f ++ m ++ (List.replicate N (noB, noB)).drop k).drop (k + (l.drop t).length) = [] := List.drop_eq_nil_of_le (by rw [hX3, hYl]; omega)
            rw [e1, e2, List.append_nil] at P4
            rw [hYl] at h4
            have HP4 := Lib.hid P4; have HB4 := Lib.hid (O4.below HB3.out.drew (Nat.le_refl _))
            have hkN' : ¬ k = N := hkN
            have htC : ¬ t = C := by have := HA.out.cap; omega
            clear P4 O4 hY hYl hk2 hX3
            go_still_tail 6, (by kernel_rfl)
            change wpList _ _ _ _ _ wc.drew
            go_wp2_with fail
            go_meet
            exact ⟨rfl, HP4.out, HB4.out⟩
      case rest =>
        obtain ⟨rfl, P4, B4⟩ := hcut
        have HP4 := Lib.hid P4; have HB4 := Lib.hid B4
        clear P4 B4 HP3 HB3 HA3
        have HSM := Lib.hid (show SmallP (l.take f ++ m ++ l.drop t) from fun p hp => by
          rcases List.mem_append.1 hp with hp | hp
          · rcases List.mem_append.1 hp with hp | hp
            · exact HS.out p (List.mem_of_mem_take hp)
            · exact HT.out p hp
          · exact HS.out p (List.mem_of_mem_drop hp))
        have HFIN := Lib.hid (show ∀ (w' : World), PB w' w.heap.size (l.take f ++ m ++ l.drop t) → Below w.heap.size w w' → PrAt w' (some ⟨w.heap.size, 0, none⟩) N (l.take f ++ m ++ l.drop t) ∧ Below w.heap.size w w' from fun w' h1 h2 =>
          ⟨⟨h1.pairs, by rw [HR.out]; exact Nat.le_refl _, by omega, fun h => (by cases h), fun x hx => (by cases hx; rfl)⟩, h2⟩)
        have HRN := Lib.hid HR.out
        clear HA HM HS HT HR
        rw [HRR.out] at HFIN HSM HRN HP4
        go_wp2_with fail
        go_loopw [48] (fun u wr => ∃ i : Nat, i ≤ N ∧ u = .int .i64 (i : Int) ∧ PB wr w.heap.size R ∧ Below w.heap.size w wr) (fun u _ => N - (intOf u).toNat)
        case atStart => exact ⟨0, by omega, rfl, HP4.out, HB4.out⟩
        case round =>
          obtain ⟨i, hi, rfl, hP, hB⟩ := hrel
          have HPi := Lib.hid hP; have HBi := Lib.hid hB
          clear HP4 HB4 hP hB
          have j0 : (0 : Int) ≤ (i : Int) := by omega
          by_cases hlt : i < N
          · have j1 : (i : Int) < (N : Int) := by omega
            obtain ⟨⟨pk, pv⟩, hp⟩ : ∃ p, R[i]? = some p := ⟨_, List.getElem?_eq_getElem (by rw [HRN.out]; omega)⟩
            obtain ⟨s1, s2⟩ := HSM.out _ (List.mem_of_getElem? hp)
            obtain ⟨_, _, e, d0, d1⟩ := HPi.out.pairs i _ hp
            cases e
            rw [Nat.zero_add] at d0 d1
            dsimp only at s1 s2 d0 d1
            have HPP := Lib.hid hp
            have bb : Below wr.heap.size wr (wr.alloc (.cells #[.string pk, .string pv] 44)) := (Below.refl _ wr).alloc (Nat.le_refl _) _
            have HB5 := Lib.hid (HBi.out.trans (bb.mono HBi.out.size)); have HP5 := Lib.hid (show PB (wr.alloc (.cells #[.string pk, .string pv] 44)) w.heap.size R from HPi.out.reads bb)
            have HA5 := Lib.hid (At.new wr #[.string pk, .string pv] 44)
            have C1 := Lib.hid (fun W => clone_any pk W s1); have C2 := Lib.hid (fun W => clone_any pv W s2)
            clear hp bb s1 s2
            go_upto_region 11 with fail
            generalize wr.alloc (.cells #[.string pk, .string pv] 44) = w5 at *
            generalize wr.heap.size = bx at *
            have q0 : w5.cell? ⟨bx, 0, none⟩ = some (.string pk) := HA5.out.cell 0
            clear d0 d1 HPi HBi
            have q1 : w5.cell? ⟨bx, 1, none⟩ = some (.string pv) := HA5.out.cell 1
            go_wp2_with fail
            go_region_with (first
              | (go_at_call 54; ((with_reducible refine (C1.out _).mono ?_); rintro e1 v2 ⟨rfl, b2⟩; have P2 : PB v2 w.heap.size R := PB.reads (by exact HPc1.out) b2; have A2 : At v2 bx #[.string pk, .string pv] 44 := At.reads (by exact HAc1.out) b2; have BB2 : Below w.heap.size w v2 := Below.trans (by first | exact HBc1.out | exact HBc1.out.drew) (Below.mono b2 (by first | exact HBc1.out.size | exact HBc1.out.drew.size)); have f0 : v2.cell? ⟨bx, 0, none⟩ = some (.string pk) := A2.cell 0; have f1 : v2.cell? ⟨bx, 1, none⟩ = some (.string pv) := A2.cell 1; have f2 : v2.cell? ⟨w.heap.size, i * 2, none⟩ = some (.string pk) := PB.at0 P2 HPP.out; have f3 : v2.cell? ⟨w.heap.size, i * 2 + 1, none⟩ = some (.string pv) := PB.at1 P2 HPP.out; have f4 : v2.frozen? ⟨w.heap.size, i * 2, none⟩ = false := At.fz P2 _; have f5 : v2.frozen? ⟨w.heap.size, i * 2 + 1, none⟩ = false := At.fz P2 _; have HPc2 := Lib.hid P2; have HAc2 := Lib.hid A2; have HBc2 := Lib.hid BB2; clear P2 A2 BB2 b2))
              | (go_at_call 54; ((with_reducible refine (C2.out _).mono ?_); rintro e1 v2 ⟨rfl, b2⟩; have P2 : PB v2 w.heap.size R := PB.reads (by exact HPc1.out) b2; have A2 : At v2 bx #[.string pk, .string pv] 44 := At.reads (by exact HAc1.out) b2; have BB2 : Below w.heap.size w v2 := Below.trans (by first | exact HBc1.out | exact HBc1.out.drew) (Below.mono b2 (by first | exact HBc1.out.size | exact HBc1.out.drew.size)); have f0 : v2.cell? ⟨bx, 0, none⟩ = some (.string pk) := A2.cell 0; have f1 : v2.cell? ⟨bx, 1, none⟩ = some (.string pv) := A2.cell 1; have f2 : v2.cell? ⟨w.heap.size, i * 2, none⟩ = some (.string pk) := PB.at0 P2 HPP.out; have f3 : v2.cell? ⟨w.heap.size, i * 2 + 1, none⟩ = some (.string pv) := PB.at1 P2 HPP.out; have f4 : v2.frozen? ⟨w.heap.size, i * 2, none⟩ = false := At.fz P2 _; have f5 : v2.frozen? ⟨w.heap.size, i * 2 + 1, none⟩ = false := At.fz P2 _; have HPc2 := Lib.hid P2; have HAc2 := Lib.hid A2; have HBc2 := Lib.hid BB2; clear P2 A2 BB2 b2))
              | (go_at_call 54; ((with_reducible refine (C1.out _).mono ?_); rintro e1 v1 ⟨rfl, b1⟩; have P1 : PB v1 w.heap.size R := PB.reads (by exact HP5.out) b1; have A1 : At v1 bx #[.string pk, .string pv] 44 := At.reads (by exact HA5.out) b1; have BB1 : Below w.heap.size w v1 := Below.trans (by first | exact HB5.out | exact HB5.out.drew) (Below.mono b1 (by first | exact HB5.out.size | exact HB5.out.drew.size)); have f0 : v1.cell? ⟨bx, 0, none⟩ = some (.string pk) := A1.cell 0; have f1 : v1.cell? ⟨bx, 1, none⟩ = some (.string pv) := A1.cell 1; have f2 : v1.cell? ⟨w.heap.size, i * 2, none⟩ = some (.string pk) := PB.at0 P1 HPP.out; have f3 : v1.cell? ⟨w.heap.size, i * 2 + 1, none⟩ = some (.string pv) := PB.at1 P1 HPP.out; have f4 : v1.frozen? ⟨w.heap.size, i * 2, none⟩ = false := At.fz P1 _; have f5 : v1.frozen? ⟨w.heap.size, i * 2 + 1, none⟩ = false := At.fz P1 _; have HPc1 := Lib.hid P1; have HAc1 := Lib.hid A1; have HBc1 := Lib.hid BB1; clear P1 A1 BB1 b1))
              | (go_at_call 54; ((with_reducible refine (C2.out _).mono ?_); rintro e1 v1 ⟨rfl, b1⟩; have P1 : PB v1 w.heap.size R := PB.reads (by exact HP5.out) b1; have A1 : At v1 bx #[.string pk, .string pv] 44 := At.reads (by exact HA5.out) b1; have BB1 : Below w.heap.size w v1 := Below.trans (by first | exact HB5.out | exact HB5.out.drew) (Below.mono b1 (by first | exact HB5.out.size | exact HB5.out.drew.size)); have f0 : v1.cell? ⟨bx, 0, none⟩ = some (.string pk) := A1.cell 0; have f1 : v1.cell? ⟨bx, 1, none⟩ = some (.string pv) := A1.cell 1; have f2 : v1.cell? ⟨w.heap.size, i * 2, none⟩ = some (.string pk) := PB.at0 P1 HPP.out; have f3 : v1.cell? ⟨w.heap.size, i * 2 + 1, none⟩ = some (.string pv) := PB.at1 P1 HPP.out; have f4 : v1.frozen? ⟨w.heap.size, i * 2, none⟩ = false := At.fz P1 _; have f5 : v1.frozen? ⟨w.heap.size, i * 2 + 1, none⟩ = false := At.fz P1 _; have HPc1 := Lib.hid P1; have HAc1 := Lib.hid A1; have HBc1 := Lib.hid BB1; clear P1 A1 BB1 b1)))
            all_goals
              have PF := Lib.hid ((HPc2.out.same (pc10_at HPP.out).1).same (pc10_at HPP.out).2)
              have BF := Lib.hid ((HBc2.out.setCell (p := ⟨w.heap.size, i * 2, none⟩) (Nat.le_refl _) (.string pk)).setCell (p := ⟨w.heap.size, i * 2 + 1, none⟩) (Nat.le_refl _) (.string pv))
              clear HPc1 HPc2 HBc1 HBc2 HAc1 HAc2 f0 f1 f2 f3 f4 f5 HP5 HB5 HA5 C1 C2
              generalize (World.setCell (World.setCell _ ⟨w.heap.size, i * 2, none⟩ (.string pk)) ⟨w.heap.size, i * 2 + 1, none⟩ (.string pv)) = w9 at *
              go_wp2_with fail
              exact ⟨⟨i + 1, by omega, by go_num, PF.out, BF.out⟩, by simp [intOf]; omega⟩
          · have j1 : ¬ (i : Int) < (N : Int) := by omega
            have HF := Lib.hid (HFIN.out wr HPi.out HBi.out)
            clear HFIN HPi HBi
            go_wp2_with fail
            go_ret
            obtain ⟨h1, h2⟩ := HF.out
            exact ⟨some ⟨w.heap.size, 0, none⟩, N, by rw [HRN.out]; rfl, h1, h2⟩
end Go.Proofs.Ytajbnfobmnibjaa
