/-
  Package wal: the contract of readHalf.
  Package wal: readHalf, walked.
  Package wal: the contracts of greatestAge, newer, stand.
  Package wal: a log's state (IsL), and the contract of Open.
  Package wal: Open, walked.
-/
import Derived.Test.YthjlbfijfpfohaaGD
import Derived.Deep.DeepCutAuto
import Derived.Deep.CutBlock
import Derived.WalkMore
import Derived.Scope
import Derived.Deep.RegionHeld3
namespace Go.Proofs.Ythjlbfijfpfohaa
open Go.RowKit

/-- all pages as they stand -/
def rawsOf (S : List ByteArray) (Ws : Wrs) : List ByteArray := S.mapIdx (fun k s => rawAt Ws k s)
theorem rawsOf_length (S : List ByteArray) (Ws : Wrs) : (rawsOf S Ws).length = S.length := by simp [rawsOf]
theorem rawsOf_get (S : List ByteArray) (Ws : Wrs) (k : Nat) : (rawsOf S Ws)[k]? = S[k]?.map (fun s => rawAt Ws k s) := by simp [rawsOf]
theorem rawsOf_nil (S : List ByteArray) : rawsOf S [] = S := by
  apply List.ext_getElem?
  intro k
  rw [rawsOf_get]
  cases S[k]? <;> rfl
theorem halfL_raw {S : List ByteArray} {Ws : Wrs} {h k : Nat} {s : ByteArray} (hk : k < S.length / 2) (hs : S[h * (S.length / 2) + k]? = some s) : (halfL (rawsOf S Ws) h)[k]? = some (pgLeaf (rawAt Ws (h * (S.length / 2) + k) s) k) := by
  rw [halfL_get _ _ _ (by rw [rawsOf_length]; exact hk), rawsOf_length, List.getD_eq_getElem?_getD, rawsOf_get, hs]; rfl
abbrev contT : TypeId := 69
abbrev contV (ag n : Nat) (v : Value) : Array Value := #[.int .i64 (ag : Int), .int .i64 (n : Int), v]
/-- what readHalf holds -/
structure HalfSt (w wr : World) (o : Nat → Nat) (Br Bc : Nat) (u v : Value) (n ag : Nat) (C : List ByteArray) (t : List UInt8) : Prop where
  since : Since w o wr
  atC : At wr Bc (contV ag n v) contT
  atR : At wr Br (contV 0 0 (.slice none 0 0)) contT
  ownC : o Bc = 3
  ownR : o Br = 3
  recs : RowS wr o 1 v C
  text : RowB wr o 2 u t
  geR : w.heap.size ≤ Br
  geC : w.heap.size ≤ Bc
  ne : Br ≠ Bc
section
variable {w wr w' : World} {o o' : Nat → Nat} {Br Bc : Nat} {u v u' v' : Value} {n ag : Nat} {C C' : List ByteArray} {t t' : List UInt8}
theorem HalfSt.reads (h : HalfSt w wr o Br Bc u v n ag C t) (b : Below wr.heap.size wr w') : HalfSt w w' o Br Bc u v n ag C t :=
  ⟨h.since.reads b, h.atC.reads b, h.atR.reads b, h.ownC, h.ownR, Row.reads h.recs b, Row.reads h.text b, h.geR, h.geC, h.ne⟩
theorem at_other {B i : Nat} {cs : Array Value} {T : TypeId} (h : At wr B cs T) (s : Stp o i wr o' w') (hne : o B ≠ i) : At w' B cs T := (s.blk B h.lt hne).trans h
theorem own_other {B i j : Nat} {cs : Array Value} {T : TypeId} (h : At wr B cs T) (ho : o B = j) (s : Stp o i wr o' w') : o' B = j := (s.own B h.lt).trans ho
theorem HalfSt.texts (h : HalfSt w wr o Br Bc u v n ag C t) (s : Stp o 2 wr o' w') (ht : RowB w' o' 2 u' t') : HalfSt w w' o' Br Bc u' v n ag C t' :=
  ⟨h.since.step s (by decide), at_other h.atC s (by rw [h.ownC]; decide), at_other h.atR s (by rw [h.ownR]; decide), own_other h.atC h.ownC s, own_other h.atR h.ownR s, Row.other h.recs s (by decide), ht, h.geR, h.geC, h.ne⟩
theorem HalfSt.texts' {uo : Value} {lo : List UInt8} (h : HalfSt w wr o Br Bc u v n ag C t) (s : Stp o 2 wr o' w') (ht : RowB w' o' 2 u' t') (_ : RowB wr o 2 uo lo) : HalfSt w w' o' Br Bc u' v n ag C t' := h.texts s ht
theorem HalfSt.set (h : HalfSt w wr o Br Bc u v n ag C t) (k : Nat) (x : Value) (n' ag' : Nat) (v' : Value) (hx : (contV ag n v).setIfInBounds k x = contV ag' n' v') (hr : RowS wr o 1 v' C') : HalfSt w (wr.setCell ⟨Bc, k, none⟩ x) o Br Bc u v' n' ag' C' t := by
  have hs := Stp.setCell o 3 wr Bc k x h.ownC
  exact ⟨h.since.step hs (by decide), by have := h.atC.set k x; rw [hx] at this; exact this, h.atR.setOther k x (fun e => h.ne e.symm), h.ownC, h.ownR, Row.other hr hs (by decide), Row.other h.text hs (by decide), h.geR, h.geC, h.ne⟩
/-- .. while a call is under way that has the records -/
theorem HalfSt.took (h : HalfSt w wr o Br Bc u v n ag C t) (s : Stp o 1 wr o' w') (hr : RowS w' o' 1 v' C') : HalfSt w (w'.setCell ⟨Bc, 2, none⟩ v') o' Br Bc u v' n ag C' t := by
  have hc := at_other h.atC s (by rw [h.ownC]; decide)
  have hR := at_other h.atR s (by rw [h.ownR]; decide)
  have oc := own_other h.atC h.ownC s
  have hs := Stp.setCell o' 3 w' Bc 2 v' oc
  exact ⟨(h.since.step s (by decide)).step hs (by decide), hc.set 2 v', hR.setOther 2 v' (fun e => h.ne e.symm), oc, own_other h.atR h.ownR s, Row.other hr hs (by decide), Row.other (Row.other h.text s (by decide)) hs (by decide), h.geR, h.geC, h.ne⟩
/-- .. and a leaf that was read -/
structure LeafSt (wr : World) (o : Nat → Nat) (Lb : Nat) (cs : Array Value) : Prop where
  at' : At wr Lb cs 100
  own : o Lb = 4
theorem LeafSt.other {Lb i : Nat} {cs : Array Value} (h : LeafSt wr o Lb cs) (s : Stp o i wr o' w') (hi : i ≠ 4) : LeafSt w' o' Lb cs := ⟨at_other h.at' s (by rw [h.own]; exact fun e => hi e.symm), own_other h.at' h.own s⟩
theorem HalfSt.leaf (h : HalfSt w wr o Br Bc u v n ag C t) (cs : Array Value) : HalfSt w (wr.alloc (.cells cs 100)) (gives o wr.heap.size 4) Br Bc u v n ag C t ∧ LeafSt (wr.alloc (.cells cs 100)) (gives o wr.heap.size 4) wr.heap.size cs := by
  have hs := stp_new o 4 wr (.cells cs 100)
  have hb : Below wr.heap.size wr (wr.alloc (.cells cs 100)) := (Below.refl _ wr).alloc (Nat.le_refl _) _
  exact ⟨⟨h.since.step hs (by decide), h.atC.reads hb, h.atR.reads hb, own_other h.atC h.ownC hs, own_other h.atR h.ownR hs, Row.other h.recs hs (by decide), Row.other h.text hs (by decide), h.geR, h.geC, h.ne⟩, ⟨At.new _ _ _, gives_new (Nat.le_refl _)⟩⟩
theorem HalfSt.setStp (h : HalfSt w wr o Br Bc u v n ag C t) (k : Nat) (x : Value) : Stp o 3 wr o (wr.setCell ⟨Bc, k, none⟩ x) := Stp.setCell o 3 wr Bc k x h.ownC
/-- text[:0] -/
theorem RowB.cut0 (h : RowB wr o 2 u t) : ∃ u0, (Instr.slice 91 u none (some (.int .i64 0)) none).run Try.prog wr = .ok u0 wr ∧ RowB wr o 2 u0 [] := by
  rcases h.val with ⟨rfl, e, h2⟩ | ⟨g, D, rfl, _, _, hc, _⟩
  · exact ⟨.slice none 0 0, by simp [go_sem, Instr.slice], Row.nil _ _ _ _ _⟩
  · refine ⟨.slice (some ⟨g, 0, none⟩) 0 D, by simp [go_sem, Instr.slice], ⟨?_, fun k hk => h.own k (by rw [← hk]; rfl)⟩⟩
    rcases h.row.2 with ⟨e, _⟩ | ⟨g', cap, cur, e, h1, h2, h3, h4, h5, h6⟩
    · cases e
    · cases e
      exact ⟨rfl, .inr ⟨g, D, cur, rfl, h1, h2, Nat.zero_le _, h4, h5, by simp [Lib.byteCells]⟩⟩
end
end Go.Proofs.Ythjlbfijfpfohaa

namespace Go.Proofs.Ythjlbfijfpfohaa
open Go.RowKit
section
variable {w : World} {o : Nat → Nat} {q p : Nat} {S : List ByteArray} {Ws : Wrs}
/-- a row that was made since -/
structure NewS (w w' : World) (v : Value) (R : List ByteArray) : Prop where
  row : w'.ownsRow 0 9 1 v R.length (R.map Value.string)
  new : ∀ g, v.ownBlock = some g → w.heap.size ≤ g
theorem NewS.own {w w' : World} {v : Value} {R : List ByteArray} (h : NewS w w' v R) (o : Nat → Nat) (j : Nat) : RowS w' (gives o w.heap.size j) j v R := ⟨h.row, fun g hg => gives_new (h.new g hg)⟩
theorem NewS.reads {w w' w2 : World} {v : Value} {R : List ByteArray} (h : NewS w w' v R) (b : Below w'.heap.size w' w2) : NewS w w2 v R := ⟨ownsRow_same h.row (fun g hg => b.block g (h.row.lt g hg).2), h.new⟩
theorem NewS.since {w0 w w' : World} {v : Value} {R : List ByteArray} (h : NewS w w' v R) (b : w0.heap.size ≤ w.heap.size) : NewS w0 w' v R := ⟨h.row, fun g hg => Nat.le_trans b (h.new g hg)⟩
theorem NewS.slice {w w' : World} {v : Value} {R : List ByteArray} (h : NewS w w' v R) : ∃ a C, v = .slice a R.length C ∧ Strs w' a R := RowS.slice (h.own (fun _ => 0) 1)
theorem NewS.grown {w w' w2 : World} {v : Value} {R : List ByteArray} {g : Nat} (h : NewS w w' v R) (k : w'.grownBy w2 (some g)) (hne : v.ownBlock ≠ some g) : NewS w w2 v R := ⟨ownsRow_same h.row (fun i hi => k.block i (h.row.lt i hi).2 (fun e => hne (by rw [hi, e]))), h.new⟩
theorem half_start (w : World) : HalfSt w ((w.alloc (.cells (contV 0 0 (.slice none 0 0)) contT)).alloc (.cells (contV 0 0 (.slice none 0 0)) contT)) (gives (fun _ => 0) w.heap.size 3) w.heap.size (w.heap.size + 1) (.slice none 0 0) (.slice none 0 0) 0 0 [] [] := by
  have b1 : Below w.heap.size w (w.alloc (.cells (contV 0 0 (.slice none 0 0)) contT)) := (Below.refl _ w).alloc (Nat.le_refl _) _
  have a1 := At.new w (contV 0 0 (.slice none 0 0)) contT
  have b2 := b1.alloc b1.size (.cells (contV 0 0 (.slice none 0 0)) contT)
  have a2 := At.new (w.alloc (.cells (contV 0 0 (.slice none 0 0)) contT)) (contV 0 0 (.slice none 0 0)) contT
  have hsz : (w.alloc (.cells (contV 0 0 (.slice none 0 0)) contT)).heap.size = w.heap.size + 1 := by simp
  rw [hsz] at a2
  exact ⟨⟨b2, fun k hk => gives_old hk⟩, a2, a1.reads ((Below.refl _ _).alloc (Nat.le_refl _) _), gives_new (by omega), gives_new (Nat.le_refl _), Row.nil _ _ _ _ _, Row.nil _ _ _ _ _, Nat.le_refl _, by omega, by omega⟩
set_option maxRecDepth 100000 in
set_option maxHeartbeats 4000000 in
theorem wreadHalf (H : IsD w o q p S Ws) (h f m : Nat) (hh : h < 2) (hm : S.length / 2 = m) (hf : h * m = f) :
    Calls Try.prog 31 #[.pointer (some ⟨p, 0, none⟩), .int .i64 (f : Int), .int .i64 (m : Int)] w fun e w' => ∃ v, e = .returned (.agg (contV (ageH (halfL (rawsOf S Ws) h)) (pgsH (halfL (rawsOf S Ws) h)) v)) ∧ NewS w w' v ((outH (halfL (rawsOf S Ws) h)).map bt) ∧ Below w.heap.size w w' := by
  have hn2 := H.n2
  have hm5 : m ≤ 512 := by omega
  have hf5 : f ≤ 512 := by
    rcases (show h = 0 ∨ h = 1 by omega) with rfl | rfl <;> omega
  obtain ⟨L, hL⟩ : ∃ L, halfL (rawsOf S Ws) h = L := ⟨_, rfl⟩
  have hLl : L.length = m := by rw [← hL, halfL_length, rawsOf_length, hm]
  have hRd : ∀ k, k < m → ∃ s, S[f + k]? = some s ∧ L[k]? = some (pgLeaf (rawAt Ws (f + k) s) k) := fun k hk => by
    have hin := half_in S.length h k hh (by rw [hm]; exact hk)
    rw [hm, hf] at hin
    refine ⟨_, List.getElem?_eq_getElem hin, ?_⟩
    rw [← hL]
    have := halfL_raw (S := S) (Ws := Ws) (h := h) (k := k) (s := S[f + k]) (by rw [hm]; exact hk) (by rw [hm, hf]; exact List.getElem?_eq_getElem hin)
    rw [hm, hf] at this; exact this
  have hag : Aged L := by rw [← hL]; exact halfL_aged _ _
  obtain ⟨ag, hA⟩ : ∃ a, ageH L = a := ⟨_, rfl⟩
  obtain ⟨pg, hP⟩ : ∃ a, pgsH L = a := ⟨_, rfl⟩
  obtain ⟨RR, hRR⟩ : ∃ a, (outH L).map bt = a := ⟨_, rfl⟩
  rw [hL, hA, hP, hRR]
  have HRd := Lib.hid hRd; have HAg := Lib.hid hag; have HA := Lib.hid hA; have HP := Lib.hid hP; have HRR := Lib.hid hRR
  have HD := Lib.hid H
  have HS0 := Lib.hid (half_start w)
  clear hRd hag hA hP hRR H hL hm hf
  generalize hBr : w.heap.size = Br at *
  generalize hBc : Br + 1 = Bc at *
  go_enter Try.func31, Try.ntmps31
  go_wp2_with fail
  go_step3
  go_wp2_with fail
  go_step3
  go_upto_block 0 with fail
  go_cut [8] (fun x wx => ∃ (o1 : Nat → Nat) (v : Value) (C : List ByteArray) (t : List UInt8), HalfSt w wx o1 Br Bc x v pg ag C t ∧ Told L t C ag pg ∧ 3 * C.length + t.length ≤ 300000)
  case first =>
    go_wp2_with fail
    go_loopw [8, 9, 14] (fun x y i wr => ∃ (k a g : Nat) (o1 : Nat → Nat) (v : Value) (C : List ByteArray) (t : List UInt8), i = .int .i64 (k : Int) ∧ y = .int .i64 (a : Int) ∧ HalfSt w wr o1 Br Bc x v k g C t ∧ ScanAt L k a t C ∧ 3 * C.length + t.length ≤ 234 * k ∧ (k = 0 → a = 0 ∧ g = 0) ∧ (1 ≤ k → g = ag)) (fun _ _ i _ => m - (intOf i).toNat)
    case atStart => exact ⟨0, 0, 0, _, _, [], [], rfl, rfl, HS0.out, ScanAt.zero L, by simp, fun _ => ⟨rfl, rfl⟩, fun h => by omega⟩
    case round =>
      obtain ⟨k, a, g, o1, v, C, t, rfl, rfl, hH, hSc, hz, hk0, hk1⟩ := hrel
      have HH := Lib.hid hH; have HSc := Lib.hid hSc; have HK0 := Lib.hid hk0; have HK1 := Lib.hid hk1
      have hkm : k ≤ m := by have := hSc.1; omega
      clear hH hSc hk0 hk1 HS0
      by_cases hlt : k < m
      · have hlt' : (k : Int) < (m : Int) := by omega
        obtain ⟨s, hs1, hs2⟩ := HRd.out k hlt
        have C1 := Lib.hid (wreadLeaf (HD.out.reads (by rw [hBr]; have := HH.out.since.bel; rw [hBr] at this; exact this)) (f + k) k s hs1 (by omega))
        have hXf : ∀ y, pgLeaf (rawAt Ws (f + k) s) k = some y → y.s.length ≤ 234 ∧ y.age < 281474976710656 := fun y e => by
          have ht := pgLeaf_tags e
          refine ⟨ht.2.2.2, ?_⟩
          rw [← ht.1]; unfold tgA tagA
          exact Nat.lt_of_lt_of_le (leNat_lt _) (Nat.le_trans (Nat.pow_le_pow_right (by omega) (show _ ≤ 6 by rw [List.length_take]; omega)) (by decide))
        have HXf := Lib.hid hXf
        clear hXf
        generalize pgLeaf (rawAt Ws (f + k) s) k = X at *
        have HX := Lib.hid hs2
        clear hs2 hs1
        rw [Int.natCast_add] at C1
        cases X with
        | none =>
          simp only [leafV, Option.isSome] at C1
          have hst := HSc.out.stop HX.out (fun y e => by cases e)
          have hge : g = ag := by
            rcases Nat.eq_zero_or_pos k with h0 | h0
            · obtain ⟨_, e2⟩ := HK0.out h0
              subst h0
              rw [e2, ← HA.out]; exact (age_none (fun y e => by rw [HX.out] at e; cases e)).symm
            · exact HK1.out h0
          have hTd := Lib.hid (told_of hst (by rw [HA.out, ← hge]))
          have hpk : pg = k := by rw [← HP.out]; exact hTd.out.pgs
          go_wp2_with fail
          refine C1.out.mono ?_; rintro e w1 ⟨rfl, b1⟩
          have H1 := Lib.hid ((HH.out.reads b1).leaf #[.int .i64 0, .int .i64 0, .bool false, .string ⟨#[]⟩])
          clear b1
          go_wp2_with fail
          go_meet
          subst hge hpk
          exact ⟨_, v, C, t, H1.out.1, hTd.out, by omega⟩
        | some y =>
          simp only [leafV, Option.isSome] at C1
          have hya : 1 ≤ y.age := HAg.out y (List.mem_of_getElem? HX.out)
          have hys : (bt y.s).size ≤ 234 := by rw [bt_size]; exact (HXf.out y rfl).1
          have hyt : y.age < 281474976710656 := (HXf.out y rfl).2
          obtain ⟨ya, yb, ys⟩ := y
          simp only at C1 hya hys hyt
          have hbl : bl (bt ys) = ys := bl_bt ys
          obtain ⟨sy, hsy⟩ : ∃ s, bt ys = s := ⟨_, rfl⟩
          rw [hsy] at C1 hys hbl
          go_wp2_with fail
          refine C1.out.mono ?_; rintro e w1 ⟨rfl, b1⟩
          obtain ⟨H1a, H1b⟩ := (HH.out.reads b1).leaf #[.int .i64 (ya : Int), .int .i64 (k : Int), .bool yb, .string sy]
          have H1 := Lib.hid H1a; have L1 := Lib.hid H1b
          go_upto_region 8 with fail
          clear b1 H1a H1b C1 HH
          generalize w1.alloc (.cells #[.int .i64 (ya : Int), .int .i64 (k : Int), .bool yb, .string sy] 100) = W2 at *
          generalize gives o1 w1.heap.size 4 = o2 at *
          generalize w1.heap.size = Lb at *
          have k0 : W2.cell? ⟨Lb, 0, none⟩ = some (.int .i64 (ya : Int)) := L1.out.at'.cell 0
          have k2 : W2.cell? ⟨Lb, 2, none⟩ = some (.bool yb) := L1.out.at'.cell 2
          have k3 : W2.cell? ⟨Lb, 3, none⟩ = some (.string sy) := L1.out.at'.cell 3
          by_cases c1 : ya < a
          · have c1' : (ya : Int) < (a : Int) := by omega
            have hst := HSc.out.stop HX.out (fun y e => by cases e; exact .inl c1)
            have h0 : 1 ≤ k := by
              rcases Nat.eq_zero_or_pos k with h0 | h0
              · have := (HK0.out h0).1; omega
              · exact h0
            have hge : g = ag := HK1.out h0
            have hTd := Lib.hid (told_of hst (by rw [HA.out, ← hge]))
            have hpk : pg = k := by rw [← HP.out]; exact hTd.out.pgs
            go_wp2_with fail
            go_meet
            subst hge hpk
            exact ⟨_, v, C, t, H1.out, hTd.out, by omega⟩
          · have c1' : ¬ (ya : Int) < (a : Int) := by omega
            by_cases c2 : a < ya
            · have c2' : (a : Int) < (ya : Int) := by omega
              cases yb with
              | false =>
                have hst := HSc.out.stop HX.out (fun y e => by cases e; exact .inr ⟨c2, rfl⟩)
                have hge : g = ag := by
                  rcases Nat.eq_zero_or_pos k with h0 | h0
                  · obtain ⟨_, e2⟩ := HK0.out h0
                    subst h0
                    rw [e2, ← HA.out]; exact (age_none (fun y e => by rw [HX.out] at e; cases e; rfl)).symm
                  · exact HK1.out h0
                have hTd := Lib.hid (told_of hst (by rw [HA.out, ← hge]))
                have hpk : pg = k := by rw [← HP.out]; exact hTd.out.pgs
                go_wp2_with fail
                go_meet
                subst hge hpk
                exact ⟨_, v, C, t, H1.out, hTd.out, by omega⟩
              | true =>
                obtain ⟨C3, hC3⟩ : ∃ X, C ++ partS t = X := ⟨_, rfl⟩
                have hCl : 3 * C3.length ≤ 3 * C.length + t.length := by
                  rw [← hC3, List.length_append]
                  have := partS_length t.length t (Nat.le_refl _); omega
                have hnew := Lib.hid (show ScanAt L (k + 1) ya ys C3 by rw [← hC3]; exact HSc.out.new HX.out c2 rfl)
                have hw := wwhole H1.out.recs H1.out.text (by omega)
                rw [hC3] at hw
                have C3' := Lib.hid hw
                have v2 : W2.cell? ⟨Bc, 2, none⟩ = some v := H1.out.atC.cell 2
                clear hw hC3
                go_upto_region 11 with fail
                go_wp2_with fail
                refine C3'.out.mono ?_; rintro e w3 ⟨v3, rfl, o3, hr3, s3⟩
                obtain ⟨a3, D3, e3, _⟩ := hr3.slice
                have zc : w3.frozen? ⟨Bc, 2, none⟩ = false := (at_other H1.out.atC s3 (by rw [H1.out.ownC]; decide)).fz 2
                have zv : w3.cell? ⟨Bc, 2, none⟩ = some v := (at_other H1.out.atC s3 (by rw [H1.out.ownC]; decide)).cell 2
                have HQ0 := H1.out.took s3 hr3
                have LQ0 := (L1.out.other s3 (by decide)).other (Stp.setCell o3 3 w3 Bc 2 v3 (own_other H1.out.atC H1.out.ownC s3)) (by decide)
                have HQ := Lib.hid HQ0; have LQ := Lib.hid LQ0
                subst e3
                clear HQ0 LQ0 v2 k0 k2 k3 C3' hr3 s3
                go_upto_region 12 with fail
                clear zc zv
                generalize w3.setCell ⟨Bc, 2, none⟩ (.slice a3 C3.length D3) = WQ at *
                obtain ⟨u0, hcut0, hT5⟩ := RowB.cut0 HQ.out.text
                have hTq := Lib.hid hT5
                have hys2 : ys.length ≤ 234 := by rw [← hbl, bl_length]; exact hys
                obtain ⟨u5, w5, o5, hap, hr5, s5⟩ := RowB.append hT5 sy (by (try simp only [List.length_nil]); omega)
                rw [hbl, List.nil_append] at hr5
                have H5 := Lib.hid (HQ.out.texts' s5 hr5 hTq.out)
                have L5 := Lib.hid (LQ.out.other s5 (by decide))
                have HAP := Lib.hid hap
                clear hap hr5 s5 hT5
                have q3 : WQ.cell? ⟨Lb, 3, none⟩ = some (.string sy) := LQ.out.at'.cell 3
                go_wp2_with (at_builtin; refine wpList_append_run rfl (.tmp 61) (.tmp 63) _ _ rfl _ _ rfl rfl _ _ HAP.out ?_; clear q3; have q0 : w5.cell? ⟨Lb, 0, none⟩ = some (.int .i64 (ya : Int)) := L5.out.at'.cell 0; have qa := H5.out.atC.cell 0; have qb := H5.out.atC.cell 1; have za := H5.out.atC.fz 0; have zb := H5.out.atC.fz 1)
                · rename_i hb0
                  simp only [beq_iff_eq] at hb0
                  by_cases h0 : k = 0
                  · have hag : ya = ag := by
                      rw [← HA.out]; exact (age_first (by rw [← h0]; exact HX.out) rfl).symm
                    have H6 := H5.out.set 0 (.int .i64 (ya : Int)) k ya _ rfl H5.out.recs
                    exact ⟨⟨k + 1, ya, ya, o5, _, C3, ys, by go_num, rfl, H6.set 1 _ (k + 1) ya _ rfl H6.recs, hnew.out, by (try simp only [List.length_append]); omega, fun h => by omega, fun _ => hag⟩, by simp [intOf]; omega⟩
                  · exfalso; omega
                · rename_i hb0
                  simp only [ne_eq, beq_eq_false_iff_ne] at hb0
                  by_cases h0 : k = 0
                  · exfalso; omega
                  · exact ⟨⟨k + 1, ya, g, o5, _, C3, ys, by go_num, rfl, H5.out.set 1 _ (k + 1) g _ rfl H5.out.recs, hnew.out, by (try simp only [List.length_append]); omega, fun h => by omega, fun _ => HK1.out (by omega)⟩, by simp [intOf]; omega⟩
            · obtain rfl : ya = a := by omega
              have hk1 : 1 ≤ k := by
                rcases Nat.eq_zero_or_pos k with h0 | h0
                · have := (HK0.out h0).1; omega
                · exact h0
              have hnew := Lib.hid (HSc.out.same HX.out rfl)
              have hT5 := H1.out.text
              have hTq := Lib.hid hT5
              have HQ := H1; have LQ := L1
              obtain ⟨WQ, hWQ⟩ : ∃ W, W2 = W := ⟨_, rfl⟩
              subst hWQ
              clear k0 k2 k3
              have k0 : W2.cell? ⟨Lb, 0, none⟩ = some (.int .i64 (ya : Int)) := L1.out.at'.cell 0
              have hys2 : ys.length ≤ 234 := by rw [← hbl, bl_length]; exact hys
              obtain ⟨u5, w5, o5, hap, hr5, s5⟩ := RowB.append hT5 sy (by (try simp only [List.length_nil]); omega)
              rw [hbl] at hr5
              have H5 := Lib.hid (HQ.out.texts' s5 hr5 hTq.out)
              have L5 := Lib.hid (LQ.out.other s5 (by decide))
              have HAP := Lib.hid hap
              clear hap hr5 s5 hT5
              have q3 : W2.cell? ⟨Lb, 3, none⟩ = some (.string sy) := LQ.out.at'.cell 3
              go_wp2_with (at_builtin; refine wpList_append_run rfl (.tmp 61) (.tmp 63) _ _ rfl _ _ rfl rfl _ _ HAP.out ?_; clear q3; have q0 : w5.cell? ⟨Lb, 0, none⟩ = some (.int .i64 (ya : Int)) := L5.out.at'.cell 0; have qa := H5.out.atC.cell 0; have qb := H5.out.atC.cell 1; have za := H5.out.atC.fz 0; have zb := H5.out.atC.fz 1)
              exact ⟨⟨k + 1, ya, g, o5, _, C, (t ++ ys), by go_num, rfl, H5.out.set 1 _ (k + 1) g _ rfl H5.out.recs, hnew.out, by (try simp only [List.length_append]); omega, fun h => by omega, fun _ => HK1.out (by omega)⟩, by simp [intOf]; omega⟩
      · obtain rfl : k = m := by omega
        have hst := (show ScanAt L L.length a t C by rw [hLl]; exact HSc.out).all
        have hge : g = ag := by
          rcases Nat.eq_zero_or_pos k with h0 | h0
          · obtain ⟨_, e2⟩ := HK0.out h0
            have hnil : L = [] := List.eq_nil_of_length_eq_zero (by omega)
            rw [e2, ← HA.out, hnil]; rfl
          · exact HK1.out h0
        have hTd := Lib.hid (told_of hst (by rw [HA.out, ← hge]))
        have hpk : pg = k := by rw [← HP.out, ← hLl]; exact hTd.out.pgs
        go_wp2_with fail
        go_meet
        subst hge hpk
        exact ⟨_, v, C, t, HH.out, by rw [← hLl] at *; exact hTd.out, by omega⟩
  case rest =>
    obtain ⟨o1, v, C, t, hH, hT, hz⟩ := hcut
    have hw := wwhole hH.recs hH.text hz
    have hC3 : C ++ partS t = RR := by rw [← hT.out]; exact HRR.out
    rw [hC3] at hw
    have CW := Lib.hid hw
    have HH := Lib.hid hH
    have v2 : wc.cell? ⟨Bc, 2, none⟩ = some v := hH.atC.cell 2
    clear hw hH hT hC3 HS0 HRR HP HA HRd HAg hz
    go_wp2_with fail
    refine CW.out.mono ?_; rintro e w3 ⟨v3, rfl, o3, hr3, s3⟩
    obtain ⟨a3, D3, e3, _⟩ := hr3.slice
    have zc : w3.frozen? ⟨Bc, 2, none⟩ = false := (at_other HH.out.atC s3 (by rw [HH.out.ownC]; decide)).fz 2
    have zv : w3.cell? ⟨Bc, 2, none⟩ = some v := (at_other HH.out.atC s3 (by rw [HH.out.ownC]; decide)).cell 2
    have HQ := Lib.hid (HH.out.took s3 hr3)
    subst e3
    clear v2 CW hr3 s3
    go_upto_region 20 with fail
    clear zc zv
    generalize w3.setCell ⟨Bc, 2, none⟩ (.slice a3 RR.length D3) = W3 at *
    have c0 : W3.cell? ⟨Bc, 0, none⟩ = some (.int .i64 (ag : Int)) := HQ.out.atC.cell 0
    have c1 : W3.cell? ⟨Bc, 1, none⟩ = some (.int .i64 (pg : Int)) := HQ.out.atC.cell 1
    have c2 : W3.cell? ⟨Bc, 2, none⟩ = some (.slice a3 RR.length D3) := HQ.out.atC.cell 2
    have d0 := HQ.out.atR.cell 0; have d1 := HQ.out.atR.cell 1; have d2 := HQ.out.atR.cell 2
    have z0 := HQ.out.atR.fz 0; have z1 := HQ.out.atR.fz 1; have z2 := HQ.out.atR.fz 2
    have hneq : Bc ≠ Br := fun e => HQ.out.ne e.symm
    have A3 := Lib.hid (HQ.out.atR.wrote3 (.int .i64 (ag : Int)) (.int .i64 (pg : Int)) (.slice a3 RR.length D3))
    go_wp2_with fail
    rw [Exit.noGoto_ret]
    have hge : ∀ g, (Value.slice a3 RR.length D3).ownBlock = some g → w.heap.size ≤ g := fun g hg => by
      rcases Nat.lt_or_ge g w.heap.size with h' | h'
      · have e1 := HQ.out.since.own g h'
        have e2 := HQ.out.recs.own g hg
        rw [e1] at e2; cases e2
      · exact h'
    have s4 := Stp.setCell o3 3 W3 Br 0 (.int .i64 (ag : Int)) HQ.out.ownR
    have s5 := s4.trans (Stp.setCell o3 3 _ Br 1 (.int .i64 (pg : Int)) HQ.out.ownR)
    have s6 := s5.trans (Stp.setCell o3 3 _ Br 2 (.slice a3 RR.length D3) HQ.out.ownR)
    have hb6 := (HQ.out.since.step s6 (by decide)).bel
    have hr6 := Row.other HQ.out.recs s6 (by decide)
    refine bodyPost_ret (v := .agg (contV ag pg (.slice a3 RR.length D3))) ?_ rfl ⟨_, rfl, ⟨hr6.row, hge⟩, by rw [hBr] at hb6; exact hb6⟩
    clear s4 s5 s6 hb6 hr6 hge
    obtain ⟨W, hW⟩ : ∃ W, put3 W3 Br (.int .i64 (ag : Int)) (.int .i64 (pg : Int)) (.slice a3 RR.length D3) = W := ⟨_, rfl⟩
    have DD := A3.out
    rw [hW] at DD
    unfold put3 at hW
    rw [hW]
    have f0 := DD.cell 0; have f1 := DD.cell 1; have f2 := DD.cell 2
    clear c0 c1 c2 d0 d1 d2 z0 z1 z2
    simp [results, Try.f31, go_sem, f0, f1, f2]
end
end Go.Proofs.Ythjlbfijfpfohaa

namespace Go.Proofs.Ythjlbfijfpfohaa
open Go.RowKit
section
variable {w : World} {o : Nat → Nat} {q p : Nat} {S : List ByteArray} {Ws : Wrs}
def mxT (m : Nat) (r : ByteArray) : Nat := max m (max (numL r 0 6) (numL r 244 6))
theorem maxTag_fold (R : List ByteArray) : maxTag R = R.foldl mxT 0 := rfl
theorem fold_take (R : List ByteArray) (k : Nat) (r : ByteArray) (h : R[k]? = some r) : (R.take (k + 1)).foldl mxT 0 = mxT ((R.take k).foldl mxT 0) r := by
  rw [List.take_add_one, h, Option.toList_some, List.foldl_append]; rfl
theorem fold_lt (R : List ByteArray) : ∀ m, m < 281474976710656 → R.foldl mxT m < 281474976710656 := by
  induction R with
  | nil => intro m h; exact h
  | cons r t ih =>
    intro m h
    refine ih _ ?_
    have h1 := numL_lt r 0 6
    have h2 := numL_lt r 244 6
    have e : (256 : Nat) ^ 6 = 281474976710656 := by decide
    unfold mxT; omega
set_option maxRecDepth 100000 in
set_option maxHeartbeats 2000000 in
theorem wgreatest (H : IsD w o q p S Ws) :
    Calls Try.prog 30 #[.pointer (some ⟨p, 0, none⟩)] w fun e w' => e = .returned (.int .i64 (maxTag (rawsOf S Ws) : Int)) ∧ Below w.heap.size w w' := by
  rw [maxTag_fold]
  obtain ⟨R, hR⟩ : ∃ R, rawsOf S Ws = R := ⟨_, rfl⟩
  have hRl : R.length = S.length := by rw [← hR]; exact rawsOf_length _ _
  have hRd : ∀ k, k < S.length → ∃ s r, S[k]? = some s ∧ rawAt Ws k s = r ∧ R[k]? = some r ∧ r.size = 256 := fun k hk => by
    refine ⟨S[k], _, List.getElem?_eq_getElem hk, rfl, ?_, rawAt_size Ws k _ (fun x hx => (H.ws x hx).2) (H.sz _ (List.getElem_mem hk))⟩
    rw [← hR, rawsOf_get, List.getElem?_eq_getElem hk]; rfl
  rw [hR]
  have hn2 := H.n2
  obtain ⟨M, hM⟩ : ∃ M, R.foldl mxT 0 = M := ⟨_, rfl⟩
  rw [hM]
  have HM := Lib.hid hM; have HRd := Lib.hid hRd; have HD := Lib.hid H
  have C0 := Lib.hid (d_len H)
  clear hM hRd H hR
  go_enter Try.func30, Try.ntmps30
  go_wp2_with fail
  refine C0.out.mono ?_; rintro e w0 ⟨rfl, rfl⟩
  go_wp2
  go_loopw [3, 8] (fun x i wr => ∃ k : Nat, k ≤ S.length ∧ i = .int .i64 (k : Int) ∧ x = .int .i64 (((R.take k).foldl mxT 0 : Nat) : Int) ∧ Below w.heap.size w wr) (fun _ i _ => S.length - (intOf i).toNat)
  case atStart => exact ⟨0, by omega, rfl, rfl, Below.refl _ _⟩
  case round =>
    obtain ⟨k, hk, rfl, rfl, hB⟩ := hrel
    have HB := Lib.hid hB
    by_cases hlt : k < S.length
    · have hlt' : (k : Int) < (S.length : Int) := by omega
      obtain ⟨s, r, h1, h2, h3, h4⟩ := HRd.out k hlt
      have C1 := d_raw (HD.out.reads hB) k s h1
      rw [h2] at C1
      have C1 := Lib.hid C1
      have hft := Lib.hid (show (R.take (k + 1)).foldl mxT 0 = max ((R.take k).foldl mxT 0) (max (numL r 0 6) (numL r 244 6)) from fold_take R k r h3)
      have CA := Lib.hid fun W => wnumber r 0 6 0 6 W rfl rfl (by omega) (by omega) (by omega) (by omega)
      have CB := Lib.hid fun W => wnumber r 244 6 244 6 W rfl rfl (by omega) (by omega) (by omega) (by omega)
      have hlA := numL_lt r 0 6; have hlB := numL_lt r 244 6
      have hl0 := fold_lt (R.take k) 0 (by omega)
      generalize numL r 0 6 = x at *
      generalize numL r 244 6 = y at *
      generalize (R.take k).foldl mxT 0 = z at *
      clear hB h1 h2 h3 C0
      go_wp2_with fail
      refine C1.out.mono ?_; rintro e w1 ⟨rfl, b1⟩
      have HB1 := Lib.hid (HB.out.trans (b1.mono HB.out.size))
      clear b1
      go_wp2_with fail
      refine (CA.out _).mono ?_; rintro e w2 ⟨rfl, rfl⟩
      go_wp2_with fail
      refine (CB.out _).mono ?_; rintro e w2 ⟨rfl, rfl⟩
      go_wp2
      refine ⟨⟨k + 1, by omega, by go_num, ?_, HB1.out⟩, by simp [intOf]; omega⟩
      rw [hft.out]
      congr 1
      (repeat' split) <;> omega
    · obtain rfl : k = S.length := by omega
      have hq : (R.take S.length).foldl mxT 0 = M := by rw [← hRl, List.take_length]; exact HM.out
      rw [hq]
      clear hB
      go_wp2
      go_ret
      exact ⟨rfl, HB.out⟩
end
set_option maxRecDepth 100000 in
set_option maxHeartbeats 1000000 in
theorem wnewer (w : World) (a1 p1 n1 a2 p2 n2 : Nat) (x y : Option Addr) (C D : Nat) (b : Bool) (hb : decide (0 < n2 ∧ (n1 = 0 ∨ a1 < a2)) = b) :
    Calls Try.prog 32 #[.agg (contV a2 p2 (.slice y n2 D)), .agg (contV a1 p1 (.slice x n1 C))] w fun e w' => e = .returned (.bool b) ∧ Below w.heap.size w w' := by
  have b1 : Below w.heap.size w (w.alloc (.cells (contV a2 p2 (.slice y n2 D)) contT)) := (Below.refl _ w).alloc (Nat.le_refl _) _
  have A1 := At.new w (contV a2 p2 (.slice y n2 D)) contT
  have b2 := b1.alloc b1.size (.cells (contV a1 p1 (.slice x n1 C)) contT)
  have A1' := A1.reads ((Below.refl _ _).alloc (Nat.le_refl _) (.cells (contV a1 p1 (.slice x n1 C)) contT))
  have A2 := At.new (w.alloc (.cells (contV a2 p2 (.slice y n2 D)) contT)) (contV a1 p1 (.slice x n1 C)) contT
  have B2 := Lib.hid b2
  have hsz : (w.alloc (.cells (contV a2 p2 (.slice y n2 D)) contT)).heap.size = w.heap.size + 1 := by simp
  rw [hsz] at A2
  have f0 : _ = some (Value.int .i64 (a2 : Int)) := A1'.cell 0
  have f2 : _ = some (Value.slice y n2 D) := A1'.cell 2
  have g0 : _ = some (Value.int .i64 (a1 : Int)) := A2.cell 0
  have g2 : _ = some (Value.slice x n1 C) := A2.cell 2
  clear b1 b2 A1 A1' A2 hsz
  go_enter Try.func32, Try.ntmps32
  go_upto_region 1 with fail
  generalize (w.alloc (.cells (contV a2 p2 (.slice y n2 D)) contT)).alloc (.cells (contV a1 p1 (.slice x n1 C)) contT) = W at *
  by_cases h2 : 0 < n2
  · have h2' : (0 : Int) < (n2 : Int) := by omega
    by_cases h1 : n1 = 0
    · have h1' : ((n1 : Int) == 0) = true := by simp [h1]
      rw [decide_eq_true ⟨h2, .inl h1⟩] at hb
      subst hb
      clear h1 h2
      go_wp2
      go_ret
      exact ⟨rfl, B2.out⟩
    · have h1' : ((n1 : Int) == 0) = false := by simp [h1]
      have hb2 : decide (a1 < a2) = b := by
        rw [← hb]
        by_cases h3 : a1 < a2
        · rw [decide_eq_true h3, decide_eq_true ⟨h2, .inr h3⟩]
        · rw [decide_eq_false h3, decide_eq_false (by omega)]
      clear h1 h2 hb
      go_wp2
      go_ret
      exact ⟨by rfl, B2.out⟩
  · have h2' : ¬ (0 : Int) < (n2 : Int) := by omega
    rw [decide_eq_false (fun h => h2 h.1)] at hb
    subst hb
    clear h2
    go_wp2
    go_ret
    exact ⟨rfl, B2.out⟩
/-- all but one block is as it was -/
theorem grow6_below {w w' : World} (h : Below w.heap.size w w') (g : Nat) : w.grownBy w' (some g) := ⟨h.os, h.tape, h.output, h.size, fun k hk _ => h.block k hk⟩
theorem grow6_set (w : World) (g k : Nat) (v : Value) : w.grownBy (w.setCell ⟨g, k, none⟩ v) (some g) := ⟨rfl, rfl, rfl, by simp [World.setCell], fun i _ hne => Below.heap_setCell _ _ _ _ (fun e => hne (by rw [e]))⟩
theorem grow6_trans {a b c : World} {g : Nat} (h : a.grownBy b (some g)) (k : b.grownBy c (some g)) : a.grownBy c (some g) := ⟨k.os.trans h.os, k.tape.trans h.tape, k.output.trans h.output, Nat.le_trans h.size k.size, fun i hi hne => (k.block i (Nat.lt_of_lt_of_le hi h.size) hne).trans (h.block i hi hne)⟩
/-- the ten cells of a log -/
abbrev logC (d sz hf ag pg re wr su wa nx : Value) : Array Value := #[d, sz, hf, ag, pg, re, wr, su, wa, nx]
set_option maxRecDepth 100000 in
set_option maxHeartbeats 2000000 in
theorem wstand (w : World) (g : Nat) (d sz hf ag pg re wr su wa nx : Value) (h a n k C : Nat) (x : Option Addr) (H : At w g (logC d sz hf ag pg re wr su wa nx) 67) :
    Calls Try.prog 33 #[.pointer (some ⟨g, 0, none⟩), .int .i64 (h : Int), .agg (contV a n (.slice x k C))] w fun e w' => e = .returned (.tuple #[]) ∧ At w' g (logC d sz (.int .i64 (h : Int)) ag (.int .i64 (n : Int)) (.slice x k C) (.int .i64 (k : Int)) (.int .i64 (k : Int)) wa (.pointer none)) 67 ∧ w.grownBy w' (some g) := by
  have hlt := H.lt
  have b1 : Below w.heap.size w (w.alloc (.cells (contV a n (.slice x k C)) contT)) := (Below.refl _ w).alloc (Nat.le_refl _) _
  have A1 := At.new w (contV a n (.slice x k C)) contT
  have H1 := H.reads b1
  have G1 := grow6_below b1 g
  have hne : g ≠ w.heap.size := Nat.ne_of_lt hlt
  have HG := Lib.hid G1
  go_enter Try.func33, Try.ntmps33
  go_upto_region 1 with fail
  generalize w.alloc (.cells (contV a n (.slice x k C)) contT) = W1 at *
  generalize w.heap.size = Bx at *
  have HA := Lib.hid A1; have HH := Lib.hid H1
  have c2 := H1.cell 2; have z2 := H1.fz 2
  clear H H1 A1 b1 G1
  go_upto_region 2 with fail
  have HA2 := Lib.hid (HA.out.setOther 2 (.int .i64 (h : Int)) hne); have HH2 := Lib.hid (HH.out.set 2 (.int .i64 (h : Int)))
  have HG2 := Lib.hid (grow6_trans HG.out (grow6_set W1 g 2 (.int .i64 (h : Int))))
  generalize W1.setCell ⟨g, 2, none⟩ (.int .i64 (h : Int)) = W2 at *
  clear c2 z2 HA HH HG
  have b1 : W2.cell? ⟨Bx, 1, none⟩ = some (.int .i64 (n : Int)) := HA2.out.cell 1
  have c4 := HH2.out.cell 4; have z4 := HH2.out.fz 4
  go_upto_region 3 with fail
  have HA3 := Lib.hid (HA2.out.setOther 4 (.int .i64 (n : Int)) hne); have HH3 := Lib.hid (HH2.out.set 4 (.int .i64 (n : Int)))
  have HG3 := Lib.hid (grow6_trans HG2.out (grow6_set W2 g 4 (.int .i64 (n : Int))))
  generalize W2.setCell ⟨g, 4, none⟩ (.int .i64 (n : Int)) = W3 at *
  clear b1 c4 z4 HA2 HH2 HG2
  have b2 : W3.cell? ⟨Bx, 2, none⟩ = some (.slice x k C) := HA3.out.cell 2
  have c5 := HH3.out.cell 5; have z5 := HH3.out.fz 5
  go_upto_region 4 with fail
  have HA4 := Lib.hid (HA3.out.setOther 5 (.slice x k C) hne); have HH4 := Lib.hid (HH3.out.set 5 (.slice x k C))
  have HG4 := Lib.hid (grow6_trans HG3.out (grow6_set W3 g 5 (.slice x k C)))
  generalize W3.setCell ⟨g, 5, none⟩ (.slice x k C) = W4 at *
  clear b2 c5 z5 HA3 HH3 HG3
  have b2 : W4.cell? ⟨Bx, 2, none⟩ = some (.slice x k C) := HA4.out.cell 2
  have c6 := HH4.out.cell 6; have z6 := HH4.out.fz 6
  go_upto_region 5 with fail
  have HA5 := Lib.hid (HA4.out.setOther 6 (.int .i64 (k : Int)) hne); have HH5 := Lib.hid (HH4.out.set 6 (.int .i64 (k : Int)))
  have HG5 := Lib.hid (grow6_trans HG4.out (grow6_set W4 g 6 (.int .i64 (k : Int))))
  generalize W4.setCell ⟨g, 6, none⟩ (.int .i64 (k : Int)) = W5 at *
  clear b2 c6 z6 HA4 HH4 HG4
  have b2 : W5.cell? ⟨Bx, 2, none⟩ = some (.slice x k C) := HA5.out.cell 2
  have c7 := HH5.out.cell 7; have z7 := HH5.out.fz 7
  go_upto_region 6 with fail
  have HH6 := Lib.hid (HH5.out.set 7 (.int .i64 (k : Int)))
  have HG6 := Lib.hid (grow6_trans HG5.out (grow6_set W5 g 7 (.int .i64 (k : Int))))
  generalize W5.setCell ⟨g, 7, none⟩ (.int .i64 (k : Int)) = W6 at *
  clear b2 c7 z7 HA5 HH5 HG5
  have c9 := HH6.out.cell 9; have z9 := HH6.out.fz 9
  go_wp2
  go_end0
  exact ⟨rfl, HH6.out.set 9 (.pointer none), grow6_trans HG6.out (grow6_set W6 g 9 (.pointer none))⟩
end Go.Proofs.Ythjlbfijfpfohaa

namespace Go.Proofs.Ythjlbfijfpfohaa
open Go.RowKit

/-- what a log has: its half, age, pages, records, how many of these were written, and stay; what a turn has laid -/
structure LogP where
  h : Nat
  A : Nat
  n : Nat
  R : List ByteArray
  wr : Nat
  su : Nat
  tu : Option ByteArray
def waitL (L : LogP) : Nat := (recsB (L.R.drop L.wr)).length
abbrev logV (p m : Nat) (L : LogP) (v nx : Value) : Array Value := logC (.pointer (some ⟨p, 0, none⟩)) (.int .i64 (m : Int)) (.int .i64 (L.h : Int)) (.int .i64 (L.A : Int)) (.int .i64 (L.n : Int)) v (.int .i64 (L.wr : Int)) (.int .i64 (L.su : Int)) (.int .i64 (waitL L : Int)) nx
/-- what a turn has laid, in memory -/
def NextAt (w : World) (o : Nat → Nat) (j : Nat) (nx : Value) : Option ByteArray → Prop
  | none => nx = .pointer none
  | some s => ∃ b v, nx = .pointer (some ⟨b, 0, none⟩) ∧ At w b (contV 0 (needOf (recsB [s]).length) v) contT ∧ o b = j ∧ RowS w o j v [s]
structure IsLv (w : World) (o : Nat → Nat) (j g p m : Nat) (L : LogP) (v nx : Value) : Prop where
  at' : At w g (logV p m L v nx) 67
  own : o g = j
  recs : RowS w o j v L.R
  next : NextAt w o j nx L.tu
def IsL (w : World) (o : Nat → Nat) (j g p m : Nat) (L : LogP) : Prop := ∃ v nx, IsLv w o j g p m L v nx
section
variable {w w' : World} {o o' : Nat → Nat} {i j g p m : Nat} {L : LogP} {v nx : Value}
theorem NextAt.other {t : Option ByteArray} (h : NextAt w o j nx t) (s : Stp o i w o' w') (hne : j ≠ i) : NextAt w' o' j nx t := by
  cases t with
  | none => exact h
  | some x =>
    obtain ⟨b, v, h1, h2, h3, h4⟩ := h
    exact ⟨b, v, h1, at_other h2 s (by rw [h3]; exact hne), own_other h2 h3 s, Row.other h4 s hne⟩
theorem NextAt.reads {t : Option ByteArray} (h : NextAt w o j nx t) (b : Below w.heap.size w w') : NextAt w' o j nx t := by
  cases t with
  | none => exact h
  | some x =>
    obtain ⟨c, v, h1, h2, h3, h4⟩ := h
    exact ⟨c, v, h1, h2.reads b, h3, Row.reads h4 b⟩
theorem IsLv.other (h : IsLv w o j g p m L v nx) (s : Stp o i w o' w') (hne : j ≠ i) : IsLv w' o' j g p m L v nx :=
  ⟨at_other h.at' s (by rw [h.own]; exact hne), own_other h.at' h.own s, Row.other h.recs s hne, h.next.other s hne⟩
theorem IsLv.reads (h : IsLv w o j g p m L v nx) (b : Below w.heap.size w w') : IsLv w' o j g p m L v nx := ⟨h.at'.reads b, h.own, Row.reads h.recs b, h.next.reads b⟩
theorem IsL.other (h : IsL w o j g p m L) (s : Stp o i w o' w') (hne : j ≠ i) : IsL w' o' j g p m L := by obtain ⟨v, nx, h⟩ := h; exact ⟨v, nx, h.other s hne⟩
theorem IsL.reads (h : IsL w o j g p m L) (b : Below w.heap.size w w') : IsL w' o j g p m L := by obtain ⟨v, nx, h⟩ := h; exact ⟨v, nx, h.reads b⟩
theorem IsL.lt (h : IsL w o j g p m L) : g < w.heap.size := by obtain ⟨v, nx, h⟩ := h; exact h.at'.lt
/-- the row of a slice is no block of another kind -/
theorem row_ne {e sz n : Nat} {xs : List Value} {b : Nat} {cs : Array Value} {T : TypeId} (h : w.ownsRow 0 e sz v n xs) (k : At w b cs T) (hT : e ≠ T) : v.ownBlock ≠ some b := fun e1 => by
  rcases h.2 with ⟨rfl, _⟩ | ⟨g', cap, cur, rfl, _, h2, _⟩
  · cases e1
  · cases e1
    unfold At at k
    rw [h2] at k
    simp only [Option.some.injEq, Obj.cells.injEq] at k
    exact hT k.2.1
end
/-- the log that a disk has -/
def openedL (Rw : List ByteArray) : LogP := ⟨(openS Rw).1, maxTag Rw + 1, (openS Rw).2.2, (openS Rw).2.1.map bt, (openS Rw).2.1.length, (openS Rw).2.1.length, none⟩
theorem openS_cases (Rw : List ByteArray) (b : Bool) (hb : decide (0 < (outH (halfL Rw 1)).length ∧ ((outH (halfL Rw 0)).length = 0 ∨ ageH (halfL Rw 0) < ageH (halfL Rw 1))) = b) :
    openS Rw = if b = true then (1, outH (halfL Rw 1), pgsH (halfL Rw 1)) else (0, outH (halfL Rw 0), pgsH (halfL Rw 0)) := by
  unfold openS openH
  have e : (outH (halfL Rw 1) ≠ [] ∧ (outH (halfL Rw 0) = [] ∨ ageH (halfL Rw 0) < ageH (halfL Rw 1))) ↔ b = true := by
    rw [← hb, decide_eq_true_iff, List.length_pos_iff, List.length_eq_zero_iff]
  by_cases h : b = true
  · rw [if_pos h, if_pos (e.2 h)]
  · rw [if_neg h, if_neg (fun k => h (e.1 k))]
section
variable {w : World} {o : Nat → Nat} {q p : Nat} {S : List ByteArray} {Ws : Wrs}
set_option maxRecDepth 100000 in
set_option maxHeartbeats 1000000 in
theorem wopen_arg (H : IsD w o q p S Ws) (hn : S.length < 4) :
    Calls Try.prog 8 #[.pointer (some ⟨p, 0, none⟩)] w fun e w' => e = .returned (.tuple #[.pointer none, .int .i64 1]) ∧ w = w' := by
  have C0 := Lib.hid (d_len H)
  have hn' : (S.length : Int) < 4 := by omega
  clear H hn
  go_enter Try.func8, Try.ntmps8
  go_wp2_with fail
  refine C0.out.mono ?_; rintro e w0 ⟨rfl, rfl⟩
  go_wp2
  go_ret2
  exact ⟨rfl, rfl⟩
end
end Go.Proofs.Ythjlbfijfpfohaa

namespace Go.Proofs.Ythjlbfijfpfohaa
open Go.RowKit
section
variable {w : World} {o : Nat → Nat} {q p : Nat} {S : List ByteArray} {Ws : Wrs}
set_option maxRecDepth 100000 in
set_option maxHeartbeats 4000000 in
theorem wopen_ok (H : IsD w o q p S Ws) (hn : 4 ≤ S.length) (ht : maxTag (rawsOf S Ws) < 1099511627776) (j : Nat) :
    Calls Try.prog 8 #[.pointer (some ⟨p, 0, none⟩)] w fun e w' => ∃ g, e = .returned (.tuple #[.pointer (some ⟨g, 0, none⟩), .int .i64 0]) ∧ IsL w' (gives o w.heap.size j) j g p (S.length / 2) (openedL (rawsOf S Ws)) ∧ Below w.heap.size w w' := by
  have hn2 := H.n2
  have hn' : ¬ (S.length : Int) < 4 := by omega
  obtain ⟨m, hm⟩ : ∃ m, S.length / 2 = m := ⟨_, rfl⟩
  have hm2 : Int.tdiv (S.length : Int) 2 = (m : Int) := by rw [Int.tdiv_eq_ediv_of_nonneg (by omega)]; omega
  have C0 := Lib.hid fun W (h : IsD W o q p S Ws) => d_len h
  have C1 := Lib.hid (wgreatest H)
  have HD := Lib.hid H
  obtain ⟨Rw, hRw⟩ : ∃ R, rawsOf S Ws = R := ⟨_, rfl⟩
  have hCH := fun W (h : IsD W o q p S Ws) (k f : Nat) (hk : k < 2) (hf : k * m = f) => hRw ▸ wreadHalf h k f m hk hm hf
  rw [hRw] at C1 ht ⊢
  rw [hm]
  obtain ⟨T, hT⟩ : ∃ T, maxTag Rw = T := ⟨_, rfl⟩
  rw [hT] at C1 ht
  obtain ⟨bb, hbb⟩ : ∃ b, decide (0 < (outH (halfL Rw 1)).length ∧ ((outH (halfL Rw 0)).length = 0 ∨ ageH (halfL Rw 0) < ageH (halfL Rw 1))) = b := ⟨_, rfl⟩
  have HO := openS_cases Rw bb hbb
  have CH0 := fun W h => hCH W h 0 0 (by omega) (by omega)
  have CH1 := fun W h => hCH W h 1 m (by omega) (by omega)
  obtain ⟨a0, ha0⟩ : ∃ a, ageH (halfL Rw 0) = a := ⟨_, rfl⟩
  obtain ⟨a1, ha1⟩ : ∃ a, ageH (halfL Rw 1) = a := ⟨_, rfl⟩
  obtain ⟨p0, hp0⟩ : ∃ a, pgsH (halfL Rw 0) = a := ⟨_, rfl⟩
  obtain ⟨p1, hp1⟩ : ∃ a, pgsH (halfL Rw 1) = a := ⟨_, rfl⟩
  obtain ⟨R0, hR0⟩ : ∃ a, (outH (halfL Rw 0)).map bt = a := ⟨_, rfl⟩
  obtain ⟨R1, hR1⟩ : ∃ a, (outH (halfL Rw 1)).map bt = a := ⟨_, rfl⟩
  have l0 : (outH (halfL Rw 0)).length = R0.length := by rw [← hR0, List.length_map]
  have l1 : (outH (halfL Rw 1)).length = R1.length := by rw [← hR1, List.length_map]
  rw [ha0, hp0, hR0] at CH0
  rw [ha1, hp1, hR1] at CH1
  rw [ha0, ha1, l0, l1] at hbb
  have hopn : openedL Rw = if bb = true then ⟨1, T + 1, p1, R1, R1.length, R1.length, none⟩ else ⟨0, T + 1, p0, R0, R0.length, R0.length, none⟩ := by
    unfold openedL
    rw [HO, hT]
    cases bb
    · simp only [Bool.false_eq_true, if_false]; rw [hp0, hR0, l0]
    · simp only [if_true]; rw [hp1, hR1, l1]
  obtain ⟨LL, hLL⟩ : ∃ L, openedL Rw = L := ⟨_, rfl⟩
  rw [hLL]
  rw [hLL] at hopn
  have HOp := Lib.hid hopn
  have HC0 := Lib.hid CH0; have HC1 := Lib.hid CH1
  clear hCH HO CH0 CH1 ha0 ha1 hp0 hp1 hR0 hR1 l0 l1
  have hT0 : decide ((1099511627776 : Int) ≤ (T : Int)) = false := decide_eq_false (by omega)
  have HT' := Lib.hid hT0
  clear hT0
  obtain ⟨A1, hA1⟩ : ∃ A : Nat, T + 1 = A := ⟨_, rfl⟩
  have e1 : (T : Int) + 1 = (A1 : Int) := by omega
  rw [hA1] at HOp
  clear hA1
  have HBB := Lib.hid hbb
  have HM2 := Lib.hid hm2
  have HE1 := Lib.hid e1
  have HW1 := Lib.hid (show wrap64 (m : Int) = (m : Int) from IntWalk.wrap64_in _ (by omega))
  have HW2 := Lib.hid (show wrap64 (A1 : Int) = (A1 : Int) from IntWalk.wrap64_in _ (by omega))
  clear H hopn hLL hT hm hRw hbb hm2 ht hn hn2 e1
  go_enter Try.func8, Try.ntmps8
  go_wp2_with fail
  refine (C0.out _ HD.out).mono ?_; rintro e w0 ⟨rfl, rfl⟩
  go_wp2_with fail
  refine C1.out.mono ?_; rintro e w1 ⟨rfl, b1⟩
  have HD1 := Lib.hid (HD.out.reads b1)
  have B1 := Lib.hid b1
  clear b1 C1
  go_upto_if 14 with fail
  have hT' := HT'.out
  rw [hT']
  clear hT' HT'
  go_wp2_with fail
  refine (C0.out _ HD1.out).mono ?_; rintro e w0 ⟨rfl, rfl⟩
  have hm2 := HM2.out
  have e1 := HE1.out
  have hw1 := HW1.out
  have hw2 := HW2.out
  go_upto_region 7 with fail
  have A2 := Lib.hid (At.new w1 (logC (.pointer (some ⟨p, 0, none⟩)) (.int .i64 (m : Int)) (.int .i64 0) (.int .i64 (A1 : Int)) (.int .i64 0) (.slice none 0 0) (.int .i64 0) (.int .i64 0) (.int .i64 0) (.pointer none)) 67)
  have b2 : Below w1.heap.size w1 (w1.alloc (.cells (logC (.pointer (some ⟨p, 0, none⟩)) (.int .i64 (m : Int)) (.int .i64 0) (.int .i64 (A1 : Int)) (.int .i64 0) (.slice none 0 0) (.int .i64 0) (.int .i64 0) (.int .i64 0) (.pointer none)) 67)) := (Below.refl _ _).alloc (Nat.le_refl _) _
  have HD2 := Lib.hid (HD1.out.reads b2)
  have B2 := Lib.hid (B1.out.trans (b2.mono B1.out.size))
  have hgw : w.heap.size ≤ w1.heap.size := B1.out.size
  clear b2
  generalize w1.alloc (.cells (logC (.pointer (some ⟨p, 0, none⟩)) (.int .i64 (m : Int)) (.int .i64 0) (.int .i64 (A1 : Int)) (.int .i64 0) (.slice none 0 0) (.int .i64 0) (.int .i64 0) (.int .i64 0) (.pointer none)) 67) = W2 at *
  generalize w1.heap.size = g at *
  clear hm2 e1 hw1 hw2 HM2 HE1 HW1 HW2 B1 HD1 HD C0
  have k1 : W2.cell? ⟨g, 1, none⟩ = some (.int .i64 (m : Int)) := A2.out.cell 1
  go_wp2_with fail
  refine (HC0.out W2 HD2.out).mono ?_; rintro e w3 ⟨v3, rfl, hN3, b3⟩
  obtain ⟨x3, C3, rfl, _⟩ := hN3.slice
  have A3 := Lib.hid (A2.out.reads b3)
  have HD3 := Lib.hid (HD2.out.reads b3)
  have B3 := Lib.hid (B2.out.trans (b3.mono B2.out.size))
  have N3 := Lib.hid (hN3.since B2.out.size)
  clear k1 A2 HD2 B2 b3 hN3 HC0
  go_upto_region 8 with fail
  have AF := Lib.hid (At.new w3 (contV a0 p0 (.slice x3 R0.length C3)) contT)
  have b4 : Below w3.heap.size w3 (w3.alloc (.cells (contV a0 p0 (.slice x3 R0.length C3)) contT)) := (Below.refl _ _).alloc (Nat.le_refl _) _
  have A4 := Lib.hid (A3.out.reads b4)
  have HD4 := Lib.hid (HD3.out.reads b4)
  have B4 := Lib.hid (B3.out.trans (b4.mono B3.out.size))
  have N4 := Lib.hid (N3.out.reads b4)
  have hF : g ≠ w3.heap.size := Nat.ne_of_lt A3.out.lt
  clear A3 HD3 B3 N3 b4
  generalize w3.alloc (.cells (contV a0 p0 (.slice x3 R0.length C3)) contT) = W4 at *
  generalize w3.heap.size = F at *
  go_cut [7] (fun s7 wx => ∃ (Sb : Nat) (x5 : Option Addr) (C5 : Nat), s7 = .pointer (some ⟨Sb, 0, none⟩) ∧ At wx Sb (contV a1 p1 (.slice x5 R1.length C5)) contT ∧ At wx g (logC (.pointer (some ⟨p, 0, none⟩)) (.int .i64 (m : Int)) (.int .i64 0) (.int .i64 (A1 : Int)) (.int .i64 0) (.slice none 0 0) (.int .i64 0) (.int .i64 0) (.int .i64 0) (.pointer none)) 67 ∧ At wx F (contV a0 p0 (.slice x3 R0.length C3)) contT ∧ NewS w wx (.slice x3 R0.length C3) R0 ∧ NewS w wx (.slice x5 R1.length C5) R1 ∧ Below w.heap.size w wx)
  case first =>
    have bd : Below W4.heap.size W4 (W4.alloc (.cells #[.int .i64 0, .int .i64 0, .slice none 0 0] 69)) := (Below.refl _ _).alloc (Nat.le_refl _) _
    have k1 : W4.drew.cell? ⟨g, 1, none⟩ = some (.int .i64 (m : Int)) := A4.out.cell 1
    have k2 : (W4.alloc (.cells #[.int .i64 0, .int .i64 0, .slice none 0 0] 69)).drew.cell? ⟨g, 1, none⟩ = some (.int .i64 (m : Int)) := (A4.out.reads bd).cell 1
    have HDd := Lib.hid HD4.out.drew
    have HDe := Lib.hid (HD4.out.reads bd).drew
    go_region_held3 (fun W => W.cell? ⟨g, 1, none⟩ = some (.int .i64 (m : Int))) (first | exact k1 | exact k2 | exact k5 | exact k6 | exact k7 | exact k8)
      (first
        | (go_at_call 31; ((with_reducible refine (HC1.out W4.drew HDd.out).mono ?_); rintro e w5 ⟨v5, rfl, hN5, b5⟩; obtain ⟨x5, C5, rfl, _⟩ := hN5.slice; have A5 := A4.out.drew.reads b5; have k5 := A5.cell 1; have k6 : (w5.alloc (.cells #[.int .i64 0, .int .i64 0, .slice none 0 0] 69)).cell? ⟨g, 1, none⟩ = some (.int .i64 (m : Int)) := (A5.reads ((Below.refl _ _).alloc (Nat.le_refl _) _)).cell 1; have k7 : (w5.alloc (.cells (contV a1 p1 (.slice x5 R1.length C5)) contT)).cell? ⟨g, 1, none⟩ = some (.int .i64 (m : Int)) := (A5.reads ((Below.refl _ _).alloc (Nat.le_refl _) _)).cell 1))
        | (go_at_call 31; ((with_reducible refine (HC1.out _ HDe.out).mono ?_); rintro e w5 ⟨v5, rfl, hN5, b5⟩; obtain ⟨x5, C5, rfl, _⟩ := hN5.slice; have A5 := (A4.out.reads bd).drew.reads b5; have k5 := A5.cell 1; have AZ := (At.new W4 #[.int .i64 0, .int .i64 0, .slice none 0 0] 69).drew.reads b5; have kz0 := AZ.fz 0; have kz1 := AZ.fz 1; have kz2 := AZ.fz 2; have kc0 := AZ.cell 0; have kc1 := AZ.cell 1; have kc2 := AZ.cell 2; have k8 := (A5.past3 (g := W4.heap.size) (.int .i64 (a1 : Int)) (.int .i64 (p1 : Int)) (.slice x5 R1.length C5) (Nat.ne_of_gt A4.out.lt)).cell 1; unfold put3 at k8)))
    · go_wp2_with fail
      go_meet
      have b6 : Below w5.heap.size w5 (w5.alloc (.cells (contV a1 p1 (.slice x5 R1.length C5)) contT)) := (Below.refl _ _).alloc (Nat.le_refl _) _
      have b5' : Below W4.heap.size W4 w5 := bdrew b5
      exact ⟨w5.heap.size, x5, C5, rfl, At.new w5 _ _, A5.reads b6, (AF.out.reads b5').reads b6, (N4.out.reads b5').reads b6, (hN5.since B4.out.size).reads b6, (B4.out.trans (b5'.mono B4.out.size)).trans (b6.mono (Nat.le_trans B4.out.size b5'.size))⟩
    · go_wp2_with fail
      go_meet
      have b5' : Below W4.heap.size W4 w5 := bd.trans ((bdrew b5).mono bd.size)
      have G1 := grow6_trans (grow6_trans (grow6_set w5 W4.heap.size 0 (.int .i64 (a1 : Int))) (grow6_set _ W4.heap.size 1 (.int .i64 (p1 : Int)))) (grow6_set _ W4.heap.size 2 (.slice x5 R1.length C5))
      have n3 := N4.out.reads b5'
      have n5 := hN5.since (w0 := w) (Nat.le_trans B4.out.size bd.size)
      exact ⟨W4.heap.size, x5, C5, rfl, AZ.wrote3 _ _ _, A5.past3 _ _ _ (Nat.ne_of_gt A4.out.lt), (AF.out.reads b5').past3 _ _ _ (Nat.ne_of_gt AF.out.lt), n3.grown G1 (row_ne n3.row AZ (by decide)), n5.grown G1 (row_ne n5.row AZ (by decide)), bel_put3 (B4.out.trans (b5'.mono B4.out.size)) B4.out.size _ _ _⟩
  case rest =>
    obtain ⟨Sb, x5, C5, rfl, hS, hG, hF, hN0, hN1, hB⟩ := hcut
    have CN := Lib.hid fun W => wnewer W a0 p0 R0.length a1 p1 R1.length x3 x5 C3 C5 bb HBB.out
    have s0 : wc.cell? ⟨Sb, 0, none⟩ = some (.int .i64 (a1 : Int)) := hS.cell 0
    have s1 : wc.cell? ⟨Sb, 1, none⟩ = some (.int .i64 (p1 : Int)) := hS.cell 1
    have s2 : wc.cell? ⟨Sb, 2, none⟩ = some (.slice x5 R1.length C5) := hS.cell 2
    have f0 : wc.cell? ⟨F, 0, none⟩ = some (.int .i64 (a0 : Int)) := hF.cell 0
    have f1 : wc.cell? ⟨F, 1, none⟩ = some (.int .i64 (p0 : Int)) := hF.cell 1
    have f2 : wc.cell? ⟨F, 2, none⟩ = some (.slice x3 R0.length C3) := hF.cell 2
    clear AF A4 HD4 B4 N4 HC1
    have HS := Lib.hid hS; have HG := Lib.hid hG; have HF := Lib.hid hF; have HN0 := Lib.hid hN0; have HN1 := Lib.hid hN1; have HB := Lib.hid hB
    clear hS hG hF hN0 hN1 hB
    go_wp2_with fail
    refine (CN.out _).mono ?_; rintro e w6 ⟨rfl, b6⟩
    have HS6 := Lib.hid (HS.out.reads b6); have HG6 := Lib.hid (HG.out.reads b6); have HF6 := Lib.hid (HF.out.reads b6)
    have HN06 := Lib.hid (HN0.out.reads b6); have HN16 := Lib.hid (HN1.out.reads b6); have HB6 := Lib.hid (HB.out.trans (b6.mono HB.out.size))
    clear s0 s1 s2 f0 f1 f2 HS HG HF HN0 HN1 HB b6 CN
    cases bb with
    | true =>
      have hLL : LL = ⟨1, A1, p1, R1, R1.length, R1.length, none⟩ := by have := HOp.out; rwa [if_pos rfl] at this
      have HLL := Lib.hid hLL
      clear hLL HOp HBB
      have s0 : w6.cell? ⟨Sb, 0, none⟩ = some (.int .i64 (a1 : Int)) := HS6.out.cell 0
      have s1 : w6.cell? ⟨Sb, 1, none⟩ = some (.int .i64 (p1 : Int)) := HS6.out.cell 1
      have s2 : w6.cell? ⟨Sb, 2, none⟩ = some (.slice x5 R1.length C5) := HS6.out.cell 2
      have CS := Lib.hid (wstand w6 g _ _ _ _ _ _ _ _ _ _ 1 a1 p1 R1.length C5 x5 HG6.out)
      go_wp2_with fail
      refine CS.out.mono ?_; rintro e w7 ⟨rfl, hA7, hG7⟩
      have n7 := HN16.out.grown hG7 (row_ne HN16.out.row HG6.out (by decide))
      have b7 := HB6.out.grown hG7 HB6.out.size (fun k hk => by cases hk; exact hgw)
      have A7 := Lib.hid hA7; have N7 := Lib.hid n7; have B7 := Lib.hid b7
      clear hA7 hG7 n7 b7 CS s0 s1 s2
      go_wp2_with fail
      go_ret2
      refine ⟨g, rfl, ⟨.slice x5 R1.length C5, .pointer none, ⟨?_, gives_new hgw, ?_, ?_⟩⟩, B7.out⟩
      · have e9 : waitL ⟨1, A1, p1, R1, R1.length, R1.length, none⟩ = 0 := by simp [waitL, recsB_nil]
        rw [HLL.out]
        have := A7.out
        simp only [logV]
        rw [e9]
        exact this
      · rw [HLL.out]; exact N7.out.own o j
      · rw [HLL.out]; rfl
    | false =>
      have hLL : LL = ⟨0, A1, p0, R0, R0.length, R0.length, none⟩ := by have := HOp.out; rwa [if_neg (by decide)] at this
      have HLL := Lib.hid hLL
      clear hLL HOp HBB
      have s0 : w6.cell? ⟨F, 0, none⟩ = some (.int .i64 (a0 : Int)) := HF6.out.cell 0
      have s1 : w6.cell? ⟨F, 1, none⟩ = some (.int .i64 (p0 : Int)) := HF6.out.cell 1
      have s2 : w6.cell? ⟨F, 2, none⟩ = some (.slice x3 R0.length C3) := HF6.out.cell 2
      have CS := Lib.hid (wstand w6 g _ _ _ _ _ _ _ _ _ _ 0 a0 p0 R0.length C3 x3 HG6.out)
      go_wp2_with fail
      refine CS.out.mono ?_; rintro e w7 ⟨rfl, hA7, hG7⟩
      have n7 := HN06.out.grown hG7 (row_ne HN06.out.row HG6.out (by decide))
      have b7 := HB6.out.grown hG7 HB6.out.size (fun k hk => by cases hk; exact hgw)
      have A7 := Lib.hid hA7; have N7 := Lib.hid n7; have B7 := Lib.hid b7
      clear hA7 hG7 n7 b7 CS s0 s1 s2
      go_wp2_with fail
      go_ret2
      refine ⟨g, rfl, ⟨.slice x3 R0.length C3, .pointer none, ⟨?_, gives_new hgw, ?_, ?_⟩⟩, B7.out⟩
      · have e9 : waitL ⟨0, A1, p0, R0, R0.length, R0.length, none⟩ = 0 := by simp [waitL, recsB_nil]
        rw [HLL.out]
        have := A7.out
        simp only [logV]
        rw [e9]
        exact this
      · rw [HLL.out]; exact N7.out.own o j
      · rw [HLL.out]; rfl
end
end Go.Proofs.Ythjlbfijfpfohaa
