/-
  Package leaf: the contract of read.
-/
import Derived.Test.YtajbnfobmnibjaaE10
import Derived.WalkMore
import Derived.Scope
import Derived.Deep.DeepCutAuto
import Derived.Deep.CutBlock
namespace Go.Proofs.Ytajbnfobmnibjaa
open Go.RowKit

def joinR10 (A : Prs) (o : Option (Prs × List UInt8)) : Option (Prs × List UInt8) := o.map fun y => (A ++ y.1, y.2)
theorem pairsR_none1 {n : Nat} {l : List UInt8} (h : textL10 l = none) : pairsR10 (n + 1) l = none := by simp [pairsR10, h]
theorem pairsR_none2 {n : Nat} {l l1 : List UInt8} {k : ByteArray} (h : textL10 l = some (k, l1)) (h1 : textL10 l1 = none) : pairsR10 (n + 1) l = none := by simp [pairsR10, h, h1]
theorem pairsR_more {n : Nat} {l l1 l2 : List UInt8} {k v : ByteArray} (A : Prs) (h : textL10 l = some (k, l1)) (h1 : textL10 l1 = some (v, l2)) : joinR10 A (pairsR10 (n + 1) l) = joinR10 (A ++ [(k, v)]) (pairsR10 n l2) := by
  simp only [pairsR10, h, h1, joinR10]
  cases pairsR10 n l2 with
  | none => rfl
  | some y => simp
/-- the leaf that is being read, in its box; the result's box -/
structure InL (w0 w : World) (Br B : Nat) (v : Value) (A : Prs) (hi : ByteArray) (nx : Int) : Prop where
  res : At w Br #[.slice none 0 0, .string ⟨#[]⟩, .int .i64 0] 24
  box : At w B #[v, .string hi, .int .i64 nx] 24
  row : OwnP w0.heap.size w v A
  bel : Below w0.heap.size w0 w
  ge : w0.heap.size ≤ B
  ger : w0.heap.size ≤ Br
  ne : B ≠ Br
section
variable {w0 w w' : World} {Br B : Nat} {v : Value} {A : Prs} {hi : ByteArray} {nx : Int}
theorem InL.reads (h : InL w0 w Br B v A hi nx) (b : Below w.heap.size w w') : InL w0 w' Br B v A hi nx :=
  ⟨h.res.reads b, h.box.reads b, own_below h.row b, h.bel.trans (b.mono h.bel.size), h.ge, h.ger, h.ne⟩
theorem InL.far (h : InL w0 w Br B v A hi nx) {g j : Nat} {u : Value} {cs : Array Value} {T : TypeId} (hT : T ≠ 44) (hA : At w g cs T) (h1 : g ≠ B) (h2 : g ≠ Br) (h3 : w0.heap.size ≤ g) : InL w0 (w.setCell ⟨g, j, none⟩ u) Br B v A hi nx :=
  ⟨h.res.setOther j u h2, h.box.setOther j u h1, own_set h.row (own_other h.row hA hT), h.bel.setCell (p := ⟨g, j, none⟩) h3 u, h.ge, h.ger, h.ne⟩
/-- behind an append, and its store into the box -/
theorem InL.append (h : InL w0 w Br B v A hi nx) (a b : ByteArray) (hl : A.length ≤ 100000) :
    ∃ g C w', (Builtin.append_ #[22, 22] 22 #[v, .slice (some ⟨w.heap.size, 0, none⟩) 1 1]).run Try.prog (w.alloc (.cells #[.string a, .string b] 44)) = .ok (.slice (some ⟨g, 0, none⟩) (A.length + 1) C) w' ∧
      At w' B #[v, .string hi, .int .i64 nx] 24 ∧
      InL w0 (w'.setCell ⟨B, 0, none⟩ (.slice (some ⟨g, 0, none⟩) (A.length + 1) C)) Br B (.slice (some ⟨g, 0, none⟩) (A.length + 1) C) (A ++ [(a, b)]) hi nx := by
  obtain ⟨g, C, w', hr, ho, hg⟩ := OwnP.append h.row a b hl h.bel.size
  have ba := (Below.refl w.heap.size w).alloc (Nat.le_refl _) (.cells #[.string a, .string b] 44)
  have h1 := h.reads ba
  have n1 := own_other h1.row h1.box (by decide)
  have n2 := own_other h1.row h1.res (by decide)
  have b1 := h1.box.grown hg n1
  have b2 := h1.res.grown hg n2
  have b3 := below_grown h1.row h1.bel hg
  refine ⟨g, C, w', hr, b1, ?_⟩
  exact ⟨b2.setOther 0 _ h.ne, b1.set 0 _, own_set ho (own_other ho b1 (by decide)), b3.setCell (p := ⟨B, 0, none⟩) h.ge _, h.ge, h.ger, h.ne⟩
end
/-- what read answers -/
def ReadOut (w : World) (s : ByteArray) (res : Option (LfP × List UInt8)) (e : Ending) (w' : World) : Prop := Below w.heap.size w w' ∧
  match res with
  | none => ∃ a C l p, e = .returned (.tuple #[lfV a C l, .int .i64 p, .bool false])
  | some (r, x) => ∃ a C, ∃ p : Nat, e = .returned (.tuple #[lfV a C r, .int .i64 (p : Int), .bool true]) ∧ PrAt w' a C r.pairs ∧ x = s.data.toList.drop p ∧ p ≤ s.size
theorem hp10 (s : ByteArray) : Lib.hasPrefix s.data.toList [76] = true ↔ ∃ l, s.data.toList = 76 :: l := by
  unfold Lib.hasPrefix
  cases s.data.toList with
  | nil => simp
  | cons c l => simp; exact eq_comm
theorem parse_no10 {s : ByteArray} (h : ¬ textErr s.data.toList (4 : Int) = 0) : parseLf s.data.toList = none := by
  have hz : s.data.toList.length = s.size := (Lib.size_eq s).symm
  cases hd : s.data.toList with
  | nil => rfl
  | cons c l0 =>
    rw [parseLf_cons]
    by_cases hc : c = 76
    · rw [if_pos hc]
      unfold parseT
      cases e1 : numL10 1 l0 with
      | none => rfl
      | some y1 =>
        obtain ⟨n, l1⟩ := y1
        simp only
        cases e2 : numL10 2 l1 with
        | none => rfl
        | some y2 =>
          obtain ⟨nx, l2⟩ := y2
          simp only
          cases e3 : textL10 l2 with
          | none => rfl
          | some y3 =>
            obtain ⟨hh, l3⟩ := y3
            exfalso
            apply h
            obtain ⟨_, _, rfl, g1⟩ := numL_got10 e1
            obtain ⟨_, _, rfl, g2⟩ := numL_got10 e2
            have e4 : s.data.toList.drop 4 = (l0.drop 1).drop 2 := by rw [hd, List.drop_drop]; rfl
            rw [← e4] at e3
            have hl := congrArg List.length hd
            rw [hz, List.length_cons] at hl
            rw [List.length_drop] at g2
            exact (textL_at10 (p := 4) (by omega) e3).1
    · rw [if_neg hc]
theorem parse_at10 {s h : ByteArray} {l0 x : List UInt8} (hp : 4 ≤ s.size) (h0 : s.data.toList = 76 :: l0) (h4 : textL10 (s.data.toList.drop 4) = some (h, x)) :
    errAt s.size 1 1 = 0 ∧ errAt s.size 2 2 = 0 ∧ parseLf s.data.toList = (pairsR10 (Lib.leNat ((s.data.toList.drop (1 : Int).toNat).take (1 : Int).toNat)) x).map (fun y => (⟨y.1, h, ((Lib.leNat ((s.data.toList.drop (2 : Int).toNat).take (2 : Int).toNat) : Nat) : Int)⟩, y.2)) := by
  have hz : s.data.toList.length = s.size := (Lib.size_eq s).symm
  have h5 := (textL_at10 hp h4).2.2.2.2
  refine ⟨errAt_ok.2 ⟨by omega, by omega, by omega, by omega⟩, errAt_ok.2 ⟨by omega, by omega, by omega, by omega⟩, ?_⟩
  rw [h0] at hz h4 ⊢
  rw [show (1 : Int).toNat = 1 from rfl, show (2 : Int).toNat = 2 from rfl]
  rw [List.length_cons] at hz
  rw [parseLf_cons, if_pos rfl]
  unfold parseT
  have n1 : numL10 1 l0 = some (Lib.leNat (l0.take 1), l0.drop 1) := by unfold numL10; rw [if_pos (by omega)]
  have n2 : numL10 2 (l0.drop 1) = some (Lib.leNat ((l0.drop 1).take 2), (l0.drop 1).drop 2) := by unfold numL10; rw [if_pos (by rw [List.length_drop]; omega)]
  rw [n1]; simp only
  rw [n2]; simp only
  have e4 : (76 :: l0).drop 4 = (l0.drop 1).drop 2 := by rw [List.drop_drop]; rfl
  rw [← e4, h4]; simp only
  have e1 : (76 :: l0).drop 1 = l0 := rfl
  have e2 : (76 :: l0).drop 2 = l0.drop 1 := rfl
  rw [e1, e2]
  cases pairsR10 (Lib.leNat (l0.take 1)) x with
  | none => rfl
  | some y => rfl
set_option maxRecDepth 100000 in
set_option maxHeartbeats 4000000 in
theorem read10_a (s : ByteArray) (w : World) (h0 : Lib.hasPrefix s.data.toList [76] = false) :
    Calls Try.prog 39 #[.string s] w fun e w' => e = .returned (.tuple #[zero10, .int .i64 0, .bool false]) ∧ Below w.heap.size w w' := by
  have CP := fun W => l10_strings_HasPrefix s ⟨#[76]⟩ W
  rw [show (⟨#[76]⟩ : ByteArray).data.toList = [76] from rfl, h0] at CP
  have H := Lib.hid CP
  clear CP h0
  have X0 := Lib.hid (At.new w #[.slice none 0 0, .string ⟨#[]⟩, .int .i64 0] 24)
  have HB := Lib.hid ((Below.refl w.heap.size w).alloc (Nat.le_refl _) (.cells #[.slice none 0 0, .string ⟨#[]⟩, .int .i64 0] 24))
  go_enter Try.func39, Try.ntmps39
  go_wp2_with fail
  go_step3
  go_upto_region 1 with fail
  generalize w.alloc (.cells #[.slice none 0 0, .string ⟨#[]⟩, .int .i64 0] 24) = W1 at *
  go_wp2_with fail
  refine (H.out _).mono ?_; rintro e w2 ⟨rfl, rfl⟩
  have d0 := X0.out.cell 0; have d1 := X0.out.cell 1; have d2 := X0.out.cell 2
  have z0 := X0.out.fz 0; have z1 := X0.out.fz 1; have z2 := X0.out.fz 2
  have D := At.put3 (u := .slice none 0 0) (v := .string ⟨#[]⟩) (t := .int .i64 0) X0.out
  have BF := Lib.hid (below_put3 (u := .slice none 0 0) (v := .string ⟨#[]⟩) (t := .int .i64 0) HB.out (Nat.le_refl _))
  have f0 := D.cell 0; have f1 := D.cell 1; have f2 := D.cell 2
  simp only [List.getElem?_toArray, List.getElem?_cons_zero, List.getElem?_cons_succ] at d0 d1 d2 f0 f1 f2
  clear D
  go_wp2_with fail
  rw [Exit.noGoto_ret]
  refine bodyPost_ret (v := .tuple #[zero10, .int .i64 0, .bool false]) ?_ rfl ⟨rfl, BF.out⟩
  simp [results, Try.results39, go_sem, f0, f1, f2, zero10]
/-- the two texts, as far as they are read -/
inductive TxS (l : List UInt8) (q : Nat) : Nat → Nat → ByteArray → ByteArray → Prop
  | zero : TxS l q 0 q ⟨#[]⟩ ⟨#[]⟩
  | one {q1 : Nat} {t : ByteArray} (h : textL10 (l.drop q) = some (t, l.drop q1)) : TxS l q 1 q1 t ⟨#[]⟩
  | two {q1 q2 : Nat} {t u : ByteArray} (h : textL10 (l.drop q) = some (t, l.drop q1)) (h2 : textL10 (l.drop q1) = some (u, l.drop q2)) : TxS l q 2 q2 t u
theorem TxS.is0 {l : List UInt8} {q q' : Nat} {t u : ByteArray} (h : TxS l q 0 q' t u) : q' = q ∧ t = ⟨#[]⟩ ∧ u = ⟨#[]⟩ := by cases h; exact ⟨rfl, rfl, rfl⟩
theorem TxS.is1 {l : List UInt8} {q q' : Nat} {t u : ByteArray} (h : TxS l q 1 q' t u) : textL10 (l.drop q) = some (t, l.drop q') ∧ u = ⟨#[]⟩ := by cases h with | one h => exact ⟨h, rfl⟩
theorem TxS.is2 {l : List UInt8} {q q' : Nat} {t u : ByteArray} (h : TxS l q 2 q' t u) : ∃ q1, textL10 (l.drop q) = some (t, l.drop q1) ∧ textL10 (l.drop q1) = some (u, l.drop q') := by cases h with | two h h2 => exact ⟨_, h, h2⟩
/-- what the loop leaves -/
def LoopR (w0 wx : World) (s : ByteArray) (Br B : Nat) (hi : ByteArray) (nx : Int) (res : Option (LfP × List UInt8)) (a e : Value) : Prop := ∃ v A, InL w0 wx Br B v A hi nx ∧ ∃ (p k : Int), a = .int .i64 p ∧ e = .int .i64 k ∧ (((k == 0) = false ∧ res = none) ∨ (k = 0 ∧ ∃ q : Nat, p = (q : Int) ∧ q ≤ s.size ∧ res = some (⟨A, hi, nx⟩, s.data.toList.drop q)))
def mkR (hi : ByteArray) (nx : Int) (o : Option (Prs × List UInt8)) : Option (LfP × List UInt8) := o.map fun y => (⟨y.1, hi, nx⟩, y.2)
theorem stop0 {hi : ByteArray} {nx : Int} {A : Prs} {n : Nat} {l : List UInt8} (h : textL10 l = none) : mkR hi nx (joinR10 A (pairsR10 (n + 1) l)) = none := by rw [pairsR_none1 h]; rfl
theorem stop1 {hi : ByteArray} {nx : Int} {A : Prs} {n : Nat} {l l1 : List UInt8} {k : ByteArray} (h : textL10 l = some (k, l1)) (h1 : textL10 l1 = none) : mkR hi nx (joinR10 A (pairsR10 (n + 1) l)) = none := by rw [pairsR_none2 h h1]; rfl
set_option maxRecDepth 100000 in
set_option maxHeartbeats 8000000 in
theorem read10_c (s hi : ByteArray) (w : World) (l0 x : List UInt8) (hs : s.size ≤ 1000000) (hp4 : 4 ≤ s.size) (hl : s.data.toList = 76 :: l0) (h4 : textL10 (s.data.toList.drop 4) = some (hi, x)) :
    Calls Try.prog 39 #[.string s] w (ReadOut w s (parseLf s.data.toList)) := by
  have h0 : Lib.hasPrefix s.data.toList [76] = true := (hp10 s).2 ⟨_, hl⟩
  obtain ⟨e1, e2, e3⟩ := parse_at10 hp4 hl h4
  have a1 : Lib.leNat ((s.data.toList.drop (1 : Int).toNat).take (1 : Int).toNat) < 256 := by
    have h1 := leNat_lt ((s.data.toList.drop (1 : Int).toNat).take (1 : Int).toNat)
    have h2 : ((s.data.toList.drop (1 : Int).toNat).take (1 : Int).toNat).length ≤ 1 := by rw [List.length_take, show (1 : Int).toNat = 1 from rfl]; omega
    have h3 : 256 ^ ((s.data.toList.drop (1 : Int).toNat).take (1 : Int).toNat).length ≤ 256 ^ 1 := Nat.pow_le_pow_right (by decide) h2
    omega
  have a2 : Lib.leNat ((s.data.toList.drop (2 : Int).toNat).take (2 : Int).toNat) < 65536 := by
    have h1 := leNat_lt ((s.data.toList.drop (2 : Int).toNat).take (2 : Int).toNat)
    have h2 : ((s.data.toList.drop (2 : Int).toNat).take (2 : Int).toNat).length ≤ 2 := by rw [List.length_take, show (2 : Int).toNat = 2 from rfl]; omega
    have h3 : 256 ^ ((s.data.toList.drop (2 : Int).toNat).take (2 : Int).toNat).length ≤ 256 ^ 2 := Nat.pow_le_pow_right (by decide) h2
    have : (256 : Nat) ^ 2 = 65536 := rfl
    omega
  have CA := Lib.hid (fun W => get_ok s 1 1 W hs e1)
  have CB := Lib.hid (fun W => get_ok s 2 2 W hs e2)
  have CT := Lib.hid (fun W => text_yes10 s hi 4 x W hs hp4 h4)
  obtain ⟨_, _, _, hx1, hq1⟩ := textL_at10 hp4 h4
  generalize Lib.leNat ((s.data.toList.drop (1 : Int).toNat).take (1 : Int).toNat) = N at *
  generalize Lib.leNat ((s.data.toList.drop (2 : Int).toNat).take (2 : Int).toNat) = NX at *
  obtain ⟨q0, hq0⟩ : ∃ q0, 4 + 1 + hi.size = q0 := ⟨_, rfl⟩
  rw [hq0] at CT hx1 hq1
  obtain ⟨res, Hres⟩ : ∃ res, Hid (parseLf s.data.toList = res) := ⟨_, rfl⟩
  rw [Hres.out]
  have HRes := Lib.hid (show res = mkR hi (NX : Int) (joinR10 [] (pairsR10 N (s.data.toList.drop q0))) by
    rw [← Hres.out, e3, hx1]; unfold mkR joinR10
    cases pairsR10 N (s.data.toList.drop q0) <;> rfl)
  have n0 : (0 : Int) ≤ (N : Int) := by omega
  have n1 : (N : Int) ≤ 255 := by omega
  have m0 : (0 : Int) ≤ (NX : Int) := by omega
  have m1 : (NX : Int) ≤ 65535 := by omega
  have HQ0 := Lib.hid hq1
  clear e1 e2 e3 a1 a2 hl h4 hx1 hq1 hq0 Hres
  have CP := fun W => l10_strings_HasPrefix s ⟨#[76]⟩ W
  rw [show (⟨#[76]⟩ : ByteArray).data.toList = [76] from rfl, h0] at CP
  have H := Lib.hid CP
  clear CP h0
  have X0 := Lib.hid (At.new w #[.slice none 0 0, .string ⟨#[]⟩, .int .i64 0] 24)
  have HB := Lib.hid ((Below.refl w.heap.size w).alloc (Nat.le_refl _) (.cells #[.slice none 0 0, .string ⟨#[]⟩, .int .i64 0] 24))
  have LT := Lib.hid (Nat.le_refl w.heap.size)
  go_enter Try.func39, Try.ntmps39
  go_wp2_with fail
  go_step3
  go_upto_region 1 with fail
  generalize w.alloc (.cells #[.slice none 0 0, .string ⟨#[]⟩, .int .i64 0] 24) = W1 at *
  go_wp2_with fail
  refine (H.out _).mono ?_; rintro e w2 ⟨rfl, rfl⟩
  go_wp2_with fail
  refine (CA.out _).mono ?_; rintro e w3 ⟨rfl, rfl⟩
  go_wp2_with fail
  refine (CB.out _).mono ?_; rintro e w4 ⟨rfl, rfl⟩
  go_wp2_with fail
  refine (CT.out _).mono ?_; rintro e w5 ⟨rfl, b5⟩
  have X5 := Lib.hid (X0.out.reads b5); have HB5 := Lib.hid (HB.out.trans (b5.mono HB.out.size))
  have hlt5 : w.heap.size < w5.heap.size := X5.out.lt
  have b6 := (Below.refl w5.heap.size w5).alloc (Nat.le_refl _) (.cells #[.slice none 0 0, .string hi, .int .i64 (NX : Int)] 24)
  have I0 := Lib.hid (show InL w (w5.alloc (.cells #[.slice none 0 0, .string hi, .int .i64 (NX : Int)] 24)) w.heap.size w5.heap.size (.slice none 0 0) [] hi (NX : Int) from
    ⟨X5.out.reads b6, At.new _ _ _, World.ownsRow_nil _ _ _ _, HB5.out.trans (b6.mono HB5.out.size), HB5.out.size, Nat.le_refl _, by omega⟩)
  clear b5 b6 X5 HB5 hlt5 X0 HB CA CB CT H LT
  go_upto_region 7 with fail
  go_step3
  generalize w5.alloc (.cells #[.slice none 0 0, .string hi, .int .i64 (NX : Int)] 24) = W6 at *
  generalize w5.heap.size = B at *
  obtain ⟨Br, hBr⟩ : ∃ Br, w.heap.size = Br := ⟨_, rfl⟩
  rw [hBr] at I0 ⊢
  go_upto_block 0 with fail
  go_cut [10, 11] (fun a e wx => LoopR w wx s Br B hi (NX : Int) res a e)
  case first =>
    go_wp2_with fail
    go_loopw [10, 11] (fun a e wr => ∃ (k q : Nat) (v : Value) (A : Prs), a = .int .i64 (q : Int) ∧ e = .int .i64 0 ∧ InL w wr Br B v A hi (NX : Int) ∧ A.length = k ∧ k ≤ N ∧ q ≤ s.size ∧ res = mkR hi (NX : Int) (joinR10 A (pairsR10 (N - k) (s.data.toList.drop q)))) (fun a _ _ => s.size - (intOf a).toNat)
    case atStart => exact ⟨0, q0, _, [], rfl, rfl, I0.out, rfl, by omega, HQ0.out, by rw [Nat.sub_zero]; exact HRes.out⟩
    case round =>
      obtain ⟨k, q, v, A, rfl, rfl, hI, hA, hk, hq, hres⟩ := hrel
      have HI := Lib.hid hI; have HA := Lib.hid hA; have HRS := Lib.hid hres
      have hAle : A.length ≤ 255 := by omega
      obtain ⟨va, vC, rfl, hcap, hC, hnil, hform⟩ := own_slice hI.row
      have d0 : wr.cell? ⟨B, 0, none⟩ = some (.slice va A.length vC) := hI.box.cell 0
      rw [hA] at d0
      clear hI hres hA I0 HRes HQ0 hcap hC hnil hform
      have k0 : (0 : Int) ≤ (k : Int) := by omega
      by_cases hc : k < N
      · have c1 : (k : Int) < (N : Int) := by omega
        obtain ⟨n, hn⟩ : ∃ n, N - k = n + 1 := ⟨N - k - 1, by omega⟩
        have X7 := At.new wr #[.string ⟨#[]⟩, .string ⟨#[]⟩] 90
        have b7 := (Below.refl wr.heap.size wr).alloc (Nat.le_refl _) (.cells #[.string ⟨#[]⟩, .string ⟨#[]⟩] 90)
        have I7 := Lib.hid (HI.out.reads b7)
        have HX7 := Lib.hid X7
        have HN1 := Lib.hid (show wr.heap.size ≠ B from fun e => by have := HI.out.box.lt; omega)
        have HN2 := Lib.hid (show wr.heap.size ≠ Br from fun e => by have := HI.out.res.lt; omega)
        have HN3 := Lib.hid (show w.heap.size ≤ wr.heap.size from HI.out.bel.size)
        clear HI X7 b7
        go_wp2_with fail
        generalize wr.alloc (.cells #[.string ⟨#[]⟩, .string ⟨#[]⟩] 90) = W7 at *
        generalize wr.heap.size = Bt at *
        go_loopw [10, 11, 49] (fun a e i wr => ∃ (j q' : Nat) (t0 t1 : ByteArray), a = .int .i64 (q' : Int) ∧ e = .int .i64 0 ∧ i = .int .i64 (j : Int) ∧ InL w wr Br B (.slice va A.length vC) A hi (NX : Int) ∧ At wr Bt #[.string t0, .string t1] 90 ∧ q' ≤ s.size ∧ TxS s.data.toList q j q' t0 t1 ∧ q + j ≤ q' ∧ j ≤ 2) (fun _ _ i _ => 2 - (intOf i).toNat)
        case atStart => exact ⟨0, q, _, _, rfl, rfl, rfl, I7.out, HX7.out, hq, TxS.zero, by omega, by omega⟩
        case round =>
          obtain ⟨j, q', t0, t1, rfl, rfl, rfl, hI, hX, hq', hT, hqj, hj⟩ := hrel
          have HI := Lib.hid hI; have HX := Lib.hid hX; have HT := Lib.hid hT
          clear hI hX hT I7 HX7 d0
          rcases (show j = 0 ∨ j = 1 ∨ j = 2 by omega) with rfl | rfl | rfl
          · obtain ⟨rfl, rfl, rfl⟩ := HT.out.is0
            clear HT

            cases ht : textL10 (s.data.toList.drop q') with
            | none =>
              obtain ⟨kk, hkk, CT⟩ := text_no10 s q' wr hs hq' ht
              have CT := Lib.hid CT
              have hkk2 : (kk != 0) = true := by rw [bne_iff_ne]; exact beq_eq_false_iff_ne.1 hkk
              have HE := Lib.hid (show res = none by rw [HRS.out, hn]; exact stop0 ht)
              clear ht HRS 
              go_wp2_with fail
              refine CT.out.mono ?_; rintro e w2 ⟨rfl, b2⟩
              have I2 := Lib.hid (HI.out.reads b2); have X2 := HX.out.reads b2
              have I3 := Lib.hid (I2.out.far (j := 0) (u := .string ⟨#[]⟩) (by decide) X2 HN1.out HN2.out HN3.out)
              have y0 := X2.cell 0; have y1 := X2.cell 1; have v0 := X2.fz 0; have v1 := X2.fz 1
              clear b2 X2 CT HI HX
              go_wp2_with fail
              go_meet
              exact ⟨_, A, I3.out, 0, kk, rfl, rfl, .inl ⟨hkk, HE.out⟩⟩
            | some y =>
              obtain ⟨tt, l1⟩ := y
              obtain ⟨_, _, _, hx1, hq1⟩ := textL_at10 hq' ht
              have CT := text_yes10 s tt q' l1 wr hs hq' ht
              have HTx := show textL10 (s.data.toList.drop q') = some (tt, s.data.toList.drop (q' + 1 + tt.size)) by rw [ht, hx1]
              obtain ⟨q2, hq2⟩ : ∃ q2, q' + 1 + tt.size = q2 := ⟨_, rfl⟩
              rw [hq2] at CT hq1 HTx
              have hgt : q' < q2 := by omega
              have CT := Lib.hid CT; have HTx := Lib.hid HTx; have HQ1 := Lib.hid hq1
              clear ht hx1 hq1 hq2
              go_wp2_with fail
              refine CT.out.mono ?_; rintro e w2 ⟨rfl, b2⟩
              have I2 := Lib.hid (HI.out.reads b2); have X2 := HX.out.reads b2
              have I3 := Lib.hid (I2.out.far (j := 0) (u := .string tt) (by decide) X2 HN1.out HN2.out HN3.out)
              have X3 := Lib.hid (show At (w2.setCell ⟨Bt, 0, none⟩ (.string tt)) Bt #[.string tt, .string ⟨#[]⟩] 90 from X2.set 0 (.string tt))
              have y0 := X2.cell 0; have y1 := X2.cell 1; have v0 := X2.fz 0; have v1 := X2.fz 1
              clear b2 X2 CT HI HX
              go_wp2_with fail
              exact ⟨⟨1, q2, tt, ⟨#[]⟩, rfl, rfl, rfl, I3.out, X3.out, HQ1.out, TxS.one HTx.out, by omega, by omega⟩, by simp [intOf]⟩

          · obtain ⟨HT1, rfl⟩ := HT.out.is1
            have HT1 := Lib.hid HT1
            clear HT

            cases ht : textL10 (s.data.toList.drop q') with
            | none =>
              obtain ⟨kk, hkk, CT⟩ := text_no10 s q' wr hs hq' ht
              have CT := Lib.hid CT
              have hkk2 : (kk != 0) = true := by rw [bne_iff_ne]; exact beq_eq_false_iff_ne.1 hkk
              have HE := Lib.hid (show res = none by rw [HRS.out, hn]; exact stop1 HT1.out ht)
              clear ht HRS HT1
              go_wp2_with fail
              refine CT.out.mono ?_; rintro e w2 ⟨rfl, b2⟩
              have I2 := Lib.hid (HI.out.reads b2); have X2 := HX.out.reads b2
              have I3 := Lib.hid (I2.out.far (j := 1) (u := .string ⟨#[]⟩) (by decide) X2 HN1.out HN2.out HN3.out)
              have y0 := X2.cell 0; have y1 := X2.cell 1; have v0 := X2.fz 0; have v1 := X2.fz 1
              clear b2 X2 CT HI HX
              go_wp2_with fail
              go_meet
              exact ⟨_, A, I3.out, 0, kk, rfl, rfl, .inl ⟨hkk, HE.out⟩⟩
            | some y =>
              obtain ⟨tt, l1⟩ := y
              obtain ⟨_, _, _, hx1, hq1⟩ := textL_at10 hq' ht
              have CT := text_yes10 s tt q' l1 wr hs hq' ht
              have HTx := show textL10 (s.data.toList.drop q') = some (tt, s.data.toList.drop (q' + 1 + tt.size)) by rw [ht, hx1]
              obtain ⟨q2, hq2⟩ : ∃ q2, q' + 1 + tt.size = q2 := ⟨_, rfl⟩
              rw [hq2] at CT hq1 HTx
              have hgt : q' < q2 := by omega
              have CT := Lib.hid CT; have HTx := Lib.hid HTx; have HQ1 := Lib.hid hq1
              clear ht hx1 hq1 hq2
              go_wp2_with fail
              refine CT.out.mono ?_; rintro e w2 ⟨rfl, b2⟩
              have I2 := Lib.hid (HI.out.reads b2); have X2 := HX.out.reads b2
              have I3 := Lib.hid (I2.out.far (j := 1) (u := .string tt) (by decide) X2 HN1.out HN2.out HN3.out)
              have X3 := Lib.hid (show At (w2.setCell ⟨Bt, 1, none⟩ (.string tt)) Bt #[.string t0, .string tt] 90 from X2.set 1 (.string tt))
              have y0 := X2.cell 0; have y1 := X2.cell 1; have v0 := X2.fz 0; have v1 := X2.fz 1
              clear b2 X2 CT HI HX
              go_wp2_with fail
              exact ⟨⟨2, q2, t0, tt, rfl, rfl, rfl, I3.out, X3.out, HQ1.out, TxS.two HT1.out HTx.out, by omega, by omega⟩, by simp [intOf]⟩

          · obtain ⟨q1, hT1, hT2⟩ := HT.out.is2
            have HM := Lib.hid (pairsR_more (n := n) A hT1 hT2)
            clear hT1 hT2 HT
            obtain ⟨g, C, w9, hap, ha9, I9⟩ := HI.out.append t0 t1 (by omega)
            rw [HA.out] at hap I9
            have I9 := Lib.hid I9; have A9 := Lib.hid ha9; have HAP := Lib.hid hap
            have y0 := HX.out.cell 0; have y1 := HX.out.cell 1
            have d0 := HI.out.box.cell 0
            simp only [List.getElem?_toArray, List.getElem?_cons_zero, List.getElem?_cons_succ, HA.out] at d0 y0 y1
            clear hap ha9 HI
            go_wp2_with (at_builtin; refine wpList_append_run10 rfl (.tmp 65) (.tmp 71) _ _ rfl _ _ rfl rfl _ _ HAP.out ?_; clear d0 y0 y1; have d0 := A9.out.cell 0; have z0 := A9.out.fz 0)
            exact ⟨⟨k + 1, q', _, A ++ [(t0, t1)], rfl, rfl, I9.out, by simp [HA.out], by omega, hq', by rw [HRS.out, hn, HM.out, show N - (k + 1) = n by omega]⟩, by simp [intOf]; omega⟩
      · obtain rfl : k = N := by omega
        have HE := Lib.hid (show res = some (⟨A, hi, (NX : Int)⟩, s.data.toList.drop q) by rw [HRS.out, Nat.sub_self]; simp [pairsR10, joinR10, mkR])
        clear HRS
        go_wp2_with fail
        go_meet
        exact ⟨_, A, HI.out, q, 0, rfl, rfl, .inr ⟨rfl, q, rfl, hq, HE.out⟩⟩
  case rest =>
    obtain ⟨v, A, hI, p, k, rfl, rfl, hR⟩ := hcut
    have HI := Lib.hid hI
    obtain ⟨va, C, rfl, hPA, hfr⟩ := OwnP.prAt hI.row
    have c0 := hI.box.cell 0; have c1 := hI.box.cell 1; have c2 := hI.box.cell 2
    have d0 := hI.res.cell 0; have d1 := hI.res.cell 1; have d2 := hI.res.cell 2
    have z0 := hI.res.fz 0; have z1 := hI.res.fz 1; have z2 := hI.res.fz 2
    have D := hI.res.put3 (u := .slice va A.length C) (v := .string hi) (t := .int .i64 (NX : Int))
    have BF := Lib.hid (below_put3 (u := .slice va A.length C) (v := .string hi) (t := .int .i64 (NX : Int)) hI.bel hI.ger)
    have PA := Lib.hid (PrAt.put3 hI.res hPA (.slice va A.length C) (.string hi) (.int .i64 (NX : Int)))
    have f0 := D.cell 0; have f1 := D.cell 1; have f2 := D.cell 2
    simp only [List.getElem?_toArray, List.getElem?_cons_zero, List.getElem?_cons_succ] at c0 c1 c2 d0 d1 d2 f0 f1 f2
    have HRR := Lib.hid hR
    clear D hI hPA hfr hR I0 HRes HQ0 HI
    rcases HRR.out with ⟨hk, hr⟩ | ⟨rfl, q, rfl, hq, hr⟩
    · have HE := Lib.hid hr
      clear hr HRR
      go_wp2_with fail
      rw [Exit.noGoto_ret]
      refine bodyPost_ret (v := .tuple #[lfV va C ⟨A, hi, (NX : Int)⟩, .int .i64 p, .bool false]) ?_ rfl ⟨BF.out, ?_⟩
      · simp [results, Try.results39, go_sem, f0, f1, f2, lfV]
      · rw [HE.out]
        exact ⟨va, C, _, p, rfl⟩
    · have HE := Lib.hid hr
      clear hr HRR
      go_wp2_with fail
      rw [Exit.noGoto_ret]
      refine bodyPost_ret (v := .tuple #[lfV va C ⟨A, hi, (NX : Int)⟩, .int .i64 (q : Int), .bool true]) ?_ rfl ⟨BF.out, ?_⟩
      · simp [results, Try.results39, go_sem, f0, f1, f2, lfV]
      · rw [HE.out]
        exact ⟨va, C, q, rfl, PA.out, rfl, hq⟩
end Go.Proofs.Ytajbnfobmnibjaa
