/-
  Package rec: the contract of Decode: what the deferred call does, a panic caught, and a record told.
-/
import Derived.Test.YthnpkhejfcclcaaDoorD05k
import Derived.Defers
import Derived.Recover
import Derived.Laws.Pointers
namespace Go.Proofs.YthnpkhejfcclcaaDoor
open Go.RowKit

theorem pairsR_small : ∀ (n : Nat) (l x : List UInt8) (pr : Prs), pairsR n l = some (pr, x) → ∀ p ∈ pr, p.1.size ≤ 255 ∧ p.2.size ≤ 255
  | 0, l, x, pr, h => by simp [pairsR] at h; obtain ⟨rfl, rfl⟩ := h; intro p hp; simp at hp
  | n + 1, l, x, pr, h => by
    simp only [pairsR] at h
    split at h
    · cases h
    · rename_i k l1 h1
      split at h
      · cases h
      · rename_i v l2 h2
        split at h
        · cases h
        · rename_i pr' l3 h3
          simp only [Option.some.injEq, Prod.mk.injEq] at h
          obtain ⟨rfl, rfl⟩ := h
          intro p hp
          rcases List.mem_cons.1 hp with rfl | hp
          · exact ⟨(textL_got h1).2.1, (textL_got h2).2.1⟩
          · exact pairsR_small n _ _ _ h3 p hp
theorem parseL_small {l x : List UInt8} {r : RecP} (h : parseL l = some (r, x)) : r.key.size ≤ 255 ∧ r.value.size ≤ 255 ∧ SmallP r.pairs ∧ r.pairs.length ≤ 65535 := by
  have h0 : (⟨#[]⟩ : ByteArray).size ≤ 255 := by decide
  have hS : SmallP [] := fun p hp => by simp at hp
  unfold parseL at h
  split at h
  · cases h
  split at h
  · split at h
    · split at h
      · cases h
      split at h
      · split at h
        · cases h
        rename_i ke l3 h3
        split at h
        · split at h
          · cases h
          rename_i va l4 h4
          simp only [Option.some.injEq, Prod.mk.injEq] at h
          obtain ⟨rfl, rfl⟩ := h
          exact ⟨(textL_got h3).2.1, (textL_got h4).2.1, hS, by simp⟩
        · simp only [Option.some.injEq, Prod.mk.injEq] at h
          obtain ⟨rfl, rfl⟩ := h
          exact ⟨(textL_got h3).2.1, h0, hS, by simp⟩
      · simp only [Option.some.injEq, Prod.mk.injEq] at h
        obtain ⟨rfl, rfl⟩ := h
        exact ⟨h0, h0, hS, by simp⟩
    · split at h
      · cases h
      split at h
      · cases h
      split at h
      · cases h
      split at h
      · split at h
        · cases h
        rename_i m l5 h5
        split at h
        · cases h
        rename_i pr l6 h6
        have hm := (numL_got h5).2.1
        rw [show (256 : Nat) ^ 2 = 65536 from rfl] at hm
        simp only [Option.some.injEq, Prod.mk.injEq] at h
        obtain ⟨rfl, rfl⟩ := h
        refine ⟨h0, h0, fun p hp => ?_, ?_⟩
        · have := pairsR_small _ _ _ _ h6 p hp; omega
        · have := (pairsR_got _ _ _ _ h6).2; dsimp only; omega
      · simp only [Option.some.injEq, Prod.mk.injEq] at h
        obtain ⟨rfl, rfl⟩ := h
        exact ⟨h0, h0, hS, by simp⟩
  · cases h
/-- an error's box -/
def BoxE (w : World) (B : Nat) (e : Int) : Prop := w.heap[B]? = some (.cells #[.int .i64 e] 37 (0, 0))
theorem BoxE.lt {w : World} {B : Nat} {e : Int} (h : BoxE w B e) : B < w.heap.size := (Array.getElem?_eq_some_iff.1 h).1
theorem BoxE.c {w : World} {B : Nat} {e : Int} (h : BoxE w B e) : w.cell? ⟨B, 0, none⟩ = some (.int .i64 e) := by have h' : w.heap[B]? = _ := h; simp [World.cell?, h']
theorem BoxE.fz {w : World} {B : Nat} {e : Int} (h : BoxE w B e) : w.frozen? ⟨B, 0, none⟩ = false := by have h' : w.heap[B]? = _ := h; simp [World.frozen?, h']
theorem BoxE.set {w : World} {B : Nat} {e : Int} (h : BoxE w B e) (x : Int) : BoxE (w.setCell ⟨B, 0, none⟩ (.int .i64 x)) B x := heap_set5 _ _ _ _ _ _ h
theorem catch_idle5 (p q : Addr) (w : World) :
    CallsD Tryd.prog 40 #[.pointer (some p), .pointer (some q)] .returning w fun e u' w' => e = .returned (.tuple #[]) ∧ u' = .returning ∧ w' = w := by
  refine callsD_of_wpS Tryd.func40 rfl fun c₀ cs hu => ?_
  apply wpS_seq
  apply wpS_region
  simp [wpOpsS, go_sem, recoverD, hu, Tryd.ntmps40, Exit.thenS]
  refine wpS_cond (t := false) (by simp [Act.eval, Array.replicate]) ?_
  simp only [Bool.false_eq_true, if_false]
  refine wpS_of_wp (wp_skip ?_)
  cases c₀
  simp_all [bodyPostS, results, Tryd.results40]
set_option maxRecDepth 100000 in
set_option maxHeartbeats 1000000 in
theorem catch_odd (B E : Nat) (k t : Int) (ke va : ByteArray) (pa un nu : Int) (v : Value) (er : Int) (w : World) (hB : Box8 QT w B k t ke va pa un nu v) (hE : BoxE w E er) :
    CallsD Tryd.prog 40 #[.pointer (some ⟨B, 0, none⟩), .pointer (some ⟨E, 0, none⟩)] (.panicking odd5) w fun e u' w' =>
      e = .returned (.tuple #[]) ∧ u' = .panicking [{ v := .iface 37 (.int .i64 4), recovered := true }] ∧ w' = (put8 w B 0 0 ⟨#[]⟩ ⟨#[]⟩ 0 0 0 (.slice none 0 0)).setCell ⟨E, 0, none⟩ (.int .i64 4) := by
  refine callsD_of_wpS Tryd.func40 rfl fun c₀ cs hu => ?_
  apply wpS_seq
  apply wpS_region
  simp [wpOpsS, go_sem, recoverD, hu, Tryd.ntmps40, Exit.thenS]
  refine wpS_cond (t := true) (by simp [Act.eval, Array.replicate]) ?_
  simp only [if_true]
  refine wpS_of_wp ?_
  have hne : ¬ E = B := fun e => by
    have e1 : w.heap[B]? = _ := hB
    have e2 : w.heap[E]? = _ := hE
    subst e; rw [e1] at e2; cases e2
  have c0 := hB.c0; have c1 := hB.c1; have c2 := hB.c2; have c3 := hB.c3; have c4 := hB.c4; have c5 := hB.c5; have c6 := hB.c6; have c7 := hB.c7
  have z0 := hB.fz 0; have z1 := hB.fz 1; have z2 := hB.fz 2; have z3 := hB.fz 3; have z4 := hB.fz 4; have z5 := hB.fz 5; have z6 := hB.fz 6; have z7 := hB.fz 7
  have ce := hE.c; have ze := hE.fz
  go_wp2
  exact ⟨rfl, _, rfl, _, by simp [results, Tryd.results40], rfl, rfl, rfl⟩
/-- a panic, caught -/
theorem odd_caught {w0 w : World} {B E : Nat} {k t : Int} {ke va : ByteArray} {pa un nu : Int} {v : Value} {er : Int} (bx : Box8 QT w B k t ke va pa un nu v) (be : BoxE w E er) (bel : Below w0.heap.size w0 w) (lB : w0.heap.size ≤ B) (lE : w0.heap.size ≤ E) :
    CallsD Tryd.prog 40 #[.pointer (some ⟨B, 0, none⟩), .pointer (some ⟨E, 0, none⟩)] (.panicking odd5) w fun e u' w' =>
    e = .returned (.tuple #[]) ∧ u' = .panicking [{ v := .iface 37 (.int .i64 4), recovered := true }] ∧ Box8 QT w' B 0 0 ⟨#[]⟩ ⟨#[]⟩ 0 0 0 (.slice none 0 0) ∧ BoxE w' E 4 ∧ Below w0.heap.size w0 w' := by
  have hne : E ≠ B := fun e => by
    have e1 : w.heap[B]? = _ := bx
    have e2 : w.heap[E]? = _ := be
    subst e; rw [e1] at e2; simp at e2
  refine (catch_odd B E _ _ _ _ _ _ _ _ _ w bx be).mono ?_
  rintro e u' w' ⟨rfl, rfl, rfl⟩
  exact ⟨rfl, rfl, (bx.put _ _ _ _ _ _ _ _).far _ (fun e => hne e.symm), BoxE.set (e := er) ((put8_far _ _ _ _ _ _ _ _ _ _ _ hne).trans be) 4, (put8_bel bel _ _ _ _ _ _ _ _ _ lB).setCell lE _⟩
theorem put8_pairs' {w : World} {B : Nat} {a : Option Addr} {l : Prs} (h : PairsAt w a l) (hB : ∀ x, a = some x → x.block ≠ B) (k t : Int) (ke va : ByteArray) (pa un nu : Int) (v : Value) : PairsAt (put8 w B k t ke va pa un nu v) a l := by
  unfold put8
  exact pairs_far (pairs_far (pairs_far (pairs_far (pairs_far (pairs_far (pairs_far (pairs_far h B 0 _ hB) B 1 _ hB) B 2 _ hB) B 3 _ hB) B 4 _ hB) B 5 _ hB) B 6 _ hB) B 7 _ hB
/-- Decode at work: the result (B), the error (E), the reader (R) -/
structure InF (w0 w : World) (R B E : Nat) (s : ByteArray) (p : Nat) (r : RecP) (a : Option Addr) (C : Nat) : Prop where
  rd : Rd w R s p
  bx : Box8 QT w B r.kind r.txn r.key r.value r.pass r.unit r.num (.slice a r.pairs.length C)
  be : BoxE w E 0
  prs : PairsAt w a r.pairs
  far : ∀ y, a = some y → w0.heap.size ≤ y.block ∧ y.block ≠ B ∧ y.block ≠ E
  bel : Below w0.heap.size w0 w
  lB : w0.heap.size ≤ B
  lE : w0.heap.size ≤ E
section
variable {w0 w w' : World} {R B E : Nat} {s : ByteArray} {p : Nat} {r : RecP} {a : Option Addr} {C : Nat}
theorem InF.below (h : InF w0 w R B E s p r a C) (b : Below w.heap.size w w') : InF w0 w' R B E s p r a C :=
  ⟨h.rd.below b, h.bx.below b h.bx.lt, (b.block E h.be.lt).trans h.be, h.prs.below b, h.far, h.bel.trans (b.mono h.bel.size), h.lB, h.lE⟩
end
set_option maxRecDepth 100000 in
set_option maxHeartbeats 4000000 in
theorem decode_any (w : World) (s : ByteArray) (hL : Laid5 w) (hs : s.size ≤ 1000000) (r : RecP) (er : Int)
    (hr : (∃ q, RightP q ∧ encB q = s ∧ r = q ∧ er = 0) ∨ ((∀ q, RightP q → encB q ≠ s) ∧ r = zeroR ∧ er = 4)) : Calls Tryd.prog 23 #[.string s] w (DecOut w r er) := by
  have hmf : ∀ (fn : Fn) (first cap : Array Value) (w : World), (Instr.makeFunc fn first cap).run Tryd.prog w = .ok (.func fn first cap) w := fun _ _ _ _ => rfl
  have HRR := Lib.hid hr
  clear hr
  have HL := Lib.hid hL
  have hpos := hL.pos
  clear hL
  have b1 := (Below.refl w.heap.size w).alloc (Nat.le_refl _) (.cells #[.int .i64 0, .int .i64 0, .string ⟨#[]⟩, .string ⟨#[]⟩, .int .i64 0, .int .i64 0, .int .i64 0, .slice none 0 0] QT)
  have X1 := box8_new QT w 0 0 ⟨#[]⟩ ⟨#[]⟩ 0 0 0 (.slice none 0 0)
  have s1 : (w.alloc (.cells #[.int .i64 0, .int .i64 0, .string ⟨#[]⟩, .string ⟨#[]⟩, .int .i64 0, .int .i64 0, .int .i64 0, .slice none 0 0] QT)).heap.size = w.heap.size + 1 := by simp
  go_enter_defers Tryd.func23, Tryd.ntmps23
  go_upto_region 3 with fail
  generalize w.alloc (.cells #[.int .i64 0, .int .i64 0, .string ⟨#[]⟩, .string ⟨#[]⟩, .int .i64 0, .int .i64 0, .int .i64 0, .slice none 0 0] QT) = w1 at *
  have b2 := (Below.refl w1.heap.size w1).alloc (Nat.le_refl _) (.cells #[.int .i64 0] 37)
  have E2 : BoxE (w1.alloc (.cells #[.int .i64 0] 37)) w1.heap.size 0 := heap_alloc_new w1 _
  have s2 : (w1.alloc (.cells #[.int .i64 0] 37)).heap.size = w1.heap.size + 1 := by simp
  have X2 := X1.below b2 X1.lt
  have B2 := b1.trans (b2.mono b1.size)
  generalize w1.alloc (.cells #[.int .i64 0] 37) = w2 at *
  have b3 := (Below.refl w2.heap.size w2).alloc (Nat.le_refl _) (.cells #[.string s, .int .i64 0] 63)
  have R3 : Rd (w2.alloc (.cells #[.string s, .int .i64 0] 63)) w2.heap.size s 0 := heap_alloc_new w2 _
  have X3 := X2.below b3 X2.lt
  have E3 : BoxE _ w1.heap.size 0 := (b3.block _ E2.lt).trans E2
  have B3 := B2.trans (b3.mono B2.size)
  have s3 : (w2.alloc (.cells #[.string s, .int .i64 0] 63)).heap.size = w2.heap.size + 1 := by simp
  generalize w2.alloc (.cells #[.string s, .int .i64 0] 63) = w3 at *
  rw [s2, s1] at R3
  rw [s1] at E3
  have L3 := Lib.hid (HL.out.step B3)
  have CR := Lib.hid (record_any w3 _ s L3.out R3 (by omega) hs)
  have HX3 := Lib.hid X3; have HE3 := Lib.hid E3; have HB3 := Lib.hid B3
  have sz3 : w3.heap.size = w.heap.size + 3 := by omega
  clear b1 b2 b3 X1 X2 X3 E2 E3 B2 B3 R3 s1 s2 s3
  generalize hB : w.heap.size = B at *
  go_wp2_with fail
  refine CR.out.mono ?_; rintro e w4 ⟨g4, hm⟩
  have X4 : Box8 QT w4 B 0 0 ⟨#[]⟩ ⟨#[]⟩ 0 0 0 (.slice none 0 0) := (g4.block B HX3.out.lt (by intro e; cases e)).trans HX3.out
  have E4 : BoxE w4 (B + 1) 0 := (g4.block (B + 1) HE3.out.lt (by intro e; cases e)).trans HE3.out
  have B4 : Below w.heap.size w w4 := by rw [hB]; exact HB3.out.grown g4 (by omega) (fun j hj => by cases hj; omega)
  have sz4 : w.heap.size + 3 ≤ w4.heap.size := by have := g4.size; omega
  cases hp : parseL s.data.toList with
  | none =>
    rw [hp] at hm
    obtain rfl : e = _ := hm
    have HN := Lib.hid (show r = zeroR ∧ er = 4 by
      rcases HRR.out with ⟨q, h1, h2, _⟩ | ⟨_, h⟩
      · have := parseL_put q [] h1
        rw [List.append_nil, show encL q = s.data.toList by rw [← h2]; rfl, hp] at this
        cases this
      · exact h)
    have CO := Lib.hid (odd_caught X4 E4 B4 (by omega) (by omega))
    clear hp HRR CR HL L3 HX3 HE3 HB3 g4 X4 E4 B4
    go_wp2
    refine leaves_cons (f := 40) (args := #[.pointer (some ⟨B, 0, none⟩), .pointer (some ⟨B + 1, 0, none⟩)]) (by simp) (by simp [go_sem]) ?_
    refine CO.out.mono ?_
    rintro e u' w5 ⟨rfl, rfl, f8, fe, fb⟩
    have f0 := f8.c0; have f1 := f8.c1; have f2 := f8.c2; have f3 := f8.c3; have f4 := f8.c4; have f5 := f8.c5; have f6 := f8.c6; have f7 := f8.c7; have fe := fe.c
    simp only [Leaves, settle, List.dropWhile_nil]
    refine ⟨.tuple #[recV zeroR none 0, .int .i64 4], by simp [results, Tryd.results23, go_sem, recV, zeroR, f0, f1, f2, f3, f4, f5, f6, f7, fe], ?_⟩
    rw [HN.out.1, HN.out.2]
    exact ⟨none, 0, rfl, pairsAt_nil _ _, fb, fun x hx => by cases hx⟩
  | some y =>
    obtain ⟨r', x⟩ := y
    rw [hp] at hm
    obtain ⟨a, C, p, rfl, hPA, hRd, rfl, hps, hFr⟩ := hm
    obtain ⟨z1, z2, z3, z4⟩ := parseL_small hp
    have hgot := parseL_got hp
    have I5 : InF w (put8 w4 B r'.kind r'.txn r'.key r'.value r'.pass r'.unit r'.num (.slice a r'.pairs.length C)) (B + 1 + 1) B (B + 1) s p r' a C :=
      ⟨(put8_far _ _ _ _ _ _ _ _ _ _ _ (by omega)).trans hRd, X4.put _ _ _ _ _ _ _ _, (put8_far _ _ _ _ _ _ _ _ _ _ _ (by omega)).trans E4, put8_pairs hPA (fun y hy => by have := hFr y hy; omega) _ _ _ _ _ _ _ _, fun y hy => by have := hFr y hy; omega, put8_bel B4 _ _ _ _ _ _ _ _ _ (by omega), by omega, by omega⟩
    have HI5 := Lib.hid I5
    have m0 := X4.c0; have m1 := X4.c1; have m2 := X4.c2; have m3 := X4.c3; have m4 := X4.c4; have m5 := X4.c5; have m6 := X4.c6; have m7 := X4.c7
    have n0 := X4.fz 0; have n1 := X4.fz 1; have n2 := X4.fz 2; have n3 := X4.fz 3; have n4 := X4.fz 4; have n5 := X4.fz 5; have n6 := X4.fz 6; have n7 := X4.fz 7
    have HP := Lib.hid hp; have HGT := Lib.hid hgot
    obtain ⟨W5, HW5⟩ : ∃ W, Hid (put8 w4 B r'.kind r'.txn r'.key r'.value r'.pass r'.unit r'.num (.slice a r'.pairs.length C) = W) := ⟨_, rfl⟩
    rw [HW5.out] at HI5
    clear I5 hPA hRd hFr X4 E4 B4 g4 CR HX3 HE3 HB3 L3 hp hgot
    dsimp only [recV]
    go_upto_region 4 with fail
    clear m0 m1 m2 m3 m4 m5 m6 m7 n0 n1 n2 n3 n4 n5 n6 n7
    unfold put8 at HW5
    rw [HW5.out]
    clear HW5
    have HL5 := Lib.hid (HL.out.step HI5.out.bel)
    have c1 := HI5.out.rd.c1
    have HO := Lib.hid (show (∀ q, RightP q → encB q ≠ s) → r = zeroR ∧ er = 4 from fun h => by
      rcases HRR.out with ⟨q, h1, h2, _⟩ | ⟨_, h'⟩
      · exact absurd h2 (h q h1)
      · exact h')
    have HU := Lib.hid (show ∀ q, RightP q → encB q = s → q = r' ∧ s.data.toList.drop p = [] from fun q h1 h2 => by
      have := parseL_put q [] h1
      rw [List.append_nil, show encL q = s.data.toList by rw [← h2]; rfl, HP.out] at this
      simp only [Option.some.injEq, Prod.mk.injEq] at this
      exact ⟨this.1.symm, this.2⟩)
    by_cases he : p = s.size
    · have e1 : ((p : Int) == (s.size : Int)) = true := by rw [beq_iff_eq]; omega
      have CRt := right_any W5 r' a C HL5.out HI5.out.prs z3 (by omega) (by omega) (by omega)
      have k0 := HI5.out.bx.c0; have k1 := HI5.out.bx.c1; have k2 := HI5.out.bx.c2; have k3 := HI5.out.bx.c3; have k4 := HI5.out.bx.c4; have k5 := HI5.out.bx.c5; have k6 := HI5.out.bx.c6; have k7 := HI5.out.bx.c7
      dsimp only [recV] at CRt
      cases hb : rightB r' with
      | false =>
        rw [hb] at CRt
        have HN := Lib.hid (HO.out (fun q h1 h2 => by
          obtain ⟨rfl, _⟩ := HU.out q h1 h2
          rw [(rightB_iff q).2 h1] at hb; cases hb))
        have HC := Lib.hid CRt
        clear CRt hb HO HU HP HGT HRR HL HL5
        go_wp2_with fail
        refine HC.out.mono ?_; rintro e w6 ⟨rfl, b6⟩
        have I6 := HI5.out.below b6
        have CO := Lib.hid (odd_caught I6.bx I6.be I6.bel (by omega) (by omega))
        clear I6 b6 HC k0 k1 k2 k3 k4 k5 k6 k7 c1
        go_wp2_with fail
        refine (giveUp_yes _).mono ?_; rintro e w7 ⟨rfl, rfl⟩
        go_wp2
        refine leaves_cons (f := 40) (args := #[.pointer (some ⟨B, 0, none⟩), .pointer (some ⟨B + 1, 0, none⟩)]) (by simp) (by simp [go_sem]) ?_
        refine CO.out.mono ?_
        rintro e u' w5 ⟨rfl, rfl, f8, fe, fb⟩
        have f0 := f8.c0; have f1 := f8.c1; have f2 := f8.c2; have f3 := f8.c3; have f4 := f8.c4; have f5 := f8.c5; have f6 := f8.c6; have f7 := f8.c7; have fe := fe.c
        simp only [Leaves, settle, List.dropWhile_nil]
        refine ⟨.tuple #[recV zeroR none 0, .int .i64 4], by simp [results, Tryd.results23, go_sem, recV, zeroR, f0, f1, f2, f3, f4, f5, f6, f7, fe], ?_⟩
        rw [HN.out.1, HN.out.2]
        exact ⟨none, 0, rfl, pairsAt_nil _ _, fb, fun x hx => by cases hx⟩
      | true =>
        rw [hb] at CRt
        have HN := Lib.hid (show r = r' ∧ er = 0 by
          have hx : s.data.toList.drop p = [] := by rw [he, Lib.size_eq, List.drop_length]
          have hE : encB r' = s := by apply ba_ext; rw [encB_list]; have := HGT.out; rw [hx, List.append_nil] at this; exact this.symm
          rcases HRR.out with ⟨q, h1, h2, h3, h4⟩ | ⟨h1, _⟩
          · exact ⟨h3.trans (HU.out q h1 h2).1, h4⟩
          · exact absurd hE (h1 r' ((rightB_iff r').1 hb)))
        have HC := Lib.hid CRt
        clear CRt hb HO HU HP HGT HRR HL HL5
        go_wp2_with fail
        refine HC.out.mono ?_; rintro e w6 ⟨rfl, b6⟩
        have I6 := HI5.out.below b6
        have HI6 := Lib.hid I6
        clear I6 b6 HC k0 k1 k2 k3 k4 k5 k6 k7 c1
        go_wp2_with fail
        refine (giveUp_no _).mono ?_; rintro e w7 ⟨rfl, rfl⟩
        have k0 := HI6.out.bx.c0; have k1 := HI6.out.bx.c1; have k2 := HI6.out.bx.c2; have k3 := HI6.out.bx.c3; have k4 := HI6.out.bx.c4; have k5 := HI6.out.bx.c5; have k6 := HI6.out.bx.c6; have k7 := HI6.out.bx.c7
        have n0 := HI6.out.bx.fz 0; have n1 := HI6.out.bx.fz 1; have n2 := HI6.out.bx.fz 2; have n3 := HI6.out.bx.fz 3; have n4 := HI6.out.bx.fz 4; have n5 := HI6.out.bx.fz 5; have n6 := HI6.out.bx.fz 6; have n7 := HI6.out.bx.fz 7
        have ke := HI6.out.be.c; have ne := HI6.out.be.fz
        go_wp2
        refine leaves_cons (f := 40) (args := #[.pointer (some ⟨B, 0, none⟩), .pointer (some ⟨B + 1, 0, none⟩)]) (by simp) (by simp [go_sem]) ?_
        refine (catch_idle5 _ _ _).mono ?_
        rintro e u' w8 ⟨rfl, rfl, rfl⟩
        have D1 := HI6.out.bx.put r'.kind r'.txn r'.key r'.value r'.pass r'.unit r'.num (.slice a r'.pairs.length C)
        have D2 := D1.far (p := ⟨B + 1, 0, none⟩) (.int .i64 0) (by simp)
        have D3 := BoxE.set (e := 0) ((put8_far w6 B (B + 1) r'.kind r'.txn r'.key r'.value r'.pass r'.unit r'.num (.slice a r'.pairs.length C) (by omega)).trans HI6.out.be) 0
        have D4 := pairs_far (put8_pairs' HI6.out.prs (fun y hy => (HI6.out.far y hy).2.1) r'.kind r'.txn r'.key r'.value r'.pass r'.unit r'.num (.slice a r'.pairs.length C)) (B + 1) 0 (.int .i64 0) (fun y hy => (HI6.out.far y hy).2.2)
        have D5 := (put8_bel HI6.out.bel B r'.kind r'.txn r'.key r'.value r'.pass r'.unit r'.num (.slice a r'.pairs.length C) (by omega)).setCell (p := ⟨B + 1, 0, none⟩) (show w.heap.size ≤ B + 1 by omega) (.int .i64 0)
        have D6 := fun y hy => (HI6.out.far y hy).1
        unfold put8 at D2 D3 D4 D5
        clear D1 HI6 HI5 k0 k1 k2 k3 k4 k5 k6 k7 n0 n1 n2 n3 n4 n5 n6 n7 ke ne
        generalize ((((((((w6.setCell ⟨B, 0, none⟩ (.int .i64 r'.kind)).setCell ⟨B, 1, none⟩ (.int .i64 r'.txn)).setCell ⟨B, 2, none⟩ (.string r'.key)).setCell ⟨B, 3, none⟩ (.string r'.value)).setCell ⟨B, 4, none⟩ (.int .i64 r'.pass)).setCell ⟨B, 5, none⟩ (.int .i64 r'.unit)).setCell ⟨B, 6, none⟩ (.int .i64 r'.num)).setCell ⟨B, 7, none⟩ (.slice a r'.pairs.length C)).setCell ⟨B + 1, 0, none⟩ (.int .i64 0) = WW at *
        have f0 := D2.c0; have f1 := D2.c1; have f2 := D2.c2; have f3 := D2.c3; have f4 := D2.c4; have f5 := D2.c5; have f6 := D2.c6; have f7 := D2.c7; have fe := D3.c
        simp only [Leaves, settle]
        refine ⟨.tuple #[recV r' a C, .int .i64 0], by simp [results, Tryd.results23, go_sem, recV, f0, f1, f2, f3, f4, f5, f6, f7, fe], ?_⟩
        rw [HN.out.1, HN.out.2]
        exact ⟨a, C, rfl, D4, D5, D6⟩
    · have e1 : ((p : Int) == (s.size : Int)) = false := by rw [beq_eq_false_iff_ne]; omega
      have HN := Lib.hid (HO.out (fun q h1 h2 => by
        have h3 := (HU.out q h1 h2).2
        have := congrArg List.length h3
        rw [List.length_drop, ← Lib.size_eq] at this
        simp at this; omega))
      have CO := Lib.hid (odd_caught HI5.out.bx HI5.out.be HI5.out.bel (by omega) (by omega))
      clear HO HU HP HGT HRR HL HL5
      go_wp2_with fail
      refine (giveUp_yes _).mono ?_; rintro e w7 ⟨rfl, rfl⟩
      go_wp2
      refine leaves_cons (f := 40) (args := #[.pointer (some ⟨B, 0, none⟩), .pointer (some ⟨B + 1, 0, none⟩)]) (by simp) (by simp [go_sem]) ?_
      refine CO.out.mono ?_
      rintro e u' w5 ⟨rfl, rfl, f8, fe, fb⟩
      have f0 := f8.c0; have f1 := f8.c1; have f2 := f8.c2; have f3 := f8.c3; have f4 := f8.c4; have f5 := f8.c5; have f6 := f8.c6; have f7 := f8.c7; have fe := fe.c
      simp only [Leaves, settle, List.dropWhile_nil]
      refine ⟨.tuple #[recV zeroR none 0, .int .i64 4], by simp [results, Tryd.results23, go_sem, recV, zeroR, f0, f1, f2, f3, f4, f5, f6, f7, fe], ?_⟩
      rw [HN.out.1, HN.out.2]
      exact ⟨none, 0, rfl, pairsAt_nil _ _, fb, fun x hx => by cases hx⟩
end Go.Proofs.YthnpkhejfcclcaaDoor
