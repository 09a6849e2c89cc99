/-
  A table of locks beside what the call had: one contract a call, over who holds what and who waits for it.
-/
import Derived.Test.YtainnhcmhgloaaaGreatDoorW09v
import Derived.Test.YtainnhcmhgloaaaGreatDoorW09p
import Derived.Test.YtainnhcmhgloaaaGreatDoorGD
namespace Go.Proofs.YtainnhcmhgloaaaGreatDoor
open Go.RowKit Go.Shelf Go.MapKept Go.Maps Go.Sort Go.Lib

structure Lk (w0 : World) (g : Nat) (w : World) (o : Nat → Nat) (H W : Hs) (B : Nat) : Prop where
  T : T9 w o 1 g H W
  Z : Since w0 o w
  L : Laid9 w0
  I : Inv9 H W
  F : ∀ n, First9 H W n
  B : H.length + W.length ≤ B
/-- numbers in a row that no table has -/
def KI (w : World) (o : Nat → Nat) (v : Value) (l : List Int) : Prop := ∃ z, z ≠ 1 ∧ Row w o z 3 1 v l.length (l.map encI9)
section
variable {w w' w0 : World} {o o' : Nat → Nat} {i g B : Nat} {H W : Hs} {v : Value} {l : List Int}
theorem KI.step (h : KI w o v l) (s : Stp o 1 w o' w') : KI w' o' v l := by obtain ⟨z, hz, r⟩ := h; exact ⟨z, hz, r.other s hz⟩
theorem KI.reads (h : KI w o v l) (b : Below w.heap.size w w') : KI w' o v l := by obtain ⟨z, hz, r⟩ := h; exact ⟨z, hz, r.reads b⟩
theorem KI.sl (h : KI w o v l) : ∃ a C, v = .slice a l.length C := by
  obtain ⟨z, _, r⟩ := h
  rcases r.val with ⟨rfl, h0, _⟩ | ⟨gq, C, rfl, _⟩
  · exact ⟨_, _, by rw [h0]⟩
  · exact ⟨_, _, rfl⟩
theorem KI.cell {a : Option Addr} {n C : Nat} (h : KI w o (.slice a n C) l) {k : Nat} {x : Int} (hx : l[k]? = some x) : ∃ b, a = some ⟨b, 0, none⟩ ∧ w.cell? ⟨b, k, none⟩ = some (.int .i64 x) := by
  obtain ⟨z, _, r⟩ := h
  have hlt := (List.getElem?_eq_some_iff.1 hx).1
  rcases r.val with ⟨_, h0, _⟩ | ⟨gq, C', e, _, _, hc, _⟩
  · omega
  · cases e
    exact ⟨gq, rfl, hc k _ (by rw [List.getElem?_map, hx]; rfl)⟩
theorem stp_new (b : Below w.heap.size w w') (z : Nat) : Stp o i w (gives o w.heap.size z) w' := ⟨b.os, b.tape, b.output, b.size, fun k hk _ => b.block k hk, fun _ hk => gives_old hk⟩
theorem row_new {n sz : Nat} {e : TypeId} {xs : List Value} (h : w'.ownsRow w.heap.size e sz v n xs) (z : Nat) : Row w' (gives o w.heap.size z) z e sz v n xs :=
  ⟨ownsRow_base_a h (Nat.zero_le _), fun k hk => gives_new (h.lt k hk).1⟩
theorem Lk.h0 (S : Lk w0 g w o H W B) : o 0 ≠ 1 := by rw [S.Z.own 0 S.L.pos]; decide
theorem Lk.laid (S : Lk w0 g w o H W B) : Laid9 w := S.L.step S.Z.bel
theorem Lk.reads (S : Lk w0 g w o H W B) (b : Below w.heap.size w w') : Lk w0 g w' o H W B := ⟨S.T.reads b, S.Z.reads b, S.L, S.I, S.F, S.B⟩
theorem Lk.fresh (S : Lk w0 g w o H W B) (b : Below w.heap.size w w') (z : Nat) : Lk w0 g w' (gives o w.heap.size z) H W B :=
  ⟨(S.T.gives w.heap.size z (Nat.le_refl _)).reads b, S.Z.step (stp_new (i := 1) b z) (by decide), S.L, S.I, S.F, S.B⟩
theorem Lk.more (S : Lk w0 g w o H W B) {B' : Nat} (h : B ≤ B') : Lk w0 g w o H W B' := ⟨S.T, S.Z, S.L, S.I, S.F, Nat.le_trans S.B h⟩
theorem lk_New (w : World) (hL : Laid9 w) : Calls Tryz.prog 6 #[] w fun r w' => ∃ g o, r = .returned (ptr9 g) ∧ Lk w g w' o [] [] 0 := by
  refine (c_New w (fun _ => 0) 1).mono ?_
  rintro r w' ⟨g, rfl, T, b, _⟩
  exact ⟨g, _, rfl, T, (Since.start w).step (stp_new (i := 1) b 1) (by decide), hL, Inv9.start, fun n y l hl => (by cases hl), by simp⟩
theorem lk_Ask (S : Lk w0 g w o H W B) (hB : B ≤ 800) (x m : Int) (hx9 : x ≤ 9223372036854775807) (nm : ByteArray) (hnm : nm.size ≤ 300) :
    Calls Tryz.prog 18 #[ptr9 g, .int .i64 x, .string nm, .int .i64 m] w fun r w' => ∃ k : Nat, r = .returned (.int .i64 (k : Int)) ∧ ∃ H' W' o', AskS H W x nm m k H' W' ∧ Lk w0 g w' o' H' W' (B + 1) ∧ Stp o 1 w o' w' := by
  refine (c_Ask S.T S.laid S.h0 (Nat.le_trans S.B hB) S.I.ahead x m hx9 nm hnm).mono ?_
  rintro r w' ⟨k, rfl, H', W', o', hs, T, s⟩
  obtain ⟨i1, i2⟩ := S.I.ask S.F hx9 hnm hs
  have := ask_len hs
  have := S.B
  exact ⟨k, rfl, H', W', o', hs, ⟨T, S.Z.step s (by decide), S.L, i1, i2, by omega⟩, s⟩
theorem lk_Free (S : Lk w0 g w o H W B) (hB : B ≤ 800) (x : Int) (nm : ByteArray) (hnm : nm.size ≤ 300) :
    Calls Tryz.prog 22 #[ptr9 g, .int .i64 x, .string nm] w fun r w' => ∃ (v : Value) (k : Nat), r = .returned (.tuple #[v, .int .i64 (k : Int)]) ∧ ∃ H' W' l o', FreeS H W x nm k H' W' l ∧ Lk w0 g w' o' H' W' B ∧ Stp o 1 w o' w' ∧ KI w' o' v l := by
  obtain ⟨i, h1, _, hf⟩ := fresh_owner9 o w.heap.size 1 0
  refine (c_Free S.T S.laid S.h0 (Nat.le_trans S.B hB) h1 hf x nm hnm).mono ?_
  rintro r w' ⟨v, k, rfl, H', W', l, o', hs, T, s, hr⟩
  obtain ⟨i1, i2⟩ := S.I.free S.F hs
  have := free_len hs
  have := S.B
  exact ⟨v, k, rfl, H', W', l, o', hs, ⟨T, S.Z.step s (by decide), S.L, i1, i2, by omega⟩, s, i, h1, hr⟩
def dropH (H W : Hs) (x : Int) : Hs := (dropP x (namesP H W x) H (woA W x)).1
def dropW (H W : Hs) (x : Int) : Hs := (dropP x (namesP H W x) H (woA W x)).2.1
def dropI (H W : Hs) (x : Int) : List Int := (dropP x (namesP H W x) H (woA W x)).2.2
theorem fxD1 : dropH S7 V2 1 = S9 := congrArg (·.1) fx9
theorem fxD2 : dropW S7 V2 1 = [] := congrArg (·.2.1) fx9
theorem fxD3 : dropI S7 V2 1 = [2] := congrArg (·.2.2) fx9
theorem lk_Drop (S : Lk w0 g w o H W B) (hB : B ≤ 800) (x : Int) :
    Calls Tryz.prog 24 #[ptr9 g, .int .i64 x] w fun r w' => ∃ v, r = .returned v ∧ ∃ o', Lk w0 g w' o' (dropH H W x) (dropW H W x) B ∧ Stp o 1 w o' w' ∧ KI w' o' v (dropI H W x) := by
  obtain ⟨i, h1, _, hf⟩ := fresh_owner9 o w.heap.size 1 0
  refine (c_Drop S.T S.laid S.h0 (Nat.le_trans S.B hB) h1 hf x).mono ?_
  rintro r w' ⟨v, rfl, o', T, s, hr⟩
  obtain ⟨i1, i2⟩ := S.I.drop S.F x
  have h2 := dropP_len x (namesP H W x) H (woA W x)
  have h3 : (woA W x).length ≤ W.length := List.length_filter_le _ _
  have := S.B
  exact ⟨v, rfl, o', ⟨T, S.Z.step s (by decide), S.L, i1, i2, by unfold dropH dropW; omega⟩, s, i, h1, hr⟩
theorem lk_Mode (S : Lk w0 g w o H W B) (x : Int) (nm : ByteArray) : Calls Tryz.prog 14 #[ptr9 g, .int .i64 x, .string nm] w fun r w' => r = .returned (.int .i64 (modeP H x nm : Int)) ∧ w = w' := c_Mode S.T x nm
theorem lk_Waits (S : Lk w0 g w o H W B) (x : Int) : Calls Tryz.prog 15 #[ptr9 g, .int .i64 x] w fun r w' => r = .returned (.tuple #[(forV W x).1, .bool (forV W x).2]) ∧ Below w.heap.size w w' := c_Waits S.T x
theorem lk_Queue (S : Lk w0 g w o H W B) (hB : B ≤ 800) (nm : ByteArray) : Calls Tryz.prog 12 #[ptr9 g, .string nm] w fun r w' => ∃ v, r = .returned v ∧ ∃ o', Lk w0 g w' o' H W B ∧ Stp o 1 w o' w' ∧ KI w' o' v (queueI W nm) := by
  refine (c_Queue S.T (by have := S.B; omega) nm).mono ?_
  rintro r w' ⟨v, rfl, hr, b⟩
  exact ⟨v, rfl, gives o w.heap.size 2, S.fresh b 2, stp_new b 2, 2, by decide, row_new hr 2⟩
theorem lk_Holders (S : Lk w0 g w o H W B) (hB : B ≤ 800) (nm : ByteArray) : Calls Tryz.prog 11 #[ptr9 g, .string nm] w fun r w' => ∃ v, r = .returned v ∧ ∃ o', Lk w0 g w' o' H W B ∧ Stp o 1 w o' w' ∧ KI w' o' v (holdersI H nm) := by
  refine (c_Holders S.T (by have := S.B; omega) nm).mono ?_
  rintro r w' ⟨v, rfl, hr, b⟩
  exact ⟨v, rfl, gives o w.heap.size 2, S.fresh b 2, stp_new b 2, 2, by decide, row_new hr 2⟩
theorem lk_Behind (S : Lk w0 g w o H W B) (hB : B ≤ 800) (x : Int) : Calls Tryz.prog 16 #[ptr9 g, .int .i64 x] w fun r w' => ∃ v, r = .returned v ∧ ∃ o', Lk w0 g w' o' H W B ∧ Stp o 1 w o' w' ∧ KI w' o' v (behI H W x) := by
  refine (c_Behind S.T S.laid (by have := S.B; omega) x).mono ?_
  rintro r w' ⟨v, rfl, hr, b⟩
  exact ⟨v, rfl, gives o w.heap.size 2, S.fresh b 2, stp_new b 2, 2, by decide, row_new hr 2⟩
theorem lk_Held (S : Lk w0 g w o H W B) (hB : B ≤ 800) (x : Int) : Calls Tryz.prog 17 #[ptr9 g, .int .i64 x] w fun r w' => ∃ v, r = .returned v ∧ ∃ o', Lk w0 g w' o' H W B ∧ Stp o 1 w o' w' ∧ ∃ z, z ≠ 1 ∧ Row w' o' z 41 2 v (heldN H x).length ((heldN H x).flatMap (heldF H x)) := by
  refine (c_Held S.T (by have := S.B; omega) x).mono ?_
  rintro r w' ⟨v, rfl, hr, b⟩
  exact ⟨v, rfl, gives o w.heap.size 2, S.fresh b 2, stp_new b 2, 2, by decide, row_new hr 2⟩
theorem heldN_len (H : Hs) (x : Int) : (heldN H x).length = (ownL H x).length := by unfold heldN; simp
end
end Go.Proofs.YtainnhcmhgloaaaGreatDoor
