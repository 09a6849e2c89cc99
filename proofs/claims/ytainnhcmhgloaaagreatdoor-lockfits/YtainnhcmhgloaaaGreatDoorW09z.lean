/-
  The law package's Play: a call of a table, of one of eight owners.
-/
import Derived.Test.YtainnhcmhgloaaaGreatDoorW09y
namespace Go.Proofs.YtainnhcmhgloaaaGreatDoor
open Go.RowKit Go.Shelf Go.MapKept Go.Maps Go.Sort Go.Lib

section
variable {w w' w0 : World} {o o' : Nat → Nat} {i g B : Nat} {H W : Hs} {v : Value} {l : List Int}
theorem lo8_own (x : Int) : 0 ≤ ((lo8 x : Nat) : Int) ∧ ((lo8 x : Nat) : Int) < 8 := by have := lo8_lt x; omega
set_option maxRecDepth 100000 in
set_option maxHeartbeats 4000000 in
theorem c_Play (S : Lk w0 g w o H W B) (hO : Own8 H W) (hB : B ≤ 800) (k pg m : Int) (s : ByteArray) (_hs : s.size ≤ maxLen) :
    Calls Tryz.prog 10 #[ptr9 g, .agg #[.int .i64 k, .int .i64 pg, .string s, .int .i64 m]] w fun r w' => r = .returned (.tuple #[]) ∧ ∃ H' W' o', Lk w0 g w' o' H' W' (B + 1) ∧ Own8 H' W' ∧ Stp o 1 w o' w' := by
  have e7 := and79 pg
  have hq8 := lo8_own pg
  have hq9 : ((lo8 pg : Nat) : Int) ≤ 9223372036854775807 := by omega
  obtain ⟨q, hq⟩ : ∃ q : Int, ((lo8 pg : Nat) : Int) = q := ⟨_, rfl⟩
  rw [hq] at e7 hq8 hq9
  have hb : Below w.heap.size w (w.alloc (.cells #[.int .i64 k, .int .i64 pg, .string s, .int .i64 m] 30)) := (Below.refl _ w).alloc (Nat.le_refl _) _
  have HA := Lib.hid (At.new w #[.int .i64 k, .int .i64 pg, .string s, .int .i64 m] 30)
  have HS := Lib.hid (S.reads hb); have HT := Lib.hid (Stp.ofBelow hb o 1); have HO := Lib.hid hO
  have hs2 : s.size ≤ 2 ∨ 2 < s.size := by omega
  have HX := Lib.hid hs2
  clear S hO hq hb hs2 _hs
  unfold ptr9 at *
  go_enter Tryz.func10, Tryz.ntmps10
  go_upto_region 1 with fail
  generalize hbx : w.heap.size = bx at *
  generalize w.alloc (.cells #[.int .i64 k, .int .i64 pg, .string s, .int .i64 m] 30) = w1 at *
  have d0 : w1.cell? ⟨bx, 0, none⟩ = some (.int .i64 k) := HA.out.cell 0
  have d1 : w1.cell? ⟨bx, 1, none⟩ = some (.int .i64 pg) := HA.out.cell 1
  have d2 : w1.cell? ⟨bx, 2, none⟩ = some (.string s) := HA.out.cell 2
  have d3 : w1.cell? ⟨bx, 3, none⟩ = some (.int .i64 m) := HA.out.cell 3
  go_cut [4] (fun s0 wx => wx = w1 ∧ ∃ T : ByteArray, s0 = .string T ∧ T.size ≤ 300)
  case first =>
    go_wp2
    all_goals (go_meet; exact ⟨rfl, _, rfl, by rcases HX.out with h | h <;> first | omega | (simp; omega)⟩)
  case rest =>
    obtain ⟨rfl, T, rfl, hT⟩ := hcut
    have HTT := Lib.hid hT
    clear hT HX d2 HA
    by_cases k0 : k = 0
    · subst k0
      go_wp2_with fail
      refine (lk_Ask HS.out hB q m hq9 T HTT.out).mono ?_; rintro r w2 ⟨e, rfl, H', W', o', hs, S2, st⟩
      have HF := Lib.hid (show ∃ H' W' o'', Lk w0 g w2 o'' H' W' (B + 1) ∧ Own8 H' W' ∧ Stp o 1 w o'' w2 from ⟨H', W', o', S2, own_ask HO.out hq8 hs, HT.out.trans st⟩)
      clear HS hs S2 st HT HO d0 d1 d3
      go_wp2_with fail
      go_end0
      exact ⟨rfl, HF.out⟩
    · by_cases k1 : k = 1
      · subst k1
        go_wp2_with fail
        refine (lk_Free HS.out hB q T HTT.out).mono ?_; rintro r w2 ⟨vv, e, rfl, H', W', l, o', hs, S2, st, _⟩
        have HF := Lib.hid (show ∃ H' W' o'', Lk w0 g w2 o'' H' W' (B + 1) ∧ Own8 H' W' ∧ Stp o 1 w o'' w2 from ⟨H', W', o', S2.more (Nat.le_succ _), own_free HO.out hs, HT.out.trans st⟩)
        clear HS hs S2 st HT HO d0 d1 d3
        go_wp2_with fail
        go_end0
        exact ⟨rfl, HF.out⟩
      · go_wp2_with fail
        refine (lk_Drop HS.out hB q).mono ?_; rintro r w2 ⟨vv, rfl, o', S2, st, _⟩
        have HF := Lib.hid (show ∃ H' W' o'', Lk w0 g w2 o'' H' W' (B + 1) ∧ Own8 H' W' ∧ Stp o 1 w o'' w2 from ⟨_, _, o', S2.more (Nat.le_succ _), own_drop HO.out q, HT.out.trans st⟩)
        clear HS S2 st HT HO d0 d1 d3
        go_wp2_with fail
        go_end0
        exact ⟨rfl, HF.out⟩
end
end Go.Proofs.YtainnhcmhgloaaaGreatDoor
