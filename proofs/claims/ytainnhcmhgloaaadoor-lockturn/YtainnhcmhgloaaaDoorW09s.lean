/-
  Package lock: Drop, of any owners; Waits.
-/
import Derived.Test.YtainnhcmhgloaaaDoorW09r
namespace Go.Proofs.YtainnhcmhgloaaaDoor
open Go.RowKit Go.Shelf Go.MapKept Go.Maps Go.Sort Go.Lib
section
variable {w w' w0 : World} {o o' o0 : Nat → Nat} {i j z g m1 m2 m3 : Nat} {N N1 N2 : List En} {HL : List Ho} {WL H W H0 W0 : Hs} {n0 : ByteArray} {e : En} {v : Value}
theorem c_Drop (h : T9 w o j g H W) (hL : Laid9 w) (h0 : o 0 ≠ j) (hB : H.length + W.length ≤ 800) (hij : i ≠ j) (hf : ∀ k, k < w.heap.size → o k ≠ i) (x : Int) :
    Calls Tryd.prog 11 #[ptr9 g, .int .i64 x] w fun r w' => ∃ v, r = .returned v ∧ ∃ o', T9 w' o' j g (dropP x (namesP H W x) H (woA W x)).1 (dropP x (namesP H W x) H (woA W x)).2.1 ∧ Stp o j w o' w' ∧ Row w' o' i 3 1 v (dropP x (namesP H W x) H (woA W x)).2.2.length ((dropP x (namesP H W x) H (woA W x)).2.2.map encI9) := by
  obtain ⟨z, hzj, hzi, hzf⟩ := fresh_owner9 o w.heap.size j i
  refine (c_Drop0 (h.gives w.heap.size j (Nat.le_refl _)) hL (by rw [gives_old (by have := h.lt; omega)]; exact h0) hB hij (fun k => gives_all hij hf) hzj hzi (fun k => gives_all hzj hzf) x).mono ?_
  rintro r w' ⟨v, rfl, o', b, c, d⟩
  exact ⟨v, rfl, o', b, ((Stp.refl o j w).gives _ (Nat.le_refl _)).trans c, d⟩
/-- for what somebody waits, as a value -/
def forV (W : Hs) (x : Int) : Value × Bool := match forP W x with
  | some y => (.agg #[.string y.name, .int .i64 (y.mode : Int)], true)
  | none => (.agg #[.string ⟨#[]⟩, .int .i64 0], false)
set_option maxRecDepth 100000 in
set_option maxHeartbeats 4000000 in
theorem c_Waits (h : T9 w o j g H W) (x : Int) :
    Calls Tryd.prog 10 #[ptr9 g, .int .i64 x] w fun r w' => r = .returned (.tuple #[(forV W x).1, .bool (forV W x).2]) ∧ Below w.heap.size w w' := by
  obtain ⟨m1, m2, m3, N, HL, WL, T, A⟩ := h.ex
  obtain ⟨nm, md, is, hv, hnm, lk⟩ : ∃ (nm : ByteArray) (md : Int) (is : Bool), forV W x = (.agg #[.string nm, .int .i64 md], is) ∧ nm.size ≤ 300 ∧ ∀ W', Below (w.heap.size) w W' → (Instr.lookup 48 (.map (some m3)) (.int .i64 x) true).run Tryd.prog W' = .ok (.tuple #[.agg #[.string nm, .int .i64 md], .bool is]) W' := by
    rcases forP_cases W x with hno | ⟨y, hy, rfl⟩
    · refine ⟨⟨#[]⟩, 0, false, by unfold forV; rw [forP_none hno], by decide, fun W' b => ?_⟩
      have := (T.reads b).lookNoWait x (fun y hy => hno y (A.wm.mem_iff.1 hy)) true
      simpa using this
    · refine ⟨y.name, y.mode, true, by unfold forV; rw [forP_mem A.ok hy], (A.ok.wm y hy).2.2.2.2, fun W' b => ?_⟩
      have := (T.reads b).lookWait (A.wm.mem_iff.2 hy) true
      simpa using this
  rw [hv]
  have hz : Below w.heap.size w (w.alloc (.cells #[.string ⟨#[]⟩, .int .i64 0] 32)) := (Below.refl _ w).alloc (Nat.le_refl _) _
  have g2 : (w.alloc (.cells #[.string ⟨#[]⟩, .int .i64 0] 32)).cell? ⟨g, 2, none⟩ = some (.map (some m3)) := (T.reads hz).hp.cell 2
  have lk1 := lk _ hz
  have CC := Lib.hid (fun w => c_clone nm (by omega) w)
  have hA := At.new w #[.string ⟨#[]⟩, .int .i64 0] 32
  have HB := Lib.hid hz
  clear lk hv T A h hnm
  unfold ptr9 at *
  go_enter Tryd.func10, Tryd.ntmps10
  go_upto_region 2 with fail
  have b6 : Below w.heap.size w ((w.alloc (.cells #[.string ⟨#[]⟩, .int .i64 0] 32)).alloc (.cells #[.string nm, .int .i64 md] 32)) := HB.out.alloc HB.out.size _
  have a4 : At ((w.alloc (.cells #[.string ⟨#[]⟩, .int .i64 0] 32)).alloc (.cells #[.string nm, .int .i64 md] 32)) w.heap.size #[.string ⟨#[]⟩, .int .i64 0] 32 := hA.reads ((Below.refl _ _).alloc (Nat.le_refl _) _)
  have a6 : At ((w.alloc (.cells #[.string ⟨#[]⟩, .int .i64 0] 32)).alloc (.cells #[.string nm, .int .i64 md] 32)) (w.heap.size + 1) #[.string nm, .int .i64 md] 32 := by
    have := At.new (w.alloc (.cells #[.string ⟨#[]⟩, .int .i64 0] 32)) #[.string nm, .int .i64 md] 32
    have e : (w.alloc (.cells #[.string ⟨#[]⟩, .int .i64 0] 32)).heap.size = w.heap.size + 1 := by simp
    rw [e] at this; exact this
  have HB6 := Lib.hid b6; have HA4 := Lib.hid a4; have HA6 := Lib.hid a6
  clear b6 a4 a6 hA HB g2 lk1 hz
  generalize (w.alloc (.cells #[.string ⟨#[]⟩, .int .i64 0] 32)).alloc (.cells #[.string nm, .int .i64 md] 32) = W6 at *
  generalize hbx : w.heap.size = bx at *
  have s0 : W6.cell? ⟨bx + 1, 0, none⟩ = some (.string nm) := HA6.out.cell 0
  have s1 : W6.cell? ⟨bx + 1, 1, none⟩ = some (.int .i64 md) := HA6.out.cell 1
  go_region_with (first
      | (go_at_call 24; ((with_reducible refine (CC.out _).mono ?_); rintro e1 v1 ⟨rfl, b1⟩; have A4 : At v1 bx #[.string ⟨#[]⟩, .int .i64 0] 32 := At.reads (by exact HA4.out) b1; have A6 : At v1 (bx + 1) #[.string nm, .int .i64 md] 32 := At.reads (by exact HA6.out) b1; have f1 : v1.cell? ⟨bx + 1, 1, none⟩ = some (.int .i64 md) := A6.cell 1; have f2 : v1.cell? ⟨bx, 0, none⟩ = some (.string ⟨#[]⟩) := A4.cell 0; have f3 : v1.cell? ⟨bx, 1, none⟩ = some (.int .i64 0) := A4.cell 1; have f4 : v1.frozen? ⟨bx, 0, none⟩ = false := A4.fz 0; have f5 : v1.frozen? ⟨bx, 1, none⟩ = false := A4.fz 1; have HA := Lib.hid A4; have HBB : Below bx w v1 := (HB6.out.trans ((show Below W6.heap.size W6 v1 from ⟨b1.os, b1.tape, b1.output, b1.size, fun k hk => b1.block k hk⟩).mono (by have := HB6.out.size; omega))); have HB7 := Lib.hid HBB; clear A4 A6 HBB)))
  all_goals (
    have D := (HA.out.set 0 (.string nm)).set 1 (.int .i64 md)
    have BF := (HB7.out.setCell (p := ⟨bx, 0, none⟩) (Nat.le_refl _) (.string nm)).setCell (p := ⟨bx, 1, none⟩) (Nat.le_refl _) (.int .i64 md)
    clear f1 f2 f3 f4 f5
    generalize (World.setCell (World.setCell _ ⟨bx, 0, none⟩ (.string nm)) ⟨bx, 1, none⟩ (.int .i64 md)) = W9 at *
    have f0 : W9.cell? ⟨bx, 0, none⟩ = some (.string nm) := D.cell 0
    have f1 : W9.cell? ⟨bx, 1, none⟩ = some (.int .i64 md) := D.cell 1
    have HBF := Lib.hid BF
    clear D BF HA HB7 HA4 HA6 HB6 CC b1
    go_wp2
    refine bodyPost_ret (v := .tuple #[.agg #[.string nm, .int .i64 md], .bool is]) ?_ rfl ⟨rfl, by rw [hbx]; exact HBF.out⟩
    simp [results, Tryd.results10, go_sem, f0, f1])
end
end Go.Proofs.YtainnhcmhgloaaaDoor
