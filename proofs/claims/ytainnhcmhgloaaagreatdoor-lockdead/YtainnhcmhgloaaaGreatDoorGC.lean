/-
  Package lock: Drop, of any owners; Waits.
  Package lock: Held.
  Package lock: Held's walk.
-/
import Derived.Test.YtainnhcmhgloaaaGreatDoorW09r
namespace Go.Proofs.YtainnhcmhgloaaaGreatDoor
open Go.RowKit Go.Shelf Go.MapKept Go.Maps Go.Sort Go.Lib
section
variable {w w' w0 : World} {o o' o0 : Nat → Nat} {i j z g m1 m2 m3 : Nat} {N N1 N2 : List En} {HL : List Ho} {WL H W H0 W0 : Hs} {n0 : ByteArray} {e : En} {v : Value}
theorem c_Drop (h : T9 w o j g H W) (hL : Laid9 w) (h0 : o 0 ≠ j) (hB : H.length + W.length ≤ 800) (hij : i ≠ j) (hf : ∀ k, k < w.heap.size → o k ≠ i) (x : Int) :
    Calls Tryz.prog 24 #[ptr9 g, .int .i64 x] w fun r w' => ∃ v, r = .returned v ∧ ∃ o', T9 w' o' j g (dropP x (namesP H W x) H (woA W x)).1 (dropP x (namesP H W x) H (woA W x)).2.1 ∧ Stp o j w o' w' ∧ Row w' o' i 3 1 v (dropP x (namesP H W x) H (woA W x)).2.2.length ((dropP x (namesP H W x) H (woA W x)).2.2.map encI9) := by
  obtain ⟨z, hzj, hzi, hzf⟩ := fresh_owner9 o w.heap.size j i
  refine (c_Drop0 (h.gives w.heap.size j (Nat.le_refl _)) hL (by rw [gives_old (by have := h.lt; omega)]; exact h0) hB hij (fun k => gives_all hij hf) hzj hzi (fun k => gives_all hzj hzf) x).mono ?_
  rintro r w' ⟨v, rfl, o', b, c, d⟩
  exact ⟨v, rfl, o', b, ((Stp.refl o j w).gives _ (Nat.le_refl _)).trans c, d⟩
/-- for what somebody waits, as a value -/
def forV (W : Hs) (x : Int) : Value × Bool := match forP W x with
  | some y => (.agg #[.string y.name, .int .i64 (y.mode : Int)], true)
  | none => (.agg #[.string ⟨#[]⟩, .int .i64 0], false)
set_option maxRecDepth 100000 in
set_option maxHeartbeats 4000000 in
theorem c_Waits (h : T9 w o j g H W) (x : Int) :
    Calls Tryz.prog 15 #[ptr9 g, .int .i64 x] w fun r w' => r = .returned (.tuple #[(forV W x).1, .bool (forV W x).2]) ∧ Below w.heap.size w w' := by
  obtain ⟨m1, m2, m3, N, HL, WL, T, A⟩ := h.ex
  obtain ⟨nm, md, is, hv, hnm, lk⟩ : ∃ (nm : ByteArray) (md : Int) (is : Bool), forV W x = (.agg #[.string nm, .int .i64 md], is) ∧ nm.size ≤ 300 ∧ ∀ W', Below (w.heap.size) w W' → (Instr.lookup 52 (.map (some m3)) (.int .i64 x) true).run Tryz.prog W' = .ok (.tuple #[.agg #[.string nm, .int .i64 md], .bool is]) W' := by
    rcases forP_cases W x with hno | ⟨y, hy, rfl⟩
    · refine ⟨⟨#[]⟩, 0, false, by unfold forV; rw [forP_none hno], by decide, fun W' b => ?_⟩
      have := (T.reads b).lookNoWait x (fun y hy => hno y (A.wm.mem_iff.1 hy)) true
      simpa using this
    · refine ⟨y.name, y.mode, true, by unfold forV; rw [forP_mem A.ok hy], (A.ok.wm y hy).2.2.2.2, fun W' b => ?_⟩
      have := (T.reads b).lookWait (A.wm.mem_iff.2 hy) true
      simpa using this
  rw [hv]
  have hz : Below w.heap.size w (w.alloc (.cells #[.string ⟨#[]⟩, .int .i64 0] 41)) := (Below.refl _ w).alloc (Nat.le_refl _) _
  have g2 : (w.alloc (.cells #[.string ⟨#[]⟩, .int .i64 0] 41)).cell? ⟨g, 2, none⟩ = some (.map (some m3)) := (T.reads hz).hp.cell 2
  have lk1 := lk _ hz
  have CC := Lib.hid (fun w => c_clone nm (by omega) w)
  have hA := At.new w #[.string ⟨#[]⟩, .int .i64 0] 41
  have HB := Lib.hid hz
  clear lk hv T A h hnm
  unfold ptr9 at *
  go_enter Tryz.func15, Tryz.ntmps15
  go_upto_region 2 with fail
  have b6 : Below w.heap.size w ((w.alloc (.cells #[.string ⟨#[]⟩, .int .i64 0] 41)).alloc (.cells #[.string nm, .int .i64 md] 41)) := HB.out.alloc HB.out.size _
  have a4 : At ((w.alloc (.cells #[.string ⟨#[]⟩, .int .i64 0] 41)).alloc (.cells #[.string nm, .int .i64 md] 41)) w.heap.size #[.string ⟨#[]⟩, .int .i64 0] 41 := hA.reads ((Below.refl _ _).alloc (Nat.le_refl _) _)
  have a6 : At ((w.alloc (.cells #[.string ⟨#[]⟩, .int .i64 0] 41)).alloc (.cells #[.string nm, .int .i64 md] 41)) (w.heap.size + 1) #[.string nm, .int .i64 md] 41 := by
    have := At.new (w.alloc (.cells #[.string ⟨#[]⟩, .int .i64 0] 41)) #[.string nm, .int .i64 md] 41
    have e : (w.alloc (.cells #[.string ⟨#[]⟩, .int .i64 0] 41)).heap.size = w.heap.size + 1 := by simp
    rw [e] at this; exact this
  have HB6 := Lib.hid b6; have HA4 := Lib.hid a4; have HA6 := Lib.hid a6
  clear b6 a4 a6 hA HB g2 lk1 hz
  generalize (w.alloc (.cells #[.string ⟨#[]⟩, .int .i64 0] 41)).alloc (.cells #[.string nm, .int .i64 md] 41) = W6 at *
  generalize hbx : w.heap.size = bx at *
  have s0 : W6.cell? ⟨bx + 1, 0, none⟩ = some (.string nm) := HA6.out.cell 0
  have s1 : W6.cell? ⟨bx + 1, 1, none⟩ = some (.int .i64 md) := HA6.out.cell 1
  go_region_with (first
      | (go_at_call 37; ((with_reducible refine (CC.out _).mono ?_); rintro e1 v1 ⟨rfl, b1⟩; have A4 : At v1 bx #[.string ⟨#[]⟩, .int .i64 0] 41 := At.reads (by exact HA4.out) b1; have A6 : At v1 (bx + 1) #[.string nm, .int .i64 md] 41 := At.reads (by exact HA6.out) b1; have f1 : v1.cell? ⟨bx + 1, 1, none⟩ = some (.int .i64 md) := A6.cell 1; have f2 : v1.cell? ⟨bx, 0, none⟩ = some (.string ⟨#[]⟩) := A4.cell 0; have f3 : v1.cell? ⟨bx, 1, none⟩ = some (.int .i64 0) := A4.cell 1; have f4 : v1.frozen? ⟨bx, 0, none⟩ = false := A4.fz 0; have f5 : v1.frozen? ⟨bx, 1, none⟩ = false := A4.fz 1; have HA := Lib.hid A4; have HBB : Below bx w v1 := (HB6.out.trans ((show Below W6.heap.size W6 v1 from ⟨b1.os, b1.tape, b1.output, b1.size, fun k hk => b1.block k hk⟩).mono (by have := HB6.out.size; omega))); have HB7 := Lib.hid HBB; clear A4 A6 HBB)))
  all_goals (
    have D := (HA.out.set 0 (.string nm)).set 1 (.int .i64 md)
    have BF := (HB7.out.setCell (p := ⟨bx, 0, none⟩) (Nat.le_refl _) (.string nm)).setCell (p := ⟨bx, 1, none⟩) (Nat.le_refl _) (.int .i64 md)
    clear f1 f2 f3 f4 f5
    generalize (World.setCell (World.setCell _ ⟨bx, 0, none⟩ (.string nm)) ⟨bx, 1, none⟩ (.int .i64 md)) = W9 at *
    have f0 : W9.cell? ⟨bx, 0, none⟩ = some (.string nm) := D.cell 0
    have f1 : W9.cell? ⟨bx, 1, none⟩ = some (.int .i64 md) := D.cell 1
    have HBF := Lib.hid BF
    clear D BF HA HB7 HA4 HA6 HB6 CC b1
    go_wp2
    refine bodyPost_ret (v := .tuple #[.agg #[.string nm, .int .i64 md], .bool is]) ?_ rfl ⟨rfl, by rw [hbx]; exact HBF.out⟩
    simp [results, Tryz.results15, go_sem, f0, f1])
end
end Go.Proofs.YtainnhcmhgloaaaGreatDoor

namespace Go.Proofs.YtainnhcmhgloaaaGreatDoor
open Go.RowKit Go.Shelf Go.MapKept Go.Maps Go.Sort Go.Lib

/-- the names that an owner holds, rising -/
def heldN (H : Hs) (x : Int) : List ByteArray := (((ownL H x).map (fun h => h.name.data.toList)).mergeSort leB).map (fun l => ⟨l.toArray⟩)
def heldF (H : Hs) (x : Int) (n : ByteArray) : List Value := [.string n, .int .i64 (modeP H x n : Int)]
theorem info_hold : (Tryz.prog.info? 41).map (fun i => (i.zero, i.size, i.bytes)) = some (some (.agg #[.string ⟨#[]⟩, .int .i64 0]), 2, 24) := by kernel_rfl
section
variable {w w' w0 : World} {o o' o0 : Nat → Nat} {i j z g m1 m2 m3 : Nat} {N N1 N2 : List En} {HL : List Ho} {WL H W H0 W0 : Hs} {n0 : ByteArray} {e : En} {v : Value}
theorem mem_heldN {H : Hs} {x : Int} {n : ByteArray} : n ∈ heldN H x → ∃ h ∈ H, h.owner = x ∧ h.name = n := by
  unfold heldN
  intro h
  obtain ⟨l, hl, rfl⟩ := List.mem_map.1 h
  rw [List.mem_mergeSort] at hl
  obtain ⟨y, hy, rfl⟩ := List.mem_map.1 hl
  obtain ⟨h1, h2⟩ := mem_ownL.1 hy
  exact ⟨y, h1, h2, rfl⟩
theorem hold_append {b k : Nat} {L : List Value} (h : w.ownsRow b 41 2 v k L) (hb : b ≤ w.heap.size) (n : ByteArray) (md : Int) (hk : k ≤ 1000) :
    ∃ v' w', (Builtin.append_ #[45, 45] 45 #[v, .slice (some ⟨w.heap.size, 0, none⟩) 1 1]).run Tryz.prog (w.alloc (.cells #[.string n, .int .i64 md] 41)) = .ok v' w' ∧ w'.ownsRow b 41 2 v' (k + 1) (L ++ [.string n, .int .i64 md]) ∧ Below b w w' := by
  obtain ⟨i0, hi, hz0, hz1, hz2⟩ := info_parts info_hold
  have bl : Below w.heap.size w (w.alloc (.cells #[.string n, .int .i64 md] 41)) := (Below.refl _ w).alloc (Nat.le_refl _) _
  have hA := At.new w #[.string n, .int .i64 md] 41
  have hr : (w.alloc (.cells #[.string n, .int .i64 md] 41)).ownsRow b 41 2 v k L := ownsRow_same h (fun g hg => bl.block g (h.lt g hg).2)
  obtain ⟨v', w', hap, h2, h3, _, h5⟩ := run_append_own_at (P := Tryz.prog) _ b 45 45 41 i0 (.agg #[.string ⟨#[]⟩, .int .i64 0]) 2 24 Tryz.underlying45 hi hz0 hz1 hz2 rfl (by decide) v k L hr ⟨w.heap.size, 0, none⟩ 1 1 [.string n, .int .i64 md] rfl (fun q u hu => by
    match q with
    | 0 => exact (hA.cell 0).trans (by simpa using hu)
    | 1 => exact (hA.cell 1).trans (by simpa using hu)
    | q + 2 => simp at hu) (by intro u hu; simp at hu; rcases hu with rfl | rfl <;> rfl) (by simp [maxLen]; omega) (by omega) (Nat.le_trans hb bl.size)
  exact ⟨v', w', hap, h2, (bl.mono hb).grown h3 (Nat.le_trans hb bl.size) (fun q hq => (h.lt q hq).1)⟩
/-- what maps.Keys and slices.Sorted make of what an owner holds -/
theorem c_ownS (T : IsT w o j g m1 m2 m3 N HL WL) (A : Abs N HL WL H W n0 []) (hB : H.length ≤ 1000) (x : Int) : ∃ v : Option Nat, (Instr.lookup 51 (.map (some m2)) (.int .i64 x) false).run Tryz.prog w = .ok (.map v) w ∧
    Calls Tryz.prog 43 #[.map v] w (fun r w' => r = .returned (.func (.func 77) #[] #[.pointer (some ⟨w.heap.size, 0, none⟩)]) ∧ w' = w.alloc (.cells #[.map v] 50)) ∧
    Calls Tryz.prog 42 #[.func (.func 77) #[] #[.pointer (some ⟨w.heap.size, 0, none⟩)]] (w.alloc (.cells #[.map v] 50)) (fun r w' => ∃ (u : Value), r = .returned u ∧ w'.ownsRow w.heap.size 9 1 u (heldN H x).length ((heldN H x).map Value.string) ∧ Below w.heap.size w w') := by
  have fin : ∀ (v : Option Nat) (S : List (List UInt8) → Prop) (n : Nat), n ≤ 1000 → (∀ ss, S ss → ss.Perm ((ownL H x).map (fun h => h.name.data.toList))) →
      SeqGives Fence.wide 2 Tryz.prog 77 #[.pointer (some ⟨w.heap.size, 0, none⟩)] encStr S n (w.alloc (.cells #[.map v] 50)) →
      Calls Tryz.prog 43 #[.map v] w (fun r w' => r = .returned (.func (.func 77) #[] #[.pointer (some ⟨w.heap.size, 0, none⟩)]) ∧ w' = w.alloc (.cells #[.map v] 50)) ∧
      Calls Tryz.prog 42 #[.func (.func 77) #[] #[.pointer (some ⟨w.heap.size, 0, none⟩)]] (w.alloc (.cells #[.map v] 50)) (fun r w' => ∃ (u : Value), r = .returned u ∧ w'.ownsRow w.heap.size 9 1 u (heldN H x).length ((heldN H x).map Value.string) ∧ Below w.heap.size w w') := fun v S n hn hS hseq => by
    refine ⟨callsIn_wide.1 (AnyZ.keys_in keys9s Fence.wide 5 trivial rfl v w), ?_⟩
    have cC := callsIn_wide.1 (AnyZ.sorted_in sorted9s Fence.wide 5 trivial trivial trivial trivial rfl (by omega) (sorts9s _) (enters_of Tryz.func64 (by kernel_rfl) rfl) 77 #[.pointer (some ⟨w.heap.size, 0, none⟩)] trivial (enters_of Tryz.func77 (by kernel_rfl) rfl) _ _ (by simp [maxLen]; omega) (by omega) _ hseq)
    change Calls Tryz.prog 42 _ _ _ at cC
    refine cC.mono ?_
    rintro r w' ⟨u, ss, rfl, h1, hrow, _, hb⟩
    have e1 : ss.mergeSort leB = ((ownL H x).map (fun h => h.name.data.toList)).mergeSort leB := mergeSort_of_perm (hS ss h1)
    have e2 : (heldN H x).length = ss.length := by unfold heldN; rw [List.length_map, ← e1, List.length_mergeSort]
    have e3 : (heldN H x).map Value.string = (ss.mergeSort leB).map encStr := by unfold heldN; rw [← e1, List.map_map]; rfl
    refine ⟨u, rfl, ?_, ((Below.refl _ w).alloc (Nat.le_refl _) _).trans (hb.mono (by simp))⟩
    rw [e2, e3]
    exact ownsRow_base_a hrow (by simp)
  rcases own_cases HL x with hno | ⟨h, hh, rfl⟩
  · have hnil : ownL H x = [] := List.eq_nil_iff_forall_not_mem.2 (fun y hy => by
      obtain ⟨h1, h2⟩ := mem_ownL.1 hy
      obtain ⟨h', a, b⟩ := A.ox y h1
      exact hno h' a (b.trans h2))
    refine ⟨none, T.hh.lookNo Tryz.underlying51 Tryz.underlying3 (show IsKey (.int .i64) (.int .i64 x) from rfl) (fun y hy e => by obtain ⟨p, hp, rfl⟩ := List.mem_map.1 hy; exact hno p hp (by simpa [hkv] using e)) (Tryz.zeroValue50 w) false, ?_⟩
    exact fin none (fun ss => ss = []) 0 (by omega) (fun ss hs => by rw [hs, hnil]; exact List.Perm.refl _) (AnyZ.keys_gives_nil (ρ := keys9s_ren) { keys9s with } Fence.wide _ trivial rfl w.heap.size _ (by simp) (by simp))
  · have hns : h.ns.length ≤ 1000 := by
      have := (A.om h hh).length_eq
      rw [List.length_map, List.length_map] at this
      have h2 : (ownL H h.owner).length ≤ H.length := List.length_filter_le _ _
      omega
    have hnsz : ∀ p ∈ h.ns, p.1.size ≤ 300 := fun p hp => by
      obtain ⟨y, hy, e1⟩ := List.mem_map.1 ((A.om h hh).mem_iff.1 (List.mem_map.2 ⟨p, hp, rfl⟩))
      rw [← e1]; exact (A.ok.hm y (mem_ownL.1 hy).1).2.2.2.2
    obtain ⟨D0, hown, hperm, hsize⟩ := (T.ho h hh).ownsS hns hnsz
    refine ⟨some h.b, T.hh.look Tryz.underlying51 Tryz.underlying3 (List.mem_map.2 ⟨h, hh, rfl⟩) false, ?_⟩
    refine fin (some h.b) (fun ss => ss.Perm (strKeys D0)) (Maps.size D0) (by omega) (fun ss hs => hs.trans (hperm.trans ?_)) (AnyZ.keys_gives (ρ := keys9s_ren) { keys9s with } Fence.wide _ trivial rfl (by omega) w.heap.size h.b h.ns.length D0 _ (by simp) (by simp) (own_mono9 hown (Below.heap_alloc _ _ h.b hown.lt)))
    have := (A.om h hh).map (fun n : ByteArray => n.data.toList)
    rw [List.map_map, List.map_map] at this
    exact this
end
end Go.Proofs.YtainnhcmhgloaaaGreatDoor

namespace Go.Proofs.YtainnhcmhgloaaaGreatDoor
open Go.RowKit Go.Shelf Go.MapKept Go.Maps Go.Sort Go.Lib
theorem step_append_run9 {P : Program} {ops : Array Oper} {o : Oper} {a : Act} {K : Act → World → Prop} {Q : Exit → Act → World → Prop} {E : Prop} {w : World} (hgd : o.guard = none) (sl x : Operand) (t u : TypeId)
    (ho : o.op = .call { callee := .builtin .append, args := #[sl, x], argTypes := #[t, u] }) (v xv : Value) (hs : a.eval sl = v) (hx : a.eval x = xv) (v' : Value) (w' : World)
    (hr : (Builtin.append_ #[t, u] o.type #[v, xv]).run P w = .ok v' w') (h : K (a.put o.dst v') w') : if Region.wanted o (yielded ops a.tmps) = true then Oper.wp P o a w K Q else E := by
  have hw : Region.wanted o (yielded ops a.tmps) = true := by simp [Region.wanted, hgd]
  rw [if_pos hw]
  unfold Oper.wp execOp
  simp only [ho, resolve, invoke, builtin, Sem.run_bind, Sem.run_pure, Result.andThen_ok, List.map_toArray, List.map_cons, List.map_nil, hs, hx, hr]
  exact h
section
variable {w w' w0 : World} {o o' o0 : Nat → Nat} {i j z g m1 m2 m3 : Nat} {N N1 N2 : List En} {HL : List Ho} {WL H W H0 W0 : Hs} {n0 : ByteArray} {e : En} {v : Value}
theorem IsT.lookHolder (T : IsT w o j g m1 m2 m3 N HL WL) (A : Abs N HL WL H W n0 []) (he : e ∈ N) (x : Int) : (Instr.lookup 68 (.map (some e.hb)) (.int .i64 x) false).run Tryz.prog w = .ok (.int .i64 (modeP H x e.name : Int)) w := by
  rw [← A.mode he (hs_nodup (T.eh e he)) x]
  rcases hs_cases e.hs x with hno | ⟨p, hp, rfl⟩
  · rw [hsM_none hno]
    exact (T.eh e he).lookNo Tryz.underlying68 Tryz.underlying3 (show IsKey (.int .i64) (.int .i64 x) from rfl) (fun y hy e => by obtain ⟨p, hp, rfl⟩ := List.mem_map.1 hy; exact hno p hp (by simpa [hskv] using e)) (Tryz.zeroValue3 w) false
  · rw [hsM_mem (hs_nodup (T.eh e he)) hp]
    exact (T.eh e he).look Tryz.underlying68 Tryz.underlying3 (List.mem_map.2 ⟨p, hp, rfl⟩) false
set_option maxRecDepth 100000 in
set_option maxHeartbeats 8000000 in
theorem c_Held (h : T9 w o j g H W) (hB : H.length ≤ 800) (x : Int) :
    Calls Tryz.prog 17 #[ptr9 g, .int .i64 x] w fun r w' => ∃ v, r = .returned v ∧ w'.ownsRow w.heap.size 41 2 v (heldN H x).length ((heldN H x).flatMap (heldF H x)) ∧ Below w.heap.size w w' := by
  obtain ⟨m1, m2, m3, N, HL, WL, T, A⟩ := h.ex
  obtain ⟨v, lk, CK, CC⟩ := c_ownS T A (by omega) x
  have g1 : w.cell? ⟨g, 1, none⟩ = some (.map (some m2)) := T.hp.cell 1
  have hlen : (heldN H x).length ≤ 800 := by
    unfold heldN
    rw [List.length_map, List.length_mergeSort, List.length_map]
    exact Nat.le_trans (List.length_filter_le _ _) hB
  have hkey : ∀ n ∈ heldN H x, n.size ≤ 300 ∧ ∃ e ∈ N, e.name = n ∧ ∀ W', Below w.heap.size w W' → (Instr.lookup 50 (.map v) (.string n) false).run Tryz.prog W' = .ok (ptr9 e.b) W' ∧ W'.cell? ⟨e.b, 1, none⟩ = some (.map (some e.hb)) ∧ (Instr.lookup 68 (.map (some e.hb)) (.int .i64 x) false).run Tryz.prog W' = .ok (.int .i64 (modeP H x n : Int)) W' := fun n hn => by
    obtain ⟨y, hy, rfl, rfl⟩ := mem_heldN hn
    obtain ⟨h', hh, ho⟩ := A.ox y hy
    have hv : v = some h'.b := by
      have := T.hh.look Tryz.underlying51 Tryz.underlying3 (List.mem_map.2 ⟨h', hh, rfl⟩) false
      simp only [Bool.false_eq_true, if_false] at this
      have l2 : (Instr.lookup 51 (.map (some m2)) (.int .i64 y.owner) false).run Tryz.prog w = .ok (.map (some h'.b)) w := by rw [← ho]; exact this
      rw [lk] at l2
      simpa using l2
    subst hv
    obtain ⟨p, hp, hpn⟩ := List.mem_map.1 ((A.om h' hh).mem_iff.2 (List.mem_map.2 ⟨y, mem_ownL.2 ⟨hy, ho.symm⟩, rfl⟩))
    obtain ⟨e, he, h1, h2⟩ := A.ob h' hh p hp
    have hen : e.name = y.name := h1.trans hpn
    refine ⟨(A.ok.hm y hy).2.2.2.2, e, he, hen, fun W' b => ⟨?_, ((T.reads b).eb e he).cell 1, ?_⟩⟩
    · have := ((T.reads b).ho h' hh).look Tryz.underlying50 Tryz.underlying9 (List.mem_map.2 ⟨p, hp, rfl⟩) false
      simp only [Bool.false_eq_true, if_false] at this
      rw [← hpn, h2]; exact this
    · have := (T.reads b).lookHolder A he y.owner
      rw [hen] at this; exact this
  have HKY := Lib.hid hkey; have HCK := Lib.hid CK; have HCC := Lib.hid CC
  clear hkey CK CC T A h hB
  unfold ptr9 at *
  generalize hKK : heldN H x = K at *
  have HKK := Lib.hid hKK
  clear hKK
  go_enter Tryz.func17, Tryz.ntmps17
  go_wp2_with fail
  refine HCK.out.mono ?_; rintro r w1 ⟨rfl, rfl⟩
  go_wp2_with fail
  refine HCC.out.mono ?_; rintro r w1 ⟨nv, rfl, hrow, b1⟩
  obtain ⟨na, nn, nc, rfl⟩ : ∃ a n c, nv = .slice a n c := by
    rcases hrow.2 with ⟨rfl, _⟩ | ⟨g, cap, cur, rfl, _⟩ <;> exact ⟨_, _, _, rfl⟩
  have hnn : nn = K.length := by
    rcases hrow.2 with ⟨h1, h2⟩ | ⟨g', cap, cur, h1, _⟩
    · cases h1; exact h2.symm
    · cases h1; rfl
  subst hnn
  have Q1 : Row w1 (fun _ => 0) 0 9 1 (.slice na K.length nc) K.length (K.map Value.string) := ⟨ownsRow_base_a hrow (Nat.zero_le _), fun _ _ => rfl⟩
  have HQ := Lib.hid Q1; have HB1 := Lib.hid b1
  clear Q1 hrow b1 HCK HCC lk g1
  go_wp2_with fail
  go_loopw [6, 19] (fun u c wr => ∃ k, k ≤ K.length ∧ c = .int .i64 (k : Int) ∧ wr.ownsRow w1.heap.size 41 2 u k ((K.take k).flatMap (heldF H x)) ∧ Below w1.heap.size w1 wr) (fun _ c _ => K.length - (intOf c).toNat)
  case atStart => exact ⟨0, by omega, rfl, World.ownsRow_nil _ _ _ _, Below.refl _ _⟩
  case round =>
    obtain ⟨k, hk, rfl, hrow, hb⟩ := hrel
    have HR := Lib.hid hrow; have HBr := Lib.hid hb
    by_cases hlt : k < K.length
    · have c1 : (k : Int) < (K.length : Int) := by omega
      have c2 : (0 : Int) ≤ (k : Int) := by omega
      obtain ⟨n, hn⟩ : ∃ n, K[k]? = some n := ⟨_, List.getElem?_eq_getElem hlt⟩
      have htk : K.take (k + 1) = K.take k ++ [n] := by rw [List.take_add_one, hn]; rfl
      obtain ⟨hn3, e, _, _, hE⟩ := HKY.out n (List.mem_of_getElem? hn)
      have hbw : Below w.heap.size w wr := HB1.out.trans (hb.mono HB1.out.size)
      obtain ⟨gq, hua, cq⟩ := row_cellS (HQ.out.reads hb) hn
      subst hua
      obtain ⟨f1, f2, f3⟩ := hE wr hbw
      have HE := Lib.hid hE; have HBW := Lib.hid hbw; have HTK := Lib.hid htk
      have CL := Lib.hid (fun w => c_clone n (by omega) w)
      have HK8 : k ≤ 1000 := by omega
      clear hrow hb hn htk hn3 hE hbw
      unfold ptr9 at *
      go_wp2_with fail
      have q0 := HE.out wr.drew HBW.out.drew
      go_region_held3 (fun W => (Instr.lookup 50 (.map v) (.string n) false).run Tryz.prog W = .ok (.pointer (some ⟨e.b, 0, none⟩)) W ∧ W.cell? ⟨e.b, 1, none⟩ = some (.map (some e.hb)) ∧ (Instr.lookup 68 (.map (some e.hb)) (.int .i64 x) false).run Tryz.prog W = .ok (.int .i64 (modeP H x n : Int)) W) (first | exact q0 | exact q1 | exact q2 | exact q3)
        (first
        | (go_at_call 37; ((with_reducible refine (CL.out _).mono ?_); rintro e1 v1 ⟨rfl, b1⟩; have hb2 : Below wr.heap.size wr v1 := ⟨b1.os, b1.tape, b1.output, b1.size, fun q hq => b1.block q hq⟩; have hbw2 := HBW.out.trans (hb2.mono HBW.out.size); have q1 := HE.out v1 hbw2; have q2 := HE.out (v1.alloc (.cells #[.string n, .int .i64 (modeP H x n : Int)] 41)) (hbw2.alloc hbw2.size _); obtain ⟨v5, w5, hap, R5, B5⟩ := hold_append (ownsRow_same HR.out (fun q hq => hb2.block q (HR.out.lt q hq).2)) (Nat.le_trans HBr.out.size hb2.size) n (modeP H x n : Int) HK8; have q3 := HE.out w5 (hbw2.trans (B5.mono HB1.out.size)); have HAP := Lib.hid hap; have HNEW := Lib.hid (And.intro R5 ((HBr.out.trans (hb2.mono HBr.out.size)).trans B5)); clear hap R5 B5 hb2 hbw2 b1))
        | (refine step_append_run9 (o := ⟨some 36, _, _, _, _, _⟩) rfl (.tmp 23) (.tmp 35) _ _ rfl _ _ rfl rfl _ _ HAP.out ?_))
      all_goals (try go_wp2_with fail)
      all_goals exact ⟨⟨k + 1, by omega, by go_num, by rw [HTK.out, List.flatMap_append]; simpa [heldF] using HNEW.out.1, HNEW.out.2⟩, by simp [intOf]; omega⟩
    · obtain rfl : k = K.length := by omega
      clear hrow hb
      go_wp2_with fail
      go_ret
      have hr := HR.out
      rw [List.take_length] at hr
      refine ⟨_, rfl, ?_, HB1.out.trans (HBr.out.mono HB1.out.size)⟩
      exact ownsRow_base_a hr HB1.out.size
end
end Go.Proofs.YtainnhcmhgloaaaGreatDoor
