/-
  Package lock: the contract of before.
-/
import Derived.Test.YtainnhcmhgloaaaGreatDoorW09f
import Derived.Deep.RegionHeld3
namespace Go.Proofs.YtainnhcmhgloaaaGreatDoor
open Go.RowKit Go.Shelf Go.MapKept Go.Maps Go.Sort

section
variable {w w' w0 W2 : World} {o o' o0 : Nat → Nat} {i j g m1 m2 m3 : Nat} {N N1 N2 : List En} {HL : List Ho} {WL H W H0 W0 : Hs} {n0 : ByteArray} {pre : List Int} {e : En}
theorem IsT.lookWait (T : IsT w o j g m1 m2 m3 N HL WL) {y : Has9} (hy : y ∈ WL) (c : Bool) :
    (Instr.lookup 52 (.map (some m3)) (.int .i64 y.owner) c).run Tryz.prog w = .ok (if c then .tuple #[.agg #[.string y.name, .int .i64 (y.mode : Int)], .bool true] else .agg #[.string y.name, .int .i64 (y.mode : Int)]) w :=
  T.hw.look Tryz.underlying52 Tryz.underlying3 (List.mem_map.2 ⟨y, hy, rfl⟩) c
theorem IsT.lookNoWait (T : IsT w o j g m1 m2 m3 N HL WL) (x : Int) (hno : ∀ y ∈ WL, y.owner ≠ x) (c : Bool) :
    (Instr.lookup 52 (.map (some m3)) (.int .i64 x) c).run Tryz.prog w = .ok (if c then .tuple #[.agg #[.string ⟨#[]⟩, .int .i64 0], .bool false] else .agg #[.string ⟨#[]⟩, .int .i64 0]) w :=
  T.hw.lookNo Tryz.underlying52 Tryz.underlying3 (show IsKey (.int .i64) (.int .i64 x) from rfl) (fun y hy e => by obtain ⟨p, hp, rfl⟩ := List.mem_map.1 hy; exact hno p hp (by simpa [wkv] using e)) (Tryz.zeroValue41 w) c
set_option maxRecDepth 100000 in
set_option maxHeartbeats 2000000 in
theorem c_before_no (T : IsT w o j g m1 m2 m3 N HL WL) (x : Int) (hno : ∀ y ∈ WL, y.owner ≠ x) :
    Calls Tryz.prog 38 #[ptr9 g, .int .i64 x] w fun r w' => r = .returned (.tuple #[.slice none 0 0, .slice none 0 0]) ∧ Below w.heap.size w w' := by
  have lk := T.lookNoWait x hno true
  simp only [if_true] at lk
  have g2 : w.cell? ⟨g, 2, none⟩ = some (.map (some m3)) := T.hp.cell 2
  clear T hno
  unfold ptr9
  go_enter Tryz.func38, Tryz.ntmps38
  go_wp2_with fail
  go_ret2
  exact ⟨rfl, (Below.refl _ w).alloc (Nat.le_refl _) _⟩
set_option maxRecDepth 100000 in
set_option maxHeartbeats 4000000 in
theorem c_before (T : IsT w o j g m1 m2 m3 N HL WL) (A : Abs N HL WL H W n0 []) (hB : H.length + W.length ≤ 1000) (hL : Laid9 w) {y : Has9} (hy : y ∈ W) :
    Calls Tryz.prog 38 #[ptr9 g, .int .i64 y.owner] w fun r w' => ∃ v a p c, r = .returned (.tuple #[v, .slice a p c]) ∧ ∃ (l : List Int) (l1 l2 : Hs) (e : En) (un : Nat), e ∈ N ∧ e.name = y.name ∧ e.qv = .slice a un c ∧ nameL W y.name = l1 ++ y :: l2 ∧ p = l1.length ∧ l.Perm ((e.hs.map (·.1)).filter (badP e.hs y.owner y.mode)) ∧ w'.ownsRow w.heap.size 3 1 v l.length (l.map (Value.int .i64)) ∧ Below w.heap.size w w' := by
  obtain ⟨e, he, hn⟩ := A.qx y hy
  obtain ⟨l1, l2, hsp⟩ := List.append_of_mem (mem_nameL.2 ⟨hy, rfl⟩)
  obtain ⟨ua, un, uc, hqv⟩ := (T.er e he).isSlice
  have hq : e.q = l1.map (·.owner) ++ y.owner :: l2.map (·.owner) := by rw [A.q_len he, hn, hsp]; simp
  have hno : ∀ z ∈ l1.map (·.owner), z ≠ y.owner := fun z hz x => by
    have h2 := nameL_owners A.ok.wn y.name
    rw [hsp] at h2
    obtain ⟨u, hu, rfl⟩ := List.mem_map.1 hz
    exact mid_ne (x := y) h2 (.inl hu) x
  have hql : e.q.length ≤ 1000 := by
    rw [A.q_len he, List.length_map]; exact Nat.le_trans (List.length_filter_le _ _) (by omega)
  have hix : Lib.idxOf e.q y.owner = (l1.length : Int) := by rw [hq, idx_mid hno]; simp
  have hun : un = e.q.length := by
    have := (T.er e he).row.2
    rw [hqv] at this
    rcases this with ⟨h1, h2⟩ | ⟨g', cap, cur, h1, _⟩
    · cases h1; exact h2.symm
    · cases h1; rfl
  have hunc : un ≤ uc := by
    have := (T.er e he).row.2
    rw [hqv] at this
    rcases this with ⟨h1, h2⟩ | ⟨g', cap, cur, h1, _, _, h2, _⟩
    · cases h1; omega
    · cases h1; rw [hun]; exact h2
  have hll : l1.length < e.q.length := by rw [hq]; simp
  have hbd := A.bounds he
  have hym := A.ok.wm y hy
  have lk := T.lookWait (A.wm.mem_iff.2 hy) true
  simp only [if_true] at lk
  have g2 : w.cell? ⟨g, 2, none⟩ = some (.map (some m3)) := T.hp.cell 2
  have CA := Lib.hid (fun (W3 : World) (b : Below w.heap.size w W3) => c_against ((T.reads b).eb e he) ((T.reads b).eh e he) (by omega) hbd.1 hbd.2.1 y.owner y.mode hym.2.1 (hL.step b))
  have CI := Lib.hid (fun (W3 : World) (b : Below w.heap.size w W3) => by
    have := c_index ((T.reads b).er e he) hql y.owner
    rw [hix, hqv] at this
    exact this)
  have HLN := Lib.hid (fun (W3 : World) (b : Below w.heap.size w W3) => by
    have := (T.reads b).lookName he false
    simp only [Bool.false_eq_true, if_false] at this
    rw [hn] at this
    exact this)
  have HC := Lib.hid (fun (W3 : World) (b : Below w.heap.size w W3) => (show W3.cell? ⟨g, 0, none⟩ = some (.map (some m1)) ∧ W3.cell? ⟨e.b, 2, none⟩ = some (.slice ua un uc) from ⟨(T.reads b).hp.cell 0, by rw [← hqv]; exact ((T.reads b).eb e he).cell 2⟩))
  have HEN := Lib.hid (show e ∈ N ∧ e.name = y.name ∧ e.qv = .slice ua un uc ∧ nameL W y.name = l1 ++ y :: l2 from ⟨he, hn, hqv, hsp⟩)
  have hp1 : (l1.length : Int) ≤ (un : Int) := by omega
  have hp2 : (un : Int) ≤ (uc : Int) := by omega
  have hp3 : (0 : Int) ≤ (l1.length : Int) := by omega
  obtain ⟨p, hp⟩ : ∃ p, l1.length = p := ⟨_, rfl⟩
  have hp4 : (l1.length : Int) ≤ (uc : Int) := by omega
  have hp5 : l1.length ≤ uc := by omega
  rw [hp] at hp1 hp3 CI hp4 hp5
  have HPP := Lib.hid hp
  clear T A hB hL hy he hn hsp hqv hq hno hql hix hun hunc hll hbd hym hp
  unfold ptr9 at *
  go_enter Tryz.func38, Tryz.ntmps38
  go_upto_region 4 with fail
  have ba : Below w.heap.size w (w.alloc (.cells #[.string y.name, .int .i64 (y.mode : Int)] 41)) := (Below.refl _ w).alloc (Nat.le_refl _) _
  have hA := At.new w #[.string y.name, .int .i64 (y.mode : Int)] 41
  have HB := Lib.hid ba; have HA := Lib.hid hA
  clear ba hA lk g2
  generalize w.alloc (.cells #[.string y.name, .int .i64 (y.mode : Int)] 41) = W3 at *
  generalize hbx : w.heap.size = bx at *
  have lk : ∀ q, (Instr.lookup 50 (.map (some m1)) (.string y.name) false).run Tryz.prog (W3.drewN q) = .ok (.pointer (some ⟨e.b, 0, none⟩)) (W3.drewN q) := fun q => HLN.out _ (HB.out.trans ((below_drewN W3 q).mono (by have := HB.out.size; omega)))
  have c0 : ∀ q, (W3.drewN q).cell? ⟨g, 0, none⟩ = some (.map (some m1)) := fun q => (HC.out W3 HB.out).1
  have cb : ∀ q, (W3.drewN q).cell? ⟨bx, 0, none⟩ = some (.string y.name) := fun q => HA.out.cell 0
  go_quiet (fail)
  have hB4 : Below bx w (W3.drewN nq).drew := (HB.out.trans ((below_drewN W3 nq).mono (by have := HB.out.size; omega))).drew
  have q0 : (W3.drewN nq).drew.cell? ⟨bx, 1, none⟩ = some (.int .i64 (y.mode : Int)) ∧ (W3.drewN nq).drew.cell? ⟨e.b, 2, none⟩ = some (.slice ua un uc) := ⟨HA.out.cell 1, (HC.out W3 HB.out).2⟩
  have hlt : bx < (W3.drewN nq).drew.heap.size := HA.out.lt
  have hltE : e.b < (W3.drewN nq).drew.heap.size := World.block_lt_of_cell? _ _ q0.2
  have HB4 := Lib.hid hB4; have HLT := Lib.hid hlt; have HLTE := Lib.hid hltE
  have k0 := q0
  clear lk c0 cb hB4 hlt hltE HA HB HLN
  generalize hW4 : W3.drewN nq = W4 at *
  clear hW4
  go_wp2_with fail
  go_region_held3 (fun W => W.cell? ⟨bx, 1, none⟩ = some (.int .i64 (y.mode : Int)) ∧ W.cell? ⟨e.b, 2, none⟩ = some (.slice ua un uc)) (first | exact q0 | exact q1 | exact q2)
    (first
      | (go_at_call 72; ((with_reducible refine (CA.out _ HB4.out).mono ?_); rintro e1 v1 ⟨vv, l, rfl, hl, hrow, b1⟩; have q1 := And.intro ((b1.cell (p := ⟨bx, 1, none⟩) HLT.out).trans k0.1) ((b1.cell (p := ⟨e.b, 2, none⟩) HLTE.out).trans k0.2); have HB5 := Lib.hid (HB4.out.trans (b1.mono (Nat.le_of_lt HLT.out))); have HL5 := Lib.hid hl; have HR5 := Lib.hid hrow; clear hl hrow b1))
      | (go_at_call 73; ((with_reducible refine (CI.out _ HB5.out).mono ?_); rintro e1 v2 ⟨rfl, rfl⟩; have q2 := q1)))
  go_wp2_with fail
  go_ret2
  exact ⟨vv, ua, p, uc, rfl, l, l1, l2, e, un, HEN.out.1, HEN.out.2.1, HEN.out.2.2.1, HEN.out.2.2.2, HPP.out.symm, HL5.out, ownsRow_base_a HR5.out (by rw [hbx]; exact Nat.le_of_lt HLT.out), by rw [hbx]; exact HB5.out⟩
end
end Go.Proofs.YtainnhcmhgloaaaGreatDoor
