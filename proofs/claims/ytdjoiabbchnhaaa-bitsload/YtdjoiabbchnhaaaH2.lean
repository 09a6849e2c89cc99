/-
  Package bits: Copy, Load; the iterator round; Take, Taken, Free, Run.
-/
import Derived.Test.YtdjoiabbchnhaaaH1
import Derived.Laws.AppendOwn
import Derived.OwnWalk
import Derived.RangeFuncNested
import Derived.RangeFuncBound
import Derived.RangeFuncCalls
import Derived.RangeFuncLeaves
import Derived.Shelf.Abstract
import Derived.Shelf.RegionOpen
import Derived.OwnWalkIn
import Derived.TacticsInMore
import Derived.LoopNIn
import Derived.LoopIn
import Derived.Maps.AppendAt
import Derived.Lib.LazyBuf
import Derived.Deep.RegionHeld3
import Derived.Sort.QuietIn
namespace Go.Proofs.Ytdjoiabbchnhaaa
open Go.RowKit Go.Shelf

theorem below_undrew {w w' : World} (h : Below w.drew.heap.size w.drew w') : Below w.heap.size w w' := ⟨h.os, h.tape, h.output, h.size, h.block⟩
theorem info_u8 : (Try.prog.info? 5).map (fun i => (i.zero, i.size, i.bytes)) = some (some (.int .u8 0), 1, 1) := by kernel_rfl
set_option maxHeartbeats 400000 in
theorem clone_any (w : World) (b C : Nat) (l : List Value) (h1 : 1 ≤ l.length) (h2 : l.length ≤ 1000000) (hc : ∀ j u, l[j]? = some u → w.cell? ⟨b, j, none⟩ = some u) (ho : ∀ u ∈ l, u.oneCell' = true) :
    Calls Try.prog 36 #[.slice (some ⟨b, 0, none⟩) l.length C] w fun e w' => ∃ g C', e = .returned (.slice (some ⟨g, 0, none⟩) l.length C') ∧ w'.ownsRow w.heap.size 5 1 (.slice (some ⟨g, 0, none⟩) l.length C') l.length l ∧ Below w.heap.size w w' := by
  obtain ⟨i0, hi, hz0, hz1, hz2⟩ := info_parts info_u8
  have hN : l.length * 1 ≤ 140737488355328 := by omega
  have he := _root_.Go.run_eql_slice_nil (P := Try.prog) w 51 5 (some ⟨b, 0, none⟩) l.length C Try.underlying51
  have hnn : ∀ j u, l[j]? = some u → (w.alloc (.cells #[] 5)).cell? (Addr.add ⟨b, 0, none⟩ j) = some u := by
    intro j u hj
    have ea : Addr.add ⟨b, 0, none⟩ j = ⟨b, j, none⟩ := by simp [Addr.add]; exact fun h => h.symm
    have h := hc j u hj
    rw [ea]
    exact cell_kept h (World.grownBy_alloc w _ none) (fun r e => by cases e)
  obtain ⟨n, HN⟩ : ∃ n, Hid (l.length = n + 1) := ⟨l.length - 1, show l.length = _ by omega⟩
  go_enter Try.func36, Try.ntmps36
  go_wp2_with (at_builtin; refine wpList_append_own _ rfl _ _ 51 rfl w.heap.size 5 i0 (.int .u8 0) 1 1 Try.underlying51 hi hz0 hz1 hz2 rfl (by decide) _ _ _ rfl (World.ownsRow_made w #[] 0 (Nat.le_refl _) (by decide) rfl) ⟨b, 0, none⟩ l.length C l rfl (by simp) hnn ho (by simp [maxLen]; omega) (by omega) (by simp) ?_; intro v' w1 hown hgrow _; rw [List.nil_append, Nat.zero_add, HN.out] at hown; obtain ⟨g, C', rfl⟩ := ownsRow_succ hown)
  go_ret
  refine ⟨g, C', by rw [HN.out]; rfl, by rw [HN.out]; exact hown, ?_⟩
  exact ((Below.refl _ w).alloc (Nat.le_refl _) _).grown hgrow (by simp) (fun k e => by cases e; exact Nat.le_refl _)
theorem isB_of_row {w : World} {p g C n : Nat} {L : List Bool} (base : Nat) (hn : n = (L.length + 7) / 8) (hr : w.ownsRow base 5 1 (.slice (some ⟨g, 0, none⟩) n C) n (Lib.byteCells (pack L)))
    (hp : w.heap[p]? = some (.cells #[.int .i64 (L.length : Int), .slice (some ⟨g, 0, none⟩) n C] 53 (0, 0))) (n1 : 1 ≤ L.length) (n2 : L.length ≤ 1024) : IsB w p g L := by
  subst hn
  rcases hr.2 with ⟨e, _⟩ | ⟨g', cap, cur, e, _, hg, h1, _, h3, h4⟩
  · cases e
  · cases e
    refine ⟨⟨C, cur, hp, hg, h1, by omega, ?_⟩, n1, n2⟩
    intro j hj
    have e1 : (cur.toList.take ((L.length + 7) / 8 * 1))[j]? = (Lib.byteCells (pack L))[j]? := by rw [h4]
    rw [List.getElem?_take_of_lt (by omega), Array.getElem?_toList] at e1
    rw [e1]
    have := brow_pack L j hj
    simpa [brow] using this
set_option maxHeartbeats 400000 in
theorem copy_any (w : World) (p b : Nat) (L : List Bool) (H : IsB w p b L) :
    Calls Try.prog 19 #[.pointer (some ⟨p, 0, none⟩)] w fun e w' => ∃ q g, e = .returned (.pointer (some ⟨q, 0, none⟩)) ∧ IsB w' q g L ∧ w.heap.size ≤ q ∧ w.heap.size ≤ g ∧ Below w.heap.size w w' := by
  obtain ⟨C, cs⟩ := H.cs
  have cn := H.cn
  have hn1 := H.n1
  have hn2 := H.n2
  have hpl : (Lib.byteCells (pack L)).length = (L.length + 7) / 8 := by rw [Lib.byteCells_length, pack_length]
  have C1 := Lib.hid (clone_any w.drew b C (Lib.byteCells (pack L)) (by omega) (by omega) (by
    intro j u hj
    have hj' : j < (L.length + 7) / 8 := by rw [← hpl]; exact (List.getElem?_eq_some_iff.1 hj).1
    have := brow_pack L j hj'
    have e2 : (brow (pack L))[j]? = (Lib.byteCells (pack L))[j]? := by simp [brow]
    rw [e2, hj] at this
    cases this
    exact H.cb j hj') (Lib.byteCells_one _))
  rw [hpl] at C1
  clear H
  generalize hnb : (L.length + 7) / 8 = nb at *
  go_enter Try.func19, Try.ntmps19
  go_wp2_with fail
  have hlt : p < w.heap.size := by
    rcases cells_of_cell cn with ⟨o, ho, _⟩
    exact (Array.getElem?_eq_some_iff.1 ho).1
  go_region_held3 (fun W => W.cell? ⟨p, 0, none⟩ = some (.int .i64 (L.length : Int)) ∧ W.cell? ⟨p, 1, none⟩ = some (.slice (some ⟨b, 0, none⟩) nb C)) (first | exact ⟨cn, cs⟩ | exact ⟨cn2, cs2⟩ | exact ⟨cell_kept cn2 (World.grownBy_alloc _ _ none) (fun r e => by cases e), cell_kept cs2 (World.grownBy_alloc _ _ none) (fun r e => by cases e)⟩)
    ((go_at_call 36; refine C1.out.mono ?_; rintro e w' ⟨g, C', rfl, hr, hb⟩; have cn2 := (hb.cell (p := ⟨p, 0, none⟩) hlt).trans cn; have cs2 := (hb.cell (p := ⟨p, 1, none⟩) hlt).trans cs))
  go_wp2_with fail
  go_ret
  have hrb : w.heap.size ≤ g := by
    rcases hr.2 with ⟨e, _⟩ | ⟨g', cap, cur, e, hg, _⟩
    · cases e
    · cases e; exact hg
  refine ⟨w'.heap.size, g, rfl, isB_of_row w.heap.size hnb.symm (hr.alloc _) (World.alloc_heap_new w' _) hn1 hn2, hb.size, hrb, ?_⟩
  exact below_undrew (Below.alloc hb hb.size _)

attribute [local go_sem] Oper.semAt_some

/-- a page -/
abbrev Pg (L : List Bool) := { i : Nat // i < L.length }
/-- what comes when k rounds from 'fr' on are over -/
def rnd (L : List Bool) (h : 1 ≤ L.length) (fr k : Nat) : List (Pg L) := (List.range k).map fun s => ⟨(fr + s) % L.length, Nat.mod_lt _ h⟩
theorem rnd_succ (L : List Bool) (h : 1 ≤ L.length) (fr k : Nat) : rnd L h fr (k + 1) = rnd L h fr k ++ [⟨(fr + k) % L.length, Nat.mod_lt _ h⟩] := by simp [rnd, List.range_succ]
theorem rnd_length (L : List Bool) (h : 1 ≤ L.length) (fr k : Nat) : (rnd L h fr k).length = k := by simp [rnd]
theorem rnd_prefix (L : List Bool) (h : 1 ≤ L.length) (fr k m : Nat) (hk : k ≤ m) : rnd L h fr k <+: rnd L h fr m := by
  induction m with
  | zero => obtain rfl : k = 0 := by omega
            exact List.prefix_refl _
  | succ m ih =>
    by_cases e : k = m + 1
    · subst e; exact List.prefix_refl _
    · rw [rnd_succ]; exact (ih (by omega)).trans (List.prefix_append _ _)
theorem rnd_of_prefix (L : List Bool) (h : 1 ≤ L.length) (fr m : Nat) (pre : List (Pg L)) (hp : pre <+: rnd L h fr m) : pre = rnd L h fr pre.length ∧ pre.length ≤ m := by
  have hl := hp.length_le
  rw [rnd_length] at hl
  refine ⟨?_, hl⟩
  have h1 := List.prefix_iff_eq_take.1 hp
  have h2 := List.prefix_iff_eq_take.1 (rnd_prefix L h fr pre.length m hl)
  rw [rnd_length] at h2
  rw [h2]; exact h1
theorem rnd_mem (L : List Bool) (h : 1 ≤ L.length) (fr k s : Nat) (hs : s < k) : (⟨(fr + s) % L.length, Nat.mod_lt _ h⟩ : Pg L) ∈ rnd L h fr k := by
  simp only [rnd, List.mem_map, List.mem_range]
  exact ⟨s, hs, rfl⟩

/-- the blocks of S lie as they lay -/
def KeepS (S : List Nat) (W W' : World) : Prop := ∀ k, k ∈ S → W'.heap[k]? = W.heap[k]?
theorem KeepS.refl (S : List Nat) (W : World) : KeepS S W W := fun _ _ => rfl
theorem KeepS.trans {S : List Nat} {A B C : World} (h : KeepS S A B) (k : KeepS S B C) : KeepS S A C := fun i hi => (k i hi).trans (h i hi)
theorem KeepS.below {S : List Nat} {A B : World} {n : Nat} (h : Below n A B) (hs : ∀ k, k ∈ S → k < n) : KeepS S A B := fun k hk => h.block k (hs k hk)
theorem KeepS.setCell {S : List Nat} {A B : World} (h : KeepS S A B) (a : Addr) (v : Value) (ha : a.block ∉ S) : KeepS S A (B.setCell a v) := fun k hk =>
  (Below.heap_setCell B a v k (fun e => ha (e ▸ hk))).trans (h k hk)
theorem KeepS.drewN {S : List Nat} {A B : World} (h : KeepS S A B) (m : Nat) : KeepS S A (B.drewN m) := h
theorem KeepS.cell {S : List Nat} {A B : World} (h : KeepS S A B) {a : Addr} (ha : a.block ∈ S) : B.cell? a = A.cell? a := World.cell?_of_block (w := A) (h a.block ha)
theorem keepS_b {S : List Nat} {w : World} (hS : ∀ k, k ∈ S → k < w.heap.size) (W : World) (l : Nat) (o o' : Obj) (hl : w.heap.size ≤ l) (_ : W.heap[l]? = some o) (_ : o.isCells = false) (_ : o.isWalk = false) : KeepS S W (W.putObj l o') :=
  fun k hk => World.putObj_heap_other (by have := hS k hk; omega)

set_option maxRecDepth 100000 in
set_option maxHeartbeats 1000000 in
/-- the iterator, for every loop body that keeps the pages and the iterator's own variables -/
theorem round1_in (n l Bp Bf p b : Nat) (L : List Bool) (hL : 1 ≤ L.length) (fr : Nat) (hfr : fr < L.length) (J Jx : List (Pg L) → World → Prop) (hn : 2 ≤ n)
    (hY : ∀ pre x W, J pre W → pre.length < L.length → YieldAt Fence.wide (n - 1) Try.prog l #[.int .i64 (x.1 : Int), .bool (tk L x.1)] W fun e W' =>
      (e = .returned (.bool true) ∧ J (pre ++ [x]) W' ∧ KeepS [p, b, Bp, Bf] W W') ∨ (e = .returned (.bool false) ∧ Jx (pre ++ [x]) W'))
    (hJd : ∀ pre W m, J pre W → J pre (W.drewN m))
    (W : World) (hBp : Boxed W Bp 23 (.pointer (some ⟨p, 0, none⟩))) (hBf : Boxed W Bf 3 (.int .i64 (fr : Int))) (H : IsB W p b L) (h0 : J [] W) :
    CallsIn Fence.wide n Try.prog 37 #[.func (.yield l) #[] #[], .pointer (some ⟨Bp, 0, none⟩), .pointer (some ⟨Bf, 0, none⟩)] W fun e W' => (∃ v, e = .returned v) ∧
      ((∃ ys, ys = rnd L hL fr L.length ∧ J ys W') ∨ (∃ pre, pre <+: rnd L hL fr L.length ∧ Jx pre W')) := by
  have cp := hBp.cell
  have cf := hBf.cell
  have cn := H.cn
  refine callsIn_of_wp Try.func37 rfl trivial ?_ rfl
  simp only [Try.ntmps37, List.size_toArray, List.length_cons, List.length_nil, Nat.reduceAdd, Nat.reduceSub, Array.replicate_succ, Array.replicate_zero, List.push_toArray, List.append_toArray, List.nil_append, List.cons_append]
  gi_wp2
  gi_loopw [10] (fun i wr => ∃ k : Nat, k ≤ L.length ∧ i = .int .i64 (k : Int) ∧ KeepS [p, b, Bp, Bf] W wr ∧ J (rnd L hL fr k) wr) (fun i _ => L.length - (intOf i).toNat)
  case atStart => exact ⟨0, by omega, rfl, KeepS.refl _ _, h0⟩
  case round =>
    obtain ⟨k, hk, rfl, hbw, hJ⟩ := hrel
    have HB := Lib.hid hbw
    have H' := H.kept (hbw p (by simp)) (hbw b (by simp))
    have cp' := (hbw.cell (a := ⟨Bp, 0, none⟩) (by simp)).trans cp
    have cf' := (hbw.cell (a := ⟨Bf, 0, none⟩) (by simp)).trans cf
    have cn' := H'.cn
    have hn2 := H.n2
    have hn1 := H.n1
    by_cases hlt : k < L.length
    · have hlt' : (k : Int) < (L.length : Int) := by omega
      have e1 : IntKind.i64.wrap ((fr : Int) + (k : Int)) = (fr : Int) + (k : Int) := IntWalk.i64_in _ (by omega)
      have e2 : ((fr : Int) + (k : Int)) % (L.length : Int) = (((fr + k) % L.length : Nat) : Int) := by rw [Int.natCast_emod, Int.natCast_add]
      have e3 : ((L.length : Int) == 0) = false := by rw [beq_eq_false_iff_ne]; omega
      have hil : (fr + k) % L.length < L.length := Nat.mod_lt _ hL
      have C1 := Lib.hid (fun W' HH => is_in W' p b L HH ((fr + k) % L.length) hil)
      have HH := Lib.hid H'
      have hJ' := hJ
      clear hbw H' hJ
      gi_wp2
      gi_quiet (fail)
      have HH2 := Lib.hid (HH.out.drewN nq)
      have HJ2 := Lib.hid (hJd _ _ nq hJ')
      have HB2 := Lib.hid (HB.out.drewN nq)
      clear HH hJ' HB cp' cf' cn'
      generalize wr.drewN nq = w2 at *
      rw [e2]
      generalize hi : (fr + k) % L.length = i at *
      have cp2 := (HB2.out.cell (a := ⟨Bp, 0, none⟩) (by simp)).trans cp
      gi_wp2
      refine ⟨trivial, fun _ => by omega, ?_⟩
      refine (callsIn_wide.2 (C1.out _ HH2.out)).mono ?_
      rintro e w3 ⟨rfl, m, rfl⟩
      have HB3 := Lib.hid (HB2.out.drewN m)
      obtain ⟨fn, tmps, assign, body, hy, hR⟩ := hY (rnd L hL fr k) ⟨i, hil⟩ (w2.drewN m) (hJd _ _ m HJ2.out) (by rw [rnd_length]; exact hlt)
      dsimp only at hy
      generalize w2.drewN m = w4 at *
      gi_wp2
      refine ⟨fun _ => by omega, hR.mono ?_⟩
      rintro e W5 (⟨rfl, hJ5, hk5⟩ | ⟨rfl, hJx5⟩)
      · gi_wp2
        go_roundw
        case rel => exact ⟨k + 1, by omega, by go_num, HB3.out.trans hk5, by rw [rnd_succ]; simp only [hi]; exact hJ5⟩
        case measure => simp [intOf]; omega
      · gi_wp2
        refine bodyPost_ret (results_none rfl _ _ _) rfl ?_
        refine ⟨⟨_, rfl⟩, .inr ⟨_, ?_, hJx5⟩⟩
        have := rnd_prefix L hL fr (k + 1) L.length (by omega)
        rw [rnd_succ] at this; simp only [hi] at this; exact this
    · obtain rfl : k = L.length := by omega
      gi_wp2
      go_end0
      exact ⟨⟨_, rfl⟩, .inl ⟨_, rfl, hJ⟩⟩
set_option maxHeartbeats 1000000 in
theorem round_any (p : Nat) (fr : Nat) (w : World) :
    Calls Try.prog 33 #[.pointer (some ⟨p, 0, none⟩), .int .i64 (fr : Int)] w fun e w' =>
      e = .returned (.func (.func 37) #[] #[.pointer (some ⟨w.heap.size, 0, none⟩), .pointer (some ⟨w.heap.size + 1, 0, none⟩)]) ∧
      w' = (w.alloc (.cells #[.pointer (some ⟨p, 0, none⟩)] 23)).alloc (.cells #[.int .i64 (fr : Int)] 3) := by
  go_enter Try.func33, Try.ntmps33
  go_wp2
  go_ret
  exact ⟨rfl, rfl⟩
theorem round_stops (n Bp Bf p b : Nat) (L : List Bool) (hL : 1 ≤ L.length) (fr : Nat) (hfr : fr < L.length) (hn : 2 ≤ n) (w : World) (hBp : Boxed w Bp 23 (.pointer (some ⟨p, 0, none⟩))) (hBf : Boxed w Bf 3 (.int .i64 (fr : Int))) (H : IsB w p b L) :
    SeqStopsK Fence.wide n Try.prog 37 #[.pointer (some ⟨Bp, 0, none⟩), .pointer (some ⟨Bf, 0, none⟩)] (fun x : Pg L => #[Value.int .i64 (x.1 : Int), .bool (tk L x.1)]) (KeepS [p, b, Bp, Bf])
      (fun ys => ys = rnd L hL fr L.length) (fun pre => pre <+: rnd L hL fr L.length) L.length w := fun l J Jx W hW hJ _ hY h0 =>
  round1_in n l Bp Bf p b L hL fr hfr J Jx hn hY (fun pre W' m h => hJ pre W' _ none h ⟨rfl, rfl, rfl, Nat.le_refl _, fun _ _ _ => rfl⟩ (fun r e => by cases e)) W
    ((hW.block Bp hBp.lt).trans hBp) ((hW.block Bf hBf.lt).trans hBf) (H.grew hW) h0
end Go.Proofs.Ytdjoiabbchnhaaa
