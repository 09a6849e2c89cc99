/-
  The standard library's maps.Keys, slices.Sorted, slices.Collect and slices.ContainsFunc as they lie in this program; a map's keys as the library hands them out: sorted, or in some order.
-/
import Derived.Test.YtainnhcmhgloaaaDoorS09
import Derived.Shelf.SlIterI.Sorted
import Derived.Shelf.SlIterI.Nil
import Derived.Shelf.SlIter.Sorted
import Derived.Shelf.SlIter.Nil
import Derived.Shelf.SlicesE.IndexFunc
import Derived.Shelf.Spec.SlicesInsertGrow
import Derived.Shelf.Spec.SlicesGrow
namespace Go.Proofs.YtainnhcmhgloaaaDoor
open Go.RowKit Go.Shelf Go.MapKept Go.Maps Go.Sort
open Go.WideElems (Fit rd rg rd_mk rg_of)

def keys9i_ren : Go.Shelf.Ren := ⟨fun | 7 => 43 | 10 => 62 | n => n, fun | 0 => 0 | 4 => 4 | 23 => 69 | 26 => 3 | 27 => 79 | 28 => 80 | 33 => 73 | 3 => 3 | n => n, fun | n => n⟩
theorem keys9i : Go.Proofs.SlLaysZI.n7 Tryd.prog keys9i_ren := {
  mixed := by kernel_rfl
  f7 := ⟨Tryd.f43.name, by decide, Tryd.func43.trans (congrArg some (by kernel_rfl))⟩
  f10 := ⟨Tryd.f62.name, by decide, Tryd.func62.trans (congrArg some (by kernel_rfl))⟩
  t0 := Tryd.underlying0
  a0 := Tryd.isAgg0
  z0 := Tryd.sizeOf0
  v0 := Tryd.zeroValue0
  t4 := Tryd.underlying4
  a4 := Tryd.isAgg4
  z4 := Tryd.sizeOf4
  v4 := Tryd.zeroValue4
  t23 := Tryd.underlying69
  a23 := Tryd.isAgg69
  z23 := Tryd.sizeOf69
  v23 := Tryd.zeroValue69
  t26 := Tryd.underlying3
  a26 := Tryd.isAgg3
  z26 := Tryd.sizeOf3
  v26 := Tryd.zeroValue3
  t27 := Tryd.underlying79
  a27 := Tryd.isAgg79
  z27 := Tryd.sizeOf79
  v27 := Tryd.zeroValue79
  t28 := Tryd.underlying80
  a28 := Tryd.isAgg80
  z28 := Tryd.sizeOf80
  v28 := Tryd.zeroValue80
  t33 := Tryd.underlying73
  a33 := Tryd.isAgg73
  z33 := Tryd.sizeOf73
  v33 := Tryd.zeroValue73
 }
def keys9s_ren : Go.Shelf.Ren := ⟨fun | 7 => 26 | 10 => 53 | n => n, fun | 0 => 0 | 4 => 4 | 23 => 46 | 26 => 9 | 27 => 61 | 28 => 62 | 33 => 92 | 3 => 64 | n => n, fun | n => n⟩
theorem keys9s : Go.Proofs.SlLaysZ.n7 Tryd.prog keys9s_ren := {
  mixed := by kernel_rfl
  f7 := ⟨Tryd.f26.name, by decide, Tryd.func26.trans (congrArg some (by kernel_rfl))⟩
  f10 := ⟨Tryd.f53.name, by decide, Tryd.func53.trans (congrArg some (by kernel_rfl))⟩
  t0 := Tryd.underlying0
  a0 := Tryd.isAgg0
  z0 := Tryd.sizeOf0
  v0 := Tryd.zeroValue0
  t4 := Tryd.underlying4
  a4 := Tryd.isAgg4
  z4 := Tryd.sizeOf4
  v4 := Tryd.zeroValue4
  t23 := Tryd.underlying46
  a23 := Tryd.isAgg46
  z23 := Tryd.sizeOf46
  v23 := Tryd.zeroValue46
  t26 := Tryd.underlying9
  a26 := Tryd.isAgg9
  z26 := Tryd.sizeOf9
  v26 := Tryd.zeroValue9
  t27 := Tryd.underlying61
  a27 := Tryd.isAgg61
  z27 := Tryd.sizeOf61
  v27 := Tryd.zeroValue61
  t28 := Tryd.underlying62
  a28 := Tryd.isAgg62
  z28 := Tryd.sizeOf62
  v28 := Tryd.zeroValue62
  t33 := Tryd.underlying92
  a33 := Tryd.isAgg92
  z33 := Tryd.sizeOf92
  v33 := Tryd.zeroValue92
 }
def sorted9i_ren : Go.Shelf.Ren := ⟨fun | 6 => 42 | 8 => 61 | 11 => 88 | 9 => 22 | n => n, fun | 0 => 0 | 24 => 29 | 26 => 3 | 28 => 80 | 33 => 73 | 4 => 4 | n => n, fun | n => n⟩
theorem sorted9i : Go.Proofs.SlLaysZI.n6 Tryd.prog sorted9i_ren := {
  mixed := by kernel_rfl
  f6 := ⟨Tryd.f42.name, by decide, Tryd.func42.trans (congrArg some (by kernel_rfl))⟩
  f8 := ⟨Tryd.f61.name, by decide, Tryd.func61.trans (congrArg some (by kernel_rfl))⟩
  f11 := ⟨Tryd.f88.name, by decide, Tryd.func88.trans (congrArg some (by kernel_rfl))⟩
  t0 := Tryd.underlying0
  a0 := Tryd.isAgg0
  z0 := Tryd.sizeOf0
  v0 := Tryd.zeroValue0
  t24 := Tryd.underlying29
  a24 := Tryd.isAgg29
  z24 := Tryd.sizeOf29
  v24 := Tryd.zeroValue29
  t26 := Tryd.underlying3
  a26 := Tryd.isAgg3
  z26 := Tryd.sizeOf3
  v26 := Tryd.zeroValue3
  t28 := Tryd.underlying80
  a28 := Tryd.isAgg80
  z28 := Tryd.sizeOf80
  v28 := Tryd.zeroValue80
  i26 := by kernel_rfl }
def sorted9s_ren : Go.Shelf.Ren := ⟨fun | 6 => 32 | 8 => 25 | 11 => 52 | 9 => 28 | n => n, fun | 0 => 0 | 24 => 59 | 26 => 9 | 28 => 62 | 33 => 92 | 4 => 4 | n => n, fun | n => n⟩
theorem sorted9s : Go.Proofs.SlLaysZ.n6 Tryd.prog sorted9s_ren := {
  mixed := by kernel_rfl
  f6 := ⟨Tryd.f32.name, by decide, Tryd.func32.trans (congrArg some (by kernel_rfl))⟩
  f8 := ⟨Tryd.f25.name, by decide, Tryd.func25.trans (congrArg some (by kernel_rfl))⟩
  f11 := ⟨Tryd.f52.name, by decide, Tryd.func52.trans (congrArg some (by kernel_rfl))⟩
  t0 := Tryd.underlying0
  a0 := Tryd.isAgg0
  z0 := Tryd.sizeOf0
  v0 := Tryd.zeroValue0
  t24 := Tryd.underlying59
  a24 := Tryd.isAgg59
  z24 := Tryd.sizeOf59
  v24 := Tryd.zeroValue59
  t26 := Tryd.underlying9
  a26 := Tryd.isAgg9
  z26 := Tryd.sizeOf9
  v26 := Tryd.zeroValue9
  t28 := Tryd.underlying62
  a28 := Tryd.isAgg62
  z28 := Tryd.sizeOf62
  v28 := Tryd.zeroValue62
  i26 := by kernel_rfl }
def collect9s_ren : Go.Shelf.Ren := ⟨fun | 8 => 25 | 11 => 52 | n => n, fun | 0 => 0 | 24 => 59 | 26 => 9 | 28 => 62 | 33 => 92 | 4 => 4 | n => n, fun | n => n⟩
theorem collect9s : Go.Proofs.SlLaysZ.n8 Tryd.prog collect9s_ren := {
  mixed := by kernel_rfl
  f8 := ⟨Tryd.f25.name, by decide, Tryd.func25.trans (congrArg some (by kernel_rfl))⟩
  f11 := ⟨Tryd.f52.name, by decide, Tryd.func52.trans (congrArg some (by kernel_rfl))⟩
  t0 := Tryd.underlying0
  a0 := Tryd.isAgg0
  z0 := Tryd.sizeOf0
  v0 := Tryd.zeroValue0
  t24 := Tryd.underlying59
  a24 := Tryd.isAgg59
  z24 := Tryd.sizeOf59
  v24 := Tryd.zeroValue59
  t26 := Tryd.underlying9
  a26 := Tryd.isAgg9
  z26 := Tryd.sizeOf9
  v26 := Tryd.zeroValue9
  t28 := Tryd.underlying62
  a28 := Tryd.isAgg62
  z28 := Tryd.sizeOf62
  v28 := Tryd.zeroValue62
  i26 := by kernel_rfl }
def contf9_ren : Go.Shelf.Ren := ⟨fun | 6 => 100 | 8 => 86 | n => n, fun | 0 => 0 | 3 => 3 | 4 => 4 | 22 => 29 | 25 => 73 | 23 => 3 | n => n, fun | n => n⟩
theorem contf9 : Go.Proofs.SlLaysH.n8 Tryd.prog contf9_ren := {
  mixed := by kernel_rfl
  f6 := ⟨Tryd.f100.name, by decide, Tryd.func100.trans (congrArg some (by kernel_rfl))⟩
  f8 := ⟨Tryd.f86.name, by decide, Tryd.func86.trans (congrArg some (by kernel_rfl))⟩
  t0 := Tryd.underlying0
  a0 := Tryd.isAgg0
  z0 := Tryd.sizeOf0
  v0 := Tryd.zeroValue0
  t3 := Tryd.underlying3
  a3 := Tryd.isAgg3
  z3 := Tryd.sizeOf3
  v3 := Tryd.zeroValue3
  t4 := Tryd.underlying4
  a4 := Tryd.isAgg4
  z4 := Tryd.sizeOf4
  v4 := Tryd.zeroValue4
  t22 := Tryd.underlying29
  a22 := Tryd.isAgg29
  z22 := Tryd.sizeOf29
  v22 := Tryd.zeroValue29
  t25 := Tryd.underlying73
  a25 := Tryd.isAgg73
  z25 := Tryd.sizeOf73
  v25 := Tryd.zeroValue73
  a23 := Tryd.isAgg3
  z23 := Tryd.sizeOf3 }
def insert9_ren : Go.Shelf.Ren := ⟨fun | 21 => 58 | 27 => 84 | 28 => 85 | 35 => 99 | 39 => 103 | n => n, fun | 0 => 0 | 3 => 3 | 4 => 4 | 22 => 29 | n => n, fun | n => n⟩
theorem insert9 : Go.Proofs.Lays2.n21 Tryd.prog insert9_ren := {
  mixed := by kernel_rfl
  f21 := Tryd.func58.trans (congrArg some (by kernel_rfl))
  f27 := Tryd.func84.trans (congrArg some (by kernel_rfl))
  f28 := Tryd.func85.trans (congrArg some (by kernel_rfl))
  f35 := Tryd.func99.trans (congrArg some (by kernel_rfl))
  f39 := Tryd.func103.trans (congrArg some (by kernel_rfl))
  t0 := Tryd.underlying0
  a0 := Tryd.isAgg0
  z0 := Tryd.sizeOf0
  v0 := Tryd.zeroValue0
  t3 := Tryd.underlying3
  a3 := Tryd.isAgg3
  z3 := Tryd.sizeOf3
  v3 := Tryd.zeroValue3
  t4 := Tryd.underlying4
  a4 := Tryd.isAgg4
  z4 := Tryd.sizeOf4
  v4 := Tryd.zeroValue4
  t22 := Tryd.underlying29
  a22 := Tryd.isAgg29
  z22 := Tryd.sizeOf29
  v22 := Tryd.zeroValue29
  i3 := by kernel_rfl }
def grow9_ren : Go.Shelf.Ren := ⟨fun | 4 => 48 | n => n, fun | 0 => 0 | 3 => 3 | 4 => 4 | 9 => 9 | 20 => 20 | 22 => 29 | 25 => 3 | n => n, fun | n => n⟩
theorem grow9 : Go.Proofs.Lays8.n4 Tryd.prog grow9_ren := {
  mixed := by kernel_rfl
  f4 := ⟨Tryd.f48.name, by decide, Tryd.func48.trans (congrArg some (by kernel_rfl))⟩
  t0 := Tryd.underlying0
  a0 := Tryd.isAgg0
  z0 := Tryd.sizeOf0
  v0 := Tryd.zeroValue0
  t3 := Tryd.underlying3
  a3 := Tryd.isAgg3
  z3 := Tryd.sizeOf3
  v3 := Tryd.zeroValue3
  t4 := Tryd.underlying4
  a4 := Tryd.isAgg4
  z4 := Tryd.sizeOf4
  v4 := Tryd.zeroValue4
  t9 := Tryd.underlying9
  a9 := Tryd.isAgg9
  z9 := Tryd.sizeOf9
  v9 := Tryd.zeroValue9
  t20 := Tryd.underlying20
  a20 := Tryd.isAgg20
  z20 := Tryd.sizeOf20
  v20 := Tryd.zeroValue20
  t22 := Tryd.underlying29
  a22 := Tryd.isAgg29
  z22 := Tryd.sizeOf29
  v22 := Tryd.zeroValue29
 }
/-- slices.Sort's two contracts, at the fence that asks nothing -/
theorem sorts9i (k : Nat) : AnyZI.SortsIn Tryd.prog sorted9i_ren Fence.wide k :=
  ⟨fun blk off cap ss W hH hblk hsz => callsIn_wide.2 (l9_slices_Sort_int blk off cap ss W hH hblk hsz),
   fun p cap W => callsIn_wide.2 (l9_slices_Sort_int_none p cap W)⟩
theorem sorts9s (k : Nat) : AnyZ.SortsIn Tryd.prog sorted9s_ren Fence.wide k :=
  ⟨fun blk off cap ss W hH hblk hsz => callsIn_wide.2 (l9_slices_Sort_string blk off cap ss W hH hblk hsz),
   fun p cap W => callsIn_wide.2 (l9_slices_Sort_string_none p cap W)⟩
/-- how a number reads; how a pointer reads: as its block's number -/
def RI9 (v : Value) : Option (DataW Unit × List MemPlace) := match v with
  | .int .i64 n => some (.lit (.int .i64 n), [])
  | _ => none
def RP9 (v : Value) : Option (DataW Unit × List MemPlace) := match v with
  | .pointer (some ⟨b, 0, none⟩) => some (.lit (.int .i64 (b : Int)), [])
  | _ => none
theorem RI9_inv {v : Value} {y : DataW Unit × List MemPlace} (h : RI9 v = some y) : ∃ n : Int, v = .int .i64 n ∧ y = (.lit (.int .i64 n), []) := by
  unfold RI9 at h; split at h
  · rename_i b; cases h; exact ⟨b, rfl, rfl⟩
  · cases h
theorem RP9_inv {v : Value} {y : DataW Unit × List MemPlace} (h : RP9 v = some y) : ∃ b : Nat, v = ptr9 b ∧ y = (.lit (.int .i64 (b : Int)), []) := by
  unfold RP9 at h; split at h
  · rename_i b; cases h; exact ⟨b, rfl, rfl⟩
  · cases h
theorem RI9_one (v v' : Value) (y y' : DataW Unit × List MemPlace) (h : RI9 v = some y) (h' : RI9 v' = some y') (e : y.1 = y'.1) : v = v' := by
  obtain ⟨n, rfl, rfl⟩ := RI9_inv h
  obtain ⟨n', rfl, rfl⟩ := RI9_inv h'
  simp at e; rw [e]
theorem RP9_one (v v' : Value) (y y' : DataW Unit × List MemPlace) (h : RP9 v = some y) (h' : RP9 v' = some y') (e : y.1 = y'.1) : v = v' := by
  obtain ⟨n, rfl, rfl⟩ := RP9_inv h
  obtain ⟨n', rfl, rfl⟩ := RP9_inv h'
  have e2 : n = n' := by injection e with e3; injection e3 with _ e4; omega
  rw [e2]
theorem key9i (x : Int) (h0 : 0 ≤ x) (h1 : x ≤ 9223372036854775807) : keyOf Tryd.prog 3 (.int .i64 x) = some (.int .i64 x) := by
  have hw : (Lit.int .i64 x).wf = true := by
    have e1 : IntKind.i64.min = -9223372036854775808 := by decide
    have e2 : IntKind.i64.max = 9223372036854775807 := by decide
    simp only [Lit.wf, e1, e2, Bool.and_eq_true, decide_eq_true_eq]; omega
  simp [keyOf, Tryd.underlying3, mapKey, hw]
theorem key9s (s : ByteArray) (h : s.size ≤ 300) : keyOf Tryd.prog 9 (.string s) = some (.string s.data.toList) := by
  have hm : s.size ≤ maxLen := by unfold maxLen; omega
  have hm2 : s.data.toList.length ≤ maxLen := by rw [← Lib.size_eq]; exact hm
  simp [keyOf, Tryd.underlying9, mapKey]
  exact hm
section
variable {w w' : World} {m : Nat} {L : List (Value × Value)}
theorem own_mono9 {k : TypeId} {R : Value → Option (DataW Unit × List MemPlace)} {b nn : Nat} {D : DataW Unit} (h : w.ownsMap Tryd.prog k R b nn D) (hb : w'.heap[b]? = w.heap[b]?) : w'.ownsMap Tryd.prog k R b nn D := by
  obtain ⟨es, clock, h1, h2⟩ := h
  exact ⟨es, clock, hb.trans h1, h2⟩
/-- a map of numbers, as the library reads it -/
theorem MapAt.ownsI {L : List (Int × Nat)} (h : MapAt (.int .i64) w m (L.map hskv)) (hl : L.length ≤ 1000) (hk : ∀ p ∈ L, 0 ≤ p.1 ∧ p.1 ≤ 9223372036854775807) :
    ∃ D : DataW Unit, w.ownsMap Tryd.prog 3 RI9 m L.length D ∧ (intKeys D).Perm (L.map (·.1)) ∧ Maps.size D = L.length := by
  obtain ⟨D, h1, h2, h3⟩ := h.owns (P := Tryd.prog) (kt := 3) (R := RI9) (by simp [maxLen]; omega) (fun x hx => by obtain ⟨p, hp, rfl⟩ := List.mem_map.1 hx; exact ⟨_, key9i p.1 (hk p hp).1 (hk p hp).2⟩) (fun x hx => by obtain ⟨p, hp, rfl⟩ := List.mem_map.1 hx; exact ⟨_, rfl⟩)
  rw [List.length_map] at h1 h3
  refine ⟨D, h1, ?_, h3⟩
  rw [h2]
  show (List.map (fun p => _root_.Go.intOf p.1) (List.foldr DataW.insert [] _)).Perm _
  refine ((Go.WideShapes.sorted_perm _).map _).trans ?_
  rw [List.map_map, List.map_map]
  refine List.Perm.of_eq (List.map_congr_left (fun p hp => ?_))
  simp only [Function.comp]
  rw [rg_of (rd_mk (show keyOf Tryd.prog 3 (hskv p).1 = _ from key9i p.1 (hk p hp).1 (hk p hp).2) (show RI9 (hskv p).2 = _ from rfl))]; rfl
/-- a map of names, as the library reads it -/
theorem MapAt.ownsS {L : List (ByteArray × Nat)} (h : MapAt .string w m (L.map nskv)) (hl : L.length ≤ 1000) (hk : ∀ p ∈ L, p.1.size ≤ 300) :
    ∃ D : DataW Unit, w.ownsMap Tryd.prog 9 RP9 m L.length D ∧ (strKeys D).Perm (L.map (fun p => p.1.data.toList)) ∧ Maps.size D = L.length := by
  obtain ⟨D, h1, h2, h3⟩ := h.owns (P := Tryd.prog) (kt := 9) (R := RP9) (by simp [maxLen]; omega) (fun x hx => by obtain ⟨p, hp, rfl⟩ := List.mem_map.1 hx; exact ⟨_, key9s p.1 (hk p hp)⟩) (fun x hx => by obtain ⟨p, hp, rfl⟩ := List.mem_map.1 hx; exact ⟨_, rfl⟩)
  rw [List.length_map] at h1 h3
  refine ⟨D, h1, ?_, h3⟩
  rw [h2]
  show (List.map (fun p => strOf p.1) (List.foldr DataW.insert [] _)).Perm _
  refine ((Go.WideShapes.sorted_perm _).map _).trans ?_
  rw [List.map_map, List.map_map]
  refine List.Perm.of_eq (List.map_congr_left (fun p hp => ?_))
  simp only [Function.comp]
  rw [rg_of (rd_mk (show keyOf Tryd.prog 9 (nskv p).1 = _ from key9s p.1 (hk p hp)) (show RP9 (nskv p).2 = _ from rfl))]; rfl
end
end Go.Proofs.YtainnhcmhgloaaaDoor
