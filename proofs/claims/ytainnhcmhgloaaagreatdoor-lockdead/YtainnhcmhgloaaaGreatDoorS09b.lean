/-
  The standard library's maps.Keys, slices.Sorted, slices.Collect and slices.ContainsFunc as they lie in this program; a map's keys as the library hands them out: sorted, or in some order.
-/
import Derived.Test.YtainnhcmhgloaaaGreatDoorS09
import Derived.Shelf.SlIterI.Sorted
import Derived.Shelf.SlIterI.Nil
import Derived.Shelf.SlIter.Sorted
import Derived.Shelf.SlIter.Nil
import Derived.Shelf.SlicesE.IndexFunc
import Derived.Shelf.Spec.SlicesInsertGrow
import Derived.Shelf.Spec.SlicesGrow
namespace Go.Proofs.YtainnhcmhgloaaaGreatDoor
open Go.RowKit Go.Shelf Go.MapKept Go.Maps Go.Sort
open Go.WideElems (Fit rd rg rd_mk rg_of)

def keys9i_ren : Go.Shelf.Ren := ⟨fun | 7 => 33 | 10 => 69 | n => n, fun | 0 => 0 | 4 => 4 | 23 => 68 | 26 => 3 | 27 => 65 | 28 => 66 | 33 => 71 | 3 => 3 | n => n, fun | n => n⟩
theorem keys9i : Go.Proofs.SlLaysZI.n7 Tryz.prog keys9i_ren := {
  mixed := by kernel_rfl
  f7 := ⟨Tryz.f33.name, by decide, Tryz.func33.trans (congrArg some (by kernel_rfl))⟩
  f10 := ⟨Tryz.f69.name, by decide, Tryz.func69.trans (congrArg some (by kernel_rfl))⟩
  t0 := Tryz.underlying0
  a0 := Tryz.isAgg0
  z0 := Tryz.sizeOf0
  v0 := Tryz.zeroValue0
  t4 := Tryz.underlying4
  a4 := Tryz.isAgg4
  z4 := Tryz.sizeOf4
  v4 := Tryz.zeroValue4
  t23 := Tryz.underlying68
  a23 := Tryz.isAgg68
  z23 := Tryz.sizeOf68
  v23 := Tryz.zeroValue68
  t26 := Tryz.underlying3
  a26 := Tryz.isAgg3
  z26 := Tryz.sizeOf3
  v26 := Tryz.zeroValue3
  t27 := Tryz.underlying65
  a27 := Tryz.isAgg65
  z27 := Tryz.sizeOf65
  v27 := Tryz.zeroValue65
  t28 := Tryz.underlying66
  a28 := Tryz.isAgg66
  z28 := Tryz.sizeOf66
  v28 := Tryz.zeroValue66
  t33 := Tryz.underlying71
  a33 := Tryz.isAgg71
  z33 := Tryz.sizeOf71
  v33 := Tryz.zeroValue71
 }
def keys9s_ren : Go.Shelf.Ren := ⟨fun | 7 => 43 | 10 => 77 | n => n, fun | 0 => 0 | 4 => 4 | 23 => 50 | 26 => 9 | 27 => 81 | 28 => 82 | 33 => 107 | 3 => 62 | n => n, fun | n => n⟩
theorem keys9s : Go.Proofs.SlLaysZ.n7 Tryz.prog keys9s_ren := {
  mixed := by kernel_rfl
  f7 := ⟨Tryz.f43.name, by decide, Tryz.func43.trans (congrArg some (by kernel_rfl))⟩
  f10 := ⟨Tryz.f77.name, by decide, Tryz.func77.trans (congrArg some (by kernel_rfl))⟩
  t0 := Tryz.underlying0
  a0 := Tryz.isAgg0
  z0 := Tryz.sizeOf0
  v0 := Tryz.zeroValue0
  t4 := Tryz.underlying4
  a4 := Tryz.isAgg4
  z4 := Tryz.sizeOf4
  v4 := Tryz.zeroValue4
  t23 := Tryz.underlying50
  a23 := Tryz.isAgg50
  z23 := Tryz.sizeOf50
  v23 := Tryz.zeroValue50
  t26 := Tryz.underlying9
  a26 := Tryz.isAgg9
  z26 := Tryz.sizeOf9
  v26 := Tryz.zeroValue9
  t27 := Tryz.underlying81
  a27 := Tryz.isAgg81
  z27 := Tryz.sizeOf81
  v27 := Tryz.zeroValue81
  t28 := Tryz.underlying82
  a28 := Tryz.isAgg82
  z28 := Tryz.sizeOf82
  v28 := Tryz.zeroValue82
  t33 := Tryz.underlying107
  a33 := Tryz.isAgg107
  z33 := Tryz.sizeOf107
  v33 := Tryz.zeroValue107
 }
def sorted9i_ren : Go.Shelf.Ren := ⟨fun | 6 => 32 | 8 => 68 | 11 => 89 | 9 => 40 | n => n, fun | 0 => 0 | 24 => 36 | 26 => 3 | 28 => 66 | 33 => 71 | 4 => 4 | n => n, fun | n => n⟩
theorem sorted9i : Go.Proofs.SlLaysZI.n6 Tryz.prog sorted9i_ren := {
  mixed := by kernel_rfl
  f6 := ⟨Tryz.f32.name, by decide, Tryz.func32.trans (congrArg some (by kernel_rfl))⟩
  f8 := ⟨Tryz.f68.name, by decide, Tryz.func68.trans (congrArg some (by kernel_rfl))⟩
  f11 := ⟨Tryz.f89.name, by decide, Tryz.func89.trans (congrArg some (by kernel_rfl))⟩
  t0 := Tryz.underlying0
  a0 := Tryz.isAgg0
  z0 := Tryz.sizeOf0
  v0 := Tryz.zeroValue0
  t24 := Tryz.underlying36
  a24 := Tryz.isAgg36
  z24 := Tryz.sizeOf36
  v24 := Tryz.zeroValue36
  t26 := Tryz.underlying3
  a26 := Tryz.isAgg3
  z26 := Tryz.sizeOf3
  v26 := Tryz.zeroValue3
  t28 := Tryz.underlying66
  a28 := Tryz.isAgg66
  z28 := Tryz.sizeOf66
  v28 := Tryz.zeroValue66
  i26 := by kernel_rfl }
def sorted9s_ren : Go.Shelf.Ren := ⟨fun | 6 => 42 | 8 => 63 | 11 => 86 | 9 => 64 | n => n, fun | 0 => 0 | 24 => 79 | 26 => 9 | 28 => 82 | 33 => 107 | 4 => 4 | n => n, fun | n => n⟩
theorem sorted9s : Go.Proofs.SlLaysZ.n6 Tryz.prog sorted9s_ren := {
  mixed := by kernel_rfl
  f6 := ⟨Tryz.f42.name, by decide, Tryz.func42.trans (congrArg some (by kernel_rfl))⟩
  f8 := ⟨Tryz.f63.name, by decide, Tryz.func63.trans (congrArg some (by kernel_rfl))⟩
  f11 := ⟨Tryz.f86.name, by decide, Tryz.func86.trans (congrArg some (by kernel_rfl))⟩
  t0 := Tryz.underlying0
  a0 := Tryz.isAgg0
  z0 := Tryz.sizeOf0
  v0 := Tryz.zeroValue0
  t24 := Tryz.underlying79
  a24 := Tryz.isAgg79
  z24 := Tryz.sizeOf79
  v24 := Tryz.zeroValue79
  t26 := Tryz.underlying9
  a26 := Tryz.isAgg9
  z26 := Tryz.sizeOf9
  v26 := Tryz.zeroValue9
  t28 := Tryz.underlying82
  a28 := Tryz.isAgg82
  z28 := Tryz.sizeOf82
  v28 := Tryz.zeroValue82
  i26 := by kernel_rfl }
def collect9s_ren : Go.Shelf.Ren := ⟨fun | 8 => 63 | 11 => 86 | n => n, fun | 0 => 0 | 24 => 79 | 26 => 9 | 28 => 82 | 33 => 107 | 4 => 4 | n => n, fun | n => n⟩
theorem collect9s : Go.Proofs.SlLaysZ.n8 Tryz.prog collect9s_ren := {
  mixed := by kernel_rfl
  f8 := ⟨Tryz.f63.name, by decide, Tryz.func63.trans (congrArg some (by kernel_rfl))⟩
  f11 := ⟨Tryz.f86.name, by decide, Tryz.func86.trans (congrArg some (by kernel_rfl))⟩
  t0 := Tryz.underlying0
  a0 := Tryz.isAgg0
  z0 := Tryz.sizeOf0
  v0 := Tryz.zeroValue0
  t24 := Tryz.underlying79
  a24 := Tryz.isAgg79
  z24 := Tryz.sizeOf79
  v24 := Tryz.zeroValue79
  t26 := Tryz.underlying9
  a26 := Tryz.isAgg9
  z26 := Tryz.sizeOf9
  v26 := Tryz.zeroValue9
  t28 := Tryz.underlying82
  a28 := Tryz.isAgg82
  z28 := Tryz.sizeOf82
  v28 := Tryz.zeroValue82
  i26 := by kernel_rfl }
def contf9_ren : Go.Shelf.Ren := ⟨fun | 6 => 124 | 8 => 106 | n => n, fun | 0 => 0 | 3 => 3 | 4 => 4 | 22 => 36 | 25 => 71 | 23 => 3 | n => n, fun | n => n⟩
theorem contf9 : Go.Proofs.SlLaysH.n8 Tryz.prog contf9_ren := {
  mixed := by kernel_rfl
  f6 := ⟨Tryz.f124.name, by decide, Tryz.func124.trans (congrArg some (by kernel_rfl))⟩
  f8 := ⟨Tryz.f106.name, by decide, Tryz.func106.trans (congrArg some (by kernel_rfl))⟩
  t0 := Tryz.underlying0
  a0 := Tryz.isAgg0
  z0 := Tryz.sizeOf0
  v0 := Tryz.zeroValue0
  t3 := Tryz.underlying3
  a3 := Tryz.isAgg3
  z3 := Tryz.sizeOf3
  v3 := Tryz.zeroValue3
  t4 := Tryz.underlying4
  a4 := Tryz.isAgg4
  z4 := Tryz.sizeOf4
  v4 := Tryz.zeroValue4
  t22 := Tryz.underlying36
  a22 := Tryz.isAgg36
  z22 := Tryz.sizeOf36
  v22 := Tryz.zeroValue36
  t25 := Tryz.underlying71
  a25 := Tryz.isAgg71
  z25 := Tryz.sizeOf71
  v25 := Tryz.zeroValue71
  a23 := Tryz.isAgg3
  z23 := Tryz.sizeOf3 }
def insert9_ren : Go.Shelf.Ren := ⟨fun | 21 => 80 | 27 => 104 | 28 => 105 | 35 => 123 | 39 => 130 | n => n, fun | 0 => 0 | 3 => 3 | 4 => 4 | 22 => 36 | n => n, fun | n => n⟩
theorem insert9 : Go.Proofs.Lays2.n21 Tryz.prog insert9_ren := {
  mixed := by kernel_rfl
  f21 := Tryz.func80.trans (congrArg some (by kernel_rfl))
  f27 := Tryz.func104.trans (congrArg some (by kernel_rfl))
  f28 := Tryz.func105.trans (congrArg some (by kernel_rfl))
  f35 := Tryz.func123.trans (congrArg some (by kernel_rfl))
  f39 := Tryz.func130.trans (congrArg some (by kernel_rfl))
  t0 := Tryz.underlying0
  a0 := Tryz.isAgg0
  z0 := Tryz.sizeOf0
  v0 := Tryz.zeroValue0
  t3 := Tryz.underlying3
  a3 := Tryz.isAgg3
  z3 := Tryz.sizeOf3
  v3 := Tryz.zeroValue3
  t4 := Tryz.underlying4
  a4 := Tryz.isAgg4
  z4 := Tryz.sizeOf4
  v4 := Tryz.zeroValue4
  t22 := Tryz.underlying36
  a22 := Tryz.isAgg36
  z22 := Tryz.sizeOf36
  v22 := Tryz.zeroValue36
  i3 := by kernel_rfl }
def grow9_ren : Go.Shelf.Ren := ⟨fun | 4 => 74 | n => n, fun | 0 => 0 | 3 => 3 | 4 => 4 | 9 => 9 | 20 => 20 | 22 => 36 | 25 => 3 | n => n, fun | n => n⟩
theorem grow9 : Go.Proofs.Lays8.n4 Tryz.prog grow9_ren := {
  mixed := by kernel_rfl
  f4 := ⟨Tryz.f74.name, by decide, Tryz.func74.trans (congrArg some (by kernel_rfl))⟩
  t0 := Tryz.underlying0
  a0 := Tryz.isAgg0
  z0 := Tryz.sizeOf0
  v0 := Tryz.zeroValue0
  t3 := Tryz.underlying3
  a3 := Tryz.isAgg3
  z3 := Tryz.sizeOf3
  v3 := Tryz.zeroValue3
  t4 := Tryz.underlying4
  a4 := Tryz.isAgg4
  z4 := Tryz.sizeOf4
  v4 := Tryz.zeroValue4
  t9 := Tryz.underlying9
  a9 := Tryz.isAgg9
  z9 := Tryz.sizeOf9
  v9 := Tryz.zeroValue9
  t20 := Tryz.underlying20
  a20 := Tryz.isAgg20
  z20 := Tryz.sizeOf20
  v20 := Tryz.zeroValue20
  t22 := Tryz.underlying36
  a22 := Tryz.isAgg36
  z22 := Tryz.sizeOf36
  v22 := Tryz.zeroValue36
 }
/-- slices.Sort's two contracts, at the fence that asks nothing -/
theorem sorts9i (k : Nat) : AnyZI.SortsIn Tryz.prog sorted9i_ren Fence.wide k :=
  ⟨fun blk off cap ss W hH hblk hsz => callsIn_wide.2 (l9_slices_Sort_int blk off cap ss W hH hblk hsz),
   fun p cap W => callsIn_wide.2 (l9_slices_Sort_int_none p cap W)⟩
theorem sorts9s (k : Nat) : AnyZ.SortsIn Tryz.prog sorted9s_ren Fence.wide k :=
  ⟨fun blk off cap ss W hH hblk hsz => callsIn_wide.2 (l9_slices_Sort_string blk off cap ss W hH hblk hsz),
   fun p cap W => callsIn_wide.2 (l9_slices_Sort_string_none p cap W)⟩
/-- how a number reads; how a pointer reads: as its block's number -/
def RI9 (v : Value) : Option (DataW Unit × List MemPlace) := match v with
  | .int .i64 n => some (.lit (.int .i64 n), [])
  | _ => none
def RP9 (v : Value) : Option (DataW Unit × List MemPlace) := match v with
  | .pointer (some ⟨b, 0, none⟩) => some (.lit (.int .i64 (b : Int)), [])
  | _ => none
theorem RI9_inv {v : Value} {y : DataW Unit × List MemPlace} (h : RI9 v = some y) : ∃ n : Int, v = .int .i64 n ∧ y = (.lit (.int .i64 n), []) := by
  unfold RI9 at h; split at h
  · rename_i b; cases h; exact ⟨b, rfl, rfl⟩
  · cases h
theorem RP9_inv {v : Value} {y : DataW Unit × List MemPlace} (h : RP9 v = some y) : ∃ b : Nat, v = ptr9 b ∧ y = (.lit (.int .i64 (b : Int)), []) := by
  unfold RP9 at h; split at h
  · rename_i b; cases h; exact ⟨b, rfl, rfl⟩
  · cases h
theorem RI9_one (v v' : Value) (y y' : DataW Unit × List MemPlace) (h : RI9 v = some y) (h' : RI9 v' = some y') (e : y.1 = y'.1) : v = v' := by
  obtain ⟨n, rfl, rfl⟩ := RI9_inv h
  obtain ⟨n', rfl, rfl⟩ := RI9_inv h'
  simp at e; rw [e]
theorem RP9_one (v v' : Value) (y y' : DataW Unit × List MemPlace) (h : RP9 v = some y) (h' : RP9 v' = some y') (e : y.1 = y'.1) : v = v' := by
  obtain ⟨n, rfl, rfl⟩ := RP9_inv h
  obtain ⟨n', rfl, rfl⟩ := RP9_inv h'
  have e2 : n = n' := by injection e with e3; injection e3 with _ e4; omega
  rw [e2]
theorem key9i (x : Int) (h0 : 0 ≤ x) (h1 : x ≤ 9223372036854775807) : keyOf Tryz.prog 3 (.int .i64 x) = some (.int .i64 x) := by
  have hw : (Lit.int .i64 x).wf = true := by
    have e1 : IntKind.i64.min = -9223372036854775808 := by decide
    have e2 : IntKind.i64.max = 9223372036854775807 := by decide
    simp only [Lit.wf, e1, e2, Bool.and_eq_true, decide_eq_true_eq]; omega
  simp [keyOf, Tryz.underlying3, mapKey, hw]
theorem key9s (s : ByteArray) (h : s.size ≤ 300) : keyOf Tryz.prog 9 (.string s) = some (.string s.data.toList) := by
  have hm : s.size ≤ maxLen := by unfold maxLen; omega
  have hm2 : s.data.toList.length ≤ maxLen := by rw [← Lib.size_eq]; exact hm
  simp [keyOf, Tryz.underlying9, mapKey]
  exact hm
section
variable {w w' : World} {m : Nat} {L : List (Value × Value)}
theorem own_mono9 {k : TypeId} {R : Value → Option (DataW Unit × List MemPlace)} {b nn : Nat} {D : DataW Unit} (h : w.ownsMap Tryz.prog k R b nn D) (hb : w'.heap[b]? = w.heap[b]?) : w'.ownsMap Tryz.prog k R b nn D := by
  obtain ⟨es, clock, h1, h2⟩ := h
  exact ⟨es, clock, hb.trans h1, h2⟩
/-- a map of numbers, as the library reads it -/
theorem MapAt.ownsI {L : List (Int × Nat)} (h : MapAt (.int .i64) w m (L.map hskv)) (hl : L.length ≤ 1000) (hk : ∀ p ∈ L, 0 ≤ p.1 ∧ p.1 ≤ 9223372036854775807) :
    ∃ D : DataW Unit, w.ownsMap Tryz.prog 3 RI9 m L.length D ∧ (intKeys D).Perm (L.map (·.1)) ∧ Maps.size D = L.length := by
  obtain ⟨D, h1, h2, h3⟩ := h.owns (P := Tryz.prog) (kt := 3) (R := RI9) (by simp [maxLen]; omega) (fun x hx => by obtain ⟨p, hp, rfl⟩ := List.mem_map.1 hx; exact ⟨_, key9i p.1 (hk p hp).1 (hk p hp).2⟩) (fun x hx => by obtain ⟨p, hp, rfl⟩ := List.mem_map.1 hx; exact ⟨_, rfl⟩)
  rw [List.length_map] at h1 h3
  refine ⟨D, h1, ?_, h3⟩
  rw [h2]
  show (List.map (fun p => _root_.Go.intOf p.1) (List.foldr DataW.insert [] _)).Perm _
  refine ((Go.WideShapes.sorted_perm _).map _).trans ?_
  rw [List.map_map, List.map_map]
  refine List.Perm.of_eq (List.map_congr_left (fun p hp => ?_))
  simp only [Function.comp]
  rw [rg_of (rd_mk (show keyOf Tryz.prog 3 (hskv p).1 = _ from key9i p.1 (hk p hp).1 (hk p hp).2) (show RI9 (hskv p).2 = _ from rfl))]; rfl
/-- a map of names, as the library reads it -/
theorem MapAt.ownsS {L : List (ByteArray × Nat)} (h : MapAt .string w m (L.map nskv)) (hl : L.length ≤ 1000) (hk : ∀ p ∈ L, p.1.size ≤ 300) :
    ∃ D : DataW Unit, w.ownsMap Tryz.prog 9 RP9 m L.length D ∧ (strKeys D).Perm (L.map (fun p => p.1.data.toList)) ∧ Maps.size D = L.length := by
  obtain ⟨D, h1, h2, h3⟩ := h.owns (P := Tryz.prog) (kt := 9) (R := RP9) (by simp [maxLen]; omega) (fun x hx => by obtain ⟨p, hp, rfl⟩ := List.mem_map.1 hx; exact ⟨_, key9s p.1 (hk p hp)⟩) (fun x hx => by obtain ⟨p, hp, rfl⟩ := List.mem_map.1 hx; exact ⟨_, rfl⟩)
  rw [List.length_map] at h1 h3
  refine ⟨D, h1, ?_, h3⟩
  rw [h2]
  show (List.map (fun p => strOf p.1) (List.foldr DataW.insert [] _)).Perm _
  refine ((Go.WideShapes.sorted_perm _).map _).trans ?_
  rw [List.map_map, List.map_map]
  refine List.Perm.of_eq (List.map_congr_left (fun p hp => ?_))
  simp only [Function.comp]
  rw [rg_of (rd_mk (show keyOf Tryz.prog 9 (nskv p).1 = _ from key9s p.1 (hk p hp)) (show RP9 (nskv p).2 = _ from rfl))]; rfl
end
end Go.Proofs.YtainnhcmhgloaaaGreatDoor
