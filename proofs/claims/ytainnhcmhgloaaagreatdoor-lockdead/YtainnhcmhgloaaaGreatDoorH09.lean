/-
  What the walks of the statements share: a call of the script, a name's beginning, what somebody waits for.
-/
import Derived.Test.YtainnhcmhgloaaaGreatDoorW09z
namespace Go.Proofs.YtainnhcmhgloaaaGreatDoor
open Go.RowKit Go.Shelf Go.MapKept Go.Maps Go.Sort Go.Lib

section
variable {w w' w0 : World} {o o' : Nat → Nat} {i g B len : Nat} {H W : Hs} {v : Value} {l : List Int} {zs : List OpK9} {a : Option Addr}
theorem ArgOps9.get (h : ArgOps9 w0 a len zs) {k : Nat} (hk : k < len) : ∃ (x : OpK9) (b off : Nat), a = some ⟨b, off, none⟩ ∧ x.s.size ≤ maxLen ∧ (Lit.int .i64 x.n).wf = true ∧ ∀ (o : Nat → Nat) (w : World), Since w0 o w →
    w.cell? ⟨b, off + k * 4, none⟩ = some (.int .i64 x.k) ∧ w.cell? ⟨b, off + k * 4 + 1, none⟩ = some (.int .i64 x.pg) ∧ w.cell? ⟨b, off + k * 4 + 2, none⟩ = some (.string x.s) ∧ w.cell? ⟨b, off + k * 4 + 3, none⟩ = some (.int .i64 x.n) := by
  obtain ⟨h1, h2⟩ := h
  obtain ⟨x, hx⟩ : ∃ x, zs[k]? = some x := ⟨_, List.getElem?_eq_getElem (by omega)⟩
  obtain ⟨_, _, hs, hn, b, off, e, c0, c1, c2, c3⟩ := h2 k x hx
  exact ⟨x, b, off, e, hs, hn, fun o w Z => ⟨Z.cell c0, Z.cell c1, Z.cell c2, Z.cell c3⟩⟩
theorem cut9 (s : ByteArray) (hs : s.size ≤ maxLen) (n : Nat) (hn : n ≤ 300) : ∃ k : Nat, min (s.size : Int) (n : Int) = (k : Int) ∧ k ≤ n ∧ (k : Int) ≤ (s.size : Int) ∧ (0 : Int) ≤ (k : Int) ∧ ((k : Int)).toNat = k ∧ (s.extract 0 k).size = k ∧ (s.size : Int) ≤ 9223372036854775807 := by
  have h9 : (s.size : Int) ≤ 9223372036854775807 := by simp [maxLen] at hs; omega
  refine ⟨min s.size n, by omega, by omega, by omega, by omega, by omega, ?_, h9⟩
  rw [ByteArray.size_extract]; omega
theorem forV_form (W : Hs) (x : Int) : ∃ (n : ByteArray) (m : Int), (forV W x).1 = .agg #[.string n, .int .i64 m] := by
  unfold forV
  cases forP W x <;> exact ⟨_, _, rfl⟩
theorem forV_no (h : (forV W i).2 = false) : ∀ y ∈ W, y.owner ≠ (i : Int) := by
  intro y hy e
  rcases forP_cases W (i : Int) with hno | ⟨z, hz, hzo⟩
  · exact hno y hy e
  · unfold forV at h
    cases hf : forP W (i : Int) with
    | none => have := List.find?_eq_none.1 hf z hz; simp [hzo] at this
    | some u => rw [hf] at h; cases h
theorem forV_is {x : Int} : (forV W x).2 = true ↔ ∃ y ∈ W, y.owner = x := by
  unfold forV
  cases hf : forP W x with
  | none =>
    constructor
    · intro h; cases h
    · rintro ⟨y, hy, e⟩; have := List.find?_eq_none.1 hf y hy; simp [e] at this
  | some u => exact ⟨fun _ => ⟨u, forP_some hf⟩, fun _ => rfl⟩
theorem forV_not {x : Int} : (forV W x).2 = false ↔ ∀ y ∈ W, y.owner ≠ x := by
  rw [← Bool.not_eq_true, forV_is]
  exact ⟨fun h y hy e => h ⟨y, hy, e⟩, fun h ⟨y, hy, e⟩ => h y hy e⟩
theorem forV_some {y : Has9} (ok : Ok9 H W) (hy : y ∈ W) : forV W y.owner = (.agg #[.string y.name, .int .i64 (y.mode : Int)], true) := by
  unfold forV; rw [forP_mem ok hy]
/-- what somebody holds, in a row that no table has -/
def KH (w : World) (o : Nat → Nat) (v : Value) (H : Hs) (x : Int) : Prop := ∃ z, z ≠ 1 ∧ Row w o z 41 2 v (heldN H x).length ((heldN H x).flatMap (heldF H x))
theorem KH.step {x : Int} (h : KH w o v H x) (s : Stp o 1 w o' w') : KH w' o' v H x := by obtain ⟨z, hz, r⟩ := h; exact ⟨z, hz, r.other s hz⟩
theorem KH.reads {x : Int} (h : KH w o v H x) (b : Below w.heap.size w w') : KH w' o v H x := by obtain ⟨z, hz, r⟩ := h; exact ⟨z, hz, r.reads b⟩
theorem KH.sl {x : Int} (h : KH w o v H x) : ∃ a C, v = .slice a (ownL H x).length C := by
  obtain ⟨z, _, r⟩ := h
  rw [← heldN_len]; exact hrow_sl r
theorem held_at {x : Int} {n : ByteArray} : ∀ {l : List ByteArray} {k : Nat}, l[k]? = some n → (l.flatMap (heldF H x))[k * 2]? = some (.string n)
  | [], k, h => by simp at h
  | a :: l, 0, h => by simp at h; subst h; simp [heldF]
  | a :: l, k + 1, h => by
    have ih := held_at (x := x) (l := l) (k := k) (by simpa using h)
    rw [List.flatMap_cons, List.getElem?_append_right (by simp [heldF]; omega)]
    simp only [heldF, List.length_cons, List.length_nil]
    rw [show (k + 1) * 2 - (0 + 1 + 1) = k * 2 by omega]; exact ih
theorem KH.cell {x : Int} {n C : Nat} (h : KH w o (.slice a n C) H x) {k : Nat} (hk : k < (ownL H x).length) : ∃ b nm, a = some ⟨b, 0, none⟩ ∧ w.cell? ⟨b, k * 2, none⟩ = some (.string nm) := by
  obtain ⟨z, _, r⟩ := h
  rw [← heldN_len] at hk
  rcases r.val with ⟨_, h0, _⟩ | ⟨gq, C', e, _, _, hc, _⟩
  · omega
  · cases e
    exact ⟨gq, _, rfl, hc _ _ (held_at (List.getElem?_eq_getElem hk))⟩
theorem mem_holdersI {n : ByteArray} {b : Int} : b ∈ holdersI H n ↔ ∃ h ∈ H, h.name = n ∧ h.owner = b := by
  unfold holdersI
  rw [List.mem_mergeSort, List.mem_map]
  constructor
  · rintro ⟨h, hh, rfl⟩; obtain ⟨h1, h2⟩ := mem_nameL.1 hh; exact ⟨h, h1, h2, rfl⟩
  · rintro ⟨h, h1, h2, rfl⟩; exact ⟨h, mem_nameL.2 ⟨h1, h2⟩, rfl⟩
theorem ownL_zero {x : Int} (h : ∀ y ∈ H, y.owner ≠ x) : (ownL H x).length = 0 := by
  rw [List.length_eq_zero_iff]; exact List.eq_nil_iff_forall_not_mem.2 (fun y hy => h y (mem_ownL.1 hy).1 (mem_ownL.1 hy).2)
theorem ownL_pos {x : Int} (h : ∃ y ∈ H, y.owner = x) : 0 < (ownL H x).length := by
  obtain ⟨y, hy, e⟩ := h
  exact List.length_pos_of_mem (mem_ownL.2 ⟨hy, e⟩)
theorem lk_HeldK (S : Lk w0 g w o H W B) (hB : B ≤ 800) (x : Int) : Calls Tryz.prog 17 #[ptr9 g, .int .i64 x] w fun r w' => ∃ a C, r = .returned (.slice a (ownL H x).length C) ∧ ∃ o', Lk w0 g w' o' H W B ∧ Stp o 1 w o' w' ∧ KH w' o' (.slice a (ownL H x).length C) H x := by
  refine (lk_Held S hB x).mono ?_
  rintro r w' ⟨v, rfl, o', S', st, z, hz, hr⟩
  obtain ⟨a, C, rfl⟩ := KH.sl (v := v) ⟨z, hz, hr⟩
  exact ⟨a, C, rfl, o', S', st, z, hz, hr⟩
theorem dropP_out (x : Int) : ∀ (K : List ByteArray) (H W : Hs), (dropP x K H W).2.2.length + (dropP x K H W).2.1.length ≤ W.length
  | [], _, _ => by unfold dropP; simp
  | n :: K, H, W => by
    have h1 := (comeP_len n (nameL W n).length (woN H x n) W).2
    rw [dropP_cons]
    have h2 := dropP_out x K (comeP n (nameL W n).length (woN H x n) W).1 (comeP n (nameL W n).length (woN H x n) W).2.1
    simp only [List.length_append]
    omega
theorem dropI_len (H W : Hs) (x : Int) : (dropI H W x).length ≤ W.length := by
  have h1 := dropP_out x (namesP H W x) H (woA W x)
  have h2 : (woA W x).length ≤ W.length := List.length_filter_le _ _
  unfold dropI; omega
theorem holdersI_len (H : Hs) (n : ByteArray) : (holdersI H n).length ≤ H.length := by
  unfold holdersI; rw [List.length_mergeSort, List.length_map]; exact List.length_filter_le _ _
theorem forV_none {x : Int} (h : ∀ y ∈ W, y.owner ≠ x) : forV W x = (.agg #[.string ⟨#[]⟩, .int .i64 0], false) := by unfold forV; rw [forP_none h]
theorem behI_none {x : Int} (h : ∀ y ∈ W, y.owner ≠ x) : behI H W x = [] := by unfold behI; rw [behL_none h]; rfl
theorem Lk.other (S : Lk w0 g w o H W B) (s : Stp o i w o' w') (h1 : i ≠ 1) (h0 : i ≠ 0) : Lk w0 g w' o' H W B := ⟨S.T.other s h1.symm, S.Z.step s h0, S.L, S.I, S.F, S.B⟩
theorem lk_Holders2 (S : Lk w0 g w o H W B) (hB : B ≤ 800) (nm : ByteArray) : Calls Tryz.prog 11 #[ptr9 g, .string nm] w fun r w' => ∃ v, r = .returned v ∧ ∃ o', Lk w0 g w' o' H W B ∧ Stp o 1 w o' w' ∧ Row w' o' 2 3 1 v (holdersI H nm).length ((holdersI H nm).map encI9) := by
  refine (c_Holders S.T (by have := S.B; omega) nm).mono ?_
  rintro r w' ⟨v, rfl, hr, b⟩
  exact ⟨v, rfl, gives o w.heap.size 2, S.fresh b 2, stp_new b 2, row_new hr 2⟩
/-- an empty row of one's own -/
theorem row_empty (w : World) (o : Nat → Nat) : Row (w.alloc (.cells #[] 3)) (gives o w.heap.size 3) 3 3 1 (.slice (some ⟨w.heap.size, 0, none⟩) 0 0) 0 [] :=
  ⟨⟨rfl, .inr ⟨_, _, _, rfl, Nat.zero_le _, At.new w #[] 3, Nat.le_refl _, by simp, rfl, rfl⟩⟩, fun k hk => by cases hk; exact gives_new (Nat.le_refl _)⟩
theorem KI.of {z : Nat} (h : Row w o z 3 1 v l.length (l.map encI9)) (hz : z ≠ 1) : KI w o v l := ⟨z, hz, h⟩
theorem enc9_one (l : List Int) : ∀ u ∈ l.map encI9, u.oneCell' = true := by
  intro u hu; obtain ⟨x, _, rfl⟩ := List.mem_map.1 hu; rfl
/-- append(v, u...) of numbers, v of the owner 3 -/
theorem append3 {u : Value} {l2 : List Int} {z : Nat} (h : Row w o 3 3 1 v l.length (l.map encI9)) (hu : Row w o z 3 1 u l2.length (l2.map encI9)) (hl : l.length + l2.length ≤ 1000000) (ty : TypeId) :
    ∃ v' w', (Builtin.append_ #[36, 36] ty #[v, u]).run Tryz.prog w = .ok v' w' ∧ Row w' (gives o w.heap.size 3) 3 3 1 v' (l ++ l2).length ((l ++ l2).map encI9) ∧ Stp o 3 w (gives o w.heap.size 3) w' := by
  obtain ⟨i0, hi, hz0, hz1, hz2⟩ := info_parts info_int
  obtain ⟨v', w', a1, a2, a3⟩ := Row.appendRow9 (ty := ty) h hu Tryz.underlying36 hi hz0 hz1 hz2 rfl (by decide) (enc9_one _) (by simp [maxLen]; omega) (by omega)
  rw [List.length_append, List.map_append]
  exact ⟨v', w', a1, a2, a3⟩
theorem and_255 (x : Int) : ∃ y : Nat, bits .and .i64 x 255 = (y : Int) ∧ y < 256 := ⟨(x % 256).toNat, by rw [i64_and_low9 x 8 (by omega) 255 rfl]; omega, by omega⟩
theorem Lk.bound (S : Lk w0 g w o H W B) {B' : Nat} (h : H.length + W.length ≤ B') : Lk w0 g w o H W B' := ⟨S.T, S.Z, S.L, S.I, S.F, h⟩
end
end Go.Proofs.YtainnhcmhgloaaaGreatDoor
