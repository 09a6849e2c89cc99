/-
  The document's answer for layer 5 (budwoodref05): the contract of Encode.
-/
import Derived.Test.YthnpkhejfcclcaaDoorC05e
namespace Go.Proofs.YthnpkhejfcclcaaDoor
open Go.RowKit

/-- a record in a box of its own -/
def Box8 (ty : TypeId) (w : World) (B : Nat) (k t : Int) (ke va : ByteArray) (pa un nu : Int) (v : Value) : Prop :=
  w.heap[B]? = some (.cells #[.int .i64 k, .int .i64 t, .string ke, .string va, .int .i64 pa, .int .i64 un, .int .i64 nu, v] ty (0, 0))
section
variable {ty : TypeId} {w w' : World} {B : Nat} {k t : Int} {ke va : ByteArray} {pa un nu : Int} {v : Value}
theorem Box8.lt (h : Box8 ty w B k t ke va pa un nu v) : B < w.heap.size := (Array.getElem?_eq_some_iff.1 h).1
theorem Box8.below (h : Box8 ty w B k t ke va pa un nu v) {n : Nat} (b : Below n w w') (hn : B < n) : Box8 ty w' B k t ke va pa un nu v := (b.block B hn).trans h
theorem Box8.c0 (h : Box8 ty w B k t ke va pa un nu v) : w.cell? ⟨B, 0, none⟩ = some (.int .i64 k) := by have h' : w.heap[B]? = _ := h; simp [World.cell?, h']
theorem Box8.c1 (h : Box8 ty w B k t ke va pa un nu v) : w.cell? ⟨B, 1, none⟩ = some (.int .i64 t) := by have h' : w.heap[B]? = _ := h; simp [World.cell?, h']
theorem Box8.c2 (h : Box8 ty w B k t ke va pa un nu v) : w.cell? ⟨B, 2, none⟩ = some (.string ke) := by have h' : w.heap[B]? = _ := h; simp [World.cell?, h']
theorem Box8.c3 (h : Box8 ty w B k t ke va pa un nu v) : w.cell? ⟨B, 3, none⟩ = some (.string va) := by have h' : w.heap[B]? = _ := h; simp [World.cell?, h']
theorem Box8.c4 (h : Box8 ty w B k t ke va pa un nu v) : w.cell? ⟨B, 4, none⟩ = some (.int .i64 pa) := by have h' : w.heap[B]? = _ := h; simp [World.cell?, h']
theorem Box8.c5 (h : Box8 ty w B k t ke va pa un nu v) : w.cell? ⟨B, 5, none⟩ = some (.int .i64 un) := by have h' : w.heap[B]? = _ := h; simp [World.cell?, h']
theorem Box8.c6 (h : Box8 ty w B k t ke va pa un nu v) : w.cell? ⟨B, 6, none⟩ = some (.int .i64 nu) := by have h' : w.heap[B]? = _ := h; simp [World.cell?, h']
theorem Box8.c7 (h : Box8 ty w B k t ke va pa un nu v) : w.cell? ⟨B, 7, none⟩ = some v := by have h' : w.heap[B]? = _ := h; simp [World.cell?, h']
theorem Box8.fz (h : Box8 ty w B k t ke va pa un nu v) (i : Nat) : w.frozen? ⟨B, i, none⟩ = false := by have h' : w.heap[B]? = _ := h; simp [World.frozen?, h']
theorem Box8.drew (h : Box8 ty w B k t ke va pa un nu v) : Box8 ty w.drew B k t ke va pa un nu v := h
end
theorem box8_new (ty : TypeId) (w : World) (k t : Int) (ke va : ByteArray) (pa un nu : Int) (v : Value) : Box8 ty (w.alloc (.cells #[.int .i64 k, .int .i64 t, .string ke, .string va, .int .i64 pa, .int .i64 un, .int .i64 nu, v] ty)) w.heap.size k t ke va pa un nu v := heap_alloc_new w _
/-- string([]byte{k}) -/
theorem str_one (W : World) (k : Nat) (hk : k < 256) : (convert 43 9 (.slice (some ⟨W.heap.size, 0, none⟩) 1 1)).run Tryd.prog (W.alloc (.cells #[.int .u8 (k : Int)] 5)) = .ok (.string (baL [k.toUInt8])) (W.alloc (.cells #[.int .u8 (k : Int)] 5)) :=
  run_string_one (P := Tryd.prog) 43 9 5 Tryd.underlying43 Tryd.underlying5 Tryd.underlying9 _ _ 1 k hk (by rw [World.cell?_alloc_at _ _ _ _ rfl]; rfl)
/-- what Encode answers -/
noncomputable def encOut (r : RecP) : ByteArray := if rightB r = true then encB r else ⟨#[]⟩

set_option maxRecDepth 100000 in
set_option maxHeartbeats 1000000 in
theorem renc_no (w : World) (r : RecP) (a : Option Addr) (C : Nat) (hP : PairsAt w a r.pairs) (hS : SmallP r.pairs) (hn : r.pairs.length ≤ 1000000) (h1 : r.key.size ≤ 1000000) (h2 : r.value.size ≤ 1000000) (hr : rightB r = false) :
    Calls Tryd.prog 15 #[recV r a C] w fun e w' => e = .returned (.string ⟨#[]⟩) ∧ Below w.heap.size w w' := by
  have hB : Below w.heap.size w (w.alloc (.cells #[.int .i64 r.kind, .int .i64 r.txn, .string r.key, .string r.value, .int .i64 r.pass, .int .i64 r.unit, .int .i64 r.num, .slice a r.pairs.length C] 28)) := (Below.refl w.heap.size w).alloc (Nat.le_refl _) _
  have CR := rright_any _ r a C (hP.below hB) hS hn h1 h2
  rw [hr] at CR
  have HC := Lib.hid CR; have HB := Lib.hid hB
  clear CR hB hr hP hS
  obtain ⟨k, t, ke, va, pa, un, nu, pr⟩ := r
  dsimp only [recV] at *
  go_enter Tryd.func15, Tryd.ntmps15
  go_wp2_with fail
  refine HC.out.mono ?_; rintro e w2 ⟨rfl, b2⟩
  go_wp2
  go_ret
  exact ⟨rfl, HB.out.trans (b2.mono (by simp))⟩
set_option maxRecDepth 100000 in
set_option maxHeartbeats 2000000 in
theorem renc_low (w : World) (k t : Int) (ke va : ByteArray) (a : Option Addr) (C : Nat) (hk : k = 1 ∨ k = 4 ∨ k = 5 ∨ k = 2 ∨ k = 3) (hr : RightP ⟨k, t, ke, va, 0, 0, 0, []⟩) :
    Calls Tryd.prog 15 #[.agg #[.int .i64 k, .int .i64 t, .string ke, .string va, .int .i64 0, .int .i64 0, .int .i64 0, .slice a 0 C]] w fun e w' => e = .returned (.string (encB ⟨k, t, ke, va, 0, 0, 0, []⟩)) ∧ Below w.heap.size w w' := by
  have hB := (Below.refl w.heap.size w).alloc (Nat.le_refl _) (.cells #[.int .i64 k, .int .i64 t, .string ke, .string va, .int .i64 0, .int .i64 0, .int .i64 0, .slice a 0 C] 28)
  have X1 := box8_new 28 w k t ke va 0 0 0 (.slice a 0 C)
  obtain ⟨r1, r2, r3, r4, r5, _⟩ := id hr
  dsimp only at r1 r2 r3 r4 r5
  rw [if_pos (by omega)] at r3
  have hke : ke.size ≤ 16 := by
    split at r4
    · exact (keyB_size r4).2
    · rw [r4]; decide
  have hva : va.size ≤ 32 := by
    split at r5
    · exact valB_size r5
    · rw [r5]; decide
  have CR := rright_any _ ⟨k, t, ke, va, 0, 0, 0, []⟩ a C (pairsAt_nil (w.alloc (.cells #[.int .i64 k, .int .i64 t, .string ke, .string va, .int .i64 0, .int .i64 0, .int .i64 0, .slice a 0 C] 28)) a) (fun p hp => by simp at hp) (by simp) (by dsimp only; omega) (by dsimp only; omega)
  rw [(rightB_iff _).2 hr] at CR
  dsimp only [recV, List.length_nil] at CR
  have HC := Lib.hid CR; have HB := Lib.hid hB; have HX := Lib.hid X1
  have CN := Lib.hid (fun W => rnum6 t W (by omega) (by unfold top at r3; omega))
  have CK := Lib.hid (fun W => rtxt_any ke W (by omega))
  have CV := Lib.hid (fun W => rtxt_any va W (by omega))
  have HE := Lib.hid (show encB ⟨k, t, ke, va, 0, 0, 0, []⟩ = baL ([k.toNat.toUInt8] ++ num6 t ++ ((if k = 2 ∨ k = 3 then txtL ke else []) ++ (if k = 2 then txtL va else []))) by
    rw [encB_baL]; unfold encL; dsimp only; rw [if_pos (by omega), if_neg (show ¬ k = 7 by omega)]; simp)
  have z1 : (baL (num6 t)).size ≤ 6 := by rw [baL_size]; unfold num6; rw [Lib.leBytes_length]; omega
  have z2 : (baL (txtL ke)).size ≤ 17 := by rw [baL_size]; unfold txtL; rw [List.length_cons, ← Lib.size_eq]; omega
  have z3 : (baL (txtL va)).size ≤ 33 := by rw [baL_size]; unfold txtL; rw [List.length_cons, ← Lib.size_eq]; omega
  have STR := Lib.hid (fun W => str_one W k.toNat (by omega))
  rw [Int.toNat_of_nonneg (by omega)] at STR
  have z0 : (baL [k.toNat.toUInt8]).size ≤ 1 := by rw [baL_size]; exact Nat.le_refl _
  have G := Lib.hid (show baL ([k.toNat.toUInt8] ++ num6 t ++ ((if k = 2 ∨ k = 3 then txtL ke else []) ++ (if k = 2 then txtL va else []))) = if k = 2 then baL [k.toNat.toUInt8] ++ baL (num6 t) ++ baL (txtL ke) ++ baL (txtL va) else if k = 3 then baL [k.toNat.toUInt8] ++ baL (num6 t) ++ baL (txtL ke) else baL [k.toNat.toUInt8] ++ baL (num6 t) by
    by_cases e2 : k = 2
    · simp only [e2, if_true, true_or, baL_append, List.append_assoc]
    · by_cases e3 : k = 3
      · simp [e3, baL_append]
      · simp [e2, e3, baL_append])
  rw [HE.out, G.out]
  clear HE G CR hB X1 r1 r2 r3 r4 r5 hr hke hva
  generalize baL (num6 t) = N6 at *
  generalize baL (txtL ke) = TK at *
  generalize baL (txtL va) = TV at *
  generalize baL [k.toNat.toUInt8] = K1 at *
  have BF := Lib.hid (fun w2 : World => (Below.refl w2.heap.size w2).alloc (Nat.le_refl _) (.cells #[.int .u8 k] 5))
  rcases hk with rfl | rfl | rfl | rfl | rfl
  all_goals
    go_enter Tryd.func15, Tryd.ntmps15
    go_wp2_with fail
    refine HC.out.mono ?_; rintro e w2 ⟨rfl, b2⟩
    have X2 := HX.out.below b2 (by simp)
    have hlt2 := X2.lt
    have B2 := HB.out.trans (b2.mono (by simp))
    have st := STR.out w2
    have b3 := BF.out w2
    have X3 := X2.below b3 hlt2
    have c0 := X2.c0; have d0 := X3.c0; have d1 := X3.c1
    have B3 := Lib.hid (B2.trans (b3.mono B2.size)); have HX3 := Lib.hid X3
    clear HC HX HB b2 X2 B2 b3 X3
    go_wp2_with fail
    refine (CN.out _).mono ?_; rintro e w3 ⟨rfl, b4⟩
    have X4 := HX3.out.below b4 HX3.out.lt
    have e0 := X4.c0; have e2 := X4.c2; have e3 := X4.c3
    have hlt4 := X4.lt
    have B4 := Lib.hid (B3.out.trans (b4.mono B3.out.size)); have HX4 := Lib.hid X4
    clear c0 d0 d1 st b4 X4 HX3 B3
  iterate 3
    · go_wp2
      go_ret
      exact ⟨by simp, B4.out⟩
  · go_wp2_with fail
    refine (CK.out _).mono ?_; rintro e w4 ⟨rfl, b5⟩
    have X5 := HX4.out.below b5 HX4.out.lt
    have f0 := X5.c0; have f3 := X5.c3
    have B5 := Lib.hid (B4.out.trans (b5.mono B4.out.size)); have HX5 := Lib.hid X5
    clear e0 e2 e3 b5 X5 HX4 B4
    go_wp2_with fail
    refine (CV.out _).mono ?_; rintro e w5 ⟨rfl, b6⟩
    have X6 := HX5.out.below b6 HX5.out.lt
    have g0 := X6.c0
    have B6 := Lib.hid (B5.out.trans (b6.mono B5.out.size))
    clear f0 f3 b6 X6 HX5 B5
    go_wp2
    go_ret
    exact ⟨by simp, B6.out⟩
  · go_wp2_with fail
    refine (CK.out _).mono ?_; rintro e w4 ⟨rfl, b5⟩
    have X5 := HX4.out.below b5 HX4.out.lt
    have f0 := X5.c0
    have B5 := Lib.hid (B4.out.trans (b5.mono B4.out.size))
    clear e0 e2 e3 b5 X5 HX4 B4
    go_wp2
    go_ret
    exact ⟨by simp, B5.out⟩
end Go.Proofs.YthnpkhejfcclcaaDoor
