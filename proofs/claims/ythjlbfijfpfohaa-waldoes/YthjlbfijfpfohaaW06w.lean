/-
  The law package's Cut: a script's calls, cut.
-/
import Derived.Test.YthjlbfijfpfohaaA06b
import Derived.StillTailTactics
namespace Go.Proofs.Ythjlbfijfpfohaa
open Go.RowKit Go.ChangeMaps
theorem ArgOps6.at {w0 w : World} {o : Nat → Nat} {a : Option Addr} {len : Nat} {zs : List OpC} (h : ArgOps6 w0 a len zs) (Z : Since w0 o w) (t : Nat) (ht : t < len) :
    ∃ (x : OpC) (b off : Nat), zs[t]? = some x ∧ a = some ⟨b, off, none⟩ ∧ w.cell? ⟨b, off + t * 3, none⟩ = some (.int .i64 x.k) ∧ w.cell? ⟨b, off + t * 3 + 1, none⟩ = some (.string x.s) ∧ w.cell? ⟨b, off + t * 3 + 2, none⟩ = some (.slice x.fa x.fl x.fc) ∧
      x.s.size ≤ maxLen ∧ x.fl ≤ x.fc ∧ x.fc ≤ maxLen ∧ ∀ i, i ≠ 0 → FInts w o i x.fa x.fl x.fs := by
  obtain ⟨hl, hz⟩ := h
  have hx : zs[t]? = some zs[t] := List.getElem?_eq_getElem (by omega)
  obtain ⟨_, s3, s4, s5, s6, b, off, e, c0, c1, c2⟩ := hz t _ hx
  exact ⟨_, b, off, hx, e, Z.cell c0, Z.cell c1, Z.cell c2, s3, s4, s5, fun i hi => fints_of_arg s6 Z hi⟩
/-- a call, cut -/
def cutC (x : OpC) : OpC := ⟨x.k, x.s.extract 0 (min x.s.size 700), x.fa, min x.fl 60, x.fc, x.fs.take 60⟩
def opCells : List OpC → List Value
  | [] => []
  | x :: l => .int .i64 x.k :: .string x.s :: .slice x.fa x.fl x.fc :: opCells l
theorem opCells_length : ∀ l : List OpC, (opCells l).length = l.length * 3
  | [] => rfl
  | x :: l => by simp only [opCells, List.length_cons, opCells_length l]; omega
theorem opCells_append : ∀ A B : List OpC, opCells (A ++ B) = opCells A ++ opCells B
  | [], B => rfl
  | x :: A, B => by simp only [List.cons_append, opCells, opCells_append A B]
theorem opCells_get : ∀ (l : List OpC) (j : Nat) (x : OpC), l[j]? = some x → (opCells l)[j * 3]? = some (.int .i64 x.k) ∧ (opCells l)[j * 3 + 1]? = some (.string x.s) ∧ (opCells l)[j * 3 + 2]? = some (.slice x.fa x.fl x.fc)
  | [], j, x, h => by simp at h
  | y :: l, 0, x, h => by simp at h; subst h; exact ⟨rfl, rfl, rfl⟩
  | y :: l, j + 1, x, h => by
    obtain ⟨h1, h2, h3⟩ := opCells_get l j x (by simpa using h)
    rw [show (j + 1) * 3 = j * 3 + 1 + 1 + 1 by omega, show j * 3 + 1 + 1 + 1 + 1 = (j * 3 + 1) + 1 + 1 + 1 by omega, show j * 3 + 1 + 1 + 1 + 2 = (j * 3 + 2) + 1 + 1 + 1 by omega]
    simp only [opCells, List.getElem?_cons_succ]
    exact ⟨h1, h2, h3⟩
abbrev opT : TypeId := 39
theorem info_op6 : (Try.prog.info? opT).map (fun i => (i.zero, i.size, i.bytes)) = some (some (.agg #[.int .i64 0, .string ⟨#[]⟩, .slice none 0 0]), 3, 48) := by kernel_rfl
abbrev RowO (w : World) (o : Nat → Nat) (j : Nat) (v : Value) (l : List OpC) : Prop := Row w o j opT 3 v l.length (opCells l)
theorem ops_append {w : World} {o : Nat → Nat} {j : Nat} {u : Value} {l : List OpC} (h : RowO w o j u l) (k : Int) (s : ByteArray) (fa : Option Addr) (fl fc : Nat) (fs : List Int) (hl : l.length ≤ 100000) :
    ∃ v' w' o', (Builtin.append_ #[22, 22] 22 #[u, .slice (some ⟨w.heap.size, 0, none⟩) 1 1]).run Try.prog (w.alloc (.cells #[.int .i64 k, .string s, .slice fa fl fc] opT)) = .ok v' w' ∧ RowO w' o' j v' (l ++ [⟨k, s, fa, fl, fc, fs⟩]) ∧ Stp o j w o' w' := by
  obtain ⟨i0, hi, hz0, hz1, hz2⟩ := info_parts info_op6
  have hal := Row.reads h ((Below.refl _ w).alloc (Nat.le_refl _) (.cells #[.int .i64 k, .string s, .slice fa fl fc] opT))
  obtain ⟨v', w', hap, hR, hS, _, _⟩ := Row.append (ty := 22) hal Try.underlying22 hi hz0 hz1 hz2 rfl (by decide) ⟨w.heap.size, 0, none⟩ 1 1 [.int .i64 k, .string s, .slice fa fl fc] rfl (by
    intro i u hu
    rw [add_zero', World.cell?_alloc_at _ _ _ _ rfl]
    match i with
    | 0 => simpa using hu
    | 1 => simpa using hu
    | 2 => simpa using hu
    | i + 3 => simp at hu) (by
    intro u hu
    simp at hu
    rcases hu with rfl | rfl | rfl <;> rfl) (by simp [maxLen]; omega) (by omega)
  refine ⟨v', w', _, hap, ?_, (Stp.alloc o j w _).trans hS⟩
  show Row w' _ j opT 3 v' (l ++ [_]).length (opCells (l ++ [⟨k, s, fa, fl, fc, fs⟩]))
  rw [List.length_append, opCells_append]; exact hR
set_option maxRecDepth 100000 in
set_option maxHeartbeats 4000000 in
theorem lcut (w : World) (a : Option Addr) (len cap : Nat) (zs : List OpC) (h : ArgOps6 w a len zs) (hlen : len ≤ maxLen) :
    Calls Try.prog 5 #[.slice a len cap] w fun e w' => ∃ v, e = .returned v ∧ ∃ o', RowO w' o' 5 v ((zs.take 40).map cutC) ∧ Since w o' w' := by
  have hlen2 : (len : Int) ≤ 9223372036854775807 := by simp [maxLen] at hlen; omega
  have hzl := h.1
  have HA := Lib.hid h
  have s0 := stp_new (fun _ => 0) 5 w (.cells #[] opT)
  have Z0 := Lib.hid ((Since.start w).step s0 (by decide))
  have R0 := Lib.hid (show RowO (w.alloc (.cells #[] opT)) (gives (fun _ => 0) w.heap.size 5) 5 (.slice (some ⟨w.heap.size, 0, none⟩) 0 0) [] from Row.made w (fun _ => 0) 5 opT 3)
  clear h hlen s0
  go_enter Try.func5, Try.ntmps5
  go_wp2_with fail
  go_loopw [3, 4] (fun v i wr => ∃ (t : Nat) (o : Nat → Nat), t ≤ len ∧ t ≤ 40 ∧ i = .int .i64 (t : Int) ∧ RowO wr o 5 v ((zs.take t).map cutC) ∧ Since w o wr) (fun _ i _ => len - (intOf i).toNat)
  case atStart => exact ⟨0, _, by omega, by omega, rfl, R0.out, Z0.out⟩
  case round =>
    obtain ⟨t, o, ht, ht2, rfl, hR, hZ⟩ := hrel
    have HR := Lib.hid hR; have HZ := Lib.hid hZ
    clear R0 Z0 hR hZ
    by_cases hc : t < len ∧ t < 40
    · obtain ⟨hc1, hc2⟩ := hc
      have d1 : (t : Int) < (len : Int) := by omega
      have d2 : (t : Int) < 40 := by omega
      have d0 : (0 : Int) ≤ (t : Int) := by omega
      obtain ⟨x, b, off, hx, rfl, c0, c1, c2, x3, x4, x5, _⟩ := HA.out.at HZ.out t hc1
      have HT := Lib.hid (show (zs.take (t + 1)).map cutC = (zs.take t).map cutC ++ [cutC x] by rw [List.take_add_one, hx]; simp)
      obtain ⟨xk, xs, fa, fl, fc, fs⟩ := x
      dsimp only at c0 c1 c2 x3 x4 x5
      obtain ⟨k, k1⟩ : ∃ k : Nat, min xs.size 700 = k := ⟨_, rfl⟩
      have k2 : min (xs.size : Int) 700 = (k : Int) := by omega
      have k3 : (0 : Int) ≤ (k : Int) := by omega
      have k4 : (k : Int) ≤ (xs.size : Int) := by omega
      have k5 : ((k : Int)).toNat = k := by omega
      have k6 : (xs.size : Int) ≤ 9223372036854775807 := by simp [maxLen] at x3; omega
      obtain ⟨n, n1⟩ : ∃ n : Nat, min fl 60 = n := ⟨_, rfl⟩
      have n2 : min (fl : Int) 60 = (n : Int) := by omega
      have n3 : (0 : Int) ≤ (n : Int) := by omega
      have n4 : (n : Int) ≤ (fc : Int) := by omega
      have n5 : ((n : Int)).toNat = n := by omega
      have n6 : (fc : Int) ≤ 9223372036854775807 := by simp [maxLen] at x5; omega
      obtain ⟨s, hs⟩ : ∃ s, xs.extract 0 k = s := ⟨_, rfl⟩
      have HT2 := Lib.hid (show (zs.take (t + 1)).map cutC = (zs.take t).map cutC ++ [⟨xk, s, fa, n, fc, fs.take 60⟩] by rw [HT.out, ← hs, ← k1, ← n1]; rfl)
      have hlt : ((zs.take t).map cutC).length ≤ 100000 := by rw [List.length_map, List.length_take]; omega
      clear hx HT x3 x4 x5 k1 n1
      -- the box of the call
      have sB := stp_new2 o 6 6 wr (.cells #[.int .i64 xk, .string s, .slice fa n fc] opT)
      have R1 := Lib.hid (Row.other HR.out sB (by decide)); have Z1 := Lib.hid (HZ.out.step sB (by decide))
      go_upto_region 8 with fail
      have A1 := At.new wr #[.int .i64 xk, .string s, .slice fa n fc] opT
      obtain ⟨v5, w5, o5, hap, R5, S5⟩ := ops_append R1.out xk s fa n fc (fs.take 60) hlt
      rw [← HT2.out] at R5
      have HAP := Lib.hid hap; have HR5 := Lib.hid R5; have HZ5 := Lib.hid (Z1.out.step S5 (by decide))
      clear hap R5 S5 R1 Z1 HR HZ c0 c1 c2 sB
      generalize wr.alloc (.cells #[.int .i64 xk, .string s, .slice fa n fc] opT) = W4 at *
      generalize wr.heap.size = B at *
      have k0 : W4.cell? ⟨B, 0, none⟩ = some (.int .i64 xk) := A1.cell 0
      have k1 : W4.cell? ⟨B, 1, none⟩ = some (.string s) := A1.cell 1
      have k2 : W4.cell? ⟨B, 2, none⟩ = some (.slice fa n fc) := A1.cell 2
      clear A1
      go_wp2_with (at_builtin; refine wpList_append_run rfl (.tmp 37) (.tmp 39) _ _ rfl _ _ rfl rfl _ _ HAP.out ?_)
      exact ⟨⟨t + 1, o5, by omega, by omega, by go_num, HR5.out, HZ5.out⟩, by simp [intOf]; omega⟩
    · have hend : (zs.take t).map cutC = (zs.take 40).map cutC := by
        by_cases h40 : t = 40
        · rw [h40]
        · rw [List.take_of_length_le (show zs.length ≤ t by omega), List.take_of_length_le (show zs.length ≤ 40 by omega)]
      rw [hend] at HR
      clear hend
      by_cases hc1 : t < len
      · have d1 : (t : Int) < (len : Int) := by omega
        have d2 : decide ((t : Int) < 40) = false := by rw [decide_eq_false_iff_not]; omega
        clear hc
        go_wp2_with fail
        go_ret
        refine ⟨_, rfl, o, ?_, HZ.out⟩
        first | exact HR.out | (rw [← List.map_take]; exact HR.out)
      · have d1 : ¬ (t : Int) < (len : Int) := by omega
        clear hc
        go_wp2_with fail
        go_ret
        refine ⟨_, rfl, o, ?_, HZ.out⟩
        first | exact HR.out | (rw [← List.map_take]; exact HR.out)
end Go.Proofs.Ythjlbfijfpfohaa
