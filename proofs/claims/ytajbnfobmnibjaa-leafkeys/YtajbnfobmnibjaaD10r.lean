/-
  Package leaf: read, of any bytes; Decode.
-/
import Derived.Test.YtajbnfobmnibjaaD10q
namespace Go.Proofs.Ytajbnfobmnibjaa
open Go.RowKit

theorem get_any10 (s : ByteArray) (a z : Int) (hs : s.size ≤ 1000000) (hz : z ≤ 2) : ∃ (c : Nat) (k : Int), c < 65536 ∧ ∀ w, Calls Try.prog 64 #[.string s, .int .i64 a, .int .i64 z] w fun e w' => e = .returned (.tuple #[.int .u64 (c : Int), .int .i64 k]) ∧ w = w' := by
  by_cases h : errAt s.size a z = 0
  · refine ⟨_, 0, ?_, fun w => get_ok s a z w hs h⟩
    have h1 := leNat_lt ((s.data.toList.drop a.toNat).take z.toNat)
    have h2 : ((s.data.toList.drop a.toNat).take z.toNat).length ≤ 2 := by rw [List.length_take]; omega
    have h3 : 256 ^ ((s.data.toList.drop a.toNat).take z.toNat).length ≤ 256 ^ 2 := Nat.pow_le_pow_right (by decide) h2
    have : (256 : Nat) ^ 2 = 65536 := rfl
    omega
  · exact ⟨0, _, by decide, fun w => get_bad s a z _ w hs rfl (by rw [bne_iff_ne]; exact h)⟩
set_option maxRecDepth 100000 in
set_option maxHeartbeats 8000000 in
theorem read10_b (s : ByteArray) (w : World) (hs : s.size ≤ 1000000) (h0 : Lib.hasPrefix s.data.toList [76] = true) (h4 : ¬ textErr s.data.toList (4 : Int) = 0) :
    Calls Try.prog 39 #[.string s] w (ReadOut w s none) := by
  obtain ⟨N, ka, n1', CA⟩ := get_any10 s 1 1 hs (by decide)
  obtain ⟨NX, kb, m1', CB⟩ := get_any10 s 2 2 hs (by decide)
  obtain ⟨k, hk⟩ : ∃ k, textErr s.data.toList (4 : Int) = k := ⟨_, rfl⟩
  have hk0 : (k != 0) = true := by rw [bne_iff_ne, ← hk]; exact h4
  have hk1 : (k == 0) = false := by rw [beq_eq_false_iff_ne, ← hk]; exact h4
  have CT := Lib.hid (fun W => text_bad s 4 k W hs hk hk0)
  have CA := Lib.hid CA; have CB := Lib.hid CB
  have n0 : (0 : Int) ≤ (N : Int) := by omega
  have n1 : (N : Int) ≤ 65535 := by omega
  have m0 : (0 : Int) ≤ (NX : Int) := by omega
  have m1 : (NX : Int) ≤ 65535 := by omega
  have CP := fun W => l10_strings_HasPrefix s ⟨#[76]⟩ W
  rw [show (⟨#[76]⟩ : ByteArray).data.toList = [76] from rfl, h0] at CP
  have H := Lib.hid CP
  clear CP h0 h4 hk n1' m1' hk0
  have X0 := Lib.hid (At.new w #[.slice none 0 0, .string ⟨#[]⟩, .int .i64 0] 24)
  have HB := Lib.hid ((Below.refl w.heap.size w).alloc (Nat.le_refl _) (.cells #[.slice none 0 0, .string ⟨#[]⟩, .int .i64 0] 24))
  go_enter Try.func39, Try.ntmps39
  go_wp2_with fail
  go_step3
  go_upto_region 1 with fail
  generalize w.alloc (.cells #[.slice none 0 0, .string ⟨#[]⟩, .int .i64 0] 24) = W1 at *
  go_wp2_with fail
  refine (H.out _).mono ?_; rintro e w2 ⟨rfl, rfl⟩
  go_wp2_with fail
  refine (CA.out _).mono ?_; rintro e w3 ⟨rfl, rfl⟩
  go_wp2_with fail
  refine (CB.out _).mono ?_; rintro e w4 ⟨rfl, rfl⟩
  go_wp2_with fail
  refine (CT.out _).mono ?_; rintro e w5 ⟨rfl, rfl⟩
  have hlt5 : w.heap.size < w2.heap.size := X0.out.lt
  have b6 := (Below.refl w2.heap.size w2).alloc (Nat.le_refl _) (.cells #[.slice none 0 0, .string ⟨#[]⟩, .int .i64 (NX : Int)] 24)
  have I0 := Lib.hid (show InL w (w2.alloc (.cells #[.slice none 0 0, .string ⟨#[]⟩, .int .i64 (NX : Int)] 24)) w.heap.size w2.heap.size (.slice none 0 0) [] ⟨#[]⟩ (NX : Int) from
    ⟨X0.out.reads b6, At.new _ _ _, World.ownsRow_nil _ _ _ _, HB.out.trans (b6.mono HB.out.size), HB.out.size, Nat.le_refl _, by omega⟩)
  clear b6 hlt5 X0 HB CA CB CT H
  go_upto_region 7 with fail
  go_step3
  generalize w2.alloc (.cells #[.slice none 0 0, .string ⟨#[]⟩, .int .i64 (NX : Int)] 24) = W6 at *
  generalize w2.heap.size = B at *
  obtain ⟨Br, hBr⟩ : ∃ Br, w.heap.size = Br := ⟨_, rfl⟩
  rw [hBr] at I0
  go_wp2_with fail
  go_loopw [10, 11] (fun a e wr => a = .int .i64 0 ∧ e = .int .i64 k ∧ InL w wr Br B (.slice none 0 0) [] ⟨#[]⟩ (NX : Int)) (fun _ _ _ => 0)
  case atStart => exact ⟨rfl, rfl, I0.out⟩
  case round =>
    obtain ⟨rfl, rfl, hI⟩ := hrel
    have c0 := hI.box.cell 0; have c1 := hI.box.cell 1; have c2 := hI.box.cell 2
    have d0 := hI.res.cell 0; have d1 := hI.res.cell 1; have d2 := hI.res.cell 2
    have z0 := hI.res.fz 0; have z1 := hI.res.fz 1; have z2 := hI.res.fz 2
    have D := hI.res.put3 (u := .slice none 0 0) (v := .string ⟨#[]⟩) (t := .int .i64 (NX : Int))
    have BF := Lib.hid (below_put3 (u := .slice none 0 0) (v := .string ⟨#[]⟩) (t := .int .i64 (NX : Int)) hI.bel hI.ger)
    have f0 := D.cell 0; have f1 := D.cell 1; have f2 := D.cell 2
    simp only [List.getElem?_toArray, List.getElem?_cons_zero, List.getElem?_cons_succ] at c0 c1 c2 d0 d1 d2 f0 f1 f2
    clear D hI I0
    subst hBr
    go_wp2_with fail
    rw [Exit.noGoto_ret]
    refine bodyPost_ret (v := .tuple #[lfV none 0 ⟨[], ⟨#[]⟩, (NX : Int)⟩, .int .i64 0, .bool false]) ?_ rfl ⟨BF.out, none, 0, _, _, rfl⟩
    simp [results, Try.results39, go_sem, f0, f1, f2, lfV]
theorem read10 (s : ByteArray) (w : World) (hs : s.size ≤ 1000000) : Calls Try.prog 39 #[.string s] w (ReadOut w s (parseLf s.data.toList)) := by
  cases h0 : Lib.hasPrefix s.data.toList [76] with
  | false =>
    have e : parseLf s.data.toList = none := by
      cases hd : s.data.toList with
      | nil => rfl
      | cons c l =>
        rw [parseLf_cons]
        by_cases hc : c = 76
        · have := (hp10 s).2 ⟨l, by rw [hd, hc]⟩
          rw [h0] at this; cases this
        · rw [if_neg hc]
    rw [e]
    refine (read10_a s w h0).mono ?_
    rintro r w' ⟨rfl, b⟩
    exact ⟨b, none, 0, zeroL, 0, rfl⟩
  | true =>
    by_cases h4 : textErr s.data.toList (4 : Int) = 0
    · obtain ⟨l0, hl⟩ := (hp10 s).1 h0
      have h5 := (textErr_ok.1 h4).2
      have hz : s.data.toList.length = s.size := (Lib.size_eq s).symm
      have hp4 : 4 ≤ s.size := by have : (4 : Int).toNat = 4 := rfl; omega
      cases ht : textL10 (s.data.toList.drop 4) with
      | none => exact absurd h4 (textL_bad10 (p := 4) hp4 ht)
      | some y => exact read10_c s y.1 w l0 y.2 hs hp4 hl ht
    · rw [parse_no10 h4]; exact read10_b s w hs h0 h4
end Go.Proofs.Ytajbnfobmnibjaa
