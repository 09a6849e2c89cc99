/-
  Package pool: the contracts of write, Unpin, Put.
-/
import Derived.Test.YthjlbfijfpfohaaGreatW07a
namespace Go.Proofs.YthjlbfijfpfohaaGreat
open Go.RowKit Go.ChangeMaps Go.MapKept

section
variable {w w' : World} {o o' : Nat → Nat} {i j g pd m n t ck b q : Nat} {su : Int} {E : List En} {a : Pl} {S : List ByteArray} {Ws : Wrs}
theorem updE_mem {e : En} (he : e ∈ E) (f : Pl → Pl) : ({ e with a := f e.a } : En) ∈ updE E e.a.page f := List.mem_map.2 ⟨e, he, by rw [if_pos rfl]⟩
theorem updE_updE (E : List En) (k : Int) (f f' : Pl → Pl) (hf : ∀ a : Pl, (f a).page = a.page) : updE (updE E k f) k f' = updE E k (fun a => f' (f a)) := by
  unfold updE; rw [List.map_map]; congr 1; funext e; simp only [Function.comp]
  by_cases h : (e.a.page : Int) = k
  · simp [h, hf]
  · simp [h]
def Pl.clean (a : Pl) : Pl := { a with first := 0 }
set_option maxRecDepth 100000 in
set_option maxHeartbeats 1000000 in
theorem pwrite (h : IsE w o j g pd m n su t E ck) (D : IsD w o q pd S Ws) (hqj : q ≠ j) {e : En} (he : e ∈ E) (hk : e.a.page < S.length) (hs : e.a.body.size ≤ 252) (hW : Ws.length ≤ 100000) :
    Calls Tryz.prog 54 #[.pointer (some ⟨g, 0, none⟩), .int .i64 (e.a.page : Int), .pointer (some ⟨e.b, 0, none⟩)] w fun x w' => x = .returned (.tuple #[]) ∧ ∃ o', IsE w' o' j g pd m n su t (updE E e.a.page Pl.clean) ck ∧ IsD w' o' q pd S (Ws ++ [(e.a.page, pageOf e.a.body)]) ∧ Moves (Two j q) o w o' w' := by
  have c0 : w.cell? ⟨g, 0, none⟩ = some (.pointer (some ⟨pd, 0, none⟩)) := h.hp.cell 0
  have b0 : w.cell? ⟨e.b, 0, none⟩ = some (.string e.a.body) := (h.hb e he).cell 0
  have c0' : w.drew.cell? ⟨g, 0, none⟩ = some (.pointer (some ⟨pd, 0, none⟩)) := c0
  have b0' : w.drew.cell? ⟨e.b, 0, none⟩ = some (.string e.a.body) := b0
  have CW := Lib.hid (d_write D.drew e.a.page hk e.a.body hs hW)
  have HE := Lib.hid h
  have HK := Lib.hid he
  generalize hbb : e.a.body = bd at *
  clear h D he hk hs hW
  go_enter Tryz.func54, Tryz.ntmps54
  go_upto_region 0 with fail
  go_still_tail 9, (by kernel_rfl)
  change wpList _ _ _ _ _ w.drew
  go_wp2_with fail
  refine CW.out.mono ?_; rintro x w1 ⟨o1, rfl, D1, S1⟩
  have h1 := HE.out.drew.other S1 (fun e => hqj e.symm)
  have b4 : w1.cell? ⟨e.b, 4, none⟩ = some (.int .i64 e.a.first) := (h1.hb e HK.out).cell 4
  have z4 := (h1.hb e HK.out).fz 4
  have HP := Lib.hid (h1.put HK.out 4 (.int .i64 0) Pl.clean (fun _ => rfl) rfl)
  have S2 := Stp.setCell o1 j w1 e.b 4 (.int .i64 0) (h1.ob e HK.out)
  have HM := Lib.hid ((Moves.of (X := Two j q) (.inr rfl) ((Stp.drew o q w).trans S1)).trans (Moves.of (.inl rfl) S2))
  have HD := Lib.hid (D1.other S2 hqj)
  clear h1 D1 S1 S2 CW HE c0 b0 c0' b0'
  go_wp2_with fail
  go_end0
  exact ⟨rfl, o1, HP.out, HD.out, HM.out⟩
/-- a page let go -/
def Pl.less (a : Pl) : Pl := { a with pins := a.pins - 1 }
set_option maxRecDepth 100000 in
set_option maxHeartbeats 1000000 in
theorem punpin_none (h : IsE w o j g pd m n su t E ck) (k : Int) (hk : ∀ e ∈ E, (e.a.page : Int) ≠ k) :
    Calls Tryz.prog 26 #[.pointer (some ⟨g, 0, none⟩), .int .i64 k] w fun e w' => e = .returned (.int .i64 7) ∧ w = w' := by
  have C := Lib.hid (pheld_none h k hk)
  clear h hk
  go_enter Tryz.func26, Tryz.ntmps26
  go_wp2_with fail
  refine C.out.mono ?_; rintro x w1 ⟨rfl, rfl⟩
  go_wp2_with fail
  go_ret
  exact ⟨rfl, rfl⟩
set_option maxRecDepth 100000 in
set_option maxHeartbeats 1000000 in
theorem punpin_state (h : IsE w o j g pd m n su t E ck) {e : En} (he : e ∈ E) (h0 : e.a.pins = 0) :
    Calls Tryz.prog 26 #[.pointer (some ⟨g, 0, none⟩), .int .i64 (e.a.page : Int)] w fun e w' => e = .returned (.int .i64 9) ∧ w = w' := by
  have C := Lib.hid (pheld_state h he h0)
  clear h he h0
  generalize (e.a.page : Int) = k at *
  go_enter Tryz.func26, Tryz.ntmps26
  go_wp2_with fail
  refine C.out.mono ?_; rintro x w1 ⟨rfl, rfl⟩
  go_wp2_with fail
  go_ret
  exact ⟨rfl, rfl⟩
set_option maxRecDepth 100000 in
set_option maxHeartbeats 1000000 in
theorem punpin_ok (h : IsE w o j g pd m n su t E ck) {e : En} (he : e ∈ E) (h0 : e.a.pins ≠ 0) (hb : e.a.pins ≤ 1000000) :
    Calls Tryz.prog 26 #[.pointer (some ⟨g, 0, none⟩), .int .i64 (e.a.page : Int)] w fun x w' => x = .returned (.int .i64 0) ∧ IsE w' o j g pd m n su t (updE E e.a.page Pl.less) ck ∧ Stp o j w o w' := by
  have C := Lib.hid (pheld_ok h he h0)
  have c1 : w.cell? ⟨e.b, 1, none⟩ = some (.int .i64 (e.a.pins : Int)) := (h.hb e he).cell 1
  have z1 := (h.hb e he).fz 1
  have ew : ((e.a.pins - 1 : Nat) : Int) = (e.a.pins : Int) - 1 := by omega
  have HP := Lib.hid (h.put he 1 (.int .i64 ((e.a.pins : Int) - 1)) Pl.less (fun _ => rfl) (by rw [← ew]; rfl))
  have HS := Lib.hid (Stp.setCell o j w e.b 1 (.int .i64 ((e.a.pins : Int) - 1)) (h.ob e he))
  have hb0 : (0 : Int) < (e.a.pins : Int) := by omega
  have hb1 : (e.a.pins : Int) ≤ 1000000 := by omega
  clear h he h0 hb ew
  generalize (e.a.page : Int) = k at *
  generalize (e.a.pins : Int) = k2 at *
  generalize e.b = b at *
  go_enter Tryz.func26, Tryz.ntmps26
  go_wp2_with fail
  refine C.out.mono ?_; rintro x w1 ⟨rfl, rfl⟩
  go_wp2_with fail
  go_ret
  exact ⟨rfl, HP.out, HS.out⟩
/-- a page changed -/
def Pl.put (s : ByteArray) (l : Int) (a : Pl) : Pl := { a with body := padOf s 252, last := l, first := if a.dirty then a.first else l }
set_option maxRecDepth 100000 in
set_option maxHeartbeats 1000000 in
theorem pput_none (h : IsE w o j g pd m n su t E ck) (k : Int) (hk : ∀ e ∈ E, (e.a.page : Int) ≠ k) (s : ByteArray) (l : Int) :
    Calls Tryz.prog 28 #[.pointer (some ⟨g, 0, none⟩), .int .i64 k, .string s, .int .i64 l] w fun e w' => e = .returned (.int .i64 7) ∧ w = w' := by
  have C := Lib.hid (pheld_none h k hk)
  clear h hk
  go_enter Tryz.func28, Tryz.ntmps28
  go_wp2_with fail
  refine C.out.mono ?_; rintro x w1 ⟨rfl, rfl⟩
  go_wp2_with fail
  go_ret
  exact ⟨rfl, rfl⟩
set_option maxRecDepth 100000 in
set_option maxHeartbeats 1000000 in
theorem pput_state (h : IsE w o j g pd m n su t E ck) {e : En} (he : e ∈ E) (h0 : e.a.pins = 0) (s : ByteArray) (l : Int) :
    Calls Tryz.prog 28 #[.pointer (some ⟨g, 0, none⟩), .int .i64 (e.a.page : Int), .string s, .int .i64 l] w fun e w' => e = .returned (.int .i64 9) ∧ w = w' := by
  have C := Lib.hid (pheld_state h he h0)
  clear h he h0
  generalize (e.a.page : Int) = k at *
  go_enter Tryz.func28, Tryz.ntmps28
  go_wp2_with fail
  refine C.out.mono ?_; rintro x w1 ⟨rfl, rfl⟩
  go_wp2_with fail
  go_ret
  exact ⟨rfl, rfl⟩
set_option maxRecDepth 100000 in
set_option maxHeartbeats 1000000 in
theorem pput_big (h : IsE w o j g pd m n su t E ck) {e : En} (he : e ∈ E) (h0 : e.a.pins ≠ 0) (s : ByteArray) (l : Int) (hs : 252 < s.size) :
    Calls Tryz.prog 28 #[.pointer (some ⟨g, 0, none⟩), .int .i64 (e.a.page : Int), .string s, .int .i64 l] w fun e w' => e = .returned (.int .i64 2) ∧ w = w' := by
  have C := Lib.hid (pheld_ok h he h0)
  have hs' : (252 : Int) < (s.size : Int) := by omega
  clear h he h0 hs
  generalize (e.a.page : Int) = k at *
  generalize e.b = b at *
  go_enter Tryz.func28, Tryz.ntmps28
  go_wp2_with fail
  refine C.out.mono ?_; rintro x w1 ⟨rfl, rfl⟩
  go_wp2_with fail
  go_ret
  exact ⟨rfl, rfl⟩
set_option maxRecDepth 100000 in
set_option maxHeartbeats 1000000 in
theorem pput_arg (h : IsE w o j g pd m n su t E ck) {e : En} (he : e ∈ E) (h0 : e.a.pins ≠ 0) (s : ByteArray) (l : Int) (hs : s.size ≤ 252) (hl : l < 1 ∨ l < e.a.last) :
    Calls Tryz.prog 28 #[.pointer (some ⟨g, 0, none⟩), .int .i64 (e.a.page : Int), .string s, .int .i64 l] w fun e w' => e = .returned (.int .i64 1) ∧ w = w' := by
  have C := Lib.hid (pheld_ok h he h0)
  have c3 : w.cell? ⟨e.b, 3, none⟩ = some (.int .i64 e.a.last) := (h.hb e he).cell 3
  have hs' : ¬ (252 : Int) < (s.size : Int) := by omega
  clear h he h0 hs
  generalize (e.a.page : Int) = k at *
  generalize e.a.last = la at *
  generalize e.b = b at *
  by_cases h1 : l < 1
  · clear hl
    go_enter Tryz.func28, Tryz.ntmps28
    go_wp2_with fail
    refine C.out.mono ?_; rintro x w1 ⟨rfl, rfl⟩
    go_wp2_with fail
    go_ret
    exact ⟨rfl, rfl⟩
  · have h2 : l < la := by omega
    clear hl
    go_enter Tryz.func28, Tryz.ntmps28
    go_wp2_with fail
    refine C.out.mono ?_; rintro x w1 ⟨rfl, rfl⟩
    go_wp2_with fail
    go_ret
    exact ⟨rfl, rfl⟩
end
end Go.Proofs.YthjlbfijfpfohaaGreat
