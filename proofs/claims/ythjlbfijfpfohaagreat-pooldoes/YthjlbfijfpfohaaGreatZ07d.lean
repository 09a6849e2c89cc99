/-
  The document's pool: the contract of Put.
-/
import Derived.Test.YthjlbfijfpfohaaGreatZ07c
namespace Go.Proofs.YthjlbfijfpfohaaGreat
open Go.RowKit Go.MapKept
section
variable {w w' : World} {o o' : Nat → Nat} {i j g x n q : Nat} {su : Int} {v : Value} {E : List Qn} {S : List ByteArray} {Ws : Wrs}
set_option maxRecDepth 100000 in
set_option maxHeartbeats 1000000 in
theorem qput_none (h : IsQ w o j g x n su v E) (k : Int) (hl : E.length ≤ 1000) (hk : ∀ e ∈ E, (e.pg : Int) ≠ k) (s : ByteArray) (l : Int) :
    Calls Tryz.prog 29 #[.pointer (some ⟨g, 0, none⟩), .int .i64 k, .string s, .int .i64 l] w fun e w' => e = .returned (.int .i64 7) ∧ w = w' := by
  have C := Lib.hid (qbad_none h k hl hk)
  clear h hk
  go_enter Tryz.func29, Tryz.ntmps29
  go_wp2_with fail
  refine C.out.mono ?_; rintro e _ ⟨rfl, rfl⟩
  go_wp2_with fail
  go_ret
  exact ⟨rfl, rfl⟩
set_option maxRecDepth 100000 in
set_option maxHeartbeats 1000000 in
theorem qput_state (h : IsQ w o j g x n su v E) {t : Nat} {e : Qn} (ht : E[t]? = some e) (hl : E.length ≤ 1000) (h0 : e.pins = 0) (s : ByteArray) (l : Int) :
    Calls Tryz.prog 29 #[.pointer (some ⟨g, 0, none⟩), .int .i64 (e.pg : Int), .string s, .int .i64 l] w fun e w' => e = .returned (.int .i64 9) ∧ w = w' := by
  have C := qbad_some h ht hl
  rw [if_pos h0] at C
  have HC := Lib.hid C
  clear h ht C
  go_enter Tryz.func29, Tryz.ntmps29
  go_wp2_with fail
  refine HC.out.mono ?_; rintro e _ ⟨rfl, rfl⟩
  go_wp2_with fail
  go_ret
  exact ⟨rfl, rfl⟩
set_option maxRecDepth 100000 in
set_option maxHeartbeats 1000000 in
theorem qput_big (h : IsQ w o j g x n su v E) {t : Nat} {e : Qn} (ht : E[t]? = some e) (hl : E.length ≤ 1000) (h0 : e.pins ≠ 0) (s : ByteArray) (l : Int) (hs : 252 < s.size) :
    Calls Tryz.prog 29 #[.pointer (some ⟨g, 0, none⟩), .int .i64 (e.pg : Int), .string s, .int .i64 l] w fun e w' => e = .returned (.int .i64 2) ∧ w = w' := by
  have C := qbad_some h ht hl
  rw [if_neg h0] at C
  have HC := Lib.hid C
  have hs' : (252 : Int) < (s.size : Int) := by omega
  clear h ht C
  go_enter Tryz.func29, Tryz.ntmps29
  go_wp2_with fail
  refine HC.out.mono ?_; rintro e _ ⟨rfl, rfl⟩
  go_wp2_with fail
  go_ret
  exact ⟨rfl, rfl⟩
set_option maxRecDepth 100000 in
set_option maxHeartbeats 1000000 in
theorem qput_arg (h : IsQ w o j g x n su v E) {t : Nat} {e : Qn} (ht : E[t]? = some e) (hl : E.length ≤ 1000) (h0 : e.pins ≠ 0) (s : ByteArray) (l : Int) (hs : s.size ≤ 252) (hla : l < 1 ∨ l < e.la) :
    Calls Tryz.prog 29 #[.pointer (some ⟨g, 0, none⟩), .int .i64 (e.pg : Int), .string s, .int .i64 l] w fun y w' => y = .returned (.int .i64 1) ∧ Below w.heap.size w w' := by
  have C := qbad_some h ht hl
  rw [if_neg h0] at C
  have HC := Lib.hid C
  have CF := Lib.hid (fun c : Nat => qfind_some (h.reads (below_drew w c)) ht hl)
  obtain ⟨gb, C', rfl, cc⟩ := h.at' ht
  unfold qptr at cc
  have he := List.mem_of_getElem? ht
  have c3 : ∀ c, (w.drewN c).cell? ⟨g, 3, none⟩ = some (.slice (some ⟨gb, 0, none⟩) E.length C') := fun c => h.hp.cell 3
  have cl : ∀ c, (w.drewN c).cell? ⟨gb, t, none⟩ = some (.pointer (some ⟨e.b, 0, none⟩)) := fun c => cc
  have c5 : ∀ c, (w.drewN c).cell? ⟨e.b, 5, none⟩ = some (.int .i64 e.la) := fun c => (h.hb e he).cell 5
  have htl := (List.getElem?_eq_some_iff.1 ht).1
  have t1 : (t : Int) < (E.length : Int) := by omega
  have t0 : (0 : Int) ≤ (t : Int) := by omega
  have hs' : ¬ (252 : Int) < (s.size : Int) := by omega
  clear C h ht he cc htl h0 hs
  by_cases h1 : l < 1
  · clear hla
    go_enter Tryz.func29, Tryz.ntmps29
    go_wp2_with fail
    refine HC.out.mono ?_; rintro y _ ⟨rfl, rfl⟩
    clear HC
    go_wp2_with fail
    go_quiet ((go_at_call 36; exact Calls.quiet_of_same ((CF.out _).mono (fun e w' h => ⟨h.1, h.2.symm⟩))))
    have HB := Lib.hid (below_drew w nq)
    clear c3 cl CF
    have c5' := c5 nq
    clear c5
    generalize w.drewN nq = W2 at *
    go_wp2_with fail
    go_ret
    exact ⟨rfl, HB.out⟩
  · have h2 : l < e.la := by omega
    clear hla
    go_enter Tryz.func29, Tryz.ntmps29
    go_wp2_with fail
    refine HC.out.mono ?_; rintro y _ ⟨rfl, rfl⟩
    clear HC
    go_wp2_with fail
    go_quiet ((go_at_call 36; exact Calls.quiet_of_same ((CF.out _).mono (fun e w' h => ⟨h.1, h.2.symm⟩))))
    have HB := Lib.hid (below_drew w nq)
    clear c3 cl CF
    have c5' := c5 nq
    clear c5
    generalize w.drewN nq = W2 at *
    go_wp2_with fail
    go_ret
    exact ⟨rfl, HB.out⟩
/-- a page changed -/
def Qn.put (s : ByteArray) (l : Int) (z : Qn) : Qn := { z with s := padOf s 252, d := true, la := l, fi := if z.d then z.fi else l }
theorem updQ_congr (hn : (E.map (·.pg)).Nodup) {e : Qn} (he : e ∈ E) (F F' : Qn → Qn) (hf : F e = F' e) : updQ E e.pg F = updQ E e.pg F' := by
  unfold updQ
  refine List.map_congr_left (fun y hy => ?_)
  by_cases hy' : y.pg = e.pg
  · obtain rfl : y = e := map_inj_of_nodup hn hy he hy'
    rw [if_pos rfl, if_pos rfl, hf]
  · rw [if_neg hy', if_neg hy']
set_option maxRecDepth 100000 in
set_option maxHeartbeats 2000000 in
theorem qput_ok (h : IsQ w o j g x n su v E) {t : Nat} {e : Qn} (ht : E[t]? = some e) (hl : E.length ≤ 1000) (h0 : e.pins ≠ 0) (s : ByteArray) (l : Int) (hs : s.size ≤ 252) (hl1 : 1 ≤ l) (hl2 : e.la ≤ l) :
    Calls Tryz.prog 29 #[.pointer (some ⟨g, 0, none⟩), .int .i64 (e.pg : Int), .string s, .int .i64 l] w fun y w' => y = .returned (.int .i64 0) ∧ IsQ w' o j g x n su v (updQ E e.pg (Qn.put s l)) ∧ Stp o j w o w' := by
  have C := qbad_some h ht hl
  rw [if_neg h0] at C
  have HC := Lib.hid C
  have CF := Lib.hid (fun c : Nat => qfind_some (h.reads (below_drew w c)) ht hl)
  have CP := Lib.hid (fun W => rpad252 s W hs)
  obtain ⟨gb, C', rfl, cc⟩ := h.at' ht
  unfold qptr at cc
  have he := List.mem_of_getElem? ht
  have c3 : ∀ c, (w.drewN c).cell? ⟨g, 3, none⟩ = some (.slice (some ⟨gb, 0, none⟩) E.length C') := fun c => h.hp.cell 3
  have cl : ∀ c, (w.drewN c).cell? ⟨gb, t, none⟩ = some (.pointer (some ⟨e.b, 0, none⟩)) := fun c => cc
  have htl := (List.getElem?_eq_some_iff.1 ht).1
  have t1 : (t : Int) < (E.length : Int) := by omega
  have t0 : (0 : Int) ≤ (t : Int) := by omega
  have hs' : ¬ (252 : Int) < (s.size : Int) := by omega
  have k1 : ¬ l < 1 := by omega
  have k2 : ¬ l < e.la := by omega
  have HH := Lib.hid h; have HE := Lib.hid he
  generalize hpd : padOf s 252 = pad at CP
  have HPD := Lib.hid hpd
  clear C h ht he cc htl h0 hs hl1 hl2 hpd
  go_enter Tryz.func29, Tryz.ntmps29
  go_wp2_with fail
  refine HC.out.mono ?_; rintro y _ ⟨rfl, rfl⟩
  clear HC
  go_wp2_with fail
  go_quiet ((go_at_call 36; exact Calls.quiet_of_same ((CF.out _).mono (fun e w' h => ⟨h.1, h.2.symm⟩))))
  have H2 := Lib.hid (HH.out.reads (below_drew w nq))
  have HB := Lib.hid (below_drew w nq)
  clear c3 cl CF
  generalize w.drewN nq = W2 at *
  have b5 : W2.cell? ⟨e.b, 5, none⟩ = some (.int .i64 e.la) := (H2.out.hb e HE.out).cell 5
  have b3 : W2.cell? ⟨e.b, 3, none⟩ = some (.bool e.d) := (H2.out.hb e HE.out).cell 3
  cases hd : e.d with
  | true =>
    rw [hd] at b3
    have HD := Lib.hid hd
    have HX := Lib.hid H2.out; have MX := Lib.hid HE.out; have SX := Lib.hid (Stp.ofBelow HB.out o j)
    clear hd
    go_wp2_with fail
    refine (CP.out _).mono ?_; rintro y W4 ⟨rfl, b4⟩
    have H4 := Lib.hid (HX.out.reads b4)
    have S4 := Lib.hid (SX.out.trans (Stp.ofBelow b4 o j))
    have m4 := MX.out
    have A4 := H4.out.hb _ m4
    have d1 := A4.cell 1; have d3 := A4.cell 3; have d5 := A4.cell 5
    have z1 := A4.fz 1; have z3 := A4.fz 3; have z5 := A4.fz 5
    have P1 := H4.out.put m4 1 (.string pad) (fun z => { z with s := pad }) (fun _ => ⟨rfl, rfl⟩) rfl
    have n1 := updQ_mem m4 (fun z => { z with s := pad })
    have P2 := P1.put n1 3 (.bool true) (fun z => { z with d := true }) (fun _ => ⟨rfl, rfl⟩) rfl
    have n2 := updQ_mem n1 (fun z => { z with d := true })
    have P3 := P2.put n2 5 (.int .i64 l) (fun z => { z with la := l }) (fun _ => ⟨rfl, rfl⟩) rfl
    have ob := H4.out.ob _ m4
    have HP3 := Lib.hid P3
    have HS3 := Lib.hid (((S4.out.trans (Stp.setCell o j W4 _ 1 (.string pad) ob)).trans (Stp.setCell o j _ _ 3 (.bool true) ob)).trans (Stp.setCell o j _ _ 5 (.int .i64 l) ob))
    simp only [qlv] at d1 d3 d5
    clear P1 P2 P3 n1 n2 A4 b4 CP ob m4
    go_wp2_with fail
    go_ret
    refine ⟨rfl, ?_, HS3.out⟩
    have eq : updQ (updQ (updQ E e.pg (fun z => { z with s := pad })) e.pg (fun z => { z with d := true })) e.pg (fun z => { z with la := l }) = updQ E e.pg (Qn.put s l) := by
      rw [updQ_updQ E e.pg (fun z => { z with s := pad }) (fun z => { z with d := true }) (fun _ => rfl), updQ_updQ E e.pg (fun z => { z with s := pad, d := true }) (fun z => { z with la := l }) (fun _ => rfl)]
      exact updQ_congr HH.out.nk HE.out _ _ (by simp [Qn.put, HD.out, HPD.out])
    rw [← eq]; exact HP3.out
  | false =>
    rw [hd] at b3
    have HD := Lib.hid hd
    have b4 : W2.cell? ⟨e.b, 4, none⟩ = some (.int .i64 e.fi) := (H2.out.hb e HE.out).cell 4
    have z4 := (H2.out.hb e HE.out).fz 4
    have HX := Lib.hid (H2.out.put HE.out 4 (.int .i64 l) (fun z => { z with fi := l }) (fun _ => ⟨rfl, rfl⟩) rfl)
    have MX := Lib.hid (updQ_mem HE.out (fun z => { z with fi := l }))
    have SX := Lib.hid ((Stp.ofBelow HB.out o j).trans (Stp.setCell o j W2 e.b 4 (.int .i64 l) (H2.out.ob e HE.out)))
    clear hd
    go_upto_region 11 with fail
    clear b3 b4 z4 b5
    generalize W2.setCell ⟨e.b, 4, none⟩ (.int .i64 l) = W3 at *
    go_wp2_with fail
    refine (CP.out _).mono ?_; rintro y W4 ⟨rfl, b4⟩
    have H4 := Lib.hid (HX.out.reads b4)
    have S4 := Lib.hid (SX.out.trans (Stp.ofBelow b4 o j))
    have m4 := MX.out
    have A4 := H4.out.hb _ m4
    have d1 := A4.cell 1; have d3 := A4.cell 3; have d5 := A4.cell 5
    have z1 := A4.fz 1; have z3 := A4.fz 3; have z5 := A4.fz 5
    have P1 := H4.out.put m4 1 (.string pad) (fun z => { z with s := pad }) (fun _ => ⟨rfl, rfl⟩) rfl
    have n1 := updQ_mem m4 (fun z => { z with s := pad })
    have P2 := P1.put n1 3 (.bool true) (fun z => { z with d := true }) (fun _ => ⟨rfl, rfl⟩) rfl
    have n2 := updQ_mem n1 (fun z => { z with d := true })
    have P3 := P2.put n2 5 (.int .i64 l) (fun z => { z with la := l }) (fun _ => ⟨rfl, rfl⟩) rfl
    have ob := H4.out.ob _ m4
    have HP3 := Lib.hid P3
    have HS3 := Lib.hid (((S4.out.trans (Stp.setCell o j W4 _ 1 (.string pad) ob)).trans (Stp.setCell o j _ _ 3 (.bool true) ob)).trans (Stp.setCell o j _ _ 5 (.int .i64 l) ob))
    simp only [qlv] at d1 d3 d5
    clear P1 P2 P3 n1 n2 A4 b4 CP ob m4
    go_wp2_with fail
    go_ret
    refine ⟨rfl, ?_, HS3.out⟩
    have eq : updQ (updQ (updQ (updQ E e.pg (fun z => { z with fi := l })) e.pg (fun z => { z with s := pad })) e.pg (fun z => { z with d := true })) e.pg (fun z => { z with la := l }) = updQ E e.pg (Qn.put s l) := by
      rw [updQ_updQ E e.pg (fun z => { z with fi := l }) (fun z => { z with s := pad }) (fun _ => rfl), updQ_updQ E e.pg (fun z => { z with fi := l, s := pad }) (fun z => { z with d := true }) (fun _ => rfl), updQ_updQ E e.pg (fun z => { z with fi := l, s := pad, d := true }) (fun z => { z with la := l }) (fun _ => rfl)]
      exact updQ_congr HH.out.nk HE.out _ _ (by simp [Qn.put, HD.out, HPD.out])
    rw [← eq]; exact HP3.out
end
end Go.Proofs.YthjlbfijfpfohaaGreat
