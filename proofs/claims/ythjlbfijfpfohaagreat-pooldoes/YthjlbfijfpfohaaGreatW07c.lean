/-
  Package pool: the contract of Put, where it changes a page.
-/
import Derived.Test.YthjlbfijfpfohaaGreatW07b
namespace Go.Proofs.YthjlbfijfpfohaaGreat
open Go.RowKit Go.ChangeMaps Go.MapKept

section
variable {w w' : World} {o o' : Nat → Nat} {i j g pd m n t ck b q : Nat} {su : Int} {E : List En} {a : Pl} {S : List ByteArray} {Ws : Wrs}
theorem updE_congr (hn : (E.map (·.a.page)).Nodup) {e : En} (he : e ∈ E) (f f' : Pl → Pl) (hf : f e.a = f' e.a) : updE E e.a.page f = updE E e.a.page f' := by
  unfold updE
  refine List.map_congr_left (fun y hy => ?_)
  by_cases hy' : (y.a.page : Int) = e.a.page
  · obtain rfl : y = e := map_inj_of_nodup hn hy he (by omega)
    rw [if_pos rfl, if_pos rfl, hf]
  · rw [if_neg hy', if_neg hy']
set_option maxRecDepth 100000 in
set_option maxHeartbeats 1000000 in
theorem pput_ok (h : IsE w o j g pd m n su t E ck) {e : En} (he : e ∈ E) (h0 : e.a.pins ≠ 0) (s : ByteArray) (l : Int) (hs : s.size ≤ 252) (hl1 : 1 ≤ l) (hl2 : e.a.last ≤ l) :
    Calls Tryz.prog 28 #[.pointer (some ⟨g, 0, none⟩), .int .i64 (e.a.page : Int), .string s, .int .i64 l] w fun x w' => x = .returned (.int .i64 0) ∧ IsE w' o j g pd m n su t (updE E e.a.page (Pl.put s l)) ck ∧ Stp o j w o w' := by
  have C := Lib.hid (pheld_ok h he h0)
  have CP := Lib.hid (fun W : World => padded_any s W hs)
  have c3 : w.cell? ⟨e.b, 3, none⟩ = some (.int .i64 e.a.last) := (h.hb e he).cell 3
  have hs' : ¬ (252 : Int) < (s.size : Int) := by omega
  have k1 : ¬ l < 1 := by omega
  have k2 : ¬ l < e.a.last := by omega
  have HE := Lib.hid h; have HK := Lib.hid he
  clear h he h0 hs hl1 hl2
  generalize hk : (e.a.page : Int) = k at *
  generalize hla : e.a.last = la at *
  go_enter Tryz.func28, Tryz.ntmps28
  go_wp2_with fail
  refine C.out.mono ?_; rintro x w1 ⟨rfl, rfl⟩
  go_wp2_with fail
  refine (CP.out _).mono ?_; rintro x w1 ⟨rfl, b1⟩
  have h1 := HE.out.reads b1
  have h2 := h1.put HK.out 0 (.string (padOf s 252)) (fun a => { a with body := padOf s 252 }) (fun _ => rfl) rfl
  have h3 := h2.put (updE_mem HK.out (fun a => { a with body := padOf s 252 })) 3 (.int .i64 l) (fun a => { a with last := l }) (fun _ => rfl) rfl
  have m3 := updE_mem (updE_mem HK.out (fun a => { a with body := padOf s 252 })) (fun a => { a with last := l })
  have A3 := h3.hb _ m3
  have CD := pdirty A3
  have S3 := ((Stp.ofBelow b1 o j).trans (Stp.setCell o j w1 e.b 0 (.string (padOf s 252)) (h1.ob e HK.out))).trans (Stp.setCell o j _ e.b 3 (.int .i64 l) (h1.ob e HK.out))
  have d0 : w1.cell? ⟨e.b, 0, none⟩ = some (.string e.a.body) := (h1.hb e HK.out).cell 0
  have d3 : w1.cell? ⟨e.b, 3, none⟩ = some (.int .i64 e.a.last) := (h1.hb e HK.out).cell 3
  have z := fun c => (h1.hb e HK.out).fz c
  have z0 := z 0; have z3 := z 3
  have HC := Lib.hid CD; have HA := Lib.hid A3; have H3 := Lib.hid h3; have HS := Lib.hid S3; have HM := Lib.hid m3
  clear h1 h2 h3 CD A3 S3 z m3 C CP c3 b1
  generalize hpd : padOf s 252 = pad at *
  go_upto_region 10 with fail
  generalize (w1.setCell ⟨e.b, 0, none⟩ (.string pad)).setCell ⟨e.b, 3, none⟩ (.int .i64 l) = W at *
  have fin : ∀ f4 : Pl → Pl, (∀ a : Pl, (f4 a).page = a.page) → updE (updE (updE E ↑e.a.page (fun a => { a with body := pad })) ↑e.a.page (fun a => { a with last := l })) ↑e.a.page f4 = updE E ↑e.a.page (fun a => f4 { a with body := pad, last := l }) := fun f4 _ => by
    rw [updE_updE E _ (fun a => { a with body := pad }) (fun a => { a with last := l }) (fun _ => rfl), updE_updE E _ (fun a => { a with body := pad, last := l }) f4 (fun _ => rfl)]
  have FIN := Lib.hid fin
  have e4 : W.cell? ⟨e.b, 4, none⟩ = some (.int .i64 e.a.first) := HA.out.cell 4
  have z4 : W.frozen? ⟨e.b, 4, none⟩ = false := HA.out.fz 4
  have hdd : ({ e with a := { { e.a with body := pad } with last := l } } : En).a.dirty = e.a.dirty := rfl
  rw [hdd] at HC
  clear d0 d3 z0 z3 fin hdd
  cases hd : e.a.dirty with
  | true =>
    rw [hd] at HC
    have HD := Lib.hid hd
    clear hd
    go_wp2_with fail
    refine HC.out.mono ?_; rintro x w2 ⟨rfl, rfl⟩
    go_wp2_with fail
    go_ret
    refine ⟨rfl, ?_, HS.out⟩
    have hh := H3.out
    have eq : updE (updE E ↑e.a.page (fun a => { a with body := pad })) ↑e.a.page (fun a => { a with last := l }) = updE E k (Pl.put s l) := by
      rw [updE_updE E _ (fun a => { a with body := pad }) (fun a => { a with last := l }) (fun _ => rfl), ← hk]
      exact updE_congr HE.out.nk HK.out _ _ (by simp [Pl.put, HD.out, hpd])
    rw [← eq]; exact hh
  | false =>
    rw [hd] at HC
    have HD := Lib.hid hd
    clear hd
    go_wp2_with fail
    refine HC.out.mono ?_; rintro x w2 ⟨rfl, rfl⟩
    go_wp2_with fail
    go_ret
    have hh := H3.out.put HM.out 4 (.int .i64 l) (fun a => { a with first := l }) (fun _ => rfl) rfl
    refine ⟨rfl, ?_, HS.out.trans (Stp.setCell o j W e.b 4 (.int .i64 l) (HE.out.ob e HK.out))⟩
    have eq : updE (updE (updE E ↑e.a.page (fun a => { a with body := pad })) ↑e.a.page (fun a => { a with last := l })) ↑e.a.page (fun a => { a with first := l }) = updE E k (Pl.put s l) := by
      rw [FIN.out (fun a => { a with first := l }) (fun _ => rfl), ← hk]
      exact updE_congr HE.out.nk HK.out _ _ (by simp [Pl.put, HD.out, hpd])
    rw [← eq]; exact hh
end
end Go.Proofs.YthjlbfijfpfohaaGreat
