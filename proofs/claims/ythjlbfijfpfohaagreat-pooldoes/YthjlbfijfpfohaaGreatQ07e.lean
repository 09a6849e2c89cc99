/-
  Package pool: the contracts of Pin, New. (Written by gen_Q07e.py.)
-/
import Derived.Test.YthjlbfijfpfohaaGreatQ07d
namespace Go.Proofs.YthjlbfijfpfohaaGreat
open Go.RowKit Go.MapKept Go.Maps Go.Sort

/-- a page held once more, at the time t -/
def Pl.bump (t : Nat) (a : Pl) : Pl := { a with pins := a.pins + 1, pinned := t }
section
variable {w w' : World} {o o' : Nat → Nat} {i j g pd m n t ck b q : Nat} {su : Int} {E : List En} {S : List ByteArray} {Ws : Wrs}
set_option maxRecDepth 100000 in
set_option maxHeartbeats 4000000 in
theorem ppin_arg (h : IsE w o j g pd m n su t E ck) (D : IsD w o q pd S Ws) (x : Int) (hx : x < 0 ∨ (S.length : Int) ≤ x) :
    Calls Tryz.prog 24 #[.pointer (some ⟨g, 0, none⟩), .int .i64 x] w fun x w' => x = .returned (.tuple #[.string ⟨#[]⟩, .int .i64 1]) ∧ w = w' := by
  have c0 : w.cell? ⟨g, 0, none⟩ = some (.pointer (some ⟨pd, 0, none⟩)) := h.hp.cell 0
  have CL := Lib.hid (d_len D)
  clear h D
  by_cases h1 : x < 0
  · clear hx
    go_enter Tryz.func24, Tryz.ntmps24
    go_wp2_with fail
    go_ret2
    exact ⟨rfl, rfl⟩
  · have h2 : (S.length : Int) ≤ x := by omega
    clear hx
    go_enter Tryz.func24, Tryz.ntmps24
    go_wp2_with (go_at_call 45; refine CL.out.mono ?_; rintro e w' ⟨rfl, rfl⟩)
    go_ret2
    exact ⟨rfl, rfl⟩
set_option maxRecDepth 100000 in
set_option maxHeartbeats 4000000 in
theorem ppin_in (h : IsE w o j g pd m n su t E ck) (D : IsD w o q pd S Ws) {e : En} (he : e ∈ E) (hk : e.a.page < S.length) (hp : e.a.pins ≤ 1000000) (ht : t ≤ 1000000) (hb : e.a.body.size ≤ 1000) :
    Calls Tryz.prog 24 #[.pointer (some ⟨g, 0, none⟩), .int .i64 (e.a.page : Int)] w fun x w' => x = .returned (.tuple #[.string e.a.body, .int .i64 0]) ∧ IsE w' o j g pd m n su (t + 1) (updE E e.a.page (Pl.bump t)) ck ∧ Stp o j w o w' := by
  have c0 : w.cell? ⟨g, 0, none⟩ = some (.pointer (some ⟨pd, 0, none⟩)) := h.hp.cell 0
  have c2 : w.cell? ⟨g, 2, none⟩ = some (.map (some m)) := h.hp.cell 2
  have CL := Lib.hid (d_len D)
  have lk1 := h.look true he
  simp only [if_true] at lk1
  have k0 : ¬ ((e.a.page : Int) < 0) := by omega
  have k1 : ¬ ((S.length : Int) ≤ (e.a.page : Int)) := by omega
  have HH := Lib.hid h; have HK := Lib.hid he
  clear h he D hk
  go_enter Tryz.func24, Tryz.ntmps24
  go_wp2_with fail
  refine CL.out.mono ?_; rintro x w1 ⟨rfl, rfl⟩
  go_upto_region 8 with fail
  clear lk1 c0 c2 CL k0 k1
  have EE := HH.out
  have ME := HK.out
  have t2 : w.cell? ⟨g, 2, none⟩ = some (.map (some m)) := EE.hp.cell 2
  have lk := EE.look false ME
  simp only [Bool.false_eq_true, if_false] at lk
  have p1 : w.cell? ⟨e.b, 1, none⟩ = some (.int .i64 (e.a.pins : Int)) := (EE.hb _ ME).cell 1
  have y1 := (EE.hb _ ME).fz 1
  have EE2 := EE.put ME 1 (.int .i64 (e.a.pins + 1 : Int)) (fun a => { a with pins := a.pins + 1 }) (fun _ => rfl) rfl
  have ME2 := updE_mem ME (fun a => { a with pins := a.pins + 1 })
  have S2 := Stp.setCell o j w e.b 1 (.int .i64 (e.a.pins + 1 : Int)) (EE.ob _ ME)
  have oeb := EE.ob _ ME
  have HOE := Lib.hid oeb
  clear oeb
  have q0 : (0 : Int) ≤ (e.a.pins : Int) := by omega
  have q1 : (e.a.pins : Int) ≤ 1000000 := by omega
  have HE2 := Lib.hid EE2; have HM2 := Lib.hid ME2; have HS2 := Lib.hid S2
  clear EE2 ME2 S2 EE ME
  go_upto_region 10 with fail
  clear t2 lk p1 y1 q0 q1
  generalize w.setCell ⟨e.b, 1, none⟩ (.int .i64 (e.a.pins + 1 : Int)) = V2 at *
  have p4 : V2.cell? ⟨g, 4, none⟩ = some (.int .i64 (t : Int)) := HE2.out.hp.cell 4
  have p2 : V2.cell? ⟨e.b, 2, none⟩ = some (.int .i64 (e.a.pinned : Int)) := (HE2.out.hb _ HM2.out).cell 2
  have y2 : V2.frozen? ⟨e.b, 2, none⟩ = false := (HE2.out.hb _ HM2.out).fz 2
  have HE3 := Lib.hid (HE2.out.put HM2.out 2 (.int .i64 (t : Int)) (fun a => { a with pinned := t }) (fun _ => rfl) rfl)
  have HM3 := Lib.hid (updE_mem HM2.out (fun a => { a with pinned := t }))
  have HS3 := Lib.hid (HS2.out.trans (Stp.setCell o j V2 e.b 2 (.int .i64 (t : Int)) HOE.out))
  clear HE2 HM2 HS2
  go_upto_region 11 with fail
  clear p4 p2 y2
  generalize V2.setCell ⟨e.b, 2, none⟩ (.int .i64 (t : Int)) = V3 at *
  have p4 : V3.cell? ⟨g, 4, none⟩ = some (.int .i64 (t : Int)) := HE3.out.hp.cell 4
  have y4 : V3.frozen? ⟨g, 4, none⟩ = false := HE3.out.hp.fz 4
  have r0 : (0 : Int) ≤ (t : Int) := by omega
  have r1 : (t : Int) ≤ 1000000 := by omega
  have HE4 := Lib.hid (HE3.out.putTime (t + 1))
  have HS4 := Lib.hid (HS3.out.trans (Stp.setCell o j V3 g 4 (.int .i64 ((t + 1 : Nat) : Int)) HE3.out.op))
  have et : ((t + 1 : Nat) : Int) = (t : Int) + 1 := by omega
  rw [et] at HE4 HS4
  have HM4 := Lib.hid HM3.out
  clear HE3 HM3 HS3 et
  go_upto_region 12 with fail
  clear p4 y4 r0 r1
  generalize V3.setCell ⟨g, 4, none⟩ (.int .i64 ((t : Int) + 1)) = V4 at *
  have p0 : V4.cell? ⟨e.b, 0, none⟩ = some (.string e.a.body) := (HE4.out.hb _ HM4.out).cell 0
  have CC := Lib.hid (clone_any e.a.body V4 (by omega))
  go_wp2_with fail
  refine CC.out.mono ?_; rintro x w9 ⟨rfl, b9⟩
  have HE9 := Lib.hid (HE4.out.reads b9)
  have HS9 := Lib.hid (HS4.out.trans (Stp.ofBelow b9 o j))
  clear b9 CC p0 HE4 HS4 HM4
  go_wp2_with fail
  go_ret2
  refine ⟨rfl, ?_, HS9.out⟩
  have hu := HE9.out
  rw [show (({ e with a := { e.a with pins := e.a.pins + 1 } } : En).a.page) = e.a.page from rfl, updE_updE E (e.a.page : Int) (fun a => { a with pins := a.pins + 1 }) (fun a => { a with pinned := t }) (fun _ => rfl)] at hu
  exact hu
set_option maxRecDepth 100000 in
set_option maxHeartbeats 4000000 in
theorem ppin_full (h : IsE w o j g pd m n su t E ck) (D : IsD w o q pd S Ws) (hqj : q ≠ j) (k : Nat) (s : ByteArray) (hs : S[k]? = some s) (herr : errOf (rawAt Ws k s) = 0) (hk : ∀ e ∈ E, e.a.page ≠ k) (_ht : t ≤ 1000000) (_hbb : (readOf (rawAt Ws k s)).size ≤ 1000) (hn : E.length = n) (hl : E.length ≤ 1000) (hpg : ∀ e ∈ E, e.a.page ≤ 1000000) (hne : E ≠ []) (hno : ∀ e ∈ E, e.a.goes su = false) :
    Calls Tryz.prog 24 #[.pointer (some ⟨g, 0, none⟩), .int .i64 (k : Int)] w fun x w' => x = .returned (.tuple #[.string ⟨#[]⟩, .int .i64 6]) ∧ Below w.heap.size w w' := by
  have hlt : k < S.length := (List.getElem?_eq_some_iff.1 hs).1
  have c0 : w.cell? ⟨g, 0, none⟩ = some (.pointer (some ⟨pd, 0, none⟩)) := h.hp.cell 0
  have c2 : w.cell? ⟨g, 2, none⟩ = some (.map (some m)) := h.hp.cell 2
  have CL := Lib.hid (d_len D)
  have lk1 := h.lookNo true (k : Int) (fun e he x => hk e he (by omega))
  simp only [if_true] at lk1
  have k0 : ¬ ((k : Int) < 0) := by omega
  have k1 : ¬ ((S.length : Int) ≤ (k : Int)) := by omega
  have CF := Lib.hid (pfetch_full h D hqj k s hs herr hk hn hl hpg hne hno)
  clear h D hs herr hk hlt
  go_enter Tryz.func24, Tryz.ntmps24
  go_wp2_with fail
  refine CL.out.mono ?_; rintro x w1 ⟨rfl, rfl⟩
  go_wp2_with fail
  refine CF.out.mono ?_; rintro x w2 ⟨rfl, b2⟩
  have HB2 := Lib.hid b2
  clear b2 CF CL lk1 c0 c2
  go_wp2_with fail
  go_ret2
  exact ⟨rfl, HB2.out⟩
set_option maxRecDepth 100000 in
set_option maxHeartbeats 4000000 in
theorem ppin_room (h : IsE w o j g pd m n su t E ck) (D : IsD w o q pd S Ws) (hqj : q ≠ j) (k : Nat) (s : ByteArray) (hs : S[k]? = some s) (herr : errOf (rawAt Ws k s) = 0) (hk : ∀ e ∈ E, e.a.page ≠ k) (ht : t ≤ 1000000) (hbb : (readOf (rawAt Ws k s)).size ≤ 1000) (hn : E.length ≠ n) :
    Calls Tryz.prog 24 #[.pointer (some ⟨g, 0, none⟩), .int .i64 (k : Int)] w fun x w' => x = .returned (.tuple #[.string (readOf (rawAt Ws k s)), .int .i64 0]) ∧ ∃ o' b id ck', IsE w' o' j g pd m n su (t + 1) (updE (E ++ [(⟨Pl.new k (readOf (rawAt Ws k s)), b, id⟩ : En)]) k (Pl.bump t)) ck' ∧ IsD w' o' q pd S Ws ∧ Moves (Two j q) o w o' w' := by
  have hlt : k < S.length := (List.getElem?_eq_some_iff.1 hs).1
  have c0 : w.cell? ⟨g, 0, none⟩ = some (.pointer (some ⟨pd, 0, none⟩)) := h.hp.cell 0
  have c2 : w.cell? ⟨g, 2, none⟩ = some (.map (some m)) := h.hp.cell 2
  have CL := Lib.hid (d_len D)
  have lk1 := h.lookNo true (k : Int) (fun e he x => hk e he (by omega))
  simp only [if_true] at lk1
  have k0 : ¬ ((k : Int) < 0) := by omega
  have k1 : ¬ ((S.length : Int) ≤ (k : Int)) := by omega
  have CF := Lib.hid (pfetch_room h D hqj k s hs herr hk hn)
  generalize hX : readOf (rawAt Ws k s) = bX at *
  clear hn
  clear h D hs herr hk hlt
  go_enter Tryz.func24, Tryz.ntmps24
  go_wp2_with fail
  refine CL.out.mono ?_; rintro x w1 ⟨rfl, rfl⟩
  go_wp2_with fail
  refine CF.out.mono ?_; rintro x W5 ⟨rfl, o5, b5, id5, ck5, E5, D5, M5⟩
  have HM5 := Lib.hid M5; have HD5 := Lib.hid D5
  go_upto_region 8 with fail
  clear lk1 c0 c2 CL k0 k1 CF M5 D5
  have EE := E5
  obtain ⟨en, hen⟩ : ∃ en : En, en = ⟨Pl.new k bX, b5, id5⟩ := ⟨_, rfl⟩
  rw [← hen] at EE
  have ME : en ∈ E ++ [en] := by simp
  have hpn : en.a.pins ≤ 1000000 := by rw [hen]; exact Nat.zero_le _
  have hpk : en.a.page = k := by rw [hen]; rfl
  have hpb : en.a.body = bX := by rw [hen]; rfl
  have hbb' : en.a.body.size ≤ 1000 := by rw [hpb]; exact hbb
  have HEN := Lib.hid hen; have HPK := Lib.hid hpk; have HPB := Lib.hid hpb
  rw [← hpk]
  clear hen hpk hpb E5
  have t2 : W5.cell? ⟨g, 2, none⟩ = some (.map (some m)) := EE.hp.cell 2
  have lk := EE.look false ME
  simp only [Bool.false_eq_true, if_false] at lk
  have p1 : W5.cell? ⟨en.b, 1, none⟩ = some (.int .i64 (en.a.pins : Int)) := (EE.hb _ ME).cell 1
  have y1 := (EE.hb _ ME).fz 1
  have EE2 := EE.put ME 1 (.int .i64 (en.a.pins + 1 : Int)) (fun a => { a with pins := a.pins + 1 }) (fun _ => rfl) rfl
  have ME2 := updE_mem ME (fun a => { a with pins := a.pins + 1 })
  have S2 := Stp.setCell o5 j W5 en.b 1 (.int .i64 (en.a.pins + 1 : Int)) (EE.ob _ ME)
  have oeb := EE.ob _ ME
  have HOE := Lib.hid oeb
  clear oeb
  have q0 : (0 : Int) ≤ (en.a.pins : Int) := by omega
  have q1 : (en.a.pins : Int) ≤ 1000000 := by omega
  have HE2 := Lib.hid EE2; have HM2 := Lib.hid ME2; have HS2 := Lib.hid S2
  clear EE2 ME2 S2 EE ME
  go_upto_region 10 with fail
  clear t2 lk p1 y1 q0 q1
  generalize W5.setCell ⟨en.b, 1, none⟩ (.int .i64 (en.a.pins + 1 : Int)) = V2 at *
  have p4 : V2.cell? ⟨g, 4, none⟩ = some (.int .i64 (t : Int)) := HE2.out.hp.cell 4
  have p2 : V2.cell? ⟨en.b, 2, none⟩ = some (.int .i64 (en.a.pinned : Int)) := (HE2.out.hb _ HM2.out).cell 2
  have y2 : V2.frozen? ⟨en.b, 2, none⟩ = false := (HE2.out.hb _ HM2.out).fz 2
  have HE3 := Lib.hid (HE2.out.put HM2.out 2 (.int .i64 (t : Int)) (fun a => { a with pinned := t }) (fun _ => rfl) rfl)
  have HM3 := Lib.hid (updE_mem HM2.out (fun a => { a with pinned := t }))
  have HS3 := Lib.hid (HS2.out.trans (Stp.setCell o5 j V2 en.b 2 (.int .i64 (t : Int)) HOE.out))
  clear HE2 HM2 HS2
  go_upto_region 11 with fail
  clear p4 p2 y2
  generalize V2.setCell ⟨en.b, 2, none⟩ (.int .i64 (t : Int)) = V3 at *
  have p4 : V3.cell? ⟨g, 4, none⟩ = some (.int .i64 (t : Int)) := HE3.out.hp.cell 4
  have y4 : V3.frozen? ⟨g, 4, none⟩ = false := HE3.out.hp.fz 4
  have r0 : (0 : Int) ≤ (t : Int) := by omega
  have r1 : (t : Int) ≤ 1000000 := by omega
  have HE4 := Lib.hid (HE3.out.putTime (t + 1))
  have HS4 := Lib.hid (HS3.out.trans (Stp.setCell o5 j V3 g 4 (.int .i64 ((t + 1 : Nat) : Int)) HE3.out.op))
  have et : ((t + 1 : Nat) : Int) = (t : Int) + 1 := by omega
  rw [et] at HE4 HS4
  have HM4 := Lib.hid HM3.out
  clear HE3 HM3 HS3 et
  go_upto_region 12 with fail
  clear p4 y4 r0 r1
  generalize V3.setCell ⟨g, 4, none⟩ (.int .i64 ((t : Int) + 1)) = V4 at *
  have p0 : V4.cell? ⟨en.b, 0, none⟩ = some (.string en.a.body) := (HE4.out.hb _ HM4.out).cell 0
  have CC := Lib.hid (clone_any en.a.body V4 (by omega))
  go_wp2_with fail
  refine CC.out.mono ?_; rintro x w9 ⟨rfl, b9⟩
  have HE9 := Lib.hid (HE4.out.reads b9)
  have HS9 := Lib.hid (HS4.out.trans (Stp.ofBelow b9 o5 j))
  clear b9 CC p0 HE4 HS4 HM4
  go_wp2_with fail
  go_ret2
  refine ⟨by rw [← HPB.out]; rfl, o5, b5, id5, ck5, ?_, HD5.out.other HS9.out hqj, HM5.out.trans (Moves.of (.inl rfl) HS9.out)⟩
  have hu := HE9.out
  rw [show (({ en with a := { en.a with pins := en.a.pins + 1 } } : En).a.page) = en.a.page from rfl, updE_updE _ (en.a.page : Int) (fun a => { a with pins := a.pins + 1 }) (fun a => { a with pinned := t }) (fun _ => rfl), HEN.out] at hu
  exact hu
set_option maxRecDepth 100000 in
set_option maxHeartbeats 4000000 in
theorem ppin_swap (h : IsE w o j g pd m n su t E ck) (D : IsD w o q pd S Ws) (hqj : q ≠ j) (k : Nat) (s : ByteArray) (hs : S[k]? = some s) (herr : errOf (rawAt Ws k s) = 0) (hk : ∀ e ∈ E, e.a.page ≠ k) (ht : t ≤ 1000000) (hbb : (readOf (rawAt Ws k s)).size ≤ 1000) (hn : E.length = n) (hl : E.length ≤ 1000) (hpg : ∀ e ∈ E, e.a.page < S.length) (hbs : ∀ e ∈ E, e.a.body.size ≤ 252) (hW : Ws.length ≤ 50000) {L : List Pl} (hL : L.Perm (E.map (·.a))) (age : L.Pairwise (fun a b => a.pinned < b.pinned)) {a : Pl} (ha : L.find? (Pl.goes su) = some a) :
    Calls Tryz.prog 24 #[.pointer (some ⟨g, 0, none⟩), .int .i64 (k : Int)] w fun x w' => x = .returned (.tuple #[.string (readOf (rawAt Ws k s)), .int .i64 0]) ∧ ∃ o' b id ck', IsE w' o' j g pd m n su (t + 1) (updE (cutE E a.page ++ [(⟨Pl.new k (readOf (rawAt Ws k s)), b, id⟩ : En)]) k (Pl.bump t)) ck' ∧ IsD w' o' q pd S (Ws ++ if a.dirty then [(a.page, pageOf a.body)] else []) ∧ Moves (Two j q) o w o' w' := by
  have hlt : k < S.length := (List.getElem?_eq_some_iff.1 hs).1
  have c0 : w.cell? ⟨g, 0, none⟩ = some (.pointer (some ⟨pd, 0, none⟩)) := h.hp.cell 0
  have c2 : w.cell? ⟨g, 2, none⟩ = some (.map (some m)) := h.hp.cell 2
  have CL := Lib.hid (d_len D)
  have lk1 := h.lookNo true (k : Int) (fun e he x => hk e he (by omega))
  simp only [if_true] at lk1
  have k0 : ¬ ((k : Int) < 0) := by omega
  have k1 : ¬ ((S.length : Int) ≤ (k : Int)) := by omega
  have CF := Lib.hid (pfetch_swap h D hqj k s hs herr hk hn hl hpg hbs hW hL age ha)
  generalize hX : readOf (rawAt Ws k s) = bX at *
  generalize hWX : (Ws ++ if a.dirty then [(a.page, pageOf a.body)] else []) = WX at *
  clear hn hl hpg hbs hW hL age ha hWX
  clear h D hs herr hk hlt
  go_enter Tryz.func24, Tryz.ntmps24
  go_wp2_with fail
  refine CL.out.mono ?_; rintro x w1 ⟨rfl, rfl⟩
  go_wp2_with fail
  refine CF.out.mono ?_; rintro x W5 ⟨rfl, o5, b5, id5, ck5, E5, D5, M5⟩
  have HM5 := Lib.hid M5; have HD5 := Lib.hid D5
  go_upto_region 8 with fail
  clear lk1 c0 c2 CL k0 k1 CF M5 D5
  have EE := E5
  obtain ⟨en, hen⟩ : ∃ en : En, en = ⟨Pl.new k bX, b5, id5⟩ := ⟨_, rfl⟩
  rw [← hen] at EE
  have ME : en ∈ cutE E a.page ++ [en] := by simp
  have hpn : en.a.pins ≤ 1000000 := by rw [hen]; exact Nat.zero_le _
  have hpk : en.a.page = k := by rw [hen]; rfl
  have hpb : en.a.body = bX := by rw [hen]; rfl
  have hbb' : en.a.body.size ≤ 1000 := by rw [hpb]; exact hbb
  have HEN := Lib.hid hen; have HPK := Lib.hid hpk; have HPB := Lib.hid hpb
  rw [← hpk]
  clear hen hpk hpb E5
  have t2 : W5.cell? ⟨g, 2, none⟩ = some (.map (some m)) := EE.hp.cell 2
  have lk := EE.look false ME
  simp only [Bool.false_eq_true, if_false] at lk
  have p1 : W5.cell? ⟨en.b, 1, none⟩ = some (.int .i64 (en.a.pins : Int)) := (EE.hb _ ME).cell 1
  have y1 := (EE.hb _ ME).fz 1
  have EE2 := EE.put ME 1 (.int .i64 (en.a.pins + 1 : Int)) (fun a => { a with pins := a.pins + 1 }) (fun _ => rfl) rfl
  have ME2 := updE_mem ME (fun a => { a with pins := a.pins + 1 })
  have S2 := Stp.setCell o5 j W5 en.b 1 (.int .i64 (en.a.pins + 1 : Int)) (EE.ob _ ME)
  have oeb := EE.ob _ ME
  have HOE := Lib.hid oeb
  clear oeb
  have q0 : (0 : Int) ≤ (en.a.pins : Int) := by omega
  have q1 : (en.a.pins : Int) ≤ 1000000 := by omega
  have HE2 := Lib.hid EE2; have HM2 := Lib.hid ME2; have HS2 := Lib.hid S2
  clear EE2 ME2 S2 EE ME
  go_upto_region 10 with fail
  clear t2 lk p1 y1 q0 q1
  generalize W5.setCell ⟨en.b, 1, none⟩ (.int .i64 (en.a.pins + 1 : Int)) = V2 at *
  have p4 : V2.cell? ⟨g, 4, none⟩ = some (.int .i64 (t : Int)) := HE2.out.hp.cell 4
  have p2 : V2.cell? ⟨en.b, 2, none⟩ = some (.int .i64 (en.a.pinned : Int)) := (HE2.out.hb _ HM2.out).cell 2
  have y2 : V2.frozen? ⟨en.b, 2, none⟩ = false := (HE2.out.hb _ HM2.out).fz 2
  have HE3 := Lib.hid (HE2.out.put HM2.out 2 (.int .i64 (t : Int)) (fun a => { a with pinned := t }) (fun _ => rfl) rfl)
  have HM3 := Lib.hid (updE_mem HM2.out (fun a => { a with pinned := t }))
  have HS3 := Lib.hid (HS2.out.trans (Stp.setCell o5 j V2 en.b 2 (.int .i64 (t : Int)) HOE.out))
  clear HE2 HM2 HS2
  go_upto_region 11 with fail
  clear p4 p2 y2
  generalize V2.setCell ⟨en.b, 2, none⟩ (.int .i64 (t : Int)) = V3 at *
  have p4 : V3.cell? ⟨g, 4, none⟩ = some (.int .i64 (t : Int)) := HE3.out.hp.cell 4
  have y4 : V3.frozen? ⟨g, 4, none⟩ = false := HE3.out.hp.fz 4
  have r0 : (0 : Int) ≤ (t : Int) := by omega
  have r1 : (t : Int) ≤ 1000000 := by omega
  have HE4 := Lib.hid (HE3.out.putTime (t + 1))
  have HS4 := Lib.hid (HS3.out.trans (Stp.setCell o5 j V3 g 4 (.int .i64 ((t + 1 : Nat) : Int)) HE3.out.op))
  have et : ((t + 1 : Nat) : Int) = (t : Int) + 1 := by omega
  rw [et] at HE4 HS4
  have HM4 := Lib.hid HM3.out
  clear HE3 HM3 HS3 et
  go_upto_region 12 with fail
  clear p4 y4 r0 r1
  generalize V3.setCell ⟨g, 4, none⟩ (.int .i64 ((t : Int) + 1)) = V4 at *
  have p0 : V4.cell? ⟨en.b, 0, none⟩ = some (.string en.a.body) := (HE4.out.hb _ HM4.out).cell 0
  have CC := Lib.hid (clone_any en.a.body V4 (by omega))
  go_wp2_with fail
  refine CC.out.mono ?_; rintro x w9 ⟨rfl, b9⟩
  have HE9 := Lib.hid (HE4.out.reads b9)
  have HS9 := Lib.hid (HS4.out.trans (Stp.ofBelow b9 o5 j))
  clear b9 CC p0 HE4 HS4 HM4
  go_wp2_with fail
  go_ret2
  refine ⟨by rw [← HPB.out]; rfl, o5, b5, id5, ck5, ?_, HD5.out.other HS9.out hqj, HM5.out.trans (Moves.of (.inl rfl) HS9.out)⟩
  have hu := HE9.out
  rw [show (({ en with a := { en.a with pins := en.a.pins + 1 } } : En).a.page) = en.a.page from rfl, updE_updE _ (en.a.page : Int) (fun a => { a with pins := a.pins + 1 }) (fun a => { a with pinned := t }) (fun _ => rfl), HEN.out] at hu
  exact hu
theorem run_makeMap_none (t k e : TypeId) (w : World) (_h : Tryz.prog.underlying t = some (.map k e)) : (Instr.makeMap t none).run Tryz.prog w = .ok (.map (some w.heap.size)) (w.alloc (.map #[] 0)) := by
  simp [Instr.makeMap, Result.andThen]
set_option maxRecDepth 100000 in
set_option maxHeartbeats 1000000 in
theorem pnew_arg (w : World) (p : Value) (x : Int) (hx : x < 1 ∨ 64 < x) :
    Calls Tryz.prog 6 #[p, .int .i64 x] w fun e w' => e = .returned (.tuple #[.pointer none, .int .i64 1]) ∧ w = w' := by
  by_cases h1 : x < 1
  · clear hx
    go_enter Tryz.func6, Tryz.ntmps6
    go_wp2_with fail
    go_ret2
    exact ⟨rfl, rfl⟩
  · have h2 : 64 < x := by omega
    clear hx
    go_enter Tryz.func6, Tryz.ntmps6
    go_wp2_with fail
    go_ret2
    exact ⟨rfl, rfl⟩
set_option maxRecDepth 100000 in
set_option maxHeartbeats 1000000 in
theorem pnew_ok (w : World) (o : Nat → Nat) (j pd n : Nat) (h1 : 1 ≤ n) (h2 : n ≤ 64) :
    Calls Tryz.prog 6 #[.pointer (some ⟨pd, 0, none⟩), .int .i64 (n : Int)] w fun e w' => ∃ g, e = .returned (.tuple #[.pointer (some ⟨g, 0, none⟩), .int .i64 0]) ∧ ∃ m ck o', IsE w' o' j g pd m n 0 0 [] ck ∧ Stp o j w o' w' ∧ Below w.heap.size w w' := by
  have k1 : ¬ ((n : Int) < 1) := by omega
  have k2 : ¬ (64 < (n : Int)) := by omega
  have mk := run_makeMap_none 61 3 72 w Tryz.underlying61
  clear h1 h2
  go_enter Tryz.func6, Tryz.ntmps6
  go_wp2_with fail
  go_ret2
  have b1 : Below w.heap.size w (w.alloc (.map #[] 0)) := (Below.refl _ w).alloc (Nat.le_refl _) _
  have b2 := b1.alloc (by simp) (.cells #[.pointer (some ⟨pd, 0, none⟩), .int .i64 (n : Int), .map (some w.heap.size), .int .i64 0, .int .i64 0] 63)
  refine ⟨_, rfl, w.heap.size, 0, gives o w.heap.size j, ⟨?_, ?_, by simp, gives_new (by simp), gives_new (Nat.le_refl _), by simp, by simp, by simp, by simp, by simp⟩, stp_giveNew b2 o j j, b2⟩
  · have := At.new (w.alloc (.map #[] 0)) #[.pointer (some ⟨pd, 0, none⟩), .int .i64 (n : Int), .map (some w.heap.size), .int .i64 0, .int .i64 0] 63
    rw [show (w.alloc (.map #[] 0)).heap.size = w.heap.size + 1 by simp] at this
    exact this
  have e1 := ((Below.refl _ (w.alloc (.map #[] 0))).alloc (Nat.le_refl _) (.cells #[.pointer (some ⟨pd, 0, none⟩), .int .i64 (n : Int), .map (some w.heap.size), .int .i64 0, .int .i64 0] 63)).block w.heap.size (by simp)
  exact e1.trans (MapKept.heap_alloc w _).1
end
end Go.Proofs.YthjlbfijfpfohaaGreat
