/-
  Package pool: the contract of fetch. (Written by gen_Q07d.py.)
-/
import Derived.Test.YthjlbfijfpfohaaGreatQ07c
namespace Go.Proofs.YthjlbfijfpfohaaGreat
open Go.RowKit Go.MapKept Go.Maps Go.Sort

/-- a page that has just come -/
def Pl.new (k : Nat) (s : ByteArray) : Pl := ⟨k, s, 0, 0, 0, 0⟩
section
variable {w w' : World} {o o' : Nat → Nat} {i j g pd m n t ck b q : Nat} {su : Int} {E : List En} {S : List ByteArray} {Ws : Wrs}
/-- a block for the new page, and it in the map -/
theorem IsE.fresh (h : IsE w o j g pd m n su t E ck) (k : Nat) (hk : ∀ e ∈ E, e.a.page ≠ k) (s : ByteArray) :
    ∃ w', (Instr.mapUpdate 61 (.map (some m)) (.int .i64 (k : Int)) (.pointer (some ⟨w.heap.size, 0, none⟩))).run Tryz.prog (w.alloc (.cells #[.string s, .int .i64 0, .int .i64 0, .int .i64 0, .int .i64 0] 74)) = .ok () w' ∧ IsE w' (gives o w.heap.size j) j g pd m n su t (E ++ [(⟨Pl.new k s, w.heap.size, ck⟩ : En)]) (ck + 1) ∧ Stp o j w (gives o w.heap.size j) w' := by
  have b1 : Below w.heap.size w (w.alloc (.cells #[.string s, .int .i64 0, .int .i64 0, .int .i64 0, .int .i64 0] 74)) := (Below.refl _ w).alloc (Nat.le_refl _) _
  have h1 : IsE (w.alloc (.cells #[.string s, .int .i64 0, .int .i64 0, .int .i64 0, .int .i64 0] 74)) (gives o w.heap.size j) j g pd m n su t E ck := h.kept (fun k hk _ => b1.block k hk) (fun _ hk => gives_old hk)
  obtain ⟨w', hr, h2, s2⟩ := h1.putNew (Pl.new k s) w.heap.size hk (At.new w _ _) (gives_new (Nat.le_refl _)) (fun e he => Nat.ne_of_lt (h.hb e he).lt)
  exact ⟨w', hr, h2, (stp_giveNew b1 o j j).trans s2⟩
set_option maxRecDepth 100000 in
set_option maxHeartbeats 4000000 in
theorem pfetch_room (h : IsE w o j g pd m n su t E ck) (D : IsD w o q pd S Ws) (hqj : q ≠ j) (k : Nat) (s : ByteArray) (hs : S[k]? = some s) (herr : errOf (rawAt Ws k s) = 0) (hk : ∀ e ∈ E, e.a.page ≠ k) (hn : E.length ≠ n) :
    Calls Tryz.prog 46 #[.pointer (some ⟨g, 0, none⟩), .int .i64 (k : Int)] w fun x w' => x = .returned (.int .i64 0) ∧ ∃ o' b id ck', IsE w' o' j g pd m n su t (E ++ [(⟨Pl.new k (readOf (rawAt Ws k s)), b, id⟩ : En)]) ck' ∧ IsD w' o' q pd S Ws ∧ Moves (Two j q) o w o' w' := by
  have CR := Lib.hid (d_read D k s hs)
  rw [herr] at CR
  have c0 : w.cell? ⟨g, 0, none⟩ = some (.pointer (some ⟨pd, 0, none⟩)) := h.hp.cell 0
  have HH := Lib.hid h; have HD := Lib.hid D
  obtain ⟨bd, hbd⟩ : ∃ bd, readOf (rawAt Ws k s) = bd := ⟨_, rfl⟩
  rw [hbd] at CR
  have HBD := Lib.hid hbd
  clear h D hs herr hbd
  generalize hX : readOf (rawAt Ws k s) = bX
  obtain rfl : bX = bd := hX.symm.trans HBD.out
  clear hX HBD
  go_enter Tryz.func46, Tryz.ntmps46
  go_wp2_with fail
  refine CR.out.mono ?_; rintro x w1 ⟨rfl, b1⟩
  have h1 := HH.out.reads b1
  have D1 := HD.out.reads b1
  have c1 : ∀ nn, (w1.drewN nn).cell? ⟨g, 1, none⟩ = some (.int .i64 (n : Int)) := fun nn => h1.hp.cell 1
  have c2 : ∀ nn, (w1.drewN nn).cell? ⟨g, 2, none⟩ = some (.map (some m)) := fun nn => h1.hp.cell 2
  have ln : ∀ nn, (Builtin.len_ #[61] 3 #[.map (some m)]).run Tryz.prog (w1.drewN nn) = .ok (.int .i64 (E.length : Int)) (w1.drewN nn) := fun nn => (h1.reads (below_drew w1 nn)).lenMap _
  have hne : ((E.length : Int) == (n : Int)) = false := by rw [beq_eq_false_iff_ne]; omega
  have HB1 := Lib.hid b1; have H1 := Lib.hid h1; have HD1 := Lib.hid D1
  clear b1 h1 D1 CR c0 HH HD
  generalize (E.length : Int) = ll at *
  go_upto_region 4 with fail
  go_quiet (fail)
  have E4 := H1.out.reads (below_drew w1 nq)
  have D4 := HD1.out.reads (below_drew w1 nq)
  have M4 : Moves (Two j q) o w o (w1.drewN nq) := Moves.of (.inl rfl) (Stp.ofBelow (HB1.out.trans ((below_drew w1 nq).mono HB1.out.size)) o j)
  clear c1 c2 ln
  generalize w1.drewN nq = W5 at *
  obtain ⟨W6, hr6, E6, S6⟩ := IsE.fresh E4 k hk bX
  have q2 : W5.cell? ⟨g, 2, none⟩ = some (.map (some m)) := E4.hp.cell 2
  have HE6 := Lib.hid E6; have HS6 := Lib.hid S6
  have HM4 := Lib.hid M4; have HD4 := Lib.hid D4
  clear M4 D4 E4 E6 S6 HB1 H1 HD1 hne
  go_wp2_with fail
  go_ret
  exact ⟨rfl, _, _, _, _, HE6.out, HD4.out.other HS6.out hqj, HM4.out.trans (Moves.of (.inl rfl) HS6.out)⟩
set_option maxRecDepth 100000 in
set_option maxHeartbeats 4000000 in
theorem pfetch_full (h : IsE w o j g pd m n su t E ck) (D : IsD w o q pd S Ws) (_hqj : q ≠ j) (k : Nat) (s : ByteArray) (hs : S[k]? = some s) (herr : errOf (rawAt Ws k s) = 0) (_hk : ∀ e ∈ E, e.a.page ≠ k) (hn : E.length = n) (hl : E.length ≤ 1000) (hpg : ∀ e ∈ E, e.a.page ≤ 1000000) (hne : E ≠ []) (hno : ∀ e ∈ E, e.a.goes su = false) :
    Calls Tryz.prog 46 #[.pointer (some ⟨g, 0, none⟩), .int .i64 (k : Int)] w fun x w' => x = .returned (.int .i64 6) ∧ Below w.heap.size w w' := by
  have CR := Lib.hid (d_read D k s hs)
  rw [herr] at CR
  have c0 : w.cell? ⟨g, 0, none⟩ = some (.pointer (some ⟨pd, 0, none⟩)) := h.hp.cell 0
  have HH := Lib.hid h; have HD := Lib.hid D
  obtain ⟨bd, hbd⟩ : ∃ bd, readOf (rawAt Ws k s) = bd := ⟨_, rfl⟩
  rw [hbd] at CR
  have HBD := Lib.hid hbd
  clear h D hs herr hbd
  go_enter Tryz.func46, Tryz.ntmps46
  go_wp2_with fail
  refine CR.out.mono ?_; rintro x w1 ⟨rfl, b1⟩
  have h1 := HH.out.reads b1
  have D1 := HD.out.reads b1
  have c1 : w1.drew.cell? ⟨g, 1, none⟩ = some (.int .i64 (n : Int)) := h1.hp.cell 1
  have c2 : w1.drew.cell? ⟨g, 2, none⟩ = some (.map (some m)) := h1.hp.cell 2
  have ln : (Builtin.len_ #[61] 3 #[.map (some m)]).run Tryz.prog w1.drew = .ok (.int .i64 (E.length : Int)) w1.drew := h1.drew.lenMap _
  have hne2 : ((E.length : Int) == (n : Int)) = true := by rw [hn]; simp
  have CM := Lib.hid (fun nn => proom_no (h1.reads (below_drew w1 nn)) hne hl hpg hno)
  have HB1 := Lib.hid b1
  clear b1 h1 D1 CR c0 HH HD hno hpg hl HBD
  generalize (E.length : Int) = ll at *
  go_upto_region 4 with fail
  go_still_tail 12, (by kernel_rfl)
  change wpList _ _ _ _ _ w1.drew
  go_wp2_with fail
  refine (CM.out 1).mono ?_; rintro x w2 ⟨rfl, b2⟩
  have HB2 := Lib.hid (HB1.out.trans ((below_drew w1 1).mono HB1.out.size |>.trans (b2.mono HB1.out.size)))
  clear b2 c1 c2 ln CM
  go_wp2_with fail
  go_ret
  exact ⟨rfl, HB2.out⟩
set_option maxRecDepth 100000 in
set_option maxHeartbeats 4000000 in
theorem pfetch_swap (h : IsE w o j g pd m n su t E ck) (D : IsD w o q pd S Ws) (hqj : q ≠ j) (k : Nat) (s : ByteArray) (hs : S[k]? = some s) (herr : errOf (rawAt Ws k s) = 0) (hk : ∀ e ∈ E, e.a.page ≠ k) (hn : E.length = n) (hl : E.length ≤ 1000) (hpg : ∀ e ∈ E, e.a.page < S.length) (hbs : ∀ e ∈ E, e.a.body.size ≤ 252) (hW : Ws.length ≤ 50000) {L : List Pl} (hL : L.Perm (E.map (·.a))) (age : L.Pairwise (fun a b => a.pinned < b.pinned)) {a : Pl} (ha : L.find? (Pl.goes su) = some a) :
    Calls Tryz.prog 46 #[.pointer (some ⟨g, 0, none⟩), .int .i64 (k : Int)] w fun x w' => x = .returned (.int .i64 0) ∧ ∃ o' b id ck', IsE w' o' j g pd m n su t (cutE E a.page ++ [(⟨Pl.new k (readOf (rawAt Ws k s)), b, id⟩ : En)]) ck' ∧ IsD w' o' q pd S (Ws ++ if a.dirty then [(a.page, pageOf a.body)] else []) ∧ Moves (Two j q) o w o' w' := by
  have CR := Lib.hid (d_read D k s hs)
  rw [herr] at CR
  have c0 : w.cell? ⟨g, 0, none⟩ = some (.pointer (some ⟨pd, 0, none⟩)) := h.hp.cell 0
  have HH := Lib.hid h; have HD := Lib.hid D
  obtain ⟨bd, hbd⟩ : ∃ bd, readOf (rawAt Ws k s) = bd := ⟨_, rfl⟩
  rw [hbd] at CR
  have HBD := Lib.hid hbd
  clear h D hs herr hbd
  generalize hX : readOf (rawAt Ws k s) = bX
  obtain rfl : bX = bd := hX.symm.trans HBD.out
  clear hX HBD
  have CM := Lib.hid (fun (W : World) (h : IsE W o j g pd m n su t E ck) (D : IsD W o q pd S Ws) => proom_yes h D hqj hl hpg hbs hW hL age ha)
  generalize hWX : (Ws ++ if a.dirty then [(a.page, pageOf a.body)] else []) = WX
  rw [hWX] at CM
  clear hWX hl hpg hbs hW hL age ha
  go_enter Tryz.func46, Tryz.ntmps46
  go_wp2_with fail
  refine CR.out.mono ?_; rintro x w1 ⟨rfl, b1⟩
  have h1 := HH.out.reads b1
  have D1 := HD.out.reads b1
  have c1 : w1.drew.cell? ⟨g, 1, none⟩ = some (.int .i64 (n : Int)) := h1.hp.cell 1
  have c2 : w1.drew.cell? ⟨g, 2, none⟩ = some (.map (some m)) := h1.hp.cell 2
  have ln : (Builtin.len_ #[61] 3 #[.map (some m)]).run Tryz.prog w1.drew = .ok (.int .i64 (E.length : Int)) w1.drew := h1.drew.lenMap _
  have hne2 : ((E.length : Int) == (n : Int)) = true := by rw [hn]; simp
  have hkc : ∀ e ∈ cutE E (a.page : Int), e.a.page ≠ k := fun e he => hk e (List.mem_filter.1 he).1
  have CM1 := Lib.hid (CM.out w1.drew h1.drew D1.drew)
  have HB1 := Lib.hid b1
  clear b1 h1 D1 CR c0 HH HD CM
  generalize (E.length : Int) = ll at *
  go_upto_region 4 with fail
  go_still_tail 12, (by kernel_rfl)
  change wpList _ _ _ _ _ w1.drew
  go_wp2_with fail
  refine CM1.out.mono ?_; rintro x W5 ⟨rfl, o5, E5, D5, M5⟩
  obtain ⟨W6, hr6, E6, S6⟩ := IsE.fresh E5 k hkc bX
  have q2 : W5.cell? ⟨g, 2, none⟩ = some (.map (some m)) := E5.hp.cell 2
  have HE6 := Lib.hid E6; have HS6 := Lib.hid S6
  have HM5 := Lib.hid ((Moves.of (.inl rfl) (Stp.ofBelow (HB1.out.trans ((below_drew w1 1).mono HB1.out.size)) o j)).trans M5); have HD5 := Lib.hid D5
  clear M5 D5 E5 E6 S6 HB1 CM1 hne2 c1 c2 ln
  go_wp2_with fail
  go_ret
  exact ⟨rfl, _, _, _, _, HE6.out, HD5.out.other HS6.out hqj, HM5.out.trans (Moves.of (.inl rfl) HS6.out)⟩
end
end Go.Proofs.YthjlbfijfpfohaaGreat
