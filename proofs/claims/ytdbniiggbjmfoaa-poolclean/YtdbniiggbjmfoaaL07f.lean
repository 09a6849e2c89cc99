/-
  PoolClean, walked.
-/
import Derived.Test.YtdbniiggbjmfoaaL07e
namespace Go.Proofs.Ytdbniiggbjmfoaa
open Go.RowKit Go.MapKept

theorem cut7c (x : ByteArray) : ∃ k : Nat, min (x.size : Int) 252 = (k : Int) ∧ k ≤ x.size ∧ k ≤ 252 ∧ (x.extract 0 k).size ≤ 252 := by
  by_cases h : x.size ≤ 252
  · exact ⟨x.size, by omega, by omega, by omega, by rw [ByteArray.size_extract]; omega⟩
  · exact ⟨252, by omega, by omega, by omega, by rw [ByteArray.size_extract]; omega⟩
/-- a pool, and a row of texts beside it -/
structure HasSt (w0 w : World) (o : Nat → Nat) (pd g hb : Nat) (S : List ByteArray) (Ws : Wrs) (p : PoolP) (c : Nat) (f : Nat → ByteArray) : Prop where
  P : PD w o 1 pd 2 g S Ws p c
  Z : Since w0 o w
  H : At w hb (hasV f) 9
  oh : o hb = 4
section
variable {w0 w w' : World} {o o' : Nat → Nat} {pd g hb c c' : Nat} {S : List ByteArray} {Ws Ws' : Wrs} {p p' : PoolP} {f : Nat → ByteArray}
theorem HasSt.call (s : HasSt w0 w o pd g hb S Ws p c f) (M : Moves (Two 2 1) o w o' w') (P' : PD w' o' 1 pd 2 g S Ws' p' c') : HasSt w0 w' o' pd g hb S Ws' p' c' f :=
  ⟨P', s.Z.moves M two0, (s.H.moves s.oh M two4).1, (s.H.moves s.oh M two4).2⟩
theorem HasSt.reads (s : HasSt w0 w o pd g hb S Ws p c f) (b : Below w.heap.size w w') : HasSt w0 w' o pd g hb S Ws p c f := ⟨s.P.reads b, s.Z.reads b, s.H.reads b, s.oh⟩
theorem HasSt.putH (s : HasSt w0 w o pd g hb S Ws p c f) (k : Nat) (v : ByteArray) : HasSt w0 (w.setCell ⟨hb, k, none⟩ (.string v)) o pd g hb S Ws p c (fun i => if i = k then v else f i) := by
  have st := Stp.setCell o 4 w hb k (.string v) s.oh
  have M : Moves (fun i => i = 4) o w o (w.setCell ⟨hb, k, none⟩ (.string v)) := Moves.of rfl st
  refine ⟨s.P.moves M (by decide) (by decide), s.Z.step st (by decide), ?_, s.oh⟩
  rw [← hasV_set]; exact s.H.set k _
theorem HasSt.box (s : HasSt w0 w o pd g hb S Ws p c f) (x : Obj) : ∃ o', HasSt w0 (w.alloc x) o' pd g hb S Ws p c f ∧ o' w.heap.size = 3 := by
  have b : Below w.heap.size w (w.alloc x) := (Below.refl _ w).alloc (Nat.le_refl _) _
  have st := stp_giveNew b o 3 3
  have M : Moves (fun i => i = 3) o w (gives o w.heap.size 3) (w.alloc x) := Moves.of rfl st
  exact ⟨_, ⟨s.P.moves M (by decide) (by decide), s.Z.step st (by decide), (s.H.moves s.oh M (by decide)).1, (s.H.moves s.oh M (by decide)).2⟩, gives_new (Nat.le_refl _)⟩
theorem HasSt.later (s : HasSt w0 w o pd g hb S Ws p c f) : HasSt w0 w o pd g hb S Ws p (c + 1) f := ⟨s.P.later, s.Z, s.H, s.oh⟩
theorem HasSt.made (P : PD w o 1 pd 2 g S Ws p c) (Z : Since w0 o w) : ∃ o', HasSt w0 (w.alloc (.cells (hasV f) 9)) o' pd g w.heap.size S Ws p c f := by
  have b : Below w.heap.size w (w.alloc (.cells (hasV f) 9)) := (Below.refl _ w).alloc (Nat.le_refl _) _
  have st := stp_giveNew b o 4 4
  have M : Moves (fun i => i = 4) o w (gives o w.heap.size 4) (w.alloc (.cells (hasV f) 9)) := Moves.of rfl st
  exact ⟨_, ⟨P.moves M (by decide) (by decide), Z.step st (by decide), At.new w _ _, gives_new (Nat.le_refl _)⟩⟩
end
/-- what a row has of the pages -/
def Knows (S : List ByteArray) (Ws : Wrs) (p : PoolP) (f : Nat → ByteArray) : Prop := ∀ k, k < 8 → f k = ⟨#[]⟩ ∨ f k = content S Ws p k
theorem sureL_content (S : List ByteArray) (Ws : Wrs) (p : PoolP) (l : Int) (k : Nat) : content S Ws (sureL p l) k = content S Ws p k := rfl
theorem text_some7 (s : ByteArray) (h : s.size ≠ 0) : ¬ s.toList = [] := fun e => by
  rw [Lib.toList_data] at e
  exact h (by rw [Lib.size_eq, e]; rfl)
theorem text_some7b (s : ByteArray) (h : s.size ≠ 0) : s.toList.isEmpty = false := by
  cases hl : s.toList with
  | nil => exact absurd hl (text_some7 s h)
  | cons a l => rfl
/-- where something stays dirty, a number is above 2^62 -/
theorem more_of {S : List ByteArray} {Ws : Wrs} {p : PoolP} {zs : List OpP} (h : PI S Ws p) (hs : p.sure = 4611686018427387904) (hL : LastIn (fun l => ∃ x ∈ zs, x.n = l) p) (hd : dirtyI (cleanL p).L ≠ []) : moreB zs = true := by
  cases hm : moreB zs with
  | true => rfl
  | false =>
    refine absurd ((dirtyI_none (pi_clean h).I.nd).2 (all_clean h (fun a ha _ => ?_))) hd
    rcases hL a ha with h0 | ⟨x, hx, h1⟩
    · omega
    · unfold moreB at hm
      rw [List.any_eq_false] at hm
      have := hm x hx
      simp at this
      omega
set_option maxRecDepth 100000 in
set_option maxHeartbeats 8000000 in
theorem walk_PoolClean (places : Int) (_h0 : (Lit.int .i64 places).wf = true) (a : Option Addr) (len cap : Nat) (zs : List OpP) (w : World) (h : ArgOps7 w a len zs) (hlen : len ≤ maxLen) :
    Calls Try.prog 5 #[.int .i64 places, .slice a len cap] w fun e w' => e = .returned (.bool true) ∧ Below w.heap.size w w' := by
  have e7 := and7' places
  obtain ⟨r, hr⟩ : ∃ r, pg8 places = r := ⟨_, rfl⟩
  have hr8 := pg8_lt places
  rw [hr] at e7 hr8
  obtain ⟨n, hn⟩ : ∃ n, 1 + r = n := ⟨_, rfl⟩
  have hnI : 1 + (r : Int) = (n : Int) := by omega
  have hn1 : 1 ≤ n := by omega
  have hn8 : n ≤ 8 := by omega
  have hlen2 : (len : Int) ≤ 9223372036854775807 := by simp [maxLen] at hlen; omega
  have CN := Lib.hid fun (W : World) => dnew_ok W (fun _ => 0) 1 8 (by omega) (by omega)
  have hS : (List.replicate 8 blank).length = 8 := by simp
  have CP := Lib.hid fun (W : World) o p (D : IsD W o 1 p (List.replicate 8 blank) []) => pd_new D 2 n (by decide) hn1 (by omega)
  have CF := Lib.hid fixed7
  have HSL := Lib.hid hS
  have HA := Lib.hid h
  have CH := Lib.hid (fun (W : World) (o : Nat → Nat) (z : Since w o W) => hasMore_any W w o a len cap zs h z hlen)
  clear _h0 hr hn hS hr8 h hlen
  generalize List.replicate 8 blank = S at *
  have mk := mk_has
  go_enter Try.func5, Try.ntmps5
  go_wp2_with fail
  refine (CN.out _).mono ?_; rintro e w1 ⟨pd, o1, rfl, h1, s1⟩
  have D1 := Lib.hid h1; have Z1 := Lib.hid ((Since.start w).step s1 (by decide)); clear h1 s1 CN
  go_wp2_with fail
  refine (CP.out _ _ _ D1.out).mono ?_; rintro e w2 ⟨g, rfl, o2, h2, s2, _⟩
  have P2 := Lib.hid h2; have Z2 := Lib.hid (Z1.out.step s2 (by decide)); clear h2 s2 CP D1 Z1
  go_upto_region 8 with fail
  obtain ⟨o3, hs3⟩ := HasSt.made (f := fun _ => ⟨#[]⟩) P2.out Z2.out
  have H3 := Lib.hid hs3
  clear hs3 P2 Z2 mk
  generalize w2.alloc (.cells (hasV (fun _ => ⟨#[]⟩)) 9) = W3 at *
  generalize w2.heap.size = hb at *
  go_upto_block 0 with fail
  go_cut [10] (fun _ wx => ∃ (t : Nat) (o : Nat → Nat) (Ws : Wrs) (p : PoolP) (f : Nat → ByteArray), t ≤ 60 ∧ p.sure = 0 ∧ HasSt w wx o pd g hb S Ws p t f ∧ Knows S Ws p f ∧ LastIn (fun l => ∃ x ∈ zs, x.n = l) p)
  case first =>
   go_wp2_with fail
   go_loopw [10] (fun u wr => ∃ (t : Nat) (o : Nat → Nat) (Ws : Wrs) (p : PoolP) (f : Nat → ByteArray), t ≤ len ∧ t ≤ 60 ∧ u = .int .i64 (t : Int) ∧ p.sure = 0 ∧ HasSt w wr o pd g hb S Ws p t f ∧ Knows S Ws p f ∧ LastIn (fun l => ∃ x ∈ zs, x.n = l) p) (fun u _ => len - (intOf u).toNat)
   case atStart => exact ⟨0, _, _, _, _, by omega, by omega, rfl, rfl, H3.out, fun _ _ => .inl rfl, fun a ha => by cases ha⟩
   case round =>
     obtain ⟨t, o, Ws, p, f, ht, ht2, rfl, hsu, hS, hK, hL⟩ := hrel
     have HS := Lib.hid hS; have HSU := Lib.hid hsu; have HK := Lib.hid hK; have HLI := Lib.hid hL
     clear H3 hsu hK hL
     by_cases hc : t < len ∧ t < 60
     · obtain ⟨hc1, hc2⟩ := hc
       have c1 : (t : Int) < (len : Int) := by omega
       have c2 : (t : Int) < 60 := by omega
       have c3 : (0 : Int) ≤ (t : Int) := by omega
       obtain ⟨x, b, off, hx, rfl, k0, k1, k2, k3, x3, x4⟩ := HA.out.got hS.Z t hc1
       have HXM := Lib.hid (show ∃ y ∈ zs, y.n = x.n from ⟨x, List.mem_of_getElem? hx, rfl⟩)
       obtain ⟨xk, xp, xs, xn⟩ := x
       dsimp only at k0 k1 k2 k3 x3 x4 HXM
       have hxm2 : (xs.size : Int) ≤ 9223372036854775807 := by simp [maxLen] at x4; omega
       clear hx hS x3 x4
       go_upto_region 12 with fail
       obtain ⟨o0, hS0, oB⟩ := HS.out.box (.cells #[.int .i64 xk, .int .i64 xp, .string xs, .int .i64 xn] 31)
       have HS0 := Lib.hid hS0
       have A0 := At.new wr #[.int .i64 xk, .int .i64 xp, .string xs, .int .i64 xn] 31
       clear k0 k1 k2 k3 HS hS0
       generalize wr.alloc (.cells #[.int .i64 xk, .int .i64 xp, .string xs, .int .i64 xn] 31) = W0 at *
       generalize wr.heap.size = B at *
       have k0 : W0.cell? ⟨B, 0, none⟩ = some (.int .i64 xk) := A0.cell 0
       have k1 : W0.cell? ⟨B, 1, none⟩ = some (.int .i64 xp) := A0.cell 1
       have k2 : W0.cell? ⟨B, 2, none⟩ = some (.string xs) := A0.cell 2
       have HA0 := Lib.hid A0; have HOB := Lib.hid oB
       clear A0 oB
       have ep := and7' xp
       have hp8 := pg8_lt xp
       generalize pg8 xp = pg at *
       have q0 : (0 : Int) ≤ (pg : Int) := by omega
       have q8 : (pg : Int) < 8 := by omega
       obtain ⟨ck, ck1, ck2, ck3, ck4⟩ := cut7c xs
       have ck5 : (0 : Int) ≤ (ck : Int) := by omega
       have ck6 : (ck : Int) ≤ (xs.size : Int) := by omega
       obtain ⟨sc, hsc⟩ : ∃ s, xs.extract 0 ck = s := ⟨_, rfl⟩
       rw [hsc] at ck4
       have CA := Lib.hid (fun W => rpad252 sc W ck4)
       have hsz := padOf_size sc 252 ck4
       generalize padOf sc 252 = sp at *
       clear ck4
       have hX : xk = 0 ∨ xk = 1 ∨ xk = 2 ∨ (¬ xk = 0 ∧ ¬ xk = 1 ∧ ¬ xk = 2) := by omega
       rcases hX with rfl | rfl | rfl | ⟨x0, x1, x2⟩
       · have C := Lib.hid (pd_pin HS0.out.P (by omega) (pg : Int))
         have HK2 := Lib.hid (show Knows S (pinW S Ws p (pg : Int)) (pinL S Ws p (pg : Int)) f from fun k hk => by rw [content_pin HS0.out.P.I (pg : Int) k]; exact HK.out k hk)
         have HL2 := Lib.hid (last_pin HS0.out.P.I HLI.out (pg : Int))
         have hsu2 : (pinL S Ws p (pg : Int)).sure = 0 := by rw [show (pinL S Ws p (pg : Int)).sure = p.sure by unfold pinL; split <;> (try split) <;> (try split) <;> (try split) <;> rfl]; exact HSU.out
         have HS2 := Lib.hid hsu2
         clear hsu2
         generalize pinS S Ws p (pg : Int) = sx at *
         generalize pinE S p (pg : Int) = ex at *
         go_wp2_with fail
         refine C.out.mono ?_; rintro e w5 ⟨rfl, o5, h5, m5⟩
         have H5 := Lib.hid (HS0.out.call m5 h5)
         have j0 : w5.cell? ⟨B, 0, none⟩ = some (.int .i64 0) := (HA0.out.moves3 HOB.out m5).cell 0
         have j2 : w5.cell? ⟨B, 2, none⟩ = some (.string xs) := (HA0.out.moves3 HOB.out m5).cell 2
         have A5 := Lib.hid (HA0.out.moves3 HOB.out m5)
         clear h5 m5 C k0 k1 k2
         go_wp2_with fail
         refine (CA.out _).mono ?_; rintro e w6 ⟨rfl, b6⟩
         have H6 := Lib.hid (H5.out.reads b6)
         have l0 : w6.cell? ⟨B, 0, none⟩ = some (.int .i64 0) := (A5.out.reads b6).cell 0
         clear b6 H5 j0 j2
         go_wp2_with fail
         exact ⟨⟨t + 1, _, _, _, _, by omega, by omega, by go_num, HS2.out, H6.out, HK2.out, HL2.out⟩, by simp [intOf]; omega⟩
       · have C := Lib.hid (pd_unpin HS0.out.P (by omega) (pg : Int))
         have HK2 := Lib.hid (show Knows S Ws (unL p (pg : Int)) f from fun k hk => by rw [content_un]; exact HK.out k hk)
         have HL2 := Lib.hid (last_un HLI.out (pg : Int))
         have hsu2 : (unL p (pg : Int)).sure = 0 := by rw [show (unL p (pg : Int)).sure = p.sure by unfold unL; split <;> rfl]; exact HSU.out
         have HS2 := Lib.hid hsu2
         clear hsu2
         generalize unE p (pg : Int) = ex at *
         go_wp2_with fail
         refine C.out.mono ?_; rintro e w5 ⟨rfl, o5, h5, m5⟩
         have H5 := Lib.hid (HS0.out.call m5 h5)
         have j0 : w5.cell? ⟨B, 0, none⟩ = some (.int .i64 1) := (HA0.out.moves3 HOB.out m5).cell 0
         have j2 : w5.cell? ⟨B, 2, none⟩ = some (.string xs) := (HA0.out.moves3 HOB.out m5).cell 2
         have A5 := Lib.hid (HA0.out.moves3 HOB.out m5)
         clear h5 m5 C k0 k1 k2
         go_wp2_with fail
         refine (CA.out _).mono ?_; rintro e w6 ⟨rfl, b6⟩
         have H6 := Lib.hid (H5.out.reads b6)
         have l0 : w6.cell? ⟨B, 0, none⟩ = some (.int .i64 1) := (A5.out.reads b6).cell 0
         clear b6 H5 j0 j2
         go_wp2_with fail
         exact ⟨⟨t + 1, _, _, _, _, by omega, by omega, by go_num, HS2.out, H6.out, HK2.out, HL2.out⟩, by simp [intOf]; omega⟩
       · go_wp2_with fail
         refine (CA.out _).mono ?_; rintro e w6 ⟨rfl, b6⟩
         have H6 := Lib.hid (HS0.out.reads b6)
         have l0 : w6.cell? ⟨B, 0, none⟩ = some (.int .i64 2) := (HA0.out.reads b6).cell 0
         have l3 : w6.cell? ⟨B, 3, none⟩ = some (.int .i64 xn) := (HA0.out.reads b6).cell 3
         clear b6 k0 k1 k2
         have C := Lib.hid (pd_put H6.out.P (pg : Int) sp xn)
         have HL2 := Lib.hid (last_put HLI.out (pg : Int) sp xn HXM.out)
         have hsu2 : (putL p (pg : Int) sp xn).sure = 0 := by rw [show (putL p (pg : Int) sp xn).sure = p.sure by unfold putL; split <;> rfl]; exact HSU.out
         have HS2 := Lib.hid hsu2
         clear hsu2
         by_cases hE : putE p (pg : Int) sp xn = 0
         · rw [hE] at C
           have HCN := Lib.hid (fun k => content_put (S := S) (Ws := Ws) (p := p) pg sp xn hE k)
           rw [pad_full sp hsz] at HCN
           have HK2 := Lib.hid (show Knows S Ws (putL p (pg : Int) sp xn) (fun i => if i = pg then sp else f i) from fun k hk => by
             rw [HCN.out k]
             by_cases e : k = pg
             · simp only [e, if_true]; exact .inr trivial
             · simp only [e, if_false]; exact HK.out k hk)
           clear hE
           go_wp2_with fail
           refine C.out.mono ?_; rintro e w5 ⟨rfl, o5, h5, m5⟩
           have H5 := Lib.hid (H6.out.call m5 h5)
           have d5 := (H5.out.H.cell pg).trans (hasV_get _ pg hp8)
           have z5 := H5.out.H.fz pg
           have H7 := Lib.hid (H5.out.putH pg sp)
           clear h5 m5 C
           go_wp2_with fail
           exact ⟨⟨t + 1, _, _, _, _, by omega, by omega, by go_num, HS2.out, H7.out, HK2.out, HL2.out⟩, by simp [intOf]; omega⟩
         · have e1 : putL p (pg : Int) sp xn = p := putL_no hE
           rw [e1] at C
           generalize putE p (pg : Int) sp xn = ex at *
           have hx1 : (ex == 0) = false := by rw [beq_eq_false_iff_ne]; exact hE
           clear e1 hE
           go_wp2_with fail
           refine C.out.mono ?_; rintro e w5 ⟨rfl, o5, h5, m5⟩
           have H5 := Lib.hid (H6.out.call m5 h5)
           clear h5 m5 C
           go_wp2_with fail
           exact ⟨⟨t + 1, _, _, _, _, by omega, by omega, by go_num, HSU.out, H5.out, HK.out, HLI.out⟩, by simp [intOf]; omega⟩
       · have y0 : (xk == 0) = false := by rw [beq_eq_false_iff_ne]; exact x0
         have y1 : (xk == 1) = false := by rw [beq_eq_false_iff_ne]; exact x1
         have y2 : (xk == 2) = false := by rw [beq_eq_false_iff_ne]; exact x2
         clear x0 x1 x2
         go_wp2_with fail
         refine (CA.out _).mono ?_; rintro e w6 ⟨rfl, b6⟩
         have H6 := Lib.hid (HS0.out.reads b6)
         have l0 : w6.cell? ⟨B, 0, none⟩ = some (.int .i64 xk) := (HA0.out.reads b6).cell 0
         clear b6 k0 k1 k2
         go_wp2_with fail
         exact ⟨⟨t + 1, _, _, _, _, by omega, by omega, by go_num, HSU.out, H6.out.later, HK.out, HLI.out⟩, by simp [intOf]; omega⟩
     · clear hS
       by_cases hc1 : t < len
       · have c1 : (t : Int) < (len : Int) := by omega
         have c4 : ¬ (t : Int) < 60 := by omega
         clear hc
         go_wp2_with fail
         go_meet
         exact ⟨t, _, _, _, _, ht2, HSU.out, HS.out, HK.out, HLI.out⟩
       · have c1 : ¬ (t : Int) < (len : Int) := by omega
         clear hc
         go_wp2_with fail
         go_meet
         exact ⟨t, _, _, _, _, ht2, HSU.out, HS.out, HK.out, HLI.out⟩
  case rest =>
    obtain ⟨t, o, Ws, p, f, ht2, hsu, hS, hK, hL⟩ := hcut
    have HS := Lib.hid hS; have HSU := Lib.hid hsu; have HK := Lib.hid hK; have HLI := Lib.hid hL
    have C1 := Lib.hid (pd_dirty hS.P)
    clear H3 hsu hK hL hS HA
    go_wp2_with fail
    refine C1.out.mono ?_; rintro e w5 ⟨v5, rfl, i5, _, b5⟩
    obtain ⟨va, vC, rfl⟩ := i5.len
    obtain ⟨dn, hdn⟩ : ∃ x, (dirtyI p.L).length = x := ⟨_, rfl⟩
    rw [hdn]
    have HDN := Lib.hid hdn
    have H5 := Lib.hid (HS.out.reads b5)
    have C2 := Lib.hid (pd_sure H5.out.P 4611686018427387904)
    clear i5 b5 C1 hdn HS
    go_wp2_with fail
    refine C2.out.mono ?_; rintro e w6 ⟨rfl, o6, h6, m6⟩
    have H6 := Lib.hid (H5.out.call m6 h6)
    have hs6 : (sureL p 4611686018427387904).sure = 4611686018427387904 := by show max p.sure 4611686018427387904 = _; rw [HSU.out]; rfl
    have HS6 := Lib.hid hs6
    have HK6 := Lib.hid (show Knows S Ws (sureL p 4611686018427387904) f from HK.out)
    have HL6 := Lib.hid (show LastIn (fun l => ∃ x ∈ zs, x.n = l) (sureL p 4611686018427387904) from HLI.out)
    have HDN6 := Lib.hid (show (dirtyI (sureL p 4611686018427387904).L).length = dn from HDN.out)
    clear h6 m6 C2 hs6 H5 HK HLI HDN HSU
    generalize sureL p 4611686018427387904 = p6 at *
    have C3 := Lib.hid (pd_clean H6.out.P (by omega))
    have hcn : (cleanI p6.L p6.sure).length ≤ dn := by rw [← HDN6.out]; exact cleanI_dirty _ _
    generalize (cleanI p6.L p6.sure).length = cn at *
    have hcn' : ¬ (dn : Int) < (cn : Int) := by omega
    have hcn3 : decide (dn < cn) = false := decide_eq_false (by omega)
    have hdn0 : (0 : Int) ≤ (dn : Int) := by omega
    have hdn1 : ¬ (dn : Int) < 0 := by omega
    go_wp2_with fail
    refine C3.out.mono ?_; rintro e w7 ⟨rfl, o7, h7, m7⟩
    have H7 := Lib.hid (H6.out.call m7 h7)
    have HK7 := Lib.hid (show Knows S (cleanW Ws p6) (cleanL p6) f from fun k hk => by rw [content_clean H6.out.P.I k]; exact HK6.out k hk)
    have C4 := Lib.hid (pd_dirty H7.out.P)
    have HI6 := Lib.hid H6.out.P.I
    clear h7 m7 C3 H6 HK6
    go_wp2_with fail
    refine C4.out.mono ?_; rintro e w8 ⟨v8, rfl, i8, _, b8⟩
    obtain ⟨va8, vC8, rfl⟩ := i8.len
    have H8 := Lib.hid (H7.out.reads b8)
    clear i8 b8 C4 H7
    by_cases hA : dirtyI (cleanL p6).L = []
    · have hall := (dirtyI_none H8.out.P.I.I.nd).1 hA
      obtain ⟨ln, hln⟩ : ∃ x, (dirtyI (cleanL p6).L).length = x := ⟨_, rfl⟩
      have hln0 : ln = 0 := by rw [← hln, hA]; rfl
      rw [hln]
      have hl1 : ((ln : Int) == 0) = true := by rw [hln0]; rfl
      have hl2 : ((ln : Int) != 0) = false := by rw [hln0]; rfl
      have HALL := Lib.hid hall
      clear hA hall hln0 hln
      go_wp2_with fail
      go_loopw [16] (fun u wr => ∃ (k : Nat) (o : Nat → Nat), k ≤ 8 ∧ u = .int .i64 (k : Int) ∧ HasSt w wr o pd g hb S (cleanW Ws p6) (cleanL p6) (t + 1 + 1) f) (fun u _ => 8 - (intOf u).toNat)
      case atStart => exact ⟨0, _, by omega, rfl, H8.out⟩
      case round =>
        obtain ⟨k, o9, hk, rfl, h9⟩ := hrel
        have H9 := Lib.hid h9
        clear h9 H8
        by_cases hlt : k < 8
        · have hlt' : (k : Int) < 8 := by omega
          have hk0 : (0 : Int) ≤ (k : Int) := by omega
          have hkS : k < S.length := by rw [HSL.out]; exact hlt
          have hs : S[k]? = some S[k] := List.getElem?_eq_getElem hkS
          have CR := d_read H9.out.P.D k _ hs
          have hb2 := H9.out.P.I.siz k hkS
          rw [H9.out.P.I.err k _ hs, ← bodyAt_of (Ws := cleanW Ws p6) hs] at CR
          have hdh := disk_has H9.out.P.I HALL.out k
          have hkn := HK7.out k hlt
          rw [← hdh] at hkn
          generalize bodyAt S (cleanW Ws p6) k = bk at *
          have HCR := Lib.hid CR
          clear CR hs hdh
          go_wp2_with fail
          refine HCR.out.mono ?_; rintro e w10 ⟨rfl, b10⟩
          have H10 := Lib.hid (H9.out.reads b10)
          have d10 := (H10.out.H.cell k).trans (hasV_get _ k hlt)
          clear b10 HCR H9
          rcases hkn with hkn | hkn
          · rw [hkn] at d10
            clear hkn
            go_wp2_with fail
            exact ⟨⟨k + 1, _, by omega, by go_num, H10.out⟩, by simp [intOf]; omega⟩
          · rw [hkn] at d10
            have t1 := text_some7 bk (by omega)
            have t2 := text_some7b bk (by omega)
            have hss : (bk.toList == bk.toList) = true := by simp
            have hss2 : (bk.toList != bk.toList) = false := by simp
            clear hkn hb2
            go_wp2_with fail
            exact ⟨⟨k + 1, _, by omega, by go_num, H10.out⟩, by simp [intOf]; omega⟩
        · have hge : (8 : Int) ≤ (k : Int) := by omega
          have C5 := Lib.hid (pd_least H9.out.P)
          clear hlt hk
          go_wp2_with fail
          refine C5.out.mono ?_; rintro e w11 ⟨y, rfl, hy, _, b11⟩
          obtain rfl := least_none hy HALL.out
          have Z11 := Lib.hid (H9.out.Z.reads b11)
          clear hy b11 C5 H9
          go_wp2_with fail
          refine (CF.out _).mono ?_; rintro e w12 ⟨rfl, b12⟩
          have Z12 := Lib.hid (Z11.out.reads b12)
          clear b12
          go_wp2_with fail
          go_ret
          exact ⟨by simp, Z12.out.bel⟩
    · have hmore := more_of HI6.out HS6.out HL6.out hA
      obtain ⟨ln, hln⟩ : ∃ x, (dirtyI (cleanL p6).L).length = x := ⟨_, rfl⟩
      have hln0 : ln ≠ 0 := fun e => hA (List.eq_nil_of_length_eq_zero (by rw [hln, e]))
      rw [hln]
      have hl1 : ((ln : Int) == 0) = false := by rw [beq_eq_false_iff_ne]; omega
      have hl2 : ((ln : Int) != 0) = true := by simp; omega
      rw [hmore] at CH
      clear hA hmore hln hln0
      have C5 := Lib.hid (pd_least H8.out.P)
      go_wp2_with fail
      go_loopw [16] (fun u wr => u = .int .i64 0 ∧ wr = w8) (fun _ _ => 0)
      case atStart => exact ⟨rfl, rfl⟩
      case round =>
        obtain ⟨rfl, rfl⟩ := hrel
        go_wp2_with fail
        refine C5.out.mono ?_; rintro e w11 ⟨y, rfl, hy, _, b11⟩
        have Z11 := Lib.hid (H8.out.Z.reads b11)
        generalize decide (0 < y) = yb at *
        clear hy b11 C5
        go_wp2_with fail
        refine (CH.out _ _ Z11.out).mono ?_; rintro e w12 ⟨rfl, b12⟩
        have Z12 := Lib.hid (Z11.out.reads b12)
        clear b12 CH
        go_wp2_with fail
        refine (CF.out _).mono ?_; rintro e w13 ⟨rfl, b13⟩
        have Z13 := Lib.hid (Z12.out.reads b13)
        clear b13
        go_wp2_with fail
        go_ret
        exact ⟨by simp, Z13.out.bel⟩
end Go.Proofs.Ytdbniiggbjmfoaa
