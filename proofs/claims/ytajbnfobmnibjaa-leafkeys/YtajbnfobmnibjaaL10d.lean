/-
  LeafKeys, walked.
-/
import Derived.Test.YtajbnfobmnibjaaC10e
import Derived.BigRegion
import Derived.Deep.RegionHeld3
namespace Go.Proofs.Ytajbnfobmnibjaa
open Go.RowKit

theorem butK_perm {H l : Prs} (h : H.Perm l) (k : ByteArray) : (butK H k).Perm (butK l k) := h.filter _
theorem keys_put {l : LfP} {H : Prs} {k v : ByteArray} (hr : rightL l = true) (hh : l.high = noB) (hp : H.Perm l.pairs) :
    (putE l k v = 0 ∧ keyB k = true ∧ valB v = true ∧ rightL (putL l k v) = true ∧ (putL l k v).high = noB ∧ (butK H k ++ [(k, v)]).Perm (putL l k v).pairs) ∨ putE l k v = 6 ∨ (putE l k v = 1 ∧ (keyB k = false ∨ valB v = false)) := by
  cases hok : putOk l k v with
  | true =>
    obtain ⟨_, h2, h3, _⟩ := putOk_iff.1 hok
    by_cases hw : wgt (putPl l.pairs k v) ≤ 231
    · obtain ⟨e1, e2, e3⟩ := putL_yes hok hw
      refine .inl ⟨e2, h2, h3, e3, by rw [e1]; exact hh, ?_⟩
      rw [e1]
      exact ((butK_perm hp k).append_right _).trans (putPl_perm (rightL_rise hr) k v).symm
    · exact .inr (.inl (putL_full hok hw).2)
  | false =>
    refine .inr (.inr ⟨(putL_no hok).2, ?_⟩)
    cases hk : keyB k with
    | false => exact .inl rfl
    | true =>
      cases hv : valB v with
      | false => exact .inr rfl
      | true =>
        have : putOk l k v = true := putOk_iff.2 ⟨hr, hk, hv, .inl hh⟩
        rw [hok] at this; cases this
theorem keys_del {l : LfP} {H : Prs} {k : ByteArray} (hr : rightL l = true) (hh : l.high = noB) (hp : H.Perm l.pairs) :
    (delE l k = 0 ∧ (butK H k).length < H.length ∧ rightL (delL l k) = true ∧ (delL l k).high = noB ∧ (butK H k).Perm (delL l k).pairs) ∨ (delE l k = 7 ∧ ¬ (butK H k).length < H.length ∧ (butK H k).Perm l.pairs) := by
  have hri := rightL_rise hr
  have h1 := (butK_perm hp k).length_eq
  have h2 := hp.length_eq
  cases hn : hasN l.pairs k with
  | true =>
    obtain ⟨e1, e2, e3⟩ := delL_yes hr hn
    refine .inl ⟨e2, ?_, e3, by rw [e1]; exact hh, by rw [e1]; exact butK_perm hp k⟩
    rw [h1, h2]; exact (butK_len hri k).2 hn
  | false =>
    refine .inr ⟨(delL_none hr hn).2, ?_, ?_⟩
    · rw [h1, h2]; intro h; rw [(butK_len hri k).1 h] at hn; cases hn
    · have := butK_perm hp k
      rwa [butK_no hri hn] at this
/-- texts that came in -/
def TAt10 (w : World) (a : Option Addr) (ss : List ByteArray) : Prop := ∀ (i : Nat) (s : ByteArray), ss[i]? = some s → ∃ b off, a = some ⟨b, off, none⟩ ∧ w.cell? ⟨b, off + i, none⟩ = some (.string s)
theorem TAt10.below {w w' : World} {a : Option Addr} {ss : List ByteArray} (h : TAt10 w a ss) (b : Below w.heap.size w w') : TAt10 w' a ss := fun i s hs => by
  obtain ⟨g, off, e, c⟩ := h i s hs
  exact ⟨g, off, e, (b.cell (p := ⟨g, off + i, none⟩) (World.block_lt_of_cell? _ _ c)).trans c⟩
theorem tAt_strs {w : World} {a : Option Addr} {len : Nat} {ss : List ByteArray} (h : IsStrs w a len ss) : ss.length = len ∧ TAt10 w a ss ∧ ∀ s ∈ ss, s.size ≤ maxLen := by
  rcases h with ⟨rfl, rfl, rfl⟩ | ⟨x, rfl, hl, hc, hs⟩
  · exact ⟨rfl, fun i s h => by simp at h, fun s h => by cases h⟩
  · refine ⟨hl, fun i s hi => ?_, hs⟩
    have hlt := (List.getElem?_eq_some_iff.1 hi).1
    have h0 := hc 0 (by omega)
    have hsp := add_spot10 h0
    have hci := hc i (by omega)
    rw [List.getD_eq_getElem?_getD, hi, Option.getD_some, add_none10 hsp] at hci
    obtain ⟨b, o, sp⟩ := x
    simp at hsp
    subst hsp
    exact ⟨b, o, rfl, hci⟩
/-- the law at work: the leaf in its box, and the pairs that it should have -/
structure InK (w0 w : World) (B : Nat) (a : Option Addr) (C : Nat) (l : LfP) (v : Value) (H : Prs) : Prop where
  x : InA w0 w B a C l
  row : OwnP w0.heap.size w v H
  right : rightL l = true
  high : l.high = noB
  perm : H.Perm l.pairs
section
variable {w0 w w' : World} {B : Nat} {a : Option Addr} {C : Nat} {l : LfP} {v : Value} {H : Prs}
theorem InK.reads (h : InK w0 w B a C l v H) (b : Below w.heap.size w w') : InK w0 w' B a C l v H := ⟨h.x.reads b, own_below h.row b, h.right, h.high, h.perm⟩
theorem InK.len (h : InK w0 w B a C l v H) : H.length ≤ 3060 := by rw [h.perm.length_eq]; exact (right_short h.right).len
/-- the leaf another one -/
theorem own_put3 {base n z : Nat} {T : TypeId} {xs : List Value} (h : w.ownsRow base T z v n xs) {x y u : Value} (hne : v.ownBlock ≠ some B) : (((w.setCell ⟨B, 0, none⟩ x).setCell ⟨B, 1, none⟩ y).setCell ⟨B, 2, none⟩ u).ownsRow base T z v n xs := own_set (own_set (own_set h hne) hne) hne
end
theorem k_all {w0 W : World} {B : Nat} {a b : Option Addr} {C D : Nat} {l : LfP} {H : Prs} (h : InA w0 W B a C l) (hH : PairsAt W b H) (hr : rightL l = true) (hp : H.Perm l.pairs) :
    Calls Try.prog 37 #[.agg #[.slice a l.pairs.length C, .string l.high, .int .i64 l.next], .slice b H.length D] W fun e w' => e = .returned (.bool true) ∧ Below W.heap.size W w' := all10 a b C D l H W h.x.pr hH hr hp
/-- a row that a call made, as what was made since -/
theorem k_without {W : World} {b : Option Addr} {D : Nat} {H : Prs} (k : ByteArray) (hH : PairsAt W b H) (hl : H.length ≤ 3060) :
    Calls Try.prog 36 #[.slice b H.length D, .string k] W fun e w' => ∃ v, e = .returned v ∧ OwnP W.heap.size w' v (butK H k) ∧ Below W.heap.size W w' := without10 b D H k W hH (by omega)
set_option maxRecDepth 100000 in
set_option maxHeartbeats 16000000 in
theorem walk_LeafKeys (P : Prs) (a0 : Option Addr) (C0 : Nat) (a1 : Option Addr) (len1 cap1 : Nat) (ss : List ByteArray) (w : World) (hP : ArgPrs w a0 P) (hT : IsStrs w a1 len1 ss) (_hl : len1 ≤ maxLen) :
    Calls Try.prog 6 #[.slice a0 P.length C0, .slice a1 len1 cap1] w fun e w' => e = .returned (.bool true) ∧ Below w.heap.size w w' := by
  obtain ⟨hsl, hTA, hTs⟩ := tAt_strs hT
  subst hsl
  have HPA := Lib.hid hP.prs; have HPS := Lib.hid hP.each; have HTA := Lib.hid hTA; have HTS := Lib.hid hTs
  have hl0 := hP.len
  unfold maxLen at *
  have q0 : (P.length : Int) ≤ 9223372036854775807 := by omega
  have q1 : (ss.length : Int) ≤ 9223372036854775807 := by omega
  have CF := Lib.hid (fun W => fixed10 W)
  have b1 := (Below.refl w.heap.size w).alloc (Nat.le_refl _) (.cells #[.slice none 0 0, .string ⟨#[]⟩, .int .i64 0] 24)
  have X1 := Bx.new (w := w) (l := zeroL) (PrAt.zero w)
  have b2 := (Below.refl (w.alloc (.cells #[.slice none 0 0, .string ⟨#[]⟩, .int .i64 0] 24)).heap.size _).alloc (Nat.le_refl _) (.cells #[] 44)
  have O2 : OwnP w.heap.size _ _ [] := own_fresh w.heap.size (w.alloc (.cells #[.slice none 0 0, .string ⟨#[]⟩, .int .i64 0] 24)) 44 2 b1.size
  have I0 := Lib.hid (show InK w ((w.alloc (.cells #[.slice none 0 0, .string ⟨#[]⟩, .int .i64 0] 24)).alloc (.cells #[] 44)) w.heap.size none 0 zeroL (.slice (some ⟨(w.alloc (.cells #[.slice none 0 0, .string ⟨#[]⟩, .int .i64 0] 24)).heap.size, 0, none⟩) 0 0) [] from
    ⟨⟨X1.reads b2, b1.trans (b2.mono b1.size), Nat.le_refl _⟩, O2, by decide, rfl, List.Perm.refl _⟩)
  rw [show (w.alloc (.cells #[.slice none 0 0, .string ⟨#[]⟩, .int .i64 0] 24)).heap.size = w.heap.size + 1 by simp] at I0
  clear b1 X1 b2 O2 hP hT hTA hTs hl0
  go_enter Try.func6, Try.ntmps6
  go_upto_region 3 with fail
  generalize (w.alloc (.cells #[.slice none 0 0, .string ⟨#[]⟩, .int .i64 0] 24)).alloc (.cells #[] 44) = W2 at *
  obtain ⟨BB, hBB⟩ : ∃ BB, w.heap.size = BB := ⟨_, rfl⟩
  rw [hBB] at I0 ⊢
  clear hBB q1
  have KG := Lib.hid (fun W (h : Below w.heap.size w W) => HPA.out.below h)
  go_upto_block 0 with fail
  go_cut [6] (fun v wx => ∃ (a : Option Addr) (C : Nat) (l : LfP) (H : Prs), InK w wx BB a C l v H)
  case first =>
    go_wp2_with fail
    go_loopw [6, 7] (fun v i wr => ∃ (k : Nat) (a : Option Addr) (C : Nat) (l : LfP) (H : Prs), k ≤ P.length ∧ k ≤ 40 ∧ i = .int .i64 (k : Int) ∧ InK w wr BB a C l v H) (fun _ i _ => P.length - (intOf i).toNat)
    case atStart => exact ⟨0, none, 0, zeroL, [], by omega, by omega, rfl, I0.out⟩
    case round =>
      obtain ⟨k, a, C, l, H, hk, hk4, rfl, hI⟩ := hrel
      have XI := Lib.hid hI
      clear hI I0
      have k0 : (0 : Int) ≤ (k : Int) := by omega
      by_cases hc : k < P.length ∧ k < 40
      · obtain ⟨hc1, hc2⟩ := hc
        have e1 : (k : Int) < (P.length : Int) := by omega
        have e2 : (k : Int) < 40 := by omega
        obtain ⟨⟨pk, pv⟩, hp⟩ : ∃ p, P[k]? = some p := ⟨_, List.getElem?_eq_getElem hc1⟩
        obtain ⟨g, off, rfl, f0, f1⟩ := KG.out _ XI.out.x.bel k _ hp
        obtain ⟨s1, s2⟩ := HPS.out _ (List.mem_of_getElem? hp)
        dsimp only at f0 f1 s1 s2
        obtain ⟨m1, r1, r2, r3, r4⟩ := cutT_at pk 40 40 rfl
        obtain ⟨m2, t1, t2, t3, t4⟩ := cutT_at pv 60 60 rfl
        have Z1 := Lib.hid (show (pk.extract 0 m1).size ≤ 40 by rw [r4]; exact cutT_size 40 pk)
        have Z2 := Lib.hid (show (pv.extract 0 m2).size ≤ 60 by rw [t4]; exact cutT_size 60 pv)
        obtain ⟨b, D, rfl, hPr, hbs⟩ := XI.out.row.prAt
        clear r4 t4 hp hPr hbs
        go_upto_region 6 with fail
        go_region
        clear f0 f1 r1 r2 r3 t1 t2 t3 s1 s2
        generalize pk.extract 0 m1 = kk at *
        generalize pv.extract 0 m2 = vv at *
        have XD := Lib.hid (XI.out.reads (show Below wr.heap.size wr wr.drew from (Below.refl _ wr).drew))
        clear XI
        generalize wr.drew = W1 at *
        have c0 := XD.out.x.x.c0; have c1 := XD.out.x.x.c1; have c2 := XD.out.x.x.c2
        have SH := Lib.hid (right_short XD.out.right)
        have KP := Lib.hid (fun W (h : Bx W BB a C l) => k_put h SH.out kk vv (by have := Z1.out; omega) (by have := Z2.out; omega))
        have K5 := Lib.hid (fun W => rkey_any kk W (by have := Z1.out; omega))
        have V5 := Lib.hid (fun W => rvalue_any vv W (by have := Z2.out; omega))
        have CS := keys_put (l := l) (H := H) (k := kk) (v := vv) XD.out.right XD.out.high XD.out.perm
        obtain ⟨M, hM⟩ : ∃ M, putL l kk vv = M := ⟨_, rfl⟩
        obtain ⟨ME, hE⟩ : ∃ e, putE l kk vv = e := ⟨_, rfl⟩
        rw [hM, hE] at CS KP
        clear hM hE
        have hBl : BB < W1.heap.size := XD.out.x.x.box.lt
        have CS := Lib.hid CS
        go_wp2_with fail
        refine (KP.out _ XD.out.x.x).mono ?_; rintro e W2 ⟨aM, CM, rfl, hM, b2⟩
        have hs2 := b2.size
        have XE := XD.out.reads b2
        have ZM := Bx.new hM
        have ba := (Below.refl W2.heap.size W2).alloc (Nat.le_refl _) (.cells #[.slice aM M.pairs.length CM, .string M.high, .int .i64 M.next] 24)
        have XF := Lib.hid (XE.reads ba)
        have ZM := Lib.hid ZM
        clear c0 c1 c2 XD XE ba hM b2
        go_upto_region 8 with fail
        generalize W2.alloc (.cells #[.slice aM M.pairs.length CM, .string M.high, .int .i64 M.next] 24) = W3 at *
        obtain ⟨BM, hBM⟩ : ∃ BM, W2.heap.size = BM := ⟨_, rfl⟩
        rw [hBM] at ZM hs2 ⊢
        clear hBM
        have d0 := ZM.out.c0; have d1 := ZM.out.c1; have d2 := ZM.out.c2
        rcases CS.out with ⟨rfl, q1, q2, q3, q4, q5⟩ | rfl | ⟨rfl, q⟩
        · rw [q1] at K5; rw [q2] at V5
          have Q3 := Lib.hid q3; have Q4 := Lib.hid q4; have Q5 := Lib.hid q5
          have c0 := XF.out.x.x.c0; have c1 := XF.out.x.x.c1; have c2 := XF.out.x.x.c2
          have z0 := XF.out.x.x.fz 0; have z1 := XF.out.x.x.fz 1; have z2 := XF.out.x.x.fz 2
          clear q1 q2 q3 q4 q5 CS
          go_wp2_with fail
          refine (K5.out _).mono ?_; rintro e W3' ⟨rfl, rfl⟩
          go_wp2_with fail
          refine (V5.out _).mono ?_; rintro e W3' ⟨rfl, rfl⟩
          go_upto_region 13 with fail
          have IA := Lib.hid (InA.put XF.out.x.x.box ZM.out.pr XF.out.x.bel XF.out.x.ge)
          have hne : (Value.slice b H.length D).ownBlock ≠ some BB := own_other XF.out.row XF.out.x.x.box (by decide)
          have RO : OwnP w.heap.size (((W3.setCell ⟨BB, 0, none⟩ (.slice aM M.pairs.length CM)).setCell ⟨BB, 1, none⟩ (.string M.high)).setCell ⟨BB, 2, none⟩ (.int .i64 M.next)) (.slice b H.length D) H := own_put3 XF.out.row hne
          have hHl := XF.out.len
          clear c0 c1 c2 z0 z1 z2 d0 d1 d2 hne XF ZM
          generalize ((W3.setCell ⟨BB, 0, none⟩ (.slice aM M.pairs.length CM)).setCell ⟨BB, 1, none⟩ (.string M.high)).setCell ⟨BB, 2, none⟩ (.int .i64 M.next) = W4 at *
          obtain ⟨b', D', he, hPr, _⟩ := RO.prAt
          injection he with he1 _ he3
          subst he1
          subst he3
          have KW := Lib.hid (k_without (D := D) kk hPr.at' hHl)
          have hBl4 : w.heap.size ≤ W4.heap.size := IA.out.bel.size
          clear RO hPr
          go_wp2_with fail
          refine KW.out.mono ?_; rintro e W5 ⟨v2, rfl, hO, b5⟩
          have hlen : (butK H kk).length ≤ 100000 := by
            have h1 : (butK H kk).length ≤ H.length := List.length_filter_le _ _
            omega
          obtain ⟨g2, C2, w6, hap, hO2, hg2⟩ := OwnP.append hO kk vv hlen b5.size
          have ba := (Below.refl W5.heap.size W5).alloc (Nat.le_refl _) (.cells #[.string kk, .string vv] 44)
          have hb6 : Below W4.heap.size W4 w6 := below_grown (own_below hO ba) (b5.trans (ba.mono b5.size)) hg2
          have IB := Lib.hid (IA.out.reads hb6)
          have c0 := IB.out.x.c0; have c1 := IB.out.x.c1; have c2 := IB.out.x.c2
          have HAP := Lib.hid hap
          have HO2 := Lib.hid (own_mono hO2 hBl4)
          have KA : Calls Try.prog 37 #[.agg #[.slice aM M.pairs.length CM, .string M.high, .int .i64 M.next], .slice (some ⟨g2, 0, none⟩) ((butK H kk).length + 1) C2] w6 fun e w' => e = .returned (.bool true) ∧ Below w6.heap.size w6 w' := by
            obtain ⟨b', D', he, hPr, _⟩ := OwnP.prAt hO2
            injection he with he1 _ he3
            subst he1
            have := k_all (D := C2) IB.out hPr.at' Q3.out Q5.out
            rwa [show (butK H kk ++ [(kk, vv)]).length = (butK H kk).length + 1 by simp] at this
          have KA := Lib.hid KA
          clear hap hO2 hg2 hO b5 ba hb6 IA hlen KW
          go_wp2_with (at_builtin; refine wpList_append_run10 rfl (.tmp 79) (.tmp 83) _ _ rfl _ _ rfl rfl _ _ HAP.out ?_)
          refine KA.out.mono ?_; rintro e W7 ⟨rfl, b7⟩
          clear c0 c1 c2
          go_wp2_with fail
          exact ⟨⟨k + 1, aM, CM, M, _, by omega, by omega, by go_num, ⟨IB.out.reads b7, own_below HO2.out b7, Q3.out, Q4.out, Q5.out⟩⟩, by simp [intOf]; omega⟩
        · clear CS
          go_wp2_with fail
          exact ⟨⟨k + 1, a, C, l, H, by omega, by omega, by go_num, XF.out⟩, by simp [intOf]; omega⟩
        · have KA : Calls Try.prog 37 #[.agg #[.slice a l.pairs.length C, .string l.high, .int .i64 l.next], .slice b H.length D] W3 fun e w' => e = .returned (.bool true) ∧ Below W3.heap.size W3 w' := by
            obtain ⟨b', D', he, hPr, _⟩ := XF.out.row.prAt
            injection he with he1 _ he3
            subst he1
            exact k_all (D := D) XF.out.x hPr.at' XF.out.right XF.out.perm
          have KA := Lib.hid KA
          have c0 := XF.out.x.x.c0; have c1 := XF.out.x.x.c1; have c2 := XF.out.x.x.c2
          clear CS
          obtain ⟨bk, hbk⟩ : ∃ x, keyB kk = x := ⟨_, rfl⟩
          obtain ⟨bv, hbv⟩ : ∃ x, valB vv = x := ⟨_, rfl⟩
          rw [hbk] at K5 q; rw [hbv] at V5 q
          clear hbk hbv
          cases bk with
          | false =>
            clear q
            go_wp2_with fail
            refine (K5.out _).mono ?_; rintro e W3' ⟨rfl, rfl⟩
            go_wp2_with fail
            refine KA.out.mono ?_; rintro e W7 ⟨rfl, b7⟩
            clear c0 c1 c2
            go_wp2_with fail
            exact ⟨⟨k + 1, a, C, l, H, by omega, by omega, by go_num, XF.out.reads b7⟩, by simp [intOf]; omega⟩
          | true =>
            obtain rfl : bv = false := by simpa using q
            clear q
            go_wp2_with fail
            refine (K5.out _).mono ?_; rintro e W3' ⟨rfl, rfl⟩
            go_wp2_with fail
            refine (V5.out _).mono ?_; rintro e W3' ⟨rfl, rfl⟩
            go_wp2_with fail
            refine KA.out.mono ?_; rintro e W7 ⟨rfl, b7⟩
            clear c0 c1 c2
            go_wp2_with fail
            exact ⟨⟨k + 1, a, C, l, H, by omega, by omega, by go_num, XF.out.reads b7⟩, by simp [intOf]; omega⟩
      · by_cases hc1 : k < P.length
        · have e1 : (k : Int) < (P.length : Int) := by omega
          have e2 : decide ((k : Int) < 40) = false := by rw [decide_eq_false_iff_not]; omega
          clear hc
          go_wp2_with fail
          all_goals
            go_meet
            exact ⟨a, C, l, H, XI.out⟩
        · have e1 : ¬ (k : Int) < (P.length : Int) := by omega
          clear hc
          go_wp2_with fail
          all_goals
            go_meet
            exact ⟨a, C, l, H, XI.out⟩
  case rest =>
    obtain ⟨a, C, l, H, hI⟩ := hcut
    have I1 := Lib.hid hI
    clear hI I0 KG HPA HPS
    go_wp2_with fail
    go_loopw [6, 12] (fun v i wr => ∃ (k : Nat) (a : Option Addr) (C : Nat) (l : LfP) (H : Prs), k ≤ ss.length ∧ k ≤ 40 ∧ i = .int .i64 (k : Int) ∧ InK w wr BB a C l v H) (fun _ i _ => ss.length - (intOf i).toNat)
    case atStart => exact ⟨0, a, C, l, H, by omega, by omega, rfl, I1.out⟩
    case round =>
      clear I1 a C l H
      obtain ⟨k, a, C, l, H, hk, hk4, rfl, hI⟩ := hrel
      have XI := Lib.hid hI
      clear hI
      have k0 : (0 : Int) ≤ (k : Int) := by omega
      by_cases hc : k < ss.length ∧ k < 40
      · obtain ⟨hc1, hc2⟩ := hc
        have e1 : (k : Int) < (ss.length : Int) := by omega
        have e2 : (k : Int) < 40 := by omega
        obtain ⟨ks, hp⟩ : ∃ s, ss[k]? = some s := ⟨_, List.getElem?_eq_getElem hc1⟩
        obtain ⟨g, off, rfl, f0⟩ := HTA.out.below XI.out.x.bel k _ hp
        have s1 := HTS.out _ (List.mem_of_getElem? hp)
        obtain ⟨m1, r1, r2, r3, r4⟩ := cutT_at ks 40 40 rfl
        obtain ⟨b, D, rfl, hPr, hbs⟩ := XI.out.row.prAt
        clear r4 hp hPr hbs
        go_upto_region 20 with fail
        go_region
        clear f0 r1 r2 r3 s1
        generalize ks.extract 0 m1 = kk at *
        have XD := Lib.hid (XI.out.reads (show Below wr.heap.size wr wr.drew from (Below.refl _ wr).drew))
        clear XI
        generalize wr.drew = W1 at *
        obtain ⟨b', D', he, hPr, _⟩ := XD.out.row.prAt
        injection he with he1 _ he3
        subst he1
        subst he3
        have KW := Lib.hid (k_without (D := D) kk hPr.at' XD.out.len)
        have hBl1 : w.heap.size ≤ W1.heap.size := XD.out.x.bel.size
        clear hPr
        go_wp2_with fail
        refine KW.out.mono ?_; rintro e W2 ⟨v2, rfl, hO, b2⟩
        obtain ⟨bb, DD, rfl, hPb, _⟩ := hO.prAt
        have XE := Lib.hid (XD.out.reads b2)
        have RO := Lib.hid (own_mono hO hBl1)
        have SH := Lib.hid (right_short XE.out.right)
        have KD := Lib.hid (fun W (h : Bx W BB a C l) => k_del h SH.out kk)
        have CS := keys_del (l := l) (H := H) (k := kk) XE.out.right XE.out.high XE.out.perm
        obtain ⟨M, hM⟩ : ∃ M, delL l kk = M := ⟨_, rfl⟩
        obtain ⟨ME, hE⟩ : ∃ e, delE l kk = e := ⟨_, rfl⟩
        rw [hM, hE] at CS KD
        clear hM hE
        have CS := Lib.hid CS
        have hBl : BB < W2.heap.size := XE.out.x.x.box.lt
        have c0 := XE.out.x.x.c0; have c1 := XE.out.x.x.c1; have c2 := XE.out.x.x.c2
        clear XD hO b2 hPb KW
        go_wp2_with fail
        refine (KD.out _ XE.out.x.x).mono ?_; rintro e W3 ⟨aM, CM, rfl, hM, b3⟩
        have hs3 := b3.size
        have XF := XE.out.reads b3
        have RF := own_below RO.out b3
        have ZM := Bx.new hM
        have ba := (Below.refl W3.heap.size W3).alloc (Nat.le_refl _) (.cells #[.slice aM M.pairs.length CM, .string M.high, .int .i64 M.next] 24)
        have XG := Lib.hid (XF.reads ba)
        have RG := Lib.hid (own_below RF ba)
        have ZM := Lib.hid ZM
        clear c0 c1 c2 XE XF RF RO ba hM b3
        go_upto_region 23 with fail
        generalize W3.alloc (.cells #[.slice aM M.pairs.length CM, .string M.high, .int .i64 M.next] 24) = W4 at *
        obtain ⟨BM, hBM⟩ : ∃ BM, W3.heap.size = BM := ⟨_, rfl⟩
        rw [hBM] at ZM hs3 ⊢
        clear hBM
        have d0 := ZM.out.c0; have d1 := ZM.out.c1; have d2 := ZM.out.c2
        rcases CS.out with ⟨rfl, q1, q2, q3, q4⟩ | ⟨rfl, q1, q2⟩
        · have Q2 := Lib.hid q2; have Q3 := Lib.hid q3; have Q4 := Lib.hid q4
          have q5 : ((butK H kk).length : Int) < (H.length : Int) := by omega
          have c0 := XG.out.x.x.c0; have c1 := XG.out.x.x.c1; have c2 := XG.out.x.x.c2
          have z0 := XG.out.x.x.fz 0; have z1 := XG.out.x.x.fz 1; have z2 := XG.out.x.x.fz 2
          clear q2 q3 q4 CS
          go_upto_region 27 with fail
          have IA := Lib.hid (InA.put XG.out.x.x.box ZM.out.pr XG.out.x.bel XG.out.x.ge)
          have hne : (Value.slice bb (butK H kk).length DD).ownBlock ≠ some BB := own_other RG.out XG.out.x.x.box (by decide)
          have R2 : OwnP w.heap.size (((W4.setCell ⟨BB, 0, none⟩ (.slice aM M.pairs.length CM)).setCell ⟨BB, 1, none⟩ (.string M.high)).setCell ⟨BB, 2, none⟩ (.int .i64 M.next)) (.slice bb (butK H kk).length DD) (butK H kk) := own_put3 RG.out hne
          have R2 := Lib.hid R2
          clear c0 c1 c2 z0 z1 z2 d0 d1 d2 hne XG ZM RG q1 q5
          generalize ((W4.setCell ⟨BB, 0, none⟩ (.slice aM M.pairs.length CM)).setCell ⟨BB, 1, none⟩ (.string M.high)).setCell ⟨BB, 2, none⟩ (.int .i64 M.next) = W5 at *
          have KA : Calls Try.prog 37 #[.agg #[.slice aM M.pairs.length CM, .string M.high, .int .i64 M.next], .slice bb (butK H kk).length DD] W5 fun e w' => e = .returned (.bool true) ∧ Below W5.heap.size W5 w' := by
            obtain ⟨b', D', he, hPr, _⟩ := R2.out.prAt
            injection he with he1 _ he3
            subst he1
            exact k_all (D := DD) IA.out hPr.at' Q2.out Q4.out
          have KA := Lib.hid KA
          have c0 := IA.out.x.c0; have c1 := IA.out.x.c1; have c2 := IA.out.x.c2
          go_wp2_with fail
          refine KA.out.mono ?_; rintro e W7 ⟨rfl, b7⟩
          clear c0 c1 c2
          go_wp2_with fail
          exact ⟨⟨k + 1, aM, CM, M, _, by omega, by omega, by go_num, ⟨IA.out.reads b7, own_below R2.out b7, Q2.out, Q3.out, Q4.out⟩⟩, by simp [intOf]; omega⟩
        · have Q2 := Lib.hid q2
          have q5 : ¬ ((butK H kk).length : Int) < (H.length : Int) := by omega
          have c0 := XG.out.x.x.c0; have c1 := XG.out.x.x.c1; have c2 := XG.out.x.x.c2
          clear q2 CS d0 d1 d2
          have KA : Calls Try.prog 37 #[.agg #[.slice a l.pairs.length C, .string l.high, .int .i64 l.next], .slice bb (butK H kk).length DD] W4 fun e w' => e = .returned (.bool true) ∧ Below W4.heap.size W4 w' := by
            obtain ⟨b', D', he, hPr, _⟩ := OwnP.prAt RG.out
            injection he with he1 _ he3
            subst he1
            exact k_all (D := DD) XG.out.x hPr.at' XG.out.right Q2.out
          have KA := Lib.hid KA
          go_wp2_with fail
          refine KA.out.mono ?_; rintro e W7 ⟨rfl, b7⟩
          clear c0 c1 c2
          go_wp2_with fail
          exact ⟨⟨k + 1, a, C, l, _, by omega, by omega, by go_num, ⟨XG.out.x.reads b7, own_below RG.out b7, XG.out.right, XG.out.high, Q2.out⟩⟩, by simp [intOf]; omega⟩
      · by_cases hc1 : k < ss.length
        · have e1 : (k : Int) < (ss.length : Int) := by omega
          have e2 : decide ((k : Int) < 40) = false := by rw [decide_eq_false_iff_not]; omega
          clear hc
          go_wp2_with fail
          all_goals
            refine (CF.out _).mono ?_; rintro e Wz ⟨rfl, bz⟩
            have XZ := Lib.hid (XI.out.reads bz)
            clear bz
            go_wp2_with fail
            go_ret
            exact ⟨rfl, XZ.out.x.bel⟩
        · have e1 : ¬ (k : Int) < (ss.length : Int) := by omega
          clear hc
          go_wp2_with fail
          all_goals
            refine (CF.out _).mono ?_; rintro e Wz ⟨rfl, bz⟩
            have XZ := Lib.hid (XI.out.reads bz)
            clear bz
            go_wp2_with fail
            go_ret
            exact ⟨rfl, XZ.out.x.bel⟩
end Go.Proofs.Ytajbnfobmnibjaa
