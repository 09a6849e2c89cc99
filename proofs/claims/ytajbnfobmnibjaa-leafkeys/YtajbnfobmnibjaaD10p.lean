/-
  Package leaf: the contract of Encode, of a leaf that may be.
-/
import Derived.Test.YtajbnfobmnibjaaB10
namespace Go.Proofs.Ytajbnfobmnibjaa
open Go.RowKit

theorem wpList_append_run10 {P : Program} {ops : Array Oper} {rest : List Oper} {o : Oper} {a : Act} {Q : Exit → Act → World → Prop} {w : World} (hgd : o.guard = none) (sl x : Operand) (t u : TypeId)
    (ho : o.op = .call { callee := .builtin .append, args := #[sl, x], argTypes := #[t, u] }) (v xv : Value) (hs : a.eval sl = v) (hx : a.eval x = xv) (v' : Value) (w' : World)
    (hr : (Builtin.append_ #[t, u] o.type #[v, xv]).run P w = .ok v' w') (h : wpList P ops Q rest (a.put o.dst v') w') : wpList P ops Q (o :: rest) a w := by
  refine wpList_plain hgd fun K hK => ?_
  unfold Oper.wp execOp
  simp only [ho, resolve, invoke, builtin, Sem.run_bind, Sem.run_pure, Result.andThen_ok, List.map_toArray, List.map_cons, List.map_nil, hs, hx, hr]
  exact hK _ _ h
abbrev U8T10 : TypeId := 5
/-- what a call changes that owns rows of bytes alone: nothing below base, nothing of another type -/
structure Kp10 (base : Nat) (w w' : World) : Prop where
  bel : Below base w w'
  typ : ∀ (k : Nat) c t f, w.heap[k]? = some (.cells c t f) → t ≠ U8T10 → w'.heap[k]? = w.heap[k]?
theorem Kp10.trans {base : Nat} {w w1 w2 : World} (a : Kp10 base w w1) (b : Kp10 base w1 w2) : Kp10 base w w2 :=
  ⟨a.bel.trans b.bel, fun k c t f h ht => by
    have h1 := a.typ k c t f h ht
    exact (b.typ k c t f (h1.trans h) ht).trans h1⟩
theorem Kp10.ofBelow {base : Nat} {w w' : World} (h : Below w.heap.size w w') (hb : base ≤ w.heap.size) : Kp10 base w w' :=
  ⟨h.mono hb, fun k _c _t _f hk _ => h.block k (Array.getElem?_eq_some_iff.1 hk).1⟩
theorem Kp10.ofGrown {base : Nat} {w w' : World} {v : Value} {l : List UInt8} (h : Own2 base w v l) (hb : base ≤ w.heap.size) (hg : w.grownBy w' v.ownBlock) : Kp10 base w w' :=
  ⟨(Below.refl base w).grown hg hb (fun g e => (h.lt g e).1), fun k c t f hk ht => hg.block k (Array.getElem?_eq_some_iff.1 hk).1 (fun e => by
    rcases h with h | ⟨g, C, cur, m, rfl, _, h2, _⟩
    · have h' : w.ownsRow base 5 1 v l.length (bcl10 l) := h
      rcases h'.2 with ⟨rfl, _⟩ | ⟨g, C, cur, rfl, _, hg', _⟩
      · cases e
      · cases e; rw [hk] at hg'; cases hg'; exact ht rfl
    · cases e; rw [hk] at h2; cases h2; exact ht rfl)⟩
theorem At.kp10 {w w' : World} {B base : Nat} {cs : Array Value} {T : TypeId} (h : At w B cs T) (a : Kp10 base w w') (hT : T ≠ U8T10) : At w' B cs T := (a.typ _ _ _ _ h hT).trans h
theorem pairsL_wgt : ∀ l : Prs, (pairsL l).length = wgt l
  | [] => rfl
  | p :: l => by
    have h := pairsL_wgt l
    simp only [pairsL, List.flatMap_cons, List.length_append, pairL, txtL10_len, wgt, pairN] at h ⊢
    rw [h]; omega
theorem pairsL_snoc10 (l : Prs) (p : ByteArray × ByteArray) : pairsL (l ++ [p]) = pairsL l ++ (txtL p.1 ++ txtL p.2) := by simp [pairsL, pairL]
theorem Own2.str {base : Nat} {w : World} {v : Value} {l : List UInt8} (h : Own2 base w v l) (hl : 0 < l.length) : (convert 80 9 v).run Try.prog w = .ok (.string (baL10 l)) w := by
  rcases h with h | ⟨g, C, cur, m, rfl, h1, h2, h3, h4, h5, h6, h7⟩
  · have h' : w.ownsRow base 5 1 v l.length (bcl10 l) := h
    rcases h'.2 with ⟨_, h0⟩ | ⟨g, C, cur, rfl, _⟩
    · omega
    · refine run_convert_bytes_back w 80 9 5 ⟨g, 0, none⟩ C l Try.underlying80 Try.underlying5 Try.underlying9 ?_
      intro j hj
      exact h'.cells (g := g) rfl j _ (by simp [bcl10, hj])
  · refine run_convert_bytes_back w 80 9 5 ⟨g, 0, none⟩ C l Try.underlying80 Try.underlying5 Try.underlying9 ?_
    intro j hj
    have hq : (bcl10 l)[j]? = some (Value.int .u8 l[j].toNat) := by simp [bcl10, hj]
    rw [← h7, List.getElem?_take, if_pos hj] at hq
    have ha : (⟨g, 0, none⟩ : Addr).add j = ⟨g, j, none⟩ := by unfold Addr.add; split <;> simp_all
    rw [ha]
    simp only [World.cell?, h2]
    simpa using hq
set_option maxRecDepth 100000 in
set_option maxHeartbeats 4000000 in
theorem encode10_yes (a : Option Addr) (C : Nat) (l : LfP) (w : World) (hP : PairsAt w a l.pairs) (hS : SmallP l.pairs) (hh : l.high.size ≤ 1000000) (hw : wgt l.pairs ≤ 1000000) (hR : rightL l = true) :
    Calls Try.prog 18 #[lfV a C l] w fun e w' => e = .returned (.string (baL10 (encLf l))) ∧ Below w.heap.size w w' := by
  have hn : l.pairs.length ≤ 1000000 := by have := wgt_len l.pairs; omega
  have HB := Lib.hid (box10 w a C l)
  have HAt := Lib.hid (At.new w #[.slice a l.pairs.length C, .string l.high, .int .i64 l.next] 24)
  have C1 := Lib.hid (fun (W : World) (b : Below w.heap.size w W) => right10 a C l W (hP.below b) hS hh hw)
  rw [hR] at C1
  obtain ⟨hw2, hri, hhi, hx0, hx1⟩ := rightL_iff.1 hR
  have hr : Rise l.pairs := (rises_iff _).1 hri
  have hlen := wgt_len l.pairs
  have hhs : l.high.size ≤ 16 := by
    unfold highB at hhi
    rcases Bool.or_eq_true _ _ ▸ hhi with h | h
    · rw [of_decide_eq_true h]; decide
    · exact (keyB_size (Bool.and_eq_true _ _ ▸ h).1).2
  obtain ⟨x, hx⟩ := Int.eq_ofNat_of_zero_le hx0
  have CA := Lib.hid (fun W => pad_ok ⟨#[76]⟩ 4 W (by decide) (by decide))
  have e1 : (⟨((⟨#[76]⟩ : ByteArray).data.toList ++ List.replicate ((4 : Int).toNat - (⟨#[76]⟩ : ByteArray).size) 0).toArray⟩ : ByteArray) = baL10 [76, 0, 0, 0] := rfl
  rw [e1] at CA
  have CB := Lib.hid (fun W => put_ok (baL10 [76, 0, 0, 0]) 1 1 (l.pairs.length : Int) W (by decide) (by decide) (by omega) (by rw [show (256 : Int) ^ (1 : Int).toNat = 256 from rfl]; omega))
  have e2 : (⟨(spliceB (baL10 [76, 0, 0, 0]).data.toList (1 : Int).toNat (Lib.leBytes (1 : Int).toNat ((l.pairs.length : Int)).toNat)).toArray⟩ : ByteArray) = baL10 ([76] ++ (Lib.leBytes 1 l.pairs.length ++ [0, 0])) := by
    rw [Int.toNat_natCast]; rfl
  rw [e2] at CB
  have CC := Lib.hid (fun W => put_ok (baL10 ([76] ++ (Lib.leBytes 1 l.pairs.length ++ [0, 0]))) 2 2 l.next W (by rw [baL10_size]; simp [Lib.leBytes_length]) (errAt_ok.2 ⟨by decide, by decide, by decide, by rw [baL10_size]; simp [Lib.leBytes_length]⟩) hx0 (by rw [show (256 : Int) ^ (2 : Int).toNat = 65536 from rfl]; omega))
  have e3 : (⟨(spliceB (baL10 ([76] ++ (Lib.leBytes 1 l.pairs.length ++ [0, 0]))).data.toList (2 : Int).toNat (Lib.leBytes (2 : Int).toNat l.next.toNat)).toArray⟩ : ByteArray) = baL10 (headL l) := by
    unfold headL baL10 spliceB
    have h1 : ∃ c, Lib.leBytes 1 l.pairs.length = [c] := ⟨_, rfl⟩
    obtain ⟨c, hc⟩ := h1
    rw [hc, Lib.leBytes_length]
    simp
  rw [e3] at CC
  clear e1 e2 e3
  have CT := Lib.hid (fun W => textBytes10 l.high W (by omega))
  have HHS := Lib.hid hhs
  have n0 : (0 : Int) ≤ (l.pairs.length : Int) := by omega
  have n1 : (l.pairs.length : Int) ≤ 115 := by omega
  have HP := Lib.hid hP; have HR := Lib.hid hr; have HW2 := Lib.hid hw2
  clear hP hS hh hw hR hn hri hhi hw2 hr hlen hhs hx x
  unfold lfV at C1 ⊢
  go_enter Try.func18, Try.ntmps18
  go_upto_region 1 with fail
  generalize w.alloc (.cells #[.slice a l.pairs.length C, .string l.high, .int .i64 l.next] 24) = W1 at *
  have d0 : W1.cell? ⟨w.heap.size, 0, none⟩ = some (.slice a l.pairs.length C) := HAt.out.cell 0
  have d1 : W1.cell? ⟨w.heap.size, 1, none⟩ = some (.string l.high) := HAt.out.cell 1
  have d2 : W1.cell? ⟨w.heap.size, 2, none⟩ = some (.int .i64 l.next) := HAt.out.cell 2
  go_wp2_with fail
  refine (C1.out _ HB.out).mono ?_; rintro r W2 ⟨rfl, b2⟩
  have HB2 := Lib.hid (HB.out.trans (b2.mono HB.out.size)); have HA2 := Lib.hid (HAt.out.reads b2)
  clear b2 d0 d1 d2 HAt C1
  go_wp2_with fail
  refine (CA.out _).mono ?_; rintro r W3 ⟨rfl, b3⟩
  have HB3 := Lib.hid (HB2.out.trans (b3.mono HB2.out.size)); have HA3 := Lib.hid (HA2.out.reads b3)
  clear b3 HA2 HB2 CA
  have d0 : W3.cell? ⟨w.heap.size, 0, none⟩ = some (.slice a l.pairs.length C) := HA3.out.cell 0
  go_wp2_with fail
  refine (CB.out _).mono ?_; rintro r W4 ⟨rfl, b4⟩
  have HB4 := Lib.hid (HB3.out.trans (b4.mono HB3.out.size)); have HA4 := Lib.hid (HA3.out.reads b4)
  clear b4 d0 HA3 HB3 CB
  have d0 : W4.cell? ⟨w.heap.size, 2, none⟩ = some (.int .i64 l.next) := HA4.out.cell 2
  go_wp2_with fail
  refine (CC.out _).mono ?_; rintro r W5 ⟨rfl, b5⟩
  have HB5 := Lib.hid (HB4.out.trans (b5.mono HB4.out.size)); have HA5 := Lib.hid (HA4.out.reads b5)
  clear b5 d0 HA4 HB4 CC
  have d0 : W5.cell? ⟨w.heap.size, 1, none⟩ = some (.string l.high) := HA5.out.cell 1
  have HLN := Lib.hid (show (headL l).length ≤ 4 by unfold headL; simp [Lib.leBytes_length])
  have HEN := Lib.hid (show encLf l = headL l ++ (txtL l.high ++ pairsL l.pairs) from rfl)
  generalize headL l = HD at *
  have hcv := Lib.run_convert_string_bytes (P := Try.prog) W5 9 80 5 (baL10 HD) Try.underlying9 Try.underlying80 Try.underlying5
  have O6 := Lib.hid (own2_conv w.heap.size W5 (baL10 HD) HD rfl HB5.out.size (by have := HLN.out; omega))
  have B6 := Lib.hid (show Below W5.heap.size W5 (Lib.bytesWorld W5 5 (baL10 HD)) from ⟨rfl, rfl, rfl, by rw [Lib.bytesWorld_size]; omega, fun k hk => Lib.bytesWorld_at_old W5 5 (baL10 HD) k hk⟩)
  generalize Lib.bytesWorld W5 5 (baL10 HD) = W6 at *
  have HB6 := Lib.hid (HB5.out.trans (B6.out.mono HB5.out.size)); have HA6 := Lib.hid (HA5.out.reads B6.out)
  clear HA5 HB5
  have d1 : W6.cell? ⟨w.heap.size, 1, none⟩ = some (.string l.high) := HA6.out.cell 1
  generalize hV : Value.slice (some ⟨W5.heap.size, 0, none⟩) (baL10 HD).size (grownCap W5 (baL10 HD).size 0 5) = V at *
  go_wp2_with fail
  clear hcv
  refine (CT.out _).mono ?_; rintro r W7 ⟨rfl, b7⟩
  have HO7 := Lib.hid (O6.out.below b7)
  have HB7 := Lib.hid (HB6.out.trans (b7.mono HB6.out.size)); have HA7 := Lib.hid (HA6.out.reads b7)
  have htl : (txtL l.high).length ≤ 1000 := by rw [txtL10_len]; have := HHS.out; omega
  obtain ⟨V8, W8, hr8, ho8, hg8⟩ := HO7.out.append (txtL l.high) HB7.out.size (by have := HLN.out; omega) (by omega)
  have HR8 := Lib.hid hr8; have HO8 := Lib.hid ho8
  have HK8 := Lib.hid (Kp10.ofGrown HO7.out HB7.out.size hg8)
  have HA8 := Lib.hid (HA7.out.kp10 HK8.out (by decide))
  have HB8 := Lib.hid (HB7.out.trans HK8.out.bel)
  clear b7 hr8 ho8 hg8 d0 d1 HA6 HB6 O6 B6 HA7 HB7 HO7 HK8 hV
  have d0 : W8.cell? ⟨w.heap.size, 0, none⟩ = some (.slice a l.pairs.length C) := HA8.out.cell 0
  go_wp2_with (at_builtin; refine wpList_append_run10 rfl (.tmp 33) (.tmp 36) _ _ rfl _ _ rfl rfl _ _ HR8.out ?_)
  have I0 := Lib.hid (show Own2 w.heap.size W8 V8 (HD ++ txtL l.high ++ pairsL (l.pairs.take 0)) by simpa [pairsL] using HO8.out)
  clear d0 HA8 HO8 HR8
  go_loopw [5, 41] (fun v i wr => ∃ k : Nat, k ≤ l.pairs.length ∧ i = .int .i64 (k : Int) ∧ Own2 w.heap.size wr v (HD ++ txtL l.high ++ pairsL (l.pairs.take k)) ∧ Below w.heap.size w wr) (fun _ i _ => l.pairs.length - (intOf i).toNat)
  case atStart => exact ⟨0, by omega, rfl, I0.out, HB8.out⟩
  case round =>
    obtain ⟨k, hk, rfl, hO, hK⟩ := hrel
    clear I0 HB8
    have HO := Lib.hid hO; have HK := Lib.hid hK
    clear hO hK
    by_cases hc : k < l.pairs.length
    · have c1 : (k : Int) < (l.pairs.length : Int) := by omega
      have c0 : (0 : Int) ≤ (k : Int) := by omega
      obtain ⟨⟨pk, pv⟩, hp⟩ : ∃ p, l.pairs[k]? = some p := ⟨_, List.getElem?_eq_getElem hc⟩
      obtain ⟨z1, z2⟩ := HR.out.ok _ (List.mem_of_getElem? hp)
      have s1 := (keyB_size z1).2
      have s2 : pv.size ≤ 32 := by simpa [valB] using z2
      obtain ⟨g, off, rfl, d0, d1⟩ := HP.out.below HK.out k _ hp
      dsimp only at s1 s2 d0 d1
      have hwt := wgt_take l.pairs k
      have hw2 := HW2.out
      have l1 : (HD ++ txtL l.high ++ pairsL (l.pairs.take k)).length ≤ 900000 := by rw [List.length_append, List.length_append, pairsL_wgt]; have := HLN.out; omega
      have hbase : w.heap.size ≤ wr.heap.size := HK.out.size
      have E1 := Lib.hid (show HD ++ txtL l.high ++ pairsL (l.pairs.take (k + 1)) = HD ++ txtL l.high ++ pairsL (l.pairs.take k) ++ txtL pk ++ txtL pv by rw [List.take_add_one, hp]; simp only [Option.toList]; rw [pairsL_snoc10]; simp [List.append_assoc])
      clear hp z1 z2 hwt hw2
      generalize HD ++ txtL l.high ++ pairsL (l.pairs.take k) = LL at *
      have ba := (Below.refl wr.heap.size wr).alloc (Nat.le_refl _) (.cells #[.string pk, .string pv] 44)
      have X2 := At.new wr #[.string pk, .string pv] 44
      have CTK := Lib.hid (fun W => textBytes10 pk W (by omega))
      have CTV := Lib.hid (fun W => textBytes10 pv W (by omega))
      have HX2 := Lib.hid X2; have HK1 := Lib.hid (HK.out.trans (ba.mono hbase)); have HO1 := Lib.hid (HO.out.below ba)
      have d2 : (wr.alloc (.cells #[.string pk, .string pv] 44)).cell? ⟨wr.heap.size, 0, none⟩ = some (.string pk) := X2.cell 0
      clear X2 ba HK HO
      go_wp2_with fail
      refine (CTK.out _).mono ?_; rintro r w2 ⟨rfl, b2⟩
      have HO2 := Lib.hid (HO1.out.below b2)
      have HK2 := Lib.hid (HK1.out.trans (b2.mono HK1.out.size)); have HX3 := Lib.hid (HX2.out.reads b2)
      obtain ⟨V3, W3', hr3, ho3, hg3⟩ := HO2.out.append (txtL pk) HK2.out.size (by omega) (by rw [txtL10_len]; omega)
      have HR3 := Lib.hid hr3; have HO3 := Lib.hid ho3
      have k3 := Kp10.ofGrown HO2.out HK2.out.size hg3
      have HX4 := Lib.hid (HX3.out.kp10 k3 (by decide)); have HK3 := Lib.hid (HK2.out.trans k3.bel)
      have l2 : (LL ++ txtL pk).length ≤ 950000 := by rw [List.length_append, txtL10_len]; omega
      clear b2 hr3 ho3 hg3 k3 d0 d1 d2 HX2 HX3 HK1 HK2 HO1 HO2 CTK
      have d1 : W3'.cell? ⟨wr.heap.size, 1, none⟩ = some (.string pv) := HX4.out.cell 1
      go_wp2_with (at_builtin; refine wpList_append_run10 rfl (.tmp 45) (.tmp 48) _ _ rfl _ _ rfl rfl _ _ HR3.out ?_)
      refine (CTV.out _).mono ?_; rintro r w4 ⟨rfl, b4⟩
      have HO4 := Lib.hid (HO3.out.below b4)
      have HK4 := Lib.hid (HK3.out.trans (b4.mono HK3.out.size))
      obtain ⟨V5, W5', hr5, ho5, hg5⟩ := HO4.out.append (txtL pv) HK4.out.size (by omega) (by rw [txtL10_len]; omega)
      have HR5 := Lib.hid hr5; have HO5 := Lib.hid ho5
      have k5 := Kp10.ofGrown HO4.out HK4.out.size hg5
      have HK5 := Lib.hid (HK4.out.trans k5.bel)
      clear b4 hr5 ho5 hg5 k5 d1 HX4 HK3 HK4 HO3 HO4 CTV HR3
      go_wp2_with (at_builtin; refine wpList_append_run10 rfl (.tmp 50) (.tmp 53) _ _ rfl _ _ rfl rfl _ _ HR5.out ?_)
      exact ⟨⟨k + 1, by omega, by go_num, by rw [E1.out]; exact HO5.out, HK5.out⟩, by simp [intOf]; omega⟩
    · obtain rfl : k = l.pairs.length := by omega
      have hO := HO.out
      rw [List.take_length, List.append_assoc, ← HEN.out] at hO
      have hst := hO.str (by rw [HEN.out]; simp [txtL]; omega)
      clear hO HO
      go_wp2_with fail
      go_ret
      exact ⟨rfl, HK.out⟩
end Go.Proofs.Ytajbnfobmnibjaa
