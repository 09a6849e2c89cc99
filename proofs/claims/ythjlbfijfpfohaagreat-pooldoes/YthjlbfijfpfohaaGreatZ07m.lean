/-
  The document's pool: the contract of Pin where a page comes into memory.
-/
import Derived.Test.YthjlbfijfpfohaaGreatZ07l
namespace Go.Proofs.YthjlbfijfpfohaaGreat
open Go.RowKit Go.MapKept
section
variable {w w' : World} {o o' : Nat → Nat} {i j g x n q : Nat} {su : Int} {v : Value} {E : List Qn} {S : List ByteArray} {Ws : Wrs}
theorem IsQ.given (h : IsQ w o j g x n su v E) (b : Below w.heap.size w w') : IsQ w' (gives o w.heap.size j) j g x n su v E := by
  refine ⟨h.hp.reads b, ⟨(h.hv.reads b).row, fun gb hgb => ?_⟩, fun e he => (h.hb e he).reads b, ?_, fun e he => ?_, h.nb, h.nk⟩
  · rw [gives_old (h.hv.lt hgb)]; exact h.hv.own gb hgb
  · rw [gives_old h.hp.lt]; exact h.op
  · rw [gives_old (h.hb e he).lt]; exact h.ob e he
/-- a place that has just come -/
def Qn.got (k : Nat) (s : ByteArray) (b : Nat) : Qn := ⟨k, s, 1, false, 0, 0, b⟩
set_option maxRecDepth 100000 in
set_option maxHeartbeats 4000000 in
theorem qpin_new (h : IsQ w o j g x n su v E) (D : IsR w o q x S Ws) (hqj : q ≠ j) (hl2 : E.length ≤ 1000) (hW : Ws.length ≤ 1000000) {k : Nat} {s : ByteArray} (hs : S[k]? = some s) (hne : ∀ e ∈ E, e.pg ≠ k) (he : errOf (rawAt Ws k s) = 0)
    (E' : List Qn) (W' : Wrs) (hE : E'.Sublist E) (X : Nat → Prop) (hX : ∀ b, w.heap.size ≤ b → ¬ X b)
    (CN : ∀ (w1 : World) (o1 : Nat → Nat), IsQ w1 o1 j g x n su v E → IsR w1 o1 q x S Ws → Calls Tryz.prog 49 #[.pointer (some ⟨g, 0, none⟩)] w1 fun y w2 => y = .returned (.bool true) ∧ ∃ v' o2, IsQ w2 o2 j g x n su v' E' ∧ IsR w2 o2 q x S W' ∧ Moves (Two j q) o1 w1 o2 w2 ∧ KeptQ o1 j w1 w2 X) :
    Calls Tryz.prog 25 #[.pointer (some ⟨g, 0, none⟩), .int .i64 (k : Int)] w fun y w' => y = .returned (.tuple #[.string (readOf (rawAt Ws k s)), .int .i64 0]) ∧ ∃ v' o' b, IsQ w' o' j g x n su v' (E' ++ [Qn.got k (readOf (rawAt Ws k s)) b]) ∧ IsR w' o' q x S W' ∧ Moves (Two j q) o w o' w' := by
  have bA : Below w.heap.size w (w.alloc (.cells #[.int .i64 (k : Int), .string ⟨#[]⟩, .int .i64 0, .bool false, .int .i64 0, .int .i64 0] 76)) := (Below.refl _ w).alloc (Nat.le_refl _) _
  have AX : At (w.alloc (.cells #[.int .i64 (k : Int), .string ⟨#[]⟩, .int .i64 0, .bool false, .int .i64 0, .int .i64 0] 76)) w.heap.size #[.int .i64 (k : Int), .string ⟨#[]⟩, .int .i64 0, .bool false, .int .i64 0, .int .i64 0] 76 := At.new w _ _
  have CR := Lib.hid (rread_in (D.reads bA) k s hs hW)
  have hkl := (List.getElem?_eq_some_iff.1 hs).1
  have CF := Lib.hid (qfind_none h (k : Int) hl2 (fun e he y => hne e he (by omega)))
  have HD := Lib.hid D
  obtain ⟨vl, vw, D'⟩ := D
  obtain ⟨a, C, b, DD, rfl, rfl⟩ := D'.slots
  have c0 := D'.c0
  have e0 : w.cell? ⟨g, 0, none⟩ = some (.pointer (some ⟨x, 0, none⟩)) := h.hp.cell 0
  have e0' := (bA.cell (p := ⟨g, 0, none⟩) h.hp.lt).trans e0
  have k0 : ¬ (k : Int) < 0 := by omega
  have k1 : ¬ (S.length : Int) ≤ (k : Int) := by omega
  have BA := Lib.hid bA
  have HH := Lib.hid h; have HCN := Lib.hid CN; have HAX := Lib.hid AX; have HXX := Lib.hid hX; have HNE := Lib.hid hne; have HE := Lib.hid hE
  have hlen : E'.length ≤ 1000 := Nat.le_trans hE.length_le hl2
  have HLE := Lib.hid hlen
  clear h D' hs hne bA CN AX hX hE hlen hl2 hW
  rw [he] at CR
  clear he
  generalize readOf (rawAt Ws k s) = rs at *
  go_enter Tryz.func25, Tryz.ntmps25
  go_wp2_with fail
  refine CF.out.mono ?_; rintro y W5 ⟨rfl, rfl⟩
  go_wp2_with fail
  refine CR.out.mono ?_; rintro y W6 ⟨rfl, B6⟩
  have b6 := BA.out.trans (B6.mono BA.out.size)
  have Q6 := HH.out.given b6
  have S6 := stp_giveNew b6 o j j
  have D6 := HD.out.other S6 hqj
  have A6 := HAX.out.reads B6
  have ox : gives o w.heap.size j w.heap.size = j := gives_new (Nat.le_refl _)
  have CN := Lib.hid (HCN.out W6 _ Q6 D6)
  have HS6 := Lib.hid S6; have HA6 := Lib.hid A6; have HOX := Lib.hid ox
  have hxb : ∀ e ∈ E', e.b ≠ w.heap.size := fun e he => Nat.ne_of_lt (HH.out.hb e (HE.out.subset he)).lt
  have hxk : ∀ e ∈ E', e.pg ≠ k := fun e he => HNE.out e (HE.out.subset he)
  have HXB := Lib.hid hxb; have HXK := Lib.hid hxk
  have HNX := Lib.hid (HXX.out w.heap.size (Nat.le_refl _))
  clear b6 B6 CR CF BA HH Q6 S6 D6 A6 ox HCN HAX hxb hxk HXX HNE HE HD
  generalize gives o w.heap.size j = o6 at *
  generalize w.heap.size = xb at *
  go_wp2_with fail
  refine CN.out.mono ?_; rintro y W7 ⟨rfl, v7, o7, Q7, D7, M7, K7⟩
  have hlt6 := HA6.out.lt
  have A7 : At W7 xb #[.int .i64 (k : Int), .string ⟨#[]⟩, .int .i64 0, .bool false, .int .i64 0, .int .i64 0] 76 := (K7.2 xb hlt6 HOX.out HNX.out).trans HA6.out
  have o7x : o7 xb = j := (M7 (fun o1 w1 => W6.heap.size ≤ w1.heap.size ∧ ∀ b, b < W6.heap.size → o1 b = o6 b) (fun _ _ _ _ _ _ s1 h1 => ⟨Nat.le_trans h1.1 s1.size, fun b hb => (s1.own b (Nat.lt_of_lt_of_le hb h1.1)).trans (h1.2 b hb)⟩) ⟨Nat.le_refl _, fun _ _ => rfl⟩).2 xb hlt6 |>.trans HOX.out
  have z71 := A7.fz 1
  have b71 : W7.cell? ⟨xb, 1, none⟩ = some (.string ⟨#[]⟩) := A7.cell 1
  have Q8 := Q7.far A7 HXB.out 1 (.string rs)
  have A8 : At (W7.setCell ⟨xb, 1, none⟩ (.string rs)) xb #[.int .i64 (k : Int), .string rs, .int .i64 0, .bool false, .int .i64 0, .int .i64 0] 76 := A7.set 1 (.string rs)
  have S8 := Stp.setCell o7 j W7 xb 1 (.string rs) o7x
  have HQ8 := Lib.hid Q8; have HA8 := Lib.hid A8
  have HM8 := Lib.hid ((Moves.of (X := Two j q) (.inl rfl) HS6.out).trans (M7.trans (Moves.of (.inl rfl) S8)))
  have HD8 := Lib.hid (D7.other S8 hqj); have HO7 := Lib.hid o7x
  clear Q7 D7 M7 K7 A7 Q8 A8 S8 CN HS6 HA6 HOX hlt6 o7x HNX
  go_upto_region 14 with fail
  generalize W7.setCell ⟨xb, 1, none⟩ (.string rs) = W8 at *
  have b2 : W8.cell? ⟨xb, 2, none⟩ = some (.int .i64 0) := HA8.out.cell 2
  have z2 := HA8.out.fz 2
  have Q9 := HQ8.out.far HA8.out HXB.out 2 (.int .i64 1)
  have A9 : At (W8.setCell ⟨xb, 2, none⟩ (.int .i64 1)) xb (qlv (Qn.got k rs xb)) 76 := HA8.out.set 2 (.int .i64 1)
  have S9 := Stp.setCell o7 j W8 xb 2 (.int .i64 1) HO7.out
  obtain ⟨v10, w10, o10, hap, Q10, S10, A10, B10⟩ := Q9.push (Qn.got k rs xb) A9 HO7.out HXB.out HXK.out HLE.out
  obtain ⟨a10, C10, e10⟩ := Q10.slot
  obtain ⟨n8, hn8⟩ : ∃ n8, (E' ++ [Qn.got k rs xb]).length = n8 := ⟨_, rfl⟩
  rw [hn8] at e10
  clear hn8
  subst e10
  have HAP := Lib.hid hap; have HQ10 := Lib.hid Q10
  have HM := Lib.hid (HM8.out.trans (Moves.of (.inl rfl) (S9.trans S10)))
  have HD10 := Lib.hid ((HD8.out.other S9 hqj).other S10 hqj)
  obtain ⟨a7, C7, e7⟩ := HQ8.out.slot
  subst e7
  have g3 : (W8.setCell ⟨xb, 2, none⟩ (.int .i64 1)).cell? ⟨g, 3, none⟩ = some (.slice a7 E'.length C7) := Q9.hp.cell 3
  have z10 := And.intro (A10.fz 3) (show w10.cell? ⟨g, 3, none⟩ = some (.slice a7 E'.length C7) from A10.cell 3)
  have f1 : (w10.setCell ⟨g, 3, none⟩ (.slice a10 n8 C10)).cell? ⟨xb, 1, none⟩ = some (.string rs) := B10.cell 1
  have HG3 := Lib.hid g3; have HZ8 := Lib.hid z10; have HF1 := Lib.hid f1
  clear Q9 A9 S9 Q10 S10 A10 B10 hap HQ8 HA8 HM8 HD8 HO7 HXB HXK g3 z10 f1
  go_upto_region 15 with fail
  generalize W8.setCell ⟨xb, 2, none⟩ (.int .i64 1) = W9 at *
  have g3 := HG3.out; obtain ⟨z10, d10⟩ := HZ8.out; have f1 := HF1.out
  clear b2 z2 HG3 HZ8 HF1
  go_wp2_with (at_builtin; refine wpList_append_run rfl (.tmp 73) (.tmp 75) _ _ rfl _ _ rfl rfl _ _ HAP.out ?_)
  go_ret2
  exact ⟨rfl, _, o10, xb, HQ10.out, HD10.out, HM.out⟩
theorem qpin_room (h : IsQ w o j g x n su v E) (D : IsR w o q x S Ws) (hqj : q ≠ j) (hl2 : E.length ≤ 1000) (hn : E.length < n) (hW : Ws.length ≤ 1000000) {k : Nat} {s : ByteArray} (hs : S[k]? = some s) (hne : ∀ e ∈ E, e.pg ≠ k) (he : errOf (rawAt Ws k s) = 0) :
    Calls Tryz.prog 25 #[.pointer (some ⟨g, 0, none⟩), .int .i64 (k : Int)] w fun y w' => y = .returned (.tuple #[.string (readOf (rawAt Ws k s)), .int .i64 0]) ∧ ∃ v' o' b, IsQ w' o' j g x n su v' (E ++ [Qn.got k (readOf (rawAt Ws k s)) b]) ∧ IsR w' o' q x S Ws ∧ Moves (Two j q) o w o' w' :=
  qpin_new h D hqj hl2 hW hs hne he E Ws (List.Sublist.refl _) (fun _ => False) (fun _ _ h => h) (fun w1 o1 h1 D1 => by
    refine (qfree_room h1 hn).mono ?_
    rintro y w2 ⟨rfl, b⟩
    exact ⟨rfl, v, o1, h1.reads b, D1.reads b, Moves.of (.inl rfl) (Stp.ofBelow b o1 j), b.size, fun c hc _ _ => b.block c hc⟩)
theorem qpin_swap (h : IsQ w o j g x n su v E) (D : IsR w o q x S Ws) (hqj : q ≠ j) (hl : n ≤ E.length) (hl2 : E.length ≤ 1000) (hW : Ws.length ≤ 100000) {k : Nat} {s : ByteArray} (hs : S[k]? = some s) (hne : ∀ e ∈ E, e.pg ≠ k) (he : errOf (rawAt Ws k s) = 0)
    {t : Nat} {e : Qn} (ht : E[t]? = some e) (hg : e.goes su = true) (hno : ∀ k y, k < t → E[k]? = some y → y.goes su = false) (hpg : e.pg < S.length) (hsz : e.s.size ≤ 252) :
    Calls Tryz.prog 25 #[.pointer (some ⟨g, 0, none⟩), .int .i64 (k : Int)] w fun y w' => y = .returned (.tuple #[.string (readOf (rawAt Ws k s)), .int .i64 0]) ∧ ∃ v' o' b, IsQ w' o' j g x n su v' (E.eraseIdx t ++ [Qn.got k (readOf (rawAt Ws k s)) b]) ∧ IsR w' o' q x S (Ws ++ if e.d then [(e.pg, pageOf e.s)] else []) ∧ Moves (Two j q) o w o' w' := by
  have hlt := fun b (hb : w.heap.size ≤ b) => show ¬ (b = g ∨ b = e.b) from fun y => by
    rcases y with y | y
    · have := h.hp.lt; omega
    · have := (h.hb e (List.mem_of_getElem? ht)).lt; omega
  exact qpin_new h D hqj hl2 (by omega) hs hne he (E.eraseIdx t) _ (List.eraseIdx_sublist ..) (fun b => b = g ∨ b = e.b) hlt (fun w1 o1 h1 D1 => qfree_yes h1 D1 hqj hl hl2 ht hg hno hpg hsz hW)
end
end Go.Proofs.YthjlbfijfpfohaaGreat
