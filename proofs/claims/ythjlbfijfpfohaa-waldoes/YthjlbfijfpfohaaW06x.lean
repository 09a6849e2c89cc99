/-
  WalSafe, walked.
-/
import Derived.Test.YthjlbfijfpfohaaW06w
namespace Go.Proofs.Ythjlbfijfpfohaa
open Go.RowKit Go.ChangeMaps
/-- an element of the script, cut, at a later world -/
theorem cutC_at {w0 w : World} {o : Nat → Nat} {a : Option Addr} {len : Nat} {zs : List OpC} {v : Value} (h : ArgOps6 w0 a len zs) (Z : Since w0 o w) (R : RowO w o 5 v ((zs.take 40).map cutC)) (t : Nat) (ht : t < ((zs.take 40).map cutC).length) :
    ∃ (g C : Nat) (k : Int) (s : ByteArray) (fa : Option Addr) (fl fc : Nat) (fs : List Int), v = .slice (some ⟨g, 0, none⟩) ((zs.take 40).map cutC).length C ∧ w.cell? ⟨g, t * 3, none⟩ = some (.int .i64 k) ∧ w.cell? ⟨g, t * 3 + 1, none⟩ = some (.string s) ∧ w.cell? ⟨g, t * 3 + 2, none⟩ = some (.slice fa fl fc) ∧ s.size ≤ 700 ∧ fl ≤ 60 ∧ ∀ i, i ≠ 0 → FInts w o i fa fl fs := by
  have hl : t < zs.length := by rw [List.length_map, List.length_take] at ht; omega
  have hl2 : t < len := by rw [← h.1]; exact hl
  obtain ⟨x, b, off, hx, _, _, _, _, x3, x4, x5, hF⟩ := h.at Z t hl2
  have hc : ((zs.take 40).map cutC)[t]? = some (cutC x) := by
    rw [List.getElem?_map, List.getElem?_take, if_pos (by rw [List.length_map, List.length_take] at ht; omega), hx]; rfl
  obtain ⟨c0, c1, c2⟩ := opCells_get _ t _ hc
  rcases R.val with ⟨_, e, _⟩ | ⟨g, C, e, _, _, hce, _⟩
  · rw [e] at ht; exact absurd ht (Nat.not_lt_zero t)
  · refine ⟨g, C, _, _, _, _, _, (cutC x).fs, e, hce _ _ c0, hce _ _ c1, hce _ _ c2, ?_, ?_, fun i hi => ?_⟩
    · show (x.s.extract 0 (min x.s.size 700)).size ≤ 700
      rw [ByteArray.size_extract]; omega
    · show min x.fl 60 ≤ 60; omega
    · exact (hF i hi).take 60
theorem RowS.cap {w : World} {o : Nat → Nat} {j : Nat} {b : Option Addr} {n D : Nat} {R : List ByteArray} (h : RowS w o j (.slice b n D) R) : R.length ≤ D := by
  rcases h.row.2 with ⟨e, h0⟩ | ⟨g', cap', cur', e, _, _, h3, _⟩
  · omega
  · cases e; exact h3
theorem appE_any7 (m : Nat) (L : LogP) (s : ByteArray) : appE m L s = 0 ∧ appL m L s = { L with R := L.R ++ [s] } ∨ appE m L s ≠ 0 ∧ appL m L s = L := by
  unfold appL
  by_cases h : appE m L s = 0
  · exact .inl ⟨h, by rw [if_pos h]⟩
  · exact .inr ⟨h, by rw [if_neg h]⟩
theorem appE_wf7 (m : Nat) (L : LogP) (s : ByteArray) : 0 ≤ appE m L s ∧ appE m L s ≤ 9 := by
  unfold appE; (repeat' split) <;> omega
theorem appK_wf7 {w : World} {o : Nat → Nat} {q pd j g m : Nat} {S : List ByteArray} {Ws : Wrs} {L : LogP} {c : Nat} (H : LD w o q pd j g m S Ws L c) (s : ByteArray) : 0 ≤ appK m L s ∧ appK m L s ≤ c + 1 := by
  have := H.cR
  unfold appK; split <;> omega
theorem tuE_zero {m : Nat} {L : LogP} {s : ByteArray} (h : tuE m L s = 0) : 1 ≤ s.size ∧ L.R.length ≤ L.su ∧ L.tu = none := by
  unfold tuE at h
  by_cases h1 : s.size < 1 ∨ 100000 < s.size
  · rw [if_pos h1] at h; omega
  · rw [if_neg h1] at h
    by_cases h2 : L.su < L.R.length ∨ L.tu ≠ none
    · rw [if_pos h2] at h; omega
    · exact ⟨by omega, Nat.le_of_not_lt (fun h => h2 (.inl h)), by
        cases hq : L.tu with
        | none => rfl
        | some t => exact absurd (.inr (by rw [hq]; simp)) h2⟩
def tuS : Option ByteArray → ByteArray | none => ⟨#[]⟩ | some s => s
structure SafeSt (w0 wr : World) (o : Nat → Nat) (p j ga m : Nat) (S : List ByteArray) (Ws : Wrs) (L : LogP) (c : Nat) (vC : Value) (CC : List OpC) : Prop where
  Z : Since w0 o wr
  K : RowO wr o 5 vC CC
  G : LD wr o 1 p j ga m S Ws L c
  j10 : 10 ≤ j
  s4 : 4 ≤ S.length
  t0 : ∀ s, L.tu = some s → s.size ≠ 0
section
variable {w0 w w' : World} {o o' : Nat → Nat} {p j ga m : Nat} {S S' : List ByteArray} {Ws Ws' : Wrs} {L L' : LogP} {c c' : Nat} {vC : Value} {CC : List OpC}
theorem SafeSt.call (h : SafeSt w0 w o p j ga m S Ws L c vC CC) (M : Moves (Duo6 j 1) o w o' w') (G' : LD w' o' 1 p j ga m S' Ws' L' c') (s4 : 4 ≤ S'.length) (t0 : ∀ s, L'.tu = some s → s.size ≠ 0) : SafeSt w0 w' o' p j ga m S' Ws' L' c' vC CC := by
  have := h.j10
  exact ⟨h.Z.moves M (duo_no (by omega) (by decide)), Row.moves h.K M (duo_no (by omega) (by decide)), G', h.j10, s4, t0⟩
theorem SafeSt.other {i : Nat} (h : SafeSt w0 w o p j ga m S Ws L c vC CC) (s : Stp o i w o' w') (h1 : i ≠ 0) (h2 : i ≠ 1) (h3 : i < 10) (h4 : i ≠ 5) : SafeSt w0 w' o' p j ga m S Ws L c vC CC := by
  have := h.j10
  exact ⟨h.Z.step s h1, Row.other h.K s (fun e => h4 e.symm), h.G.moves (Moves.of (X := fun k => k = i) rfl s) (fun e => h2 e.symm) (fun e => by omega), h.j10, h.s4, h.t0⟩
theorem SafeSt.reads (h : SafeSt w0 w o p j ga m S Ws L c vC CC) (b : Below w.heap.size w w') : SafeSt w0 w' o p j ga m S Ws L c vC CC :=
  ⟨h.Z.reads b, Row.reads h.K b, h.G.reads b, h.j10, h.s4, h.t0⟩
theorem at_moves {X : Nat → Prop} {B : Nat} {cs : Array Value} {T : TypeId} (h : At w B cs T) (ho : o B = j) (M : Moves X o w o' w') (hj : ¬ X j) : At w' B cs T ∧ o' B = j :=
  M (fun o w => At w B cs T ∧ o B = j) (fun _ _ _i _ _ hi s h => ⟨at_other h.1 s (by rw [h.2]; exact fun e => hj (e ▸ hi)), own_other h.1 h.2 s⟩) ⟨h, ho⟩
end
theorem appL_tu (m : Nat) (L : LogP) (s : ByteArray) : (appL m L s).tu = L.tu ∧ (appL m L s).wr = L.wr ∧ (appL m L s).su = L.su := by unfold appL; split <;> exact ⟨rfl, rfl, rfl⟩
set_option maxRecDepth 100000 in
set_option maxHeartbeats 16000000 in
theorem walk_WalSafe (pages : Int) (_hpg : (Lit.int .i64 pages).wf = true) (a : Option Addr) (len cap : Nat) (zs : List OpC) (w : World) (h : ArgOps6 w a len zs) (hlen : len ≤ maxLen) :
    Calls Try.prog 4 #[.int .i64 pages, .slice a len cap] w fun e w' => e = .returned (.bool true) ∧ Below w.heap.size w w' := by
  obtain ⟨r, hr⟩ : ∃ r : Nat, bits .and .i64 pages 15 = (r : Int) := ⟨(pages % 16).toNat, by rw [i64_and15]; omega⟩
  have hr2 : r < 16 := by rw [i64_and15] at hr; omega
  obtain ⟨n, hn⟩ : ∃ n, 4 + r = n := ⟨_, rfl⟩
  have hnI : 4 + (r : Int) = (n : Int) := by omega
  obtain ⟨m, hm⟩ : ∃ m, n / 2 = m := ⟨_, rfl⟩
  have hn3 : 4 ≤ n ∧ n ≤ 19 := by omega
  have HM := Lib.hid hm
  have CC0 := Lib.hid (lcut w a len cap zs h hlen)
  have HA := Lib.hid h
  have hCl : ((zs.take 40).map cutC).length ≤ 40 := by rw [List.length_map, List.length_take]; omega
  have CAT := Lib.hid (fun (wx : World) (ox : Nat → Nat) (v : Value) (Z : Since w ox wx) (R : RowO wx ox 5 v ((zs.take 40).map cutC)) t ht => cutC_at h Z R t ht)
  have CF := Lib.hid fixed6_true
  clear h hlen hm hn _hpg HA
  generalize (zs.take 40).map cutC = CC at *
  go_enter Try.func4, Try.ntmps4
  go_wp2_with fail
  refine CC0.out.mono ?_; rintro e w0 ⟨vC, rfl, o0, K0, Z0⟩
  have HK0 := Lib.hid K0; have HZ0 := Lib.hid Z0
  have CN := Lib.hid (dnew_ok w0 o0 1 n (by omega) (by omega))
  clear K0 Z0 CC0
  go_wp2_with fail
  refine CN.out.mono ?_; rintro e w1 ⟨p, o1, rfl, D1, S1⟩
  have C2 := ld_open (m := m) D1 (by rw [List.length_replicate]; exact HM.out) (by rw [List.length_replicate]; omega) (by rw [maxTag_new]; omega) (fun s hs => by rw [openS_new] at hs; cases hs) 10 0 (by decide) (by rw [openS_new]; exact Nat.le_refl _) (by rw [maxTag_new]; exact Nat.le_refl _)
  rw [openedL_new] at C2
  have HC2 := Lib.hid C2; have Z1 := Lib.hid (HZ0.out.step S1 (by decide)); have K1 := Lib.hid (Row.other HK0.out S1 (by decide))
  clear C2 D1 S1 CN HZ0 HK0
  go_wp2_with fail
  refine HC2.out.mono ?_; rintro e w2 ⟨g, rfl, L2, s2, b2⟩
  have A2 := Lib.hid (show SafeSt w w2 (gives o1 w1.heap.size 10) p 10 g m (List.replicate n blank) [] ⟨0, 1, 0, [], 0, 0, none⟩ 0 vC CC from ⟨Z1.out.step s2 (by decide), Row.other K1.out s2 (by decide), L2, by omega, by rw [List.length_replicate]; omega, fun s hs => by cases hs⟩)
  clear L2 s2 b2 Z1 K1 HC2
  generalize gives o1 w1.heap.size 10 = o2 at *
  generalize List.replicate n blank = S2 at *
  have s3 := stp_new o2 3 w2 (.cells #[] 9)
  have A3 := Lib.hid (A2.out.other s3 (by decide) (by decide) (by decide) (by decide))
  have R3 := Lib.hid (show RowS (w2.alloc (.cells #[] 9)) (gives o2 w2.heap.size 3) 3 (.slice (some ⟨w2.heap.size, 0, none⟩) 0 0) [] from Row.made w2 o2 3 9 1)
  clear s3 A2
  obtain ⟨aC, dC, hvC⟩ : ∃ aC dC, vC = .slice aC CC.length dC := by
    rcases (A3.out.K).val with ⟨e, h0, _⟩ | ⟨gC, dC, e, _⟩
    · exact ⟨none, 0, by rw [e, h0]⟩
    · exact ⟨_, _, e⟩
  subst hvC
  obtain ⟨NC, hNC⟩ : ∃ NC, CC.length = NC := ⟨_, rfl⟩
  rw [hNC] at hCl
  have HNC := Lib.hid hNC
  rw [hNC] at A3 ⊢
  clear hNC
  go_wp2_with fail
  go_loopw [9, 10, 11, 12, 13, 14, 15] (fun lv gv av wv sv tv iv wr => ∃ (t j ga : Nat) (o : Nat → Nat) (S : List ByteArray) (Ws : Wrs) (L : LogP) (b : Option Addr) (q D : Nat), t ≤ NC ∧ iv = .int .i64 (t : Int) ∧ lv = .pointer (some ⟨ga, 0, none⟩) ∧ gv = .int .i64 0 ∧ av = .slice b q D ∧ q = L.R.length ∧ wv = .int .i64 (L.wr : Int) ∧ sv = .int .i64 (L.su : Int) ∧ tv = .string (tuS L.tu) ∧ RowS wr o 3 (.slice b q D) L.R ∧ SafeSt w wr o p j ga m S Ws L t (.slice aC NC dC) CC) (fun _ _ _ _ _ _ i _ => NC - (intOf i).toNat)
  case atStart => exact ⟨0, _, _, _, _, _, _, _, _, _, by omega, rfl, rfl, rfl, rfl, rfl, rfl, rfl, rfl, R3.out, A3.out⟩
  case round =>
    obtain ⟨t, j, ga, o, S, Ws, L, b, q, D, ht, rfl, rfl, rfl, rfl, hq, rfl, rfl, rfl, hR, hS⟩ := hrel
    have HR := Lib.hid hR; have HS := Lib.hid hS; have HQ := Lib.hid hq
    clear R3 A3 hR hS hq
    by_cases hlt : t < NC
    · have hlt' : (t : Int) < (NC : Int) := by omega
      have h0 : (0 : Int) ≤ (t : Int) := by omega
      obtain ⟨gC, dC', xk, xs, fa, fl, fc, fs, ev, c0, c1, c2, x1, x2, x3⟩ := CAT.out wr o _ HS.out.Z HS.out.K t (by rw [HNC.out]; exact hlt)
      cases ev
      have sB := stp_new2 o 6 6 wr (.cells #[.int .i64 xk, .string xs, .slice fa fl fc] opT)
      have S1 := HS.out.other sB (by decide) (by decide) (by decide) (by decide)
      have R1 := Row.other HR.out sB (by decide)
      have AB := At.new wr #[.int .i64 xk, .string xs, .slice fa fl fc] opT
      have oB : gives o wr.heap.size 6 wr.heap.size = 6 := gives_new (Nat.le_refl _)
      have F1 := (x3 1 (by decide)).stp (stp_new2 o 1 6 wr (.cells #[.int .i64 xk, .string xs, .slice fa fl fc] opT))
      go_upto_region 13 with fail
      have HS1 := Lib.hid S1; have HR1 := Lib.hid R1; have HAB := Lib.hid AB; have HOB := Lib.hid oB; have HF1 := Lib.hid F1
      clear c0 c1 c2 x3 sB HS HR S1 R1 AB oB F1 h0 hlt'
      generalize wr.alloc (.cells #[.int .i64 xk, .string xs, .slice fa fl fc] opT) = W1 at *
      generalize wr.heap.size = B at *
      generalize gives o B 6 = o1 at *
      have k0 : W1.cell? ⟨B, 0, none⟩ = some (.int .i64 xk) := HAB.out.cell 0
      have k1 : W1.cell? ⟨B, 1, none⟩ = some (.string xs) := HAB.out.cell 1
      have k2 : W1.cell? ⟨B, 2, none⟩ = some (.slice fa fl fc) := HAB.out.cell 2
      have hj := HS1.out.j10
      have ht100 : t ≤ 100 := by omega
      have hcR := HS1.out.G.cR
      have hq100 : q ≤ 100 := by rw [HQ.out]; omega
      have hX : xk = 0 ∨ xk = 1 ∨ xk = 2 ∨ xk = 3 ∨ (¬ xk = 0 ∧ ¬ xk = 1 ∧ ¬ xk = 2 ∧ ¬ xk = 3) := by omega
      rcases hX with rfl | rfl | rfl | rfl | ⟨y0, y1, y2, y3⟩
      · -- Append
        have CA := ld_append HS1.out.G ht100 xs
        obtain ⟨q1, hq1⟩ : ∃ q1, q + 1 = q1 := ⟨_, rfl⟩
        clear k2 HF1
        rcases appE_any7 m L xs with ⟨eE, eL⟩ | ⟨eE, eL⟩
        · have eK : appK m L xs = (q1 : Int) := by unfold appK; rw [if_pos eE, ← HQ.out, hq1]
          rw [eE, eL, eK] at CA
          have HCA := Lib.hid CA
          clear CA eE eL eK
          go_wp2_with fail
          refine HCA.out.mono ?_; rintro e w3 ⟨rfl, o3, L3, M3⟩
          have S3 := HS1.out.call M3 L3 HS1.out.s4 HS1.out.t0
          have R3 := Row.moves HR1.out M3 (duo_no (by omega) (by decide))
          have A3 := (at_moves HAB.out HOB.out M3 (duo_no (by omega) (by decide))).1
          have k3 : w3.cell? ⟨B, 1, none⟩ = some (.string xs) := A3.cell 1
          have R3' : RowS w3 o3 3 (.slice b q D) L.R := R3
          obtain ⟨g7, C7, w7, o7, hap, hr7, s7⟩ := strs_append R3' xs (by omega)
          rw [← HQ.out, hq1] at hap hr7
          have HAP := Lib.hid hap; have HR7 := Lib.hid hr7
          have HS7 := Lib.hid (S3.other s7 (by decide) (by decide) (by decide) (by decide))
          have hql : q1 = (L.R ++ [xs]).length := by rw [List.length_append, ← HQ.out, ← hq1]; rfl
          have HQL := Lib.hid hql
          clear S3 R3 R3' A3 hap hr7 s7 L3 M3 HCA HS1 HR1 HAB HOB k0 k1 hql hq1
          go_wp2_with (at_builtin; refine wpList_append_run rfl (.tmp 118) (.tmp 121) _ _ rfl _ _ rfl rfl _ _ HAP.out ?_)
          exact ⟨⟨t + 1, j, ga, o7, S, Ws, { L with R := L.R ++ [xs] }, _, q1, C7, by omega, by go_num, rfl, rfl, rfl, HQL.out, rfl, rfl, rfl, HR7.out, HS7.out⟩, by simp [intOf]; omega⟩
        · rw [eL] at CA
          have hE1 : (appE m L xs == 0) = false := by simp [eE]
          have hEw := appE_wf7 m L xs
          have hkw := appK_wf7 HS1.out.G xs
          generalize appK m L xs = kk at *
          generalize appE m L xs = ee at *
          have HCA := Lib.hid CA
          clear CA eE eL hq1
          go_wp2_with fail
          refine HCA.out.mono ?_; rintro e w3 ⟨rfl, o3, L3, M3⟩
          have HS3 := Lib.hid (HS1.out.call M3 L3 HS1.out.s4 HS1.out.t0)
          have HR3 := Lib.hid (Row.moves HR1.out M3 (duo_no (by omega) (by decide)))
          clear L3 M3 HCA HS1 HR1 HAB HOB k0 k1
          go_wp2_with fail
          exact ⟨⟨t + 1, j, ga, o3, S, Ws, L, _, q, D, by omega, by go_num, rfl, rfl, rfl, HQ.out, rfl, rfl, rfl, HR3.out, HS3.out⟩, by simp [intOf]; omega⟩
      · -- Write
        have CW := ld_write HS1.out.G ht100
        clear k1 k2 HF1 HAB HOB
        cases htu : L.tu with
        | none =>
          have e1 : wrE L = 0 := by unfold wrE; rw [if_neg (by simp [htu])]
          have e2 : wrL L = wroteL L := by unfold wrL; rw [if_neg (by simp [htu])]
          rw [e1, e2] at CW
          have HCW := Lib.hid CW
          have HTu := Lib.hid htu
          clear CW e1 e2 htu
          go_wp2_with fail
          refine HCW.out.mono ?_; rintro e w3 ⟨rfl, o3, L3, M3⟩
          have HS3 := Lib.hid (HS1.out.call M3 L3 HS1.out.s4 (fun s hs => HS1.out.t0 s hs))
          have HR3 := Lib.hid (Row.moves HR1.out M3 (duo_no (by omega) (by decide)))
          clear L3 M3 HCW HS1 HR1 k0
          go_wp2_with fail
          exact ⟨⟨t + 1, j, ga, o3, S, _, wroteL L, _, q, D, by omega, by go_num, rfl, rfl, rfl, HQ.out, (by show Value.int .i64 (q : Int) = .int .i64 ((L.R.length : Nat) : Int); rw [← HQ.out]), rfl, (by show _ = Value.string (tuS L.tu); rw [HTu.out]), HR3.out, HS3.out⟩, by simp [intOf]; omega⟩
        | some s =>
          have e1 : wrE L = 9 := by unfold wrE; rw [if_pos (by simp [htu])]
          have e2 : wrL L = L := by unfold wrL; rw [if_pos (by simp [htu])]
          rw [e1, e2] at CW
          have HCW := Lib.hid CW
          have HTu := Lib.hid htu
          clear CW e1 e2 htu
          go_wp2_with fail
          refine HCW.out.mono ?_; rintro e w3 ⟨rfl, o3, L3, M3⟩
          have HS3 := Lib.hid (HS1.out.call M3 L3 HS1.out.s4 HS1.out.t0)
          have HR3 := Lib.hid (Row.moves HR1.out M3 (duo_no (by omega) (by decide)))
          clear L3 M3 HCW HS1 HR1 k0
          go_wp2_with fail
          exact ⟨⟨t + 1, j, ga, o3, S, _, L, _, q, D, by omega, by go_num, rfl, rfl, rfl, HQ.out, rfl, rfl, (by rw [HTu.out]), HR3.out, HS3.out⟩, by simp [intOf]; omega⟩
      · -- Sync
        have CS := ld_sync HS1.out.G ht100
        have h4 : 4 ≤ (syncOf S Ws).length := by rw [syncOf_length]; exact HS1.out.s4
        clear k1 k2 HF1 HAB HOB
        cases htu : L.tu with
        | none =>
          rw [syncL_none htu] at CS
          have HCS := Lib.hid CS
          have HTu := Lib.hid htu; have H4 := Lib.hid h4
          have f1 : (tuS none).toList = [] := text_none _ rfl
          have f2 : (tuS none).toList.isEmpty = true := by rw [f1]; rfl
          clear CS htu h4
          obtain ⟨T, hT⟩ : ∃ T, tuS none = T := ⟨_, rfl⟩
          rw [hT] at f1 f2 ⊢
          have HT := Lib.hid hT
          clear hT
          go_wp2_with fail
          refine HCS.out.mono ?_; rintro e w3 ⟨rfl, o3, L3, M3⟩
          have HS3 := Lib.hid (HS1.out.call M3 L3 H4.out (fun s hs => HS1.out.t0 s hs))
          have HR3 := Lib.hid (Row.moves HR1.out M3 (duo_no (by omega) (by decide)))
          clear L3 M3 HCS HS1 HR1 k0
          go_wp2_with fail
          exact ⟨⟨t + 1, j, ga, o3, _, [], { L with su := L.wr }, _, q, D, by omega, by go_num, rfl, rfl, rfl, HQ.out, rfl, rfl, (by show _ = Value.string (tuS L.tu); rw [HTu.out, HT.out]), HR3.out, HS3.out⟩, by simp [intOf]; omega⟩
        | some s =>
          have e1 : syncL L = ⟨1 - L.h, L.A, needOf (recsB [s]).length, [s], 1, 1, none⟩ := by unfold syncL; rw [htu]
          rw [e1] at CS
          have HCS := Lib.hid CS
          have H4 := Lib.hid h4
          have f0 := HS1.out.t0 s htu
          have f1 : ¬ s.toList = [] := text_some s f0
          have f2 : s.toList.isEmpty = false := text_some2 s f0
          clear CS htu h4 e1 f0
          dsimp only [tuS]
          go_wp2_with fail
          refine HCS.out.mono ?_; rintro e w3 ⟨rfl, o3, L3, M3⟩
          have S3 := HS1.out.call M3 L3 H4.out (fun s hs => by cases hs)
          have s4 := stp_new o3 3 w3 (.cells #[.string s] 9)
          have HS4 := Lib.hid (S3.other s4 (by decide) (by decide) (by decide) (by decide))
          have HR4 := Lib.hid (rowS_one w3 o3 3 s)
          clear L3 M3 HCS HS1 HR1 k0 S3 s4
          go_wp2_with fail
          exact ⟨⟨t + 1, j, ga, _, _, [], ⟨1 - L.h, L.A, needOf (recsB [s]).length, [s], 1, 1, none⟩, _, 1, 1, by omega, by go_num, rfl, rfl, rfl, rfl, rfl, rfl, rfl, HR4.out, HS4.out⟩, by simp [intOf]; omega⟩
      · -- Turn
        have CT := ld_turn HS1.out.G ht100 xs
        clear k2 HF1
        by_cases hE : tuE m L xs = 0
        · obtain ⟨g1, g2, g3⟩ := tuE_zero hE
          have e2 : tuL m L xs = turnL L xs := by unfold tuL; rw [if_pos hE]
          rw [hE, e2] at CT
          have HCT := Lib.hid CT
          have f1 : (tuS none).toList = [] := text_none _ rfl
          have f2 : (tuS none).toList.isEmpty = true := by rw [f1]; rfl
          have g4 : ¬ (L.su : Int) < (q : Int) := by have := HQ.out; omega
          have HG1 := Lib.hid (show xs.size ≠ 0 by omega)
          rw [g3]
          clear CT hE e2 g3 g2 g1
          obtain ⟨T, hT⟩ : ∃ T, tuS none = T := ⟨_, rfl⟩
          rw [hT] at f1 f2 ⊢
          have HT := Lib.hid hT
          clear hT
          go_wp2_with fail
          refine HCT.out.mono ?_; rintro e w3 ⟨rfl, o3, L3, M3⟩
          have HS3 := Lib.hid (HS1.out.call M3 L3 HS1.out.s4 (fun s hs => by cases hs; exact HG1.out))
          have HR3 := Lib.hid (Row.moves HR1.out M3 (duo_no (by omega) (by decide)))
          have A3 := (at_moves HAB.out HOB.out M3 (duo_no (by omega) (by decide))).1
          have k3 : w3.cell? ⟨B, 1, none⟩ = some (.string xs) := A3.cell 1
          clear L3 M3 HCT HS1 HR1 k0 k1 A3 HAB HOB HG1
          go_wp2_with fail
          exact ⟨⟨t + 1, j, ga, o3, S, _, turnL L xs, _, q, D, by omega, by go_num, rfl, rfl, rfl, HQ.out, rfl, rfl, rfl, HR3.out, HS3.out⟩, by simp [intOf]; omega⟩
        · have e2 : tuL m L xs = L := by unfold tuL; rw [if_neg hE]
          rw [e2] at CT
          have hE1 : (tuE m L xs == 0) = false := by simp [hE]
          have hEw : 0 ≤ tuE m L xs ∧ tuE m L xs ≤ 9 := by unfold tuE; (repeat' split) <;> omega
          generalize tuE m L xs = ee at *
          have HCT := Lib.hid CT
          clear CT hE e2
          go_wp2_with fail
          refine HCT.out.mono ?_; rintro e w3 ⟨rfl, o3, L3, M3⟩
          have HS3 := Lib.hid (HS1.out.call M3 L3 HS1.out.s4 HS1.out.t0)
          have HR3 := Lib.hid (Row.moves HR1.out M3 (duo_no (by omega) (by decide)))
          clear L3 M3 HCT HS1 HR1 k0 k1 HAB HOB
          go_wp2_with fail
          exact ⟨⟨t + 1, j, ga, o3, S, _, L, _, q, D, by omega, by go_num, rfl, rfl, rfl, HQ.out, rfl, rfl, rfl, HR3.out, HS3.out⟩, by simp [intOf]; omega⟩
      · -- a crash
        have xk0 : (xk == 0) = false := by simp [y0]
        have xk1 : (xk == 1) = false := by simp [y1]
        have xk2 : (xk == 2) = false := by simp [y2]
        have xk3 : (xk == 3) = false := by simp [y3]
        have CC1 := Lib.hid (ld_crash HS1.out.G ht100 HS1.out.s4 fa fl fc fs HF1.out (by omega))
        have hsu := HS1.out.G.I.su_le
        have hwl := HS1.out.G.I.wl
        clear k1 HAB HOB y0 y1 y2 y3 HF1
        go_wp2_with fail
        refine CC1.out.mono ?_; rintro e w3 ⟨rfl, S3, D3, F3, s3⟩
        have hcA := HS1.out.G.cA
        have CO := Lib.hid (ld_reopen D3 F3 hcR hcA ht100 (j + 1) (by omega))
        have HZ3 := Lib.hid (HS1.out.Z.step s3 (by decide)); have HK3 := Lib.hid (Row.other HS1.out.K s3 (by decide)); have HR3 := Lib.hid (Row.other HR1.out s3 (by decide))
        have H4 := Lib.hid F3.len4
        have HT0 := Lib.hid HS1.out.t0
        clear D3 F3 s3 CC1 k0 k2 HS1 HR1 hcR hcA xk0 xk1 xk2 xk3
        go_wp2_with fail
        refine CO.out.mono ?_; rintro e w4 ⟨gb, rfl, L4, F4, s4, b4⟩
        have HZ4 := Lib.hid (HZ3.out.step s4 (by omega)); have HK4 := Lib.hid (Row.other HK3.out s4 (by omega)); have HR4 := Lib.hid (Row.other HR3.out s4 (by omega))
        have HL4 := Lib.hid L4; have HF4 := Lib.hid F4
        clear L4 F4 s4 b4 CO HZ3 HK3 HR3
        generalize gives o1 w3.heap.size (j + 1) = o4 at *
        obtain ⟨LA, hLA⟩ : ∃ LA, openedL S3 = LA := ⟨_, rfl⟩
        rw [hLA] at HL4 HF4
        clear hLA
        go_wp2_with fail
        refine (ld_records HL4.out (by omega)).mono ?_; rintro e w5 ⟨v5, rfl, N5, b5⟩
        have s5 := (Stp.ofBelow b5 o4 3).gives w4.heap.size (Nat.le_refl _)
        have hN5 := N5.own o4 3
        have hsN : SafeSt w w5 (gives o4 w4.heap.size 3) p (j + 1) gb m S3 [] LA (t + 1) (.slice (some ⟨gC, 0, none⟩) CC.length dC) CC := by
          have S4 : SafeSt w w4 o4 p (j + 1) gb m S3 [] LA (t + 1) (.slice (some ⟨gC, 0, none⟩) CC.length dC) CC := ⟨HZ4.out, HK4.out, HL4.out, by omega, H4.out, fun s hs => by rw [HF4.out.tu] at hs; cases hs⟩
          exact S4.other s5 (by decide) (by decide) (by decide) (by decide)
        have HSN := Lib.hid hsN
        obtain ⟨a5, C5, rfl, hs5⟩ := N5.slice
        have hsO : Strs w5 b (L.R.take L.wr) := by
          obtain ⟨a9, C9, e9, hs9⟩ := RowS.slice HR4.out
          cases e9
          intro k s hs
          rw [List.getElem?_take] at hs
          split at hs
          · exact hs9.below b5 k s hs
          · cases hs
        have hD : L.wr ≤ D := Nat.le_trans hwl (RowS.cap HR4.out)
        have hlA : LA.R.length ≤ 200 := by have := HL4.out.cR; omega
        have hwq : (L.R.take L.wr).length = L.wr := by rw [List.length_take]; omega
        obtain ⟨nA, hnA⟩ : ∃ n, LA.R.length = n := ⟨_, rfl⟩
        obtain ⟨rr, hrr⟩ : ∃ rr, decide (LA.R.length ≤ (L.R.take L.wr).length ∧ LA.R = (L.R.take L.wr).take LA.R.length) = rr := ⟨_, rfl⟩
        have CSt := lstarts w5 a5 b C5 D LA.R (L.R.take L.wr) hs5 hsO (by omega) (by rw [hwq]; have := HQ.out; omega) (by rw [hwq]; exact hD) rr hrr
        rw [hwq, hnA] at CSt
        have HCSt := Lib.hid CSt
        have htold := HF4.out.told
        have wr4 := HF4.out.wr
        have su4 := HF4.out.su
        have tu4 := HF4.out.tu
        rw [hnA] at wr4 su4
        have HN5 := Lib.hid (show RowS w5 (gives o4 w4.heap.size 3) 3 (.slice a5 nA C5) LA.R by rw [← hnA]; exact hN5)
        clear hN5
        have HWR := Lib.hid wr4; have HSU := Lib.hid su4; have HTU := Lib.hid tu4; have HNA := Lib.hid hnA
        have hold : (rr = true ∧ L.su ≤ nA) ∨ ∃ s, L.tu = some s ∧ LA.R = [s] := by
          rcases htold with ⟨u, u1, u2, u3, _⟩ | ⟨s, h1, h2, _⟩
          · refine .inl ⟨?_, ?_⟩
            · rw [← hrr, decide_eq_true_iff]
              rw [hwq]
              have hl : LA.R.length = u := by rw [u3, List.length_take]; omega
              refine ⟨by omega, ?_⟩
              rw [hl, u3, List.take_take, Nat.min_eq_left (by omega)]
            · have hl : LA.R.length = u := by rw [u3, List.length_take]; omega
              omega
          · exact .inr ⟨s, h1, h2⟩
        have hnAl : nA ≤ 200 := by omega
        have HS5 := Lib.hid hs5
        clear hrr htold wr4 su4 tu4 hsO hs5 CSt HF4 HZ4 HK4 HR4 HL4 N5 b5 s5 hsN hsu H4 hwq hnA
        rw [HNA.out]
        generalize gives o4 w4.heap.size 3 = o5 at *
        have hold2 : (rr = true ∧ L.su ≤ nA) ∨ (rr = false ∧ L.su ≤ nA ∧ ∃ s, L.tu = some s ∧ LA.R = [s]) ∨ (¬ L.su ≤ nA ∧ ∃ s, L.tu = some s ∧ LA.R = [s]) := by
          rcases hold with h | h
          · exact .inl h
          · by_cases g : L.su ≤ nA
            · cases rr
              · exact .inr (.inl ⟨rfl, g, h⟩)
              · exact .inl ⟨rfl, g⟩
            · exact .inr (.inr ⟨g, h⟩)
        clear hold
        have hwI : (L.wr : Int) ≤ (D : Int) := by omega
        have hw0 : (0 : Int) ≤ (L.wr : Int) := by omega
        rcases hold2 with ⟨rfl, g1⟩ | ⟨rfl, g1, s, hs, hRs⟩ | ⟨g1, s, hs, hRs⟩
        · have g1' : (L.su : Int) ≤ (nA : Int) := by omega
          clear hwl hD
          go_wp2_with fail
          refine HCSt.out.mono ?_; rintro e w6 ⟨rfl, b6⟩
          have HS6 := Lib.hid (HSN.out.reads b6); have HR6 := Lib.hid (Row.reads HN5.out b6)
          clear b6 HCSt HSN HN5 HS5
          go_wp2_with fail
          exact ⟨⟨t + 1, j + 1, gb, o5, S3, [], LA, _, nA, C5, by omega, by go_num, rfl, rfl, rfl, HNA.out.symm, (by rw [HWR.out]), (by rw [HSU.out]), (by rw [HTU.out]; rfl), HR6.out, HS6.out⟩, by simp [intOf]; omega⟩
        · have g1' : (L.su : Int) ≤ (nA : Int) := by omega
          have f0 := HT0.out s hs
          have f1 : ¬ s.toList = [] := text_some s f0
          have f2 : s.toList.isEmpty = false := text_some2 s f0
          rw [hs]
          clear hwl hD f0 hs
          dsimp only [tuS]
          go_wp2_with fail
          refine HCSt.out.mono ?_; rintro e w6 ⟨rfl, b6⟩
          have b7 := (Below.refl w6.heap.size w6).alloc (Nat.le_refl _) (.cells #[.string s] 9)
          have HS6 := HSN.out.reads b6; have HR6 := Row.reads HN5.out b6
          have HS7 := Lib.hid (HS6.reads b7); have HR7 := Lib.hid (Row.reads HR6 b7)
          obtain ⟨xa, xC, ex, hxs⟩ := RowS.slice (rowS_one w6 o5 3 s)
          cases ex
          have CSm := rsame (w6.alloc (.cells #[.string s] 9)) a5 (some ⟨w6.heap.size, 0, none⟩) C5 1 LA.R [s] ((HS5.out.below b6).below b7) hxs (by omega) (by simp) true (by rw [hRs]; simp)
          rw [HNA.out] at CSm
          have HCSm := Lib.hid CSm
          clear b6 b7 HCSt HSN HN5 HS5 HS6 HR6 CSm hxs
          go_wp2_with fail
          refine HCSm.out.mono ?_; rintro e w8 ⟨rfl, b8⟩
          have HS8 := Lib.hid (HS7.out.reads b8); have HR8 := Lib.hid (Row.reads HR7.out b8)
          clear b8 HCSm HS7 HR7
          go_wp2_with fail
          exact ⟨⟨t + 1, j + 1, gb, o5, S3, [], LA, _, nA, C5, by omega, by go_num, rfl, rfl, rfl, HNA.out.symm, (by rw [HWR.out]), (by rw [HSU.out]), (by rw [HTU.out]; rfl), HR8.out, HS8.out⟩, by simp [intOf]; omega⟩
        · have g1' : ¬ (L.su : Int) ≤ (nA : Int) := by omega
          have f0 := HT0.out s hs
          have f1 : ¬ s.toList = [] := text_some s f0
          have f2 : s.toList.isEmpty = false := text_some2 s f0
          rw [hs]
          clear hwl hD f0 hs HCSt
          dsimp only [tuS]
          have b7 := (Below.refl w5.heap.size w5).alloc (Nat.le_refl _) (.cells #[.string s] 9)
          have HS7 := Lib.hid (HSN.out.reads b7); have HR7 := Lib.hid (Row.reads HN5.out b7)
          obtain ⟨xa, xC, ex, hxs⟩ := RowS.slice (rowS_one w5 o5 3 s)
          cases ex
          have CSm := rsame (w5.alloc (.cells #[.string s] 9)) a5 (some ⟨w5.heap.size, 0, none⟩) C5 1 LA.R [s] (HS5.out.below b7) hxs (by omega) (by simp) true (by rw [hRs]; simp)
          rw [HNA.out] at CSm
          have HCSm := Lib.hid CSm
          clear b7 HSN HN5 HS5 CSm hxs
          go_wp2_with fail
          refine HCSm.out.mono ?_; rintro e w8 ⟨rfl, b8⟩
          have HS8 := Lib.hid (HS7.out.reads b8); have HR8 := Lib.hid (Row.reads HR7.out b8)
          clear b8 HCSm HS7 HR7
          go_wp2_with fail
          exact ⟨⟨t + 1, j + 1, gb, o5, S3, [], LA, _, nA, C5, by omega, by go_num, rfl, rfl, rfl, HNA.out.symm, (by rw [HWR.out]), (by rw [HSU.out]), (by rw [HTU.out]; rfl), HR8.out, HS8.out⟩, by simp [intOf]; omega⟩
    · have HCF := Lib.hid (CF.out wr)
      have hZ := Lib.hid HS.out.Z
      clear CF HS HR
      go_wp2_with fail
      refine HCF.out.mono ?_; rintro e w3 ⟨rfl, b3⟩
      go_wp2_with fail
      go_ret
      exact ⟨rfl, hZ.out.bel.trans (b3.mono hZ.out.bel.size)⟩
end Go.Proofs.Ythjlbfijfpfohaa
