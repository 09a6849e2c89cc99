/-
  LeafSplits, walked.
-/
import Derived.Test.YtajbnfobmnibjaaH10
import Derived.Test.YtajbnfobmnibjaaC05a
import Derived.Test.YtajbnfobmnibjaaN10
namespace Go.Proofs.Ytajbnfobmnibjaa
open Go.RowKit

/-- the halves of a leaf that may be -/
structure Halves (q : LfP) (pg : Int) (A B : LfP) : Prop where
  ra : rightL A = true
  rb : rightL B = true
  na : 0 < A.pairs.length
  nb : 0 < B.pairs.length
  nx : A.next = pg + 1
  hb : B.high = q.high
  key : keyB A.high = true
  wa : wgt A.pairs ≤ 165
  wb : wgt B.pairs ≤ 115
  join : joinL A B = q ∧ joinE A B = 0
theorem halves {q : LfP} {pg : Int} (h : rightL q = true) (h2 : 2 ≤ q.pairs.length) (p0 : 0 ≤ pg) (p1 : pg < 1024) : splitE q pg = 0 ∧ Halves q pg (splitA q pg) (splitB q pg) := by
  have hok : splitOk q pg = true := by unfold splitOk; rw [h, decide_eq_true h2, decide_eq_true p0, decide_eq_true p1]; rfl
  have hr := rightL_rise h
  have hi := rightL_iff.1 h
  obtain ⟨f1, f2, f3, f4⟩ := half_facts hr h2 hi.1
  obtain ⟨n, hn⟩ : ∃ n, halfN q.pairs = n := ⟨_, rfl⟩
  have eA : splitA q pg = ⟨q.pairs.take n, ((q.pairs[n]?).map (·.1)).getD noB, pg + 1⟩ := by unfold splitA; rw [hok, hn]; rfl
  have eB : splitB q pg = ⟨q.pairs.drop n, q.high, q.next⟩ := by unfold splitB; rw [hok, hn]; rfl
  rw [hn] at f1 f2 f3 f4
  obtain ⟨⟨k, v⟩, hk⟩ : ∃ p, q.pairs[n]? = some p := ⟨_, List.getElem?_eq_getElem f2⟩
  rw [hk] at eA
  simp only [Option.map_some, Option.getD_some] at eA
  have hkey : keyB k = true := (hr.ok _ (List.mem_of_getElem? hk)).1
  have hdn : q.pairs.drop n = (k, v) :: q.pairs.drop (n + 1) := by
    rw [List.drop_eq_getElem_cons f2, (List.getElem?_eq_some_iff.1 hk).2]
  have hTA : lastB (q.pairs.take n) k = true := by
    rw [lastB_iff (hr.take n)]
    intro p hp
    have := hr.ord
    rw [← List.take_append_drop n q.pairs, hdn] at this
    exact (List.pairwise_append.1 this).2.2 p hp (k, v) (by simp)
  have ra : rightL ⟨q.pairs.take n, k, pg + 1⟩ = true := rightL_of (by omega) (hr.take n) (.inr ⟨hkey, hTA⟩) (by omega) (by omega)
  have rb : rightL ⟨q.pairs.drop n, q.high, q.next⟩ = true := rightL_of (by omega) (hr.drop n) (by
    rcases rightL_highs h with e | ⟨e1, e2⟩
    · exact .inl e
    · exact .inr ⟨e1, lastB_sub hr (hr.drop n) (fun p hp => List.mem_of_mem_drop hp) e2⟩) hi.2.2.2.1 hi.2.2.2.2
  refine ⟨by unfold splitE; rw [hok]; rfl, ?_⟩
  rw [eA, eB]
  have hlt : (q.pairs.take n).length = n := by rw [List.length_take]; omega
  refine ⟨ra, rb, by simp only; omega, by simp only [List.length_drop]; omega, rfl, rfl, hkey, f3, f4, ?_⟩
  have hfo : followsB ⟨q.pairs.drop n, q.high, q.next⟩ k = true := by
    unfold followsB
    simp only
    rw [decide_eq_false (key_ne hkey), hdn]
    have h1 : firstB ((k, v) :: q.pairs.drop (n + 1)) k = true := by unfold firstB; simp only; rw [lessI]; rfl
    rw [h1]
    rcases rightL_highs h with e | ⟨e1, e2⟩
    · rw [decide_eq_true e]; rfl
    · have := (lastB_iff hr _).1 e2 _ (List.mem_of_getElem? hk)
      rw [lessN this]; simp
  have hj : joinOk ⟨q.pairs.take n, k, pg + 1⟩ ⟨q.pairs.drop n, q.high, q.next⟩ = true := by unfold joinOk; rw [ra, rb, hfo]; rfl
  have hw : wgt (q.pairs.take n ++ q.pairs.drop n) ≤ 231 := by rw [List.take_append_drop]; exact hi.1
  constructor
  · unfold joinL wholeL; rw [hj, if_pos rfl, if_pos hw, List.take_append_drop]
  · unfold joinE wholeE; rw [hj, if_pos rfl, if_pos hw]
theorem split_no {q : LfP} {pg : Int} (h : rightL q = false ∨ q.pairs.length < 2) : splitE q pg = 1 := by
  unfold splitE splitOk
  rcases h with h | h
  · rw [h]; rfl
  · rw [decide_eq_false (by omega)]; simp
/-- the half has room -/
theorem half_room {q A B : LfP} {pg : Int} {k v : ByteArray} (H : Halves q pg A B) (hp : putOk q k v = true) (hk : k.size ≤ 16) (hv : v.size ≤ 32) :
    putE (if lessB k A.high then A else B) k v = 0 := by
  obtain ⟨h1, h2, h3, h4⟩ := putOk_iff.1 hp
  have hw : ∀ l : Prs, wgt l ≤ 165 → wgt (putPl l k v) ≤ 231 := fun l hl => by
    have := wgt_put l k v; unfold pairN at this; simp only at this; omega
  by_cases hc : lessB k A.high = true
  · rw [if_pos hc]
    exact (putL_yes (putOk_iff.2 ⟨H.ra, h2, h3, .inr hc⟩) (hw _ H.wa)).2.1
  · rw [if_neg hc]
    exact (putL_yes (putOk_iff.2 ⟨H.rb, h2, h3, by rw [H.hb]; exact h4⟩) (hw _ (by have := H.wb; omega))).2.1
set_option maxRecDepth 100000 in
set_option maxHeartbeats 8000000 in
theorem walk_LeafSplits (l : LfP) (a : Option Addr) (C : Nat) (n : Int) (_hn : (Lit.int .i64 n).wf = true) (pk pv : ByteArray) (_wk : pk.size ≤ maxLen) (_wv : pv.size ≤ maxLen) (w : World) (hA : ArgLeaf w a l) :
    Calls Try.prog 7 #[lfV a C l, .int .i64 n, .agg #[.string pk, .string pv]] w fun e w' => e = .returned (.bool true) ∧ Below w.heap.size w w' := by
  obtain ⟨n1, p1, p2, p3, p4⟩ := cutT_at pk 16 16 rfl
  obtain ⟨n2, q1, q2, q3, q4⟩ := cutT_at pv 32 32 rfl
  have HK := Lib.hid (show (pk.extract 0 n1).size ≤ 16 by rw [p4]; exact cutT_size 16 pk)
  have HV := Lib.hid (show (pv.extract 0 n2).size ≤ 32 by rw [q4]; exact cutT_size 32 pv)
  clear p4 q4
  have CF := Lib.hid (fun W => fixed10 W)
  obtain ⟨pg, hpg⟩ : ∃ pg, n % 1024 = pg := ⟨_, rfl⟩
  have hand : bits .and .i64 n 1023 = pg := by rw [i64_and1023, hpg]
  have hp0 : 0 ≤ pg := by omega
  have hp1 : pg < 1024 := by omega
  clear _hn hpg
  have NA := At.new w #[.slice a l.pairs.length C, .string l.high, .int .i64 l.next] 24
  have b := (Below.refl w.heap.size w).alloc (Nat.le_refl _) (.cells #[.slice a l.pairs.length C, .string l.high, .int .i64 l.next] 24)
  have HB := b
  have NP := At.new (w.alloc (.cells #[.slice a l.pairs.length C, .string l.high, .int .i64 l.next] 24)) #[.string pk, .string pv] 44
  rw [show (w.alloc (.cells #[.slice a l.pairs.length C, .string l.high, .int .i64 l.next] 24)).heap.size = w.heap.size + 1 by simp] at NP
  have b := (Below.refl (w.alloc (.cells #[.slice a l.pairs.length C, .string l.high, .int .i64 l.next] 24)).heap.size (w.alloc (.cells #[.slice a l.pairs.length C, .string l.high, .int .i64 l.next] 24))).alloc (Nat.le_refl _) (.cells #[.string pk, .string pv] 44)
  have NA := NA.reads b
  have HB := HB.trans (b.mono HB.size)
  have hA := Lib.hid (hA.below HB)
  have SA := Lib.hid (cut_short l)
  have CCA := Lib.hid (fun W => cut10 a C l W)
  generalize cutLf l = q at *
  have NA := Lib.hid NA
  have NP := Lib.hid NP
  have HB := Lib.hid HB
  clear b
  unfold lfV at *
  go_enter Try.func7, Try.ntmps7
  go_upto_region 1 with fail
  generalize ((w.alloc (.cells #[.slice a l.pairs.length C, .string l.high, .int .i64 l.next] 24)).alloc (.cells #[.string pk, .string pv] 44)) = W0 at *
  have d0 := NA.out.cell 0; have d1 := NA.out.cell 1; have d2 := NA.out.cell 2
  simp only [List.getElem?_toArray, List.getElem?_cons_zero, List.getElem?_cons_succ] at d0 d1 d2
  go_wp2_with fail
  refine (CCA.out _ hA.out).mono ?_; rintro e Wc1 ⟨aA, CA, rfl, hP, b⟩
  have Xc := NA.out.reads b
  have hBc := HB.out.trans (b.mono HB.out.size)
  have XA := Lib.hid (InA.put Xc hP hBc (by omega : w.heap.size ≤ w.heap.size))
  have NP := Lib.hid ((NP.out.reads b).far3 (B' := w.heap.size) (by omega) (.slice aA q.pairs.length CA) (.string q.high) (.int .i64 q.next))
  have HB := Lib.hid (below_put3 (u := .slice aA q.pairs.length CA) (v := .string q.high) (t := .int .i64 q.next) hBc (by omega : w.heap.size ≤ w.heap.size))
  clear d0 d1 d2 NA CCA hA b hP hBc
  have d0 := Xc.cell 0; have d1 := Xc.cell 1; have d2 := Xc.cell 2; have z0 := Xc.fz 0; have z1 := Xc.fz 1; have z2 := Xc.fz 2
  simp only [List.getElem?_toArray, List.getElem?_cons_zero, List.getElem?_cons_succ] at d0 d1 d2
  clear Xc
  go_upto_region 2 with fail
  clear d0 d1 d2 z0 z1 z2
  generalize (((Wc1.setCell ⟨w.heap.size, 0, none⟩ (.slice aA q.pairs.length CA)).setCell ⟨w.heap.size, 1, none⟩ (.string q.high)).setCell ⟨w.heap.size, 2, none⟩ (.int .i64 q.next)) = V01 at *
  clear HB
  obtain ⟨BB, hBB⟩ : ∃ BB, w.heap.size = BB := ⟨_, rfl⟩
  rw [hBB] at XA NP ⊢
  clear hBB
  go_upto_region 3 with fail
  clear hand
  have KR := Lib.hid (fun W (h : InA w W BB aA CA q) => k_right h.x SA.out)
  have KS := Lib.hid (fun W (h : InA w W BB aA CA q) => k_split h.x SA.out pg)
  obtain ⟨ES, hES⟩ : ∃ x, splitE q pg = x := ⟨_, rfl⟩
  obtain ⟨A, hA1⟩ : ∃ x, splitA q pg = x := ⟨_, rfl⟩
  obtain ⟨B, hB1⟩ : ∃ x, splitB q pg = x := ⟨_, rfl⟩
  rw [hES, hA1, hB1] at KS
  have HES := Lib.hid hES
  have HH := Lib.hid (fun h h2 => halves (q := q) (pg := pg) h h2 hp0 hp1)
  rw [hES, hA1, hB1] at HH
  clear hES hA1 hB1
  have dA0 := XA.out.x.c0; have dA1 := XA.out.x.c1; have dA2 := XA.out.x.c2
  go_wp2_with fail
  refine (KS.out _ XA.out).mono ?_; rintro e W1 ⟨aU, CU, aV, CV, rfl, hU, hV, b⟩
  clear dA0 dA1 dA2
  have YA := Lib.hid (XA.out.reads b)
  have NPy := Lib.hid (NP.out.reads b)
  clear b XA NP
  have XA := YA; clear YA
  have NP := NPy; clear NPy
  have hge := XA.out.bel.size
  have ZU := Bx.new hU
  have b := (Below.refl W1.heap.size W1).alloc (Nat.le_refl _) (.cells #[.slice aU A.pairs.length CU, .string A.high, .int .i64 A.next] 24)
  have hV := hV.below b
  have YA := Lib.hid (XA.out.reads b)
  have NPy := Lib.hid (NP.out.reads b)
  clear b XA NP
  have XA := YA; clear YA
  have NP := NPy; clear NPy
  have ZV := Bx.new hV
  rw [show (W1.alloc (.cells #[.slice aU A.pairs.length CU, .string A.high, .int .i64 A.next] 24)).heap.size = W1.heap.size + 1 by simp] at ZV
  have b := (Below.refl (W1.alloc (.cells #[.slice aU A.pairs.length CU, .string A.high, .int .i64 A.next] 24)).heap.size (W1.alloc (.cells #[.slice aU A.pairs.length CU, .string A.high, .int .i64 A.next] 24))).alloc (Nat.le_refl _) (.cells #[.slice aV B.pairs.length CV, .string B.high, .int .i64 B.next] 24)
  have ZU := ZU.reads b
  have YA := Lib.hid (XA.out.reads b)
  have NPy := Lib.hid (NP.out.reads b)
  clear b XA NP
  have XA := YA; clear YA
  have NP := NPy; clear NPy
  have XU := Lib.hid (show InA w _ W1.heap.size aU CU A from ⟨ZU, XA.out.bel, by omega⟩)
  have XV := Lib.hid (show InA w _ (W1.heap.size + 1) aV CV B from ⟨ZV, XA.out.bel, by omega⟩)
  clear hge ZU hU ZV hV
  go_upto_region 4 with fail
  generalize ((W1.alloc (.cells #[.slice aU A.pairs.length CU, .string A.high, .int .i64 A.next] 24)).alloc (.cells #[.slice aV B.pairs.length CV, .string B.high, .int .i64 B.next] 24)) = V1 at *
  have HBU := Lib.hid (show True from trivial)
  have dA0 := XA.out.x.c0; have dA1 := XA.out.x.c1; have dA2 := XA.out.x.c2
  go_wp2_with fail
  refine (KR.out _ XA.out).mono ?_; rintro e W2 ⟨rfl, b⟩
  clear dA0 dA1 dA2
  have YA := Lib.hid (XA.out.reads b)
  have NPy := Lib.hid (NP.out.reads b)
  have YU := Lib.hid (XU.out.reads b)
  have YV := Lib.hid (XV.out.reads b)
  clear b XA NP XU XV
  have XA := YA; clear YA
  have NP := NPy; clear NPy
  have XU := YU; clear YU
  have XV := YV; clear YV
  by_cases hc : rightL q = true ∧ 2 ≤ q.pairs.length
  · obtain ⟨hR, h2⟩ := hc
    rw [hR]
    obtain ⟨hE, hH⟩ := HH.out hR h2
    have HHv := Lib.hid hH
    have HR := Lib.hid hR
    subst hE
    have g1 : ¬ (q.pairs.length : Int) < 2 := by omega
    have g2 : decide ((q.pairs.length : Int) < 2) = false := by rw [decide_eq_false_iff_not]; omega
    have g3 : decide (q.pairs.length < 2) = false := by rw [decide_eq_false_iff_not]; omega
    have SU := Lib.hid (right_short hH.ra); have SV := Lib.hid (right_short hH.rb)
    have KJ := Lib.hid (fun W Ba Bb (h : InA w W Ba aU CU A) (h2 : InA w W Bb aV CV B) => k_join h.x h2.x SU.out SV.out)
    rw [hH.join.1, hH.join.2] at KJ
    have KSa := Lib.hid (fun W B a C (h : InA w W B a C q) (h2 : InA w W BB aA CA q) => k_same h.x h2.x SA.out SA.out)
    rw [show sameL q q = true by unfold sameL; simp] at KSa
    have KU := Lib.hid (fun W B (h : InA w W B aU CU A) => k_right h.x SU.out)
    rw [hH.ra] at KU
    have KV := Lib.hid (fun W B' (h : InA w W B' aV CV B) => k_right h.x SV.out)
    rw [hH.rb] at KV
    have u1 : ((A.pairs.length : Int) == 0) = false := by rw [beq_eq_false_iff_ne]; have := hH.na; omega
    have u2 : ((B.pairs.length : Int) == 0) = false := by rw [beq_eq_false_iff_ne]; have := hH.nb; omega
    have HU3 := Lib.hid hH.nx
    have u4 : IntKind.i64.wrap (pg + 1) = pg + 1 := by rw [IntKind.wrap_i64]; omega
    clear hR h2 hH HH
    have dA0 := XA.out.x.c0
    clear dA0
    have dA0 := XA.out.x.c0
    have dU0 := XU.out.x.c0; have dU1 := XU.out.x.c1; have dU2 := XU.out.x.c2
    have dV0 := XV.out.x.c0; have dV1 := XV.out.x.c1; have dV2 := XV.out.x.c2
    go_wp2_with fail
    clear dA0
    refine (KJ.out _ _ _ XU.out XV.out).mono ?_; rintro e W3 ⟨aJ, CJ, rfl, hJ, b⟩
    clear dU0 dU1 dU2 dV0 dV1 dV2
    have YA := Lib.hid (XA.out.reads b)
    have NPy := Lib.hid (NP.out.reads b)
    have YU := Lib.hid (XU.out.reads b)
    have YV := Lib.hid (XV.out.reads b)
    clear b XA NP XU XV
    have XA := YA; clear YA
    have NP := NPy; clear NPy
    have XU := YU; clear YU
    have XV := YV; clear YV
    have hge := XA.out.bel.size
    have ZJ := Bx.new hJ
    have b := (Below.refl W3.heap.size W3).alloc (Nat.le_refl _) (.cells #[.slice aJ q.pairs.length CJ, .string q.high, .int .i64 q.next] 24)
    have YA := Lib.hid (XA.out.reads b)
    have NPy := Lib.hid (NP.out.reads b)
    have YU := Lib.hid (XU.out.reads b)
    have YV := Lib.hid (XV.out.reads b)
    clear b XA NP XU XV
    have XA := YA; clear YA
    have NP := NPy; clear NPy
    have XU := YU; clear YU
    have XV := YV; clear YV
    have XJ := Lib.hid (show InA w _ W3.heap.size aJ CJ q from ⟨ZJ, XA.out.bel, by omega⟩)
    clear hge ZJ hJ
    go_upto_region 7 with fail
    generalize (W3.alloc (.cells #[.slice aJ q.pairs.length CJ, .string q.high, .int .i64 q.next] 24)) = V3 at *
    clear g1 g2 g3
    have dJ0 := XJ.out.x.c0; have dJ1 := XJ.out.x.c1; have dJ2 := XJ.out.x.c2
    have dA0 := XA.out.x.c0; have dA1 := XA.out.x.c1; have dA2 := XA.out.x.c2
    go_wp2_with fail
    refine (KSa.out _ _ _ _ XJ.out XA.out).mono ?_; rintro e W4 ⟨rfl, b⟩
    clear dJ0 dJ1 dJ2 dA0 dA1 dA2
    have YA := Lib.hid (XA.out.reads b)
    have NPy := Lib.hid (NP.out.reads b)
    have YU := Lib.hid (XU.out.reads b)
    have YV := Lib.hid (XV.out.reads b)
    have YJ := Lib.hid (XJ.out.reads b)
    clear b XA NP XU XV XJ
    have XA := YA; clear YA
    have NP := NPy; clear NPy
    have XU := YU; clear YU
    have XV := YV; clear YV
    have XJ := YJ; clear YJ
    clear XJ
    have dU0 := XU.out.x.c0; have dU1 := XU.out.x.c1; have dU2 := XU.out.x.c2
    go_wp2_with fail
    refine (KU.out _ _ XU.out).mono ?_; rintro e W5 ⟨rfl, b⟩
    clear dU0 dU1 dU2
    have YA := Lib.hid (XA.out.reads b)
    have NPy := Lib.hid (NP.out.reads b)
    have YU := Lib.hid (XU.out.reads b)
    have YV := Lib.hid (XV.out.reads b)
    clear b XA NP XU XV
    have XA := YA; clear YA
    have NP := NPy; clear NPy
    have XU := YU; clear YU
    have XV := YV; clear YV
    have dV0 := XV.out.x.c0; have dV1 := XV.out.x.c1; have dV2 := XV.out.x.c2
    go_wp2_with fail
    refine (KV.out _ _ XV.out).mono ?_; rintro e W6 ⟨rfl, b⟩
    clear dV0 dV1 dV2
    have YA := Lib.hid (XA.out.reads b)
    have NPy := Lib.hid (NP.out.reads b)
    have YU := Lib.hid (XU.out.reads b)
    have YV := Lib.hid (XV.out.reads b)
    clear b XA NP XU XV
    have XA := YA; clear YA
    have NP := NPy; clear NPy
    have XU := YU; clear YU
    have XV := YV; clear YV
    have dU0 := XU.out.x.c0; have dU2 := XU.out.x.c2; have dV0 := XV.out.x.c0
    rw [HU3.out] at dU2
    go_upto_region 9 with fail
    clear dU0 dU2 dV0 u1 u2 u4
    have d0 := NP.out.cell 0; have d1 := NP.out.cell 1
    simp only [List.getElem?_toArray, List.getElem?_cons_zero, List.getElem?_cons_succ] at d0 d1
    go_region
    all_goals
      clear d0 d1 NP p1 p2 p3 q1 q2 q3 KJ KSa KU KV KS KR
      have XA := Lib.hid (XA.out.reads (show Below W6.heap.size W6 W6.drew from (Below.refl _ W6).drew))
      have XU := Lib.hid (XU.out.reads (show Below W6.heap.size W6 W6.drew from (Below.refl _ W6).drew))
      have XV := Lib.hid (XV.out.reads (show Below W6.heap.size W6 W6.drew from (Below.refl _ W6).drew))
      generalize W6.drew = V6 at *
      generalize pk.extract 0 n1 = k at *
      generalize pv.extract 0 n2 = v at *
      have KP := Lib.hid (fun W B a C (r : LfP) (h : Bx W B a C r) (s : Short r) => k_put h s k v (by have := HK.out; omega) (by have := HV.out; omega))
      have KP1 := Lib.hid (fun W (h : InA w W BB aA CA q) => KP.out W _ _ _ _ h.x SA.out)
      obtain ⟨EP, hEP⟩ : ∃ x, putE q k v = x := ⟨_, rfl⟩
      obtain ⟨m, hm⟩ : ∃ x, putL q k v = x := ⟨_, rfl⟩
      rw [hEP, hm] at KP1
      have HEP := Lib.hid hEP
      clear hEP hm
      obtain ⟨BU, hBU⟩ : ∃ B, W1.heap.size = B := ⟨_, rfl⟩
      rw [hBU] at XU XV
      rw [hBU]
      clear hBU
      have dA0 := XA.out.x.c0; have dA1 := XA.out.x.c1; have dA2 := XA.out.x.c2
      go_wp2_with fail
      refine (KP1.out _ XA.out).mono ?_; rintro e W7 ⟨aM, CM, rfl, hM, b⟩
      clear dA0 dA1 dA2
      have YA := Lib.hid (XA.out.reads b)
      have YU := Lib.hid (XU.out.reads b)
      have YV := Lib.hid (XV.out.reads b)
      clear b XA XU XV
      have XA := YA; clear YA
      have XU := YU; clear YU
      have XV := YV; clear YV
      have hge := XA.out.bel.size
      have ZM := Bx.new hM
      have b := (Below.refl W7.heap.size W7).alloc (Nat.le_refl _) (.cells #[.slice aM m.pairs.length CM, .string m.high, .int .i64 m.next] 24)
      have YA := Lib.hid (XA.out.reads b)
      have YU := Lib.hid (XU.out.reads b)
      have YV := Lib.hid (XV.out.reads b)
      clear b XA XU XV
      have XA := YA; clear YA
      have XU := YU; clear YU
      have XV := YV; clear YV
      have XM := Lib.hid (show InA w _ W7.heap.size aM CM m from ⟨ZM, XA.out.bel, by omega⟩)
      clear hge ZM hM
      go_upto_region 11 with fail
      generalize (W7.alloc (.cells #[.slice aM m.pairs.length CM, .string m.high, .int .i64 m.next] 24)) = V7 at *
      clear XM
      by_cases h6 : EP = 6
      · subst h6
        have HR2 := Lib.hid (half_room (k := k) (v := v) HHv.out (by
          cases h : putOk q k v with
          | true => rfl
          | false => have := (putL_no h).2; rw [HEP.out] at this; cases this) HK.out HV.out)
        have hkk := HK.out
        have hah := SU.out.hi
        have KL := Lib.hid (fun W => less_any k A.high W (by omega) (by omega))
        clear hkk hah HEP KP1
        have dV0 := XV.out.x.c0; have dV1 := XV.out.x.c1; have dV2 := XV.out.x.c2
        have b := (Below.refl V7.heap.size V7).alloc (Nat.le_refl _) (.cells #[.slice aV B.pairs.length CV, .string B.high, .int .i64 B.next] 24)
        have XH := Lib.hid (show InA w (V7.alloc (.cells #[.slice aV B.pairs.length CV, .string B.high, .int .i64 B.next] 24)) V7.heap.size aV CV B from ⟨Bx.new XV.out.x.pr, XV.out.bel.trans (b.mono XV.out.bel.size), XV.out.bel.size⟩)
        have XU := Lib.hid (XU.out.reads b)
        go_upto_region 14 with fail
        generalize V7.alloc (.cells #[.slice aV B.pairs.length CV, .string B.high, .int .i64 B.next] 24) = Vh at *
        generalize V7.heap.size = BH at *
        clear dV0 dV1 dV2 XV XA b
        have dU1 := XU.out.x.c1
        go_wp2_with fail
        refine (KL.out _).mono ?_; rintro e Wl ⟨rfl, mm, rfl⟩
        have XU := Lib.hid (XU.out.reads (below_drewN10 _ mm))
        have XH := Lib.hid (XH.out.reads (below_drewN10 _ mm))
        clear dU1 KL
        generalize Vh.drewN mm = Vl at *
        have hr2 := HR2.out
        cases hl : lessB k A.high with
        | true =>
          rw [hl, if_pos rfl] at hr2
          have KPA := Lib.hid (fun W (h : InA w W BH aU CU A) => KP.out W _ _ _ _ h.x SU.out)
          rw [hr2] at KPA
          clear hr2 HR2 hl
          have XG := Lib.hid (InA.put XH.out.x.box XU.out.x.pr XH.out.bel XH.out.ge)
          have dU0 := XU.out.x.c0; have dU1 := XU.out.x.c1; have dU2 := XU.out.x.c2
          have dH0 := XH.out.x.c0; have dH1 := XH.out.x.c1; have dH2 := XH.out.x.c2
          have zH0 := XH.out.x.fz 0; have zH1 := XH.out.x.fz 1; have zH2 := XH.out.x.fz 2
          go_upto_region 16 with fail
          clear dU0 dU1 dU2 dH0 dH1 dH2 zH0 zH1 zH2 XU XH
          generalize (((Vl.setCell ⟨BH, 0, none⟩ (.slice aU A.pairs.length CU)).setCell ⟨BH, 1, none⟩ (.string A.high)).setCell ⟨BH, 2, none⟩ (.int .i64 A.next)) = Vg at *
          have XA := XG; clear XG
          have dA0 := XA.out.x.c0; have dA1 := XA.out.x.c1; have dA2 := XA.out.x.c2
          go_wp2_with fail
          refine (KPA.out _ XA.out).mono ?_; rintro e W21 ⟨aN, CN, rfl, hN, b⟩
          clear dA0 dA1 dA2
          have YA := Lib.hid (XA.out.reads b)
          clear b XA
          have XA := YA; clear YA
          have hge := XA.out.bel.size
          have ZN := Bx.new hN
          have b := (Below.refl W21.heap.size W21).alloc (Nat.le_refl _) (.cells #[.slice aN (putL A k v).pairs.length CN, .string (putL A k v).high, .int .i64 (putL A k v).next] 24)
          have YA := Lib.hid (XA.out.reads b)
          clear b XA
          have XA := YA; clear YA
          have XN := Lib.hid (show InA w _ W21.heap.size aN CN (putL A k v) from ⟨ZN, XA.out.bel, by omega⟩)
          clear hge ZN hN
          go_upto_region 17 with fail
          generalize (W21.alloc (.cells #[.slice aN (putL A k v).pairs.length CN, .string (putL A k v).high, .int .i64 (putL A k v).next] 24)) = V21 at *
          clear XN
          go_wp2_with fail
          refine (CF.out _).mono ?_; rintro e Wz ⟨rfl, b⟩
          have XA := Lib.hid (XA.out.reads b)
          clear b
          go_wp2_with fail
          go_ret
          exact ⟨rfl, XA.out.bel⟩
        | false =>
          rw [hl, if_neg (by decide)] at hr2
          have KPA := Lib.hid (fun W (h : InA w W BH aV CV B) => KP.out W _ _ _ _ h.x SV.out)
          rw [hr2] at KPA
          clear hr2 HR2 hl XU
          have XA := XH; clear XH
          have dA0 := XA.out.x.c0; have dA1 := XA.out.x.c1; have dA2 := XA.out.x.c2
          go_wp2_with fail
          refine (KPA.out _ XA.out).mono ?_; rintro e W21 ⟨aN, CN, rfl, hN, b⟩
          clear dA0 dA1 dA2
          have YA := Lib.hid (XA.out.reads b)
          clear b XA
          have XA := YA; clear YA
          have hge := XA.out.bel.size
          have ZN := Bx.new hN
          have b := (Below.refl W21.heap.size W21).alloc (Nat.le_refl _) (.cells #[.slice aN (putL B k v).pairs.length CN, .string (putL B k v).high, .int .i64 (putL B k v).next] 24)
          have YA := Lib.hid (XA.out.reads b)
          clear b XA
          have XA := YA; clear YA
          have XN := Lib.hid (show InA w _ W21.heap.size aN CN (putL B k v) from ⟨ZN, XA.out.bel, by omega⟩)
          clear hge ZN hN
          go_upto_region 17 with fail
          generalize (W21.alloc (.cells #[.slice aN (putL B k v).pairs.length CN, .string (putL B k v).high, .int .i64 (putL B k v).next] 24)) = V21 at *
          clear XN
          go_wp2_with fail
          refine (CF.out _).mono ?_; rintro e Wz ⟨rfl, b⟩
          have XA := Lib.hid (XA.out.reads b)
          clear b
          go_wp2_with fail
          go_ret
          exact ⟨rfl, XA.out.bel⟩
      · have h61 : (EP == 6) = false := beq_eq_false_iff_ne.2 h6
        have h62 : (EP != 6) = true := bne_iff_ne.2 h6
        clear h6
        go_wp2_with fail
        refine (CF.out _).mono ?_; rintro e Wz ⟨rfl, b⟩
        have XA := Lib.hid (XA.out.reads b)
        clear b
        go_wp2_with fail
        go_ret
        exact ⟨rfl, XA.out.bel⟩
  · have hE : ES = 1 := by
      rw [← HES.out]
      apply split_no
      cases hR : rightL q with
      | false => exact .inl rfl
      | true => exact .inr (by rcases Nat.lt_or_ge q.pairs.length 2 with h | h; exact h; exact absurd ⟨hR, h⟩ hc)
    subst hE
    cases hR : rightL q with
    | false =>
      clear hc hR HH
      go_wp2_with fail
      refine (CF.out _).mono ?_; rintro e Wz ⟨rfl, b⟩
      have XA := Lib.hid (XA.out.reads b)
      clear b
      go_wp2_with fail
      go_ret
      exact ⟨rfl, XA.out.bel⟩
    | true =>
      have hlt : q.pairs.length < 2 := by rcases Nat.lt_or_ge q.pairs.length 2 with h | h; exact h; exact absurd ⟨hR, h⟩ hc
      have g1 : (q.pairs.length : Int) < 2 := by omega
      have g2 : decide ((q.pairs.length : Int) < 2) = true := by rw [decide_eq_true_iff]; omega
      have g3 : decide (q.pairs.length < 2) = true := by rw [decide_eq_true_iff]; omega
      clear hc hR HH
      have dA0 := XA.out.x.c0
      go_wp2_with fail
      refine (CF.out _).mono ?_; rintro e Wz ⟨rfl, b⟩
      clear dA0
      have XA := Lib.hid (XA.out.reads b)
      clear b
      go_wp2_with fail
      go_ret
      exact ⟨rfl, XA.out.bel⟩
end Go.Proofs.Ytajbnfobmnibjaa
