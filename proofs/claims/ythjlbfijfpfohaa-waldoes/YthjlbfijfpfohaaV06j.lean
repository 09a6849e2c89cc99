/-
  The document's log: the contract of Append.
-/
import Derived.Test.YthjlbfijfpfohaaV06i
namespace Go.Proofs.Ythjlbfijfpfohaa
open Go.RowKit Go.ChangeMaps
section
variable {w w' : World} {o o' : Nat → Nat} {i j g q p m : Nat} {S : List ByteArray} {Ws : Wrs} {L : LogP}
set_option maxRecDepth 100000 in
set_option maxHeartbeats 4000000 in
theorem vappend_go (H : IsV w o j g p L) (D : IsR w o q p S Ws) (hm : S.length / 2 = m) (s : ByteArray) (h1 : 1 ≤ s.size) (h2 : s.size ≤ 100000) (ht : L.tu = none) (hn : L.n ≤ m) (hw : waitL L ≤ 800000) (hl : L.R.length ≤ 90000) (hwr : L.wr ≤ L.R.length) :
    Calls Try.prog 11 #[.pointer (some ⟨g, 0, none⟩), .string s] w fun e w' => (¬ waitL L + 3 + s.size ≤ (m - L.n) * 234 → e = .returned (.tuple #[.int .i64 0, .int .i64 6]) ∧ Below w.heap.size w w') ∧ (waitL L + 3 + s.size ≤ (m - L.n) * 234 → e = .returned (.tuple #[.int .i64 ((L.R.length + 1 : Nat) : Int), .int .i64 0]) ∧ ∃ o', IsV w' o' j g p { L with R := L.R ++ [s] } ∧ Stp o j w o' w') := by
  have hn2 : S.length ≤ 1024 := by obtain ⟨vl, vw, D'⟩ := D; exact D'.n2
  have CR := Lib.hid fun W (b : Below w.heap.size w W) => vroom (H.reads b) (D.reads b) hm hn
  obtain ⟨v, H⟩ := H
  obtain ⟨hf, A, pg, R, wrr, su, tu⟩ := L
  obtain rfl : tu = none := ht
  have hz' : waitL ⟨hf, A, pg, R, wrr, su, none⟩ = (recsB (R.drop wrr)).length := rfl
  rw [hz'] at hw ⊢
  dsimp only at hn hl hwr ⊢
  have A0 : At w g (logD p hf A pg v wrr su ⟨#[]⟩) logT := H.at'
  have hog : o g = j := H.own
  have RS : RowS w o j v R := H.recs
  obtain ⟨a, C, hsl, hst, hnil⟩ := RS.from2 wrr hwr
  obtain ⟨a4, C4, rfl, _⟩ := RS.slice
  obtain ⟨r, hrj, hrq, hr⟩ := fresh_owner6 o w.heap.size j q
  obtain ⟨T, hT⟩ : ∃ T, R.drop wrr = T := ⟨_, rfl⟩
  have hTl : T.length ≤ 90000 := by rw [← hT, List.length_drop]; omega
  rw [hT] at hsl hst hnil hw ⊢
  obtain ⟨dl, hdl⟩ : ∃ n, T.length = n := ⟨_, rfl⟩
  obtain ⟨n, hRn⟩ : ∃ n, R.length = n := ⟨_, rfl⟩
  rw [hdl] at hsl hnil hTl
  rw [hRn] at A0 RS hsl hl ⊢
  have hTs : (recsB (T ++ [s])).length = (recsB T).length + 3 + s.size := by rw [recsB_append, recsB_one, List.length_append, List.length_append, Lib.leBytes_length, bl_length]; omega
  obtain ⟨sb, hsb⟩ : ∃ b, bt (recsB (T ++ [s])) = b := ⟨_, rfl⟩
  have hsz : sb.size = (recsB T).length + 3 + s.size := by rw [← hsb, ← hTs]; exact bt_size _
  have CB := Lib.hid fun W a C (h : Strs W a (T ++ [s])) => rBytes W a C (T ++ [s]) h (by omega) (by rw [List.length_append]; simp; omega)
  rw [List.length_append, hdl, List.length_singleton, hsb] at CB
  obtain ⟨nb, hnb⟩ : ∃ n, needOf sb.size = n := ⟨_, rfl⟩
  obtain ⟨rm, hrm⟩ : ∃ n, m - pg = n := ⟨_, rfl⟩
  have hfit : ((recsB T).length + 3 + s.size ≤ (m - pg) * 234) = (nb ≤ rm) := by rw [← hnb, hsz, hrm]; unfold needOf; apply propext; omega
  rw [hfit]
  have CN := Lib.hid fun W => rNeed W sb (by omega)
  rw [hnb] at CN
  have CR' := CR.out
  dsimp only at CR'
  rw [hrm] at CR'
  have HCR := Lib.hid CR'
  have f1 : ¬ (s.size : Int) < 1 := by omega
  have f2 : ¬ (100000 : Int) < (s.size : Int) := by omega
  have c7 : w.cell? ⟨g, 7, none⟩ = some (.string ⟨#[]⟩) := A0.cell 7
  obtain ⟨i0, hi, hz0, hz1, hz2⟩ := info_parts info_str
  have KP := Lib.hid (fun W (b : Below w.heap.size w W) => (And.intro ((A0.reads b).cell 4) (And.intro ((A0.reads b).cell 5) b)))
  have HST := Lib.hid (fun W (b : Below w.heap.size w W) => hst.below b)
  have hB0 : Below w.heap.size w w.drew := (Below.refl _ w).drew
  have HA := Lib.hid A0; have HR := Lib.hid RS; have HF := Lib.hid hr; have HTd := Lib.hid hTl; have HLb := Lib.hid hl; have HRn := Lib.hid hRn; have HNil := Lib.hid hnil
  clear H D A0 RS hst hn hw hwr hz' hT hTs hsz hsb hnb hrm hfit hm hn2 CR CR' hr hl hnil
  go_enter Try.func11, Try.ntmps11
  go_wp2_with fail
  go_region_held3 (fun W => W.cell? ⟨g, 4, none⟩ = some (.slice a4 n C4) ∧ W.cell? ⟨g, 5, none⟩ = some (.int .i64 (wrr : Int)) ∧ Below w.heap.size w W)
    ((refine KP.out _ ?_; (first | exact hB0 | (repeat (first | assumption | exact Below.refl _ _ | (go_split_ands; assumption) | refine bel_drew ?_ | refine bel_alloc ?_ _ | (refine bel_grown ?_ (by assumption) (by omega)))))))
    (first
      | (refine step_copyStrs (T := T) (oo := ⟨some 30, _, _, _, _, _⟩) rfl (.tmp 20) (.tmp 29) _ rfl rfl rfl (by repeat (first | (with_reducible refine fresh_drew ?_) | ((with_reducible refine fresh_at _ _ _ ?_); (first | rfl | (simp; done) | omega)) | (with_reducible refine fresh_on _ _ _ _ ?_) | ((with_reducible refine fresh_grown (by assumption) ?_ ?_); rotate_left; omega))) (HST.out _ (by first | assumption | (go_split_ands; assumption))) hdl HNil.out Try.underlying49 hi hz0 hz1 hz2 rfl (by simp [maxLen]; omega) (by omega) ?_; intro bA cA WA rA gA lA; have sA := gA.size; (try simp at sA)))
  all_goals
    have hbA : Below w.heap.size w WA := by (repeat (first | assumption | exact Below.refl _ _ | (with_reducible refine bel_drew ?_) | (with_reducible refine bel_alloc ?_ _) | (refine bel_grown ?_ (by assumption) (by omega))))
    have hge : ∀ k, (Value.slice bA dl cA).ownBlock = some k → w.heap.size ≤ k := fun k hk => by
      have := lA k hk
      (try simp at this)
      omega
    have RA : RowS WA (gives o w.heap.size r) r (.slice bA dl cA) T := ⟨by rw [hdl]; exact rA, fun k hk => gives_new (hge k hk)⟩
    have SA := (Stp.ofBelow hbA o r).gives w.heap.size (Nat.le_refl _)
    obtain ⟨g5, D5, w5, o5, hap, hr5, s5⟩ := strs_append (l := T) RA s (by rw [hdl]; have := HTd.out; omega)
    have b5 : Below w.heap.size w w5 := stp_below6 (SA.trans s5) HF.out
    rw [hdl] at hap hr5
    obtain ⟨xa, xC, xe, hst5⟩ := RowS.slice (R := T ++ [s]) hr5
    rw [List.length_append, hdl, List.length_singleton, Value.slice.injEq] at xe
    obtain ⟨rfl, _, rfl⟩ := xe
    have CB2 := Lib.hid (CB.out w5 _ D5 hst5)
    have HAP := Lib.hid hap; have B5 := Lib.hid b5
    clear hge RA SA hap hr5 s5 b5 hst5 rA gA lA sA hbA HST KP CB HF
    go_wp2_with (at_builtin; refine wpList_append_run rfl (.tmp 31) (.tmp 33) _ _ rfl _ _ rfl rfl _ _ HAP.out ?_)
    refine CB2.out.mono ?_; rintro e w6 ⟨rfl, b6⟩
    have B6 := Lib.hid (B5.out.trans (b6.mono B5.out.size))
    have CR2 := Lib.hid (HCR.out w6 B6.out)
    clear b6 B5 CB2 HAP HCR
    go_wp2_with fail
    refine (CN.out _).mono ?_; rintro e _ ⟨rfl, rfl⟩
    go_wp2_with fail
    refine CR2.out.mono ?_; rintro e w7 ⟨rfl, b7⟩
    have B7 := Lib.hid (B6.out.trans (b7.mono B6.out.size))
    clear b7 B6 CR2 CN
    by_cases hk : nb ≤ rm
    · have hk' : ¬ (rm : Int) < (nb : Int) := by omega
      have hkd : decide (rm < nb) = false := decide_eq_false (by omega)
      have HK := Lib.hid hk
      have A7 := HA.out.reads B7.out
      have R7 : RowS w7 o j (.slice a4 n C4) R := Row.reads HR.out B7.out
      have c4 : w7.cell? ⟨g, 4, none⟩ = some (.slice a4 n C4) := A7.cell 4
      obtain ⟨g8, D8, w8, o8, hap8, hr8, s8, hk8⟩ := strs_append6 R7 s (by rw [HRn.out]; have := HLb.out; omega)
      rw [HRn.out] at hap8 hr8
      have A8 := hk8 g _ _ A7 (by decide)
      have og8 := own_other A7 hog s8
      have p4 := A8.cell 4; have z4 := A8.fz 4
      have A9 := Lib.hid (A8.set 4 (.slice (some ⟨g8, 0, none⟩) (n + 1) D8))
      have R9 := Lib.hid (RowS.grownBy6 hr8 (grow6_set w8 g 4 (.slice (some ⟨g8, 0, none⟩) (n + 1) D8)) (row_ne hr8.row A8 (by decide)))
      have S9 := Lib.hid ((Stp.ofBelow B7.out o j).trans (s8.trans (Stp.setCell o8 j w8 g 4 (.slice (some ⟨g8, 0, none⟩) (n + 1) D8) og8)))
      have HAP8 := Lib.hid hap8
      clear hk A7 R7 hap8 hr8 s8 hk8 A8 HA HR
      go_wp2_with (at_builtin; refine wpList_append_run rfl (.tmp 45) (.tmp 47) _ _ rfl _ _ rfl rfl _ _ HAP8.out ?_)
      go_ret2
      refine ⟨fun h => absurd HK.out h, fun _ => ⟨by first | rfl | (congr 3), o8, ⟨_, A9.out, og8, R9.out⟩, S9.out⟩⟩
    · have hk' : (rm : Int) < (nb : Int) := by omega
      have hkd : decide (rm < nb) = true := decide_eq_true (by omega)
      have HK := Lib.hid hk
      clear hk
      go_wp2_with fail
      go_ret2
      exact ⟨fun _ => ⟨rfl, B7.out⟩, fun h => absurd h HK.out⟩
end
end Go.Proofs.Ythjlbfijfpfohaa
