/-
  law06.same: a log and the document's, of one plain state.
-/
import Derived.Test.YthjlbfijfpfohaaV06k
namespace Go.Proofs.Ythjlbfijfpfohaa
open Go.RowKit Go.ChangeMaps
section
variable {w w' : World} {o o' : Nat → Nat} {q pd j g m q1 pd1 j1 g1 : Nat} {S : List ByteArray} {Ws : Wrs} {L : LogP} {c : Nat}
set_option maxRecDepth 100000 in
set_option maxHeartbeats 4000000 in
theorem vsame (P : LD w o q1 pd1 j1 g1 m S Ws L c) (V : VD w o q pd j g S Ws L) (hc : c ≤ 100) :
    Calls Try.prog 20 #[.pointer (some ⟨g1, 0, none⟩), .pointer (some ⟨g, 0, none⟩)] w fun e w' => e = .returned (.bool true) ∧ Below w.heap.size w w' := by
  have hR := P.cR
  obtain ⟨v, HV⟩ := V.G
  have A0 := HV.at'
  have RS := HV.recs
  obtain ⟨a4, C4, rfl, hst4⟩ := RS.slice
  have CRec := fun W (b : Below w.heap.size w W) => ld_records (P.reads b) hc
  have CSm := fun W a C (h : Strs W a L.R) (b : Below w.heap.size w W) => rsame W a a4 C C4 L.R L.R h (hst4.below b) (by omega) (by omega) true (decide_eq_true rfl)
  have CSu := Lib.hid fun W (b : Below w.heap.size w W) => wsure (P.reads b).G
  have CPg := Lib.hid fun W (b : Below w.heap.size w W) => wpages (P.reads b).G
  have CHf := Lib.hid fun W (b : Below w.heap.size w W) => whalf (P.reads b).G
  have CAg := Lib.hid fun W (b : Below w.heap.size w W) => wage (P.reads b).G
  have CR1 := Lib.hid fun W (b : Below w.heap.size w W) => (ld_room (P.reads b)).mono (R' := fun e w' => e = .returned (.int .i64 ((m - L.n : Nat) : Int)) ∧ Below w.heap.size w w') (fun e w' h => ⟨h.1, b.trans (h.2.mono b.size)⟩)
  have CR2 := Lib.hid fun W (b : Below w.heap.size w W) => (vd_room (V.reads b) P).mono (R' := fun e w' => e = .returned (.int .i64 ((m - L.n : Nat) : Int)) ∧ Below w.heap.size w w') (fun e w' h => ⟨h.1, b.trans (h.2.mono b.size)⟩)
  have CRc := Lib.hid fun W (b : Below w.heap.size w W) => (CRec W b).mono (R' := fun e w' => ∃ a C, e = .returned (.slice a L.R.length C) ∧ Strs w' a L.R ∧ Below w.heap.size w w') (fun e w' h => by
    obtain ⟨v, rfl, hn, hb⟩ := h
    obtain ⟨a, C, rfl, hs⟩ := hn.slice
    exact ⟨a, C, rfl, hs, b.trans (hb.mono b.size)⟩)
  have CS := Lib.hid fun W a C (h : Strs W a L.R) (b : Below w.heap.size w W) => (CSm W a C h b).mono (R' := fun e w' => e = .returned (.bool true) ∧ Below w.heap.size w w') (fun e w' h => ⟨h.1, b.trans (h.2.mono b.size)⟩)
  have KP := Lib.hid (fun W (b : Below w.heap.size w W) => And.intro ((A0.reads b).cell 4) (And.intro ((A0.reads b).cell 6) (And.intro ((A0.reads b).cell 3) (And.intro ((A0.reads b).cell 1) (And.intro ((A0.reads b).cell 2) b)))))
  have hB0 : Below w.heap.size w w.drew := (Below.refl _ w).drew
  clear P V HV A0 RS hst4 CRec CSm hR
  generalize m - L.n = rm at *
  generalize L.su = su at *
  generalize L.n = pg at *
  generalize L.h = hf at *
  generalize L.A = ag at *
  generalize hn : L.R.length = n at *
  go_enter Try.func20, Try.ntmps20
  go_wp2_with fail
  go_region_held3 (fun W => W.cell? ⟨g, 4, none⟩ = some (.slice a4 n C4) ∧ W.cell? ⟨g, 6, none⟩ = some (.int .i64 (su : Int)) ∧ W.cell? ⟨g, 3, none⟩ = some (.int .i64 (pg : Int)) ∧ W.cell? ⟨g, 1, none⟩ = some (.int .i64 (hf : Int)) ∧ W.cell? ⟨g, 2, none⟩ = some (.int .i64 (ag : Int)) ∧ Below w.heap.size w W)
    ((refine KP.out _ ?_; (first | assumption | exact hB0 | (go_split_ands; assumption))))
    (first
      | (go_at_call 24; ((with_reducible refine (CRc.out _ (by first | assumption | exact hB0 | (go_split_ands; assumption))).mono ?_); rintro e v1 ⟨aR, cR, rfl, hsR, bR⟩))
      | (go_at_call 26; ((with_reducible refine (CS.out _ _ _ hsR (by first | assumption | (go_split_ands; assumption))).mono ?_); rintro e v2 ⟨rfl, b2⟩))
      | (go_at_call 49; ((with_reducible refine (CSu.out _ (by first | assumption | (go_split_ands; assumption))).mono ?_); rintro e _ ⟨rfl, rfl⟩))
      | (go_at_call 50; ((with_reducible refine (CPg.out _ (by first | assumption | (go_split_ands; assumption))).mono ?_); rintro e _ ⟨rfl, rfl⟩))
      | (go_at_call 51; ((with_reducible refine (CHf.out _ (by first | assumption | (go_split_ands; assumption))).mono ?_); rintro e _ ⟨rfl, rfl⟩))
      | (go_at_call 52; ((with_reducible refine (CAg.out _ (by first | assumption | (go_split_ands; assumption))).mono ?_); rintro e _ ⟨rfl, rfl⟩))
      | (go_at_call 38; ((with_reducible refine (CR1.out _ (by first | assumption | (go_split_ands; assumption))).mono ?_); rintro e v3 ⟨rfl, b3⟩))
      | (go_at_call 42; ((with_reducible refine (CR2.out _ (by first | assumption | (go_split_ands; assumption))).mono ?_); rintro e v4 ⟨rfl, b4⟩)))
  all_goals
    go_wp2_with fail
    go_ret
    refine ⟨?_, by first | assumption | (go_split_ands; assumption)⟩
    first | rfl | simp
end
end Go.Proofs.Ythjlbfijfpfohaa
