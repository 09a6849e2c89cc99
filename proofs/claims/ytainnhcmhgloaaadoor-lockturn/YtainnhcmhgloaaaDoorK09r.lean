/-
  Locks, plain: what Ask tells, as a function, where it is known whether a ring would come. No program in this text.
-/
import Derived.Test.YtainnhcmhgloaaaDoorK09q
namespace Go.Proofs.YtainnhcmhgloaaaDoor
open Go.RowKit Go.Lib Go.Sort
section
variable {H W H' W' : Hs} {x : Int} {nm : ByteArray} {m : Int} {k : Nat}
def wantP (H : Hs) (x : Int) (nm : ByteArray) (m : Int) : Has9 := ⟨x, jn (modeP H x nm) m.toNat 7, nm⟩
def stayP (H W : Hs) (x : Int) (nm : ByteArray) (m : Int) : Hs := stayAt H (wantP H x nm m) (decide (modeP H x nm ≠ 0)) W
def gotB (H W : Hs) (x : Int) (nm : ByteArray) (m : Int) : Bool := (decide (modeP H x nm ≠ 0) || (nameL W nm).isEmpty) && canP H (wantP H x nm m)
def askF (dead : Bool) (H W : Hs) (x : Int) (nm : ByteArray) (m : Int) : Nat × Hs × Hs :=
  if decide (0 ≤ x ∧ 0 < m ∧ m < 7) = false then (1, H, W)
  else if W.any (fun y => decide (y.owner = x)) then (9, H, W)
  else if (wantP H x nm m).mode = modeP H x nm then (0, H, W)
  else if gotB H W x nm m then (0, holdP H (wantP H x nm m), W)
  else if dead then (11, H, W) else (10, H, stayP H W x nm m)
theorem gotB_iff : gotB H W x nm m = true ↔ (modeP H x nm ≠ 0 ∨ nameL W nm = []) ∧ canP H ⟨x, jn (modeP H x nm) m.toNat 7, nm⟩ = true := by
  unfold gotB wantP; simp
theorem ask_is (dead : Bool) (h : AskS H W x nm m k H' W') (hd : gotB H W x nm m = false → (dead = true ↔ Bqs H (stayP H W x nm m) x x)) : (k, H', W') = askF dead H W x nm m := by
  have nA : ∀ no : (∀ y ∈ W, y.owner ≠ x), W.any (fun y => decide (y.owner = x)) = false := fun no => by
    rw [List.any_eq_false]; intro y hy; simp [no y hy]
  cases h with
  | arg h => unfold askF; rw [if_pos (decide_eq_false h)]
  | state h y hy e =>
    unfold askF
    rw [if_neg (by simp [h]), if_pos (List.any_eq_true.2 ⟨y, hy, by simp [e]⟩)]
  | has h no e =>
    unfold askF
    rw [if_neg (by simp [h]), if_neg (by rw [nA no]; simp), if_pos (show (wantP H x nm m).mode = _ from e)]
  | got h no ne hn hc =>
    unfold askF
    rw [if_neg (by simp [h]), if_neg (by rw [nA no]; simp), if_neg (show ¬ (wantP H x nm m).mode = _ from ne), if_pos (gotB_iff.2 ⟨hn, hc⟩)]; rfl
  | dead h no ne hn hb =>
    have hg : gotB H W x nm m = false := Bool.eq_false_iff.2 (fun e => hn (gotB_iff.1 e))
    unfold askF
    rw [if_neg (by simp [h]), if_neg (by rw [nA no]; simp), if_neg (show ¬ (wantP H x nm m).mode = _ from ne), if_neg (by rw [hg]; simp), if_pos ((hd hg).2 hb)]
  | wait h no ne hn hb =>
    have hg : gotB H W x nm m = false := Bool.eq_false_iff.2 (fun e => hn (gotB_iff.1 e))
    unfold askF
    rw [if_neg (by simp [h]), if_neg (by rw [nA no]; simp), if_neg (show ¬ (wantP H x nm m).mode = _ from ne), if_neg (by rw [hg]; simp), if_neg (fun e => hb ((hd hg).1 e))]; rfl
/-- what Free tells, as a function -/
def freeF (H W : Hs) (x : Int) (nm : ByteArray) : Nat × Hs × Hs × List Int :=
  if modeP H x nm = 0 then (7, H, W, [])
  else if W.any (fun y => decide (y.owner = x) && decide (y.name = nm)) then (9, H, W, [])
  else (0, comeP nm (nameL W nm).length (woN H x nm) W)
theorem free_is {l : List Int} (h : FreeS H W x nm k H' W' l) : (k, H', W', l) = freeF H W x nm := by
  cases h with
  | none h => unfold freeF; rw [if_pos h]
  | state h y hy e hn => unfold freeF; rw [if_neg h, if_pos (List.any_eq_true.2 ⟨y, hy, by simp [e, hn]⟩)]
  | ok h no =>
    unfold freeF
    rw [if_neg h, if_neg (by
      rw [Bool.not_eq_true, List.any_eq_false]; intro y hy; simp only [Bool.and_eq_true, decide_eq_true_eq]; exact fun ⟨a, b⟩ => no y hy a b)]
/-! the calls whose answers the document fixes: a is 97, b is 98 -/
def nA : ByteArray := ⟨#[97]⟩
def nB : ByteArray := ⟨#[98]⟩
theorem okA (H W : Hs) (h1 : ∀ h ∈ H, 0 < h.mode ∧ h.mode < 7 ∧ 0 ≤ h.owner ∧ h.owner ≤ 9223372036854775807 ∧ h.name.size ≤ 300) (h2 : ∀ h ∈ W, 0 < h.mode ∧ h.mode < 7 ∧ 0 ≤ h.owner ∧ h.owner ≤ 9223372036854775807 ∧ h.name.size ≤ 300) (h3 : H.Pairwise (fun a b => ¬ (a.owner = b.owner ∧ a.name = b.name))) (h4 : (W.map (·.owner)).Nodup) : Ok9 H W := ⟨h1, h2, h3, h4⟩
def S1 : Hs := [⟨1, 4, nA⟩]
def S3 : Hs := [⟨1, 4, nA⟩, ⟨3, 4, nB⟩]
def V2 : Hs := [⟨2, 3, nA⟩]
def V1 : Hs := [⟨2, 3, nA⟩, ⟨1, 3, nB⟩]
theorem eq3 {a b : Nat × Hs × Hs} (h : a = b) : a.1 = b.1 ∧ a.2.1 = b.2.1 ∧ a.2.2 = b.2.2 := by subst h; exact ⟨rfl, rfl, rfl⟩
theorem fx1 (h : AskS [] [] 1 nA 4 k H' W') : k = 0 ∧ H' = S1 ∧ W' = [] :=
  eq3 ((ask_is false h (fun hg => absurd hg (by decide +kernel))).trans (show _ = (0, S1, []) by kernel_rfl))
theorem nr2 : ¬ Bqs S1 (stayP S1 [] 2 nA 3) 2 2 :=
  no_ring (okA _ _ (by decide +kernel) (by decide +kernel) (by decide +kernel) (by decide +kernel)) [1] (by decide +kernel) (by decide +kernel) (by decide +kernel)
theorem fx2 (h : AskS S1 [] 2 nA 3 k H' W') : k = 10 ∧ H' = S1 ∧ W' = V2 :=
  eq3 ((ask_is false h (fun _ => ⟨fun e => (by cases e), fun e => absurd e nr2⟩)).trans (show _ = (10, S1, V2) by kernel_rfl))
theorem fx3 (h : AskS S1 V2 2 nB 3 k H' W') : k = 9 ∧ H' = S1 ∧ W' = V2 :=
  eq3 ((ask_is false h (fun hg => absurd hg (by decide +kernel))).trans (show _ = (9, S1, V2) by kernel_rfl))
theorem fx4 (h : AskS S1 V2 3 nB 4 k H' W') : k = 0 ∧ H' = S3 ∧ W' = V2 :=
  eq3 ((ask_is false h (fun hg => absurd hg (by decide +kernel))).trans (show _ = (0, S3, V2) by kernel_rfl))
theorem nr5 : ¬ Bqs S3 (stayP S3 V2 1 nB 3) 1 1 :=
  no_ring (okA _ _ (by decide +kernel) (by decide +kernel) (by decide +kernel) (by decide +kernel)) [3] (by decide +kernel) (by decide +kernel) (by decide +kernel)
theorem fx5 (h : AskS S3 V2 1 nB 3 k H' W') : k = 10 ∧ H' = S3 ∧ W' = V1 :=
  eq3 ((ask_is false h (fun _ => ⟨fun e => (by cases e), fun e => absurd e nr5⟩)).trans (show _ = (10, S3, V1) by kernel_rfl))
theorem fxB : behI S3 V1 1 = [3] := by kernel_rfl
theorem rg6 : Bqs S3 (stayP S3 V1 3 nA 3) 3 3 := by
  have ok : Ok9 S3 (stayP S3 V1 3 nA 3) := okA _ _ (by decide +kernel) (by decide +kernel) (by decide +kernel) (by decide +kernel)
  exact (beh_bqs ok).1 (.more ((behL_bh ok).1 (show (1 : Int) ∈ behL S3 (stayP S3 V1 3 nA 3) 3 by decide +kernel)) (.one ((behL_bh ok).1 (by decide +kernel))))
theorem fx6 (h : AskS S3 V1 3 nA 3 k H' W') : k = 11 ∧ H' = S3 ∧ W' = V1 :=
  eq3 ((ask_is true h (fun _ => ⟨fun _ => rg6, fun _ => rfl⟩)).trans (show _ = (11, S3, V1) by kernel_rfl))
theorem eq4 {a b : Nat × Hs × Hs × List Int} (h : a = b) : a.1 = b.1 ∧ a.2.1 = b.2.1 ∧ a.2.2.1 = b.2.2.1 ∧ a.2.2.2 = b.2.2.2 := by subst h; exact ⟨rfl, rfl, rfl, rfl⟩
def S7 : Hs := [⟨1, 4, nA⟩, ⟨1, 3, nB⟩]
theorem fx7 {l : List Int} (h : FreeS S3 V1 3 nB k H' W' l) : k = 0 ∧ H' = S7 ∧ W' = V2 ∧ l = [1] := eq4 ((free_is h).trans (show _ = (0, S7, V2, [1]) by kernel_rfl))
theorem fx8 {l : List Int} (h : FreeS S7 V2 3 nB k H' W' l) : k = 7 ∧ H' = S7 ∧ W' = V2 ∧ l = [] := eq4 ((free_is h).trans (show _ = (7, S7, V2, []) by kernel_rfl))
def S9 : Hs := [⟨2, 3, nA⟩]
theorem names9 : namesP S7 V2 1 = [nA, nB] := by
  have e : (ownL S7 1).map (·.name) ++ (forP V2 1).toList.map (·.name) = [nA, nB] := by kernel_rfl
  unfold namesP namesU
  rw [e]
  have : ([nA, nB].map (fun n => n.data.toList)).mergeSort leB = [[97], [98]] := by
    refine (List.mergeSort_of_pairwise ?_).trans rfl
    show [[97], [98]].Pairwise (fun a b => leB a b = true)
    decide +kernel
  rw [this]
  first | rfl | decide
theorem fx9 : dropP 1 (namesP S7 V2 1) S7 (woA V2 1) = (S9, [], [2]) := by rw [names9]; kernel_rfl
def S10 : Hs := [⟨2, 4, nA⟩]
theorem fx10 (h : AskS S9 [] 2 nA 4 k H' W') : k = 0 ∧ H' = S10 ∧ W' = [] :=
  eq3 ((ask_is false h (fun hg => absurd hg (by decide +kernel))).trans (show _ = (0, S10, []) by kernel_rfl))
theorem fx11 (h : AskS S10 [] (-1) nA 3 k H' W') : k = 1 ∧ H' = S10 ∧ W' = [] := by
  cases h with
  | arg _ => exact ⟨rfl, rfl, rfl⟩
  | state h => omega
  | has h => omega
  | got h => omega
  | dead h => omega
  | wait h => omega
theorem fx12 (h : AskS S10 [] 4 nA 0 k H' W') : k = 1 ∧ H' = S10 ∧ W' = [] := by
  cases h with
  | arg _ => exact ⟨rfl, rfl, rfl⟩
  | state h => omega
  | has h => omega
  | got h => omega
  | dead h => omega
  | wait h => omega
theorem fxM : modeP S10 2 nA = 4 := by kernel_rfl
theorem fxH : ((nameL S10 nA).map (·.owner)).mergeSort leI = [2] := by
  have : (nameL S10 nA).map (·.owner) = [2] := by kernel_rfl
  rw [this, List.mergeSort_singleton]
theorem fxF1 : (ownL S10 1).length = 0 := by kernel_rfl
theorem fxF2 : (ownL S10 2).length = 1 := by kernel_rfl
theorem fxW : forP V2 2 = some ⟨2, 3, nA⟩ := by kernel_rfl
end
end Go.Proofs.YtainnhcmhgloaaaDoor
