/-
  Package pool: the contract of Clean.
-/
import Derived.Test.YthjlbfijfpfohaaGreatN07b
namespace Go.Proofs.YthjlbfijfpfohaaGreat
open Go.RowKit Go.MapKept

def mayI (L : List Pl) (su : Int) (x : Int) : Bool := match findP L x with
  | some a => a.may su
  | none => false
/-- the pages that are written, rising -/
def cleanI (L : List Pl) (su : Int) : List Int := (dirtyI L).filter (mayI L su)
/-- what is written of them -/
def wrsOf (L : List Pl) (xs : List Int) : Wrs := xs.map (fun x => match findP L x with
  | some a => (a.page, pageOf a.body)
  | none => (0, ⟨#[]⟩))
def cleanE (E : List En) (xs : List Int) : List En := E.map (fun e => if (e.a.page : Int) ∈ xs then { e with a := e.a.clean } else e)
def cleanP (L : List Pl) (xs : List Int) : List Pl := L.map (fun a => if (a.page : Int) ∈ xs then a.clean else a)
theorem cleanE_nil (E : List En) : cleanE E [] = E := by unfold cleanE; simp
theorem cleanE_places (E : List En) (xs : List Int) : (cleanE E xs).map (·.a) = cleanP (E.map (·.a)) xs := by
  unfold cleanE cleanP; rw [List.map_map, List.map_map]; congr 1; funext e; simp only [Function.comp]; split <;> rfl
theorem cleanE_snoc (E : List En) (xs : List Int) (x : Int) : updE (cleanE E xs) x Pl.clean = cleanE E (xs ++ [x]) := by
  unfold updE cleanE; rw [List.map_map]; congr 1; funext e; simp only [Function.comp]
  by_cases h1 : (e.a.page : Int) ∈ xs
  · have h2 : (e.a.page : Int) ∈ xs ++ [x] := List.mem_append_left _ h1
    rw [if_pos h1, if_pos h2]
    split <;> rfl
  · rw [if_neg h1]
    by_cases h2 : (e.a.page : Int) = x
    · rw [if_pos h2, if_pos (by rw [h2]; simp)]
    · rw [if_neg h2, if_neg (by simp [h1, h2])]
theorem mem_cleanE {E : List En} {xs : List Int} {e : En} (he : e ∈ E) (h : (e.a.page : Int) ∉ xs) : e ∈ cleanE E xs := List.mem_map.2 ⟨e, he, by rw [if_neg h]⟩
theorem pagesI_nodup {L : List Pl} (h : (L.map (·.page)).Nodup) : (pagesI L).Nodup := by
  unfold pagesI
  refine (List.mergeSort_perm _ _).nodup_iff.2 ?_
  have : L.map (fun a => (a.page : Int)) = (L.map (·.page)).map (fun k : Nat => (k : Int)) := by rw [List.map_map]; rfl
  rw [this]
  exact List.pairwise_map.2 (h.imp (fun hne e => hne (by omega)))
theorem gone_nodup {l : List Int} {p : Int → Bool} (hn : l.Nodup) {t : Nat} {x : Int} (hx : l[t]? = some x) : x ∉ (l.take t).filter p := fun h => by
  have h1 := (List.mem_filter.1 h).1
  have h2 : x ∈ l.drop t := List.mem_of_getElem? (i := 0) (by rw [List.getElem?_drop]; exact hx)
  have h3 := (List.nodup_append.1 (show (l.take t ++ l.drop t).Nodup by rw [List.take_append_drop]; exact hn)).2.2
  exact h3 x h1 x h2 rfl
section
variable {w w' : World} {o o' : Nat → Nat} {i j g pd m n t ck b q : Nat} {su : Int} {E : List En} {S : List ByteArray} {Ws : Wrs}
theorem stp_giveNew (b : Below w.heap.size w w') (o : Nat → Nat) (j z : Nat) : Stp o j w (gives o w.heap.size z) w' :=
  ⟨b.os, b.tape, b.output, b.size, fun k hk _ => b.block k hk, fun _ hk => gives_old hk⟩
theorem wrsOf_length (L : List Pl) (xs : List Int) : (wrsOf L xs).length = xs.length := by simp [wrsOf]
set_option maxRecDepth 100000 in
set_option maxHeartbeats 4000000 in
theorem pclean (h : IsE w o j g pd m n su t E ck) (D : IsD w o q pd S Ws) (hqj : q ≠ j) (hl : E.length ≤ 1000) (hp : ∀ e ∈ E, e.a.page < S.length) (hs : ∀ e ∈ E, e.a.body.size ≤ 252) (hW : Ws.length ≤ 50000) :
    Calls Tryz.prog 31 #[.pointer (some ⟨g, 0, none⟩)] w fun x w' => x = .returned (.int .i64 ((cleanI (E.map (·.a)) su).length : Int)) ∧ ∃ o', IsE w' o' j g pd m n su t (cleanE E (cleanI (E.map (·.a)) su)) ck ∧ IsD w' o' q pd S (Ws ++ wrsOf (E.map (·.a)) (cleanI (E.map (·.a)) su)) ∧ Moves (Two j q) o w o' w' := by
  have hS := D.n2
  have CP := Lib.hid (pdirtys h hl (fun e he => by have := hp e he; omega))
  have HH := Lib.hid h; have HD := Lib.hid D
  have HP := Lib.hid hp; have HS := Lib.hid hs
  have hlen : (dirtyI (E.map (·.a))).length ≤ 1000 := Nat.le_trans (List.length_filter_le _ _) (by rw [pagesI_length, List.length_map]; exact hl)
  have hnd : (dirtyI (E.map (·.a))).Nodup := (pagesI_nodup h.nkL).filter _
  have hmm : ∀ x ∈ dirtyI (E.map (·.a)), ∃ e ∈ E, (e.a.page : Int) = x := fun x hx => En.of (List.mem_filter.1 hx).1
  unfold cleanI
  obtain ⟨l, hlp⟩ : ∃ l, dirtyI (E.map (·.a)) = l := ⟨_, rfl⟩
  rw [hlp] at CP hlen hnd hmm ⊢
  have HN := Lib.hid hnd; have HM := Lib.hid hmm
  clear h D hl hlp hp hs hnd hmm
  go_enter Tryz.func31, Tryz.ntmps31
  go_wp2_with fail
  refine CP.out.mono ?_; rintro x w1 ⟨v, rfl, hrow1, b1⟩
  obtain ⟨z, hz⟩ : ∃ z, z = j + q + 1 := ⟨_, rfl⟩
  have S1 := stp_giveNew b1 o j z
  have M1 : Moves (Two j q) o w (gives o w.heap.size z) w1 := Moves.of (.inl rfl) S1
  have R1 : Row w1 (gives o w.heap.size z) z 3 1 v l.length (l.map (Value.int .i64)) := ⟨ownsRow_base_a hrow1 (Nat.zero_le _), fun gb hg => gives_new (hrow1.lt gb hg).1⟩
  have E1 : IsE w1 (gives o w.heap.size z) j g pd m n su t E ck := HH.out.kept (fun k hk _ => b1.block k hk) (fun _ hk => gives_old hk)
  have D1 : IsD w1 (gives o w.heap.size z) q pd S Ws := HD.out.other S1 hqj
  generalize gives o w.heap.size z = o1 at *
  obtain ⟨va, vC, rfl⟩ := (isInts_of_row hrow1).len
  have HR1 := Lib.hid R1; have HE1 := Lib.hid E1; have HD1 := Lib.hid D1; have HM1 := Lib.hid M1
  have hzj : ¬ Two j q z := by unfold Two; omega
  have HZ := Lib.hid hzj
  clear hrow1 b1 S1 M1 R1 E1 D1 CP HH HD hz hzj
  go_wp2
  go_loopw [3, 10] (fun u c wr => ∃ k : Nat, k ≤ l.length ∧ c = .int .i64 (k : Int) ∧ u = .int .i64 ((((l.take k).filter (mayI (E.map (·.a)) su)).length : Nat) : Int) ∧ ∃ o', IsE wr o' j g pd m n su t (cleanE E ((l.take k).filter (mayI (E.map (·.a)) su))) ck ∧ IsD wr o' q pd S (Ws ++ wrsOf (E.map (·.a)) ((l.take k).filter (mayI (E.map (·.a)) su))) ∧ Moves (Two j q) o1 w1 o' wr) (fun _ c _ => l.length - (intOf c).toNat)
  case atStart =>
    refine ⟨0, by omega, rfl, by simp, o1, ?_, ?_, Moves.refl _ _ _⟩
    · rw [List.take_zero, List.filter_nil, cleanE_nil]; exact HE1.out
    · rw [List.take_zero, List.filter_nil]; simpa [wrsOf] using HD1.out
  case round =>
    obtain ⟨k, hk, rfl, rfl, o2, hE, hD, hM⟩ := hrel
    by_cases hlt : k < l.length
    · have h0 : (k : Int) < (l.length : Int) := by omega
      have h00 : (0 : Int) ≤ (k : Int) := by omega
      obtain ⟨x, hx⟩ : ∃ x, l[k]? = some x := ⟨_, List.getElem?_eq_getElem hlt⟩
      have hV := isInts_of_row (HR1.out.moves hM HZ.out).row
      rcases hV with ⟨_, rfl⟩ | ⟨gv, Cv, hv, hcell⟩
      · simp at hlt
      cases hv
      have cx := hcell k _ hx
      obtain ⟨e, he, rfl⟩ := HM.out x (List.mem_of_getElem? hx)
      have hgone := gone_nodup (p := mayI (E.map (·.a)) su) HN.out hx
      have he2 : e ∈ cleanE E ((l.take k).filter (mayI (E.map (·.a)) su)) := mem_cleanE he hgone
      have c2 : wr.cell? ⟨g, 2, none⟩ = some (.map (some m)) := hE.hp.cell 2
      have lk := hE.look false he2
      simp only [Bool.false_eq_true, if_false] at lk
      have CM := Lib.hid (pmay hE.hp rfl (hE.hb e he2) (su := su))
      have hfnd : findP (E.map (·.a)) (e.a.page : Int) = some e.a := HE1.out.find he
      have hd : mayI (E.map (·.a)) su (e.a.page : Int) = e.a.may su := by unfold mayI; rw [hfnd]
      have HF := Lib.hid (filter_take_succ (p := mayI (E.map (·.a)) su) hx)
      rw [hd] at HF
      have hfl : ((l.take k).filter (mayI (E.map (·.a)) su)).length ≤ 1000 := Nat.le_trans (List.length_filter_le _ _) (by rw [List.length_take]; omega)
      have CW := Lib.hid (fun c : Nat => pwrite (hE.reads (below_drew wr c)) (hD.reads (below_drew wr c)) hqj he2 (HP.out e he) (HS.out e he) (by rw [List.length_append, wrsOf_length]; omega))
      have HMo := Lib.hid hM; have HEo := Lib.hid hE; have HDo := Lib.hid hD
      have HFN := Lib.hid hfnd
      have hfl' : ((((l.take k).filter (mayI (E.map (·.a)) su)).length : Nat) : Int) ≤ 1000 := by omega
      have hfl0 : (0 : Int) ≤ ((((l.take k).filter (mayI (E.map (·.a)) su)).length : Nat) : Int) := by omega
      clear hE hD hM hcell hgone he2 hd hfnd hx
      generalize hFd : (l.take k).filter (mayI (E.map (·.a)) su) = F at *
      generalize hcn : ((F.length : Nat) : Int) = cn at *
      generalize hpg : (e.a.page : Int) = pg at *
      cases hdd : e.a.may su with
      | true =>
        rw [hdd] at CM HF
        simp only [if_true] at HF
        clear hdd
        go_wp2_with fail
        refine CM.out.mono ?_; rintro x w2 ⟨rfl, nq, rfl⟩
        clear CM
        go_wp2_with fail
        refine (CW.out nq).mono ?_; rintro x w3 ⟨rfl, o3, E3, D3, M3⟩
        have HE3 := Lib.hid E3; have HD3 := Lib.hid D3; have HM3 := Lib.hid M3
        clear CW E3 D3 M3 c2 cx lk
        go_wp2_with fail
        have HF' := HF.out
        refine ⟨⟨k + 1, by omega, by go_num, ?_, o3, ?_, ?_, ?_⟩, by simp [intOf]; omega⟩
        · rw [HF', List.length_append]; simp; omega
        · rw [HF', ← cleanE_snoc]; exact HE3.out
        · rw [HF']
          have ew : wrsOf (E.map (·.a)) (F ++ [pg]) = wrsOf (E.map (·.a)) F ++ [(e.a.page, pageOf e.a.body)] := by
            unfold wrsOf; rw [List.map_append]; simp only [List.map_cons, List.map_nil]; rw [HFN.out]
          rw [ew, ← List.append_assoc]; exact HD3.out
        · exact (HMo.out.trans (Moves.of (.inl rfl) (Stp.ofBelow (below_drew wr nq) o2 j))).trans HM3.out
      | false =>
        rw [hdd] at CM HF
        simp only [Bool.false_eq_true, if_false, List.append_nil] at HF
        clear hdd
        go_wp2_with fail
        refine CM.out.mono ?_; rintro x w2 ⟨rfl, nq, rfl⟩
        clear CM CW c2 cx lk
        go_wp2_with fail
        refine ⟨⟨k + 1, by omega, by go_num, ?_, o2, ?_, ?_, ?_⟩, by simp [intOf]; omega⟩
        · rw [HF.out, hcn]
        · rw [HF.out]; exact HEo.out.reads (below_drew wr nq)
        · rw [HF.out]; exact HDo.out.reads (below_drew wr nq)
        · exact HMo.out.trans (Moves.of (.inl rfl) (Stp.ofBelow (below_drew wr nq) o2 j))
    · obtain rfl : k = l.length := by omega
      rw [List.take_length] at hE hD
      have HEo := Lib.hid hE; have HDo := Lib.hid hD; have HMo := Lib.hid hM
      clear hE hD hM
      go_wp2
      go_ret
      exact ⟨rfl, o2, HEo.out, HDo.out, HM1.out.trans HMo.out⟩
end
end Go.Proofs.YthjlbfijfpfohaaGreat
