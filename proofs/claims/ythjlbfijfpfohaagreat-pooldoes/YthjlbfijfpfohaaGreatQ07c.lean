/-
  Package pool: the contract of makeRoom.
-/
import Derived.Test.YthjlbfijfpfohaaGreatQ07b
namespace Go.Proofs.YthjlbfijfpfohaaGreat
open Go.RowKit Go.MapKept Go.Maps Go.Sort

theorem keys_plain (mb : Option Nat) (W : World) : Calls Tryz.prog 35 #[.map mb] W fun e w' => e = .returned (.func (.func 59) #[] #[.pointer (some ⟨W.heap.size, 0, none⟩)]) ∧ w' = W.alloc (.cells #[.map mb] 61) :=
  callsIn_wide.1 (AnyZI.keys_in keys7 Fence.wide 5 trivial rfl mb W)
/-- may a page go? -/
def goesI (L : List Pl) (su : Int) (x : Int) : Bool := match findP L x with
  | some a => a.goes su
  | none => false
section
variable {w w' : World} {o o' : Nat → Nat} {i j g pd m n t ck b q : Nat} {su : Int} {E : List En} {S : List ByteArray} {Ws : Wrs}
/-- sorted by age they stand as they are -/
theorem by_age {L : List Pl} (hL : L.Perm (E.map (·.a))) (hnk : ((E.map (·.a)).map (·.page)).Nodup) (age : L.Pairwise (fun a b => a.pinned < b.pinned)) {ss : List Int} (h1 : ss.Perm (E.map (fun e => (e.a.page : Int)))) (h2 : ss.Pairwise (fun x y => pinI (E.map (·.a)) x ≤ pinI (E.map (·.a)) y)) : ss = L.map (fun a => (a.page : Int)) := by
  have pin : ∀ a ∈ L, pinI (E.map (·.a)) (a.page : Int) = (a.pinned : Int) := fun a ha => by unfold pinI; rw [findP_mem hnk (hL.mem_iff.1 ha)]
  have hp : ss.Perm (L.map (fun a => (a.page : Int))) := h1.trans (by
    have := (hL.map (fun a => (a.page : Int))).symm
    rwa [List.map_map] at this)
  refine List.Perm.eq_of_pairwise (le := fun x y => pinI (E.map (·.a)) x ≤ pinI (E.map (·.a)) y) (fun x y hx hy a1 a2 => ?_) h2 ?_ hp
  · obtain ⟨a, ha, rfl⟩ := List.mem_map.1 (hp.mem_iff.1 hx)
    obtain ⟨c, hc, rfl⟩ := List.mem_map.1 hy
    rw [pin a ha, pin c hc] at a1 a2
    have e : a.pinned = c.pinned := by omega
    obtain ⟨ka, hka, rfl⟩ := List.mem_iff_getElem.1 ha
    obtain ⟨kc, hkc, rfl⟩ := List.mem_iff_getElem.1 hc
    rcases Nat.lt_trichotomy ka kc with h | h | h
    · have := List.pairwise_iff_getElem.1 age ka kc hka hkc h; omega
    · subst h; rfl
    · have := List.pairwise_iff_getElem.1 age kc ka hkc hka h; omega
  · rw [List.pairwise_map]
    refine age.imp_of_mem (fun {a c} ha hc h => ?_)
    rw [pin a ha, pin c hc]; omega
/-- up to where the page that may go is known -/
theorem indexf (h : IsE w o j g pd m n su t E ck) (hne : E ≠ []) {B : Nat} (hB : w.cell? ⟨B, 0, none⟩ = some (.pointer (some ⟨g, 0, none⟩))) {gb cap : Nat} {ss : List Int} (hs : ss.length ≤ 1000) (hrow : w.ownsRow b 3 1 (.slice (some ⟨gb, 0, none⟩) ss.length cap) ss.length (ss.map encZ)) (hmem : ∀ x ∈ ss, ∃ e ∈ E, (e.a.page : Int) = x) :
    Calls Tryz.prog 79 #[.slice (some ⟨gb, 0, none⟩) ss.length cap, .func (.func 80) #[] #[.pointer (some ⟨B, 0, none⟩)]] w fun e w' => (∃ k : Int, e = .returned (.int .i64 k) ∧ ((k = -1 ∧ ∀ x ∈ ss, goesI (E.map (·.a)) su x = false) ∨ ∃ kn x, k = ((kn : Nat) : Int) ∧ ss[kn]? = some x ∧ goesI (E.map (·.a)) su x = true ∧ ∀ jn y, jn < kn → ss[jn]? = some y → goesI (E.map (·.a)) su y = false)) ∧ ∃ q, w' = w.drewN q := by
  obtain ⟨d, hd⟩ := lift_keys E ss hmem
  obtain ⟨e0, he0⟩ : ∃ e, e ∈ E := by
    cases E with
    | nil => exact absurd rfl hne
    | cons a l => exact ⟨a, by simp⟩
  haveI : Inhabited (KeyOf E) := ⟨⟨(e0.a.page : Int), e0, he0, rfl⟩⟩
  have hp : PredAt Tryz.prog 80 #[.pointer (some ⟨B, 0, none⟩)] (encK (E := E)) (fun x => goesI (E.map (·.a)) su x.1) w := fun W x hb => by
    have hE := h.reads hb
    have hBW : W.cell? ⟨B, 0, none⟩ = some (.pointer (some ⟨g, 0, none⟩)) := (hb.cell (p := ⟨B, 0, none⟩) (World.block_lt_of_cell? w _ hB)).trans hB
    obtain ⟨ex, hex, hx⟩ := x.2
    have := room2 hE hBW hex
    have e1 : goesI (E.map (·.a)) su x.1 = ex.a.goes su := by unfold goesI; rw [← hx, hE.find hex]
    rw [hx] at this
    rw [← e1] at this
    exact this
  have hdl : d.length = ss.length := by rw [← hd]; simp
  have hI := isInts_of_row hrow
  have hc : ∀ k, k < d.length → w.cell? ⟨gb, 0 + k, none⟩ = some (encK d[k]!) := fun k hk => by
    rcases hI with ⟨h1, _⟩ | ⟨g', C', h1, h2⟩
    · cases h1
    · cases h1
      have := h2 k ss[k] (List.getElem?_eq_getElem (by omega))
      rw [Nat.zero_add, this, getElem!_pos d k hk]
      subst hd
      simp [encK]
  have C := AnyE.slices_IndexFunc indexf7 (encK (E := E)) (fun x => goesI (E.map (·.a)) su x.1) 80 #[.pointer (some ⟨B, 0, none⟩)] (enters_of Tryz.func80 (by kernel_rfl) rfl) gb 0 ss.length cap d w hp (by omega) (by omega) hc
  change Calls Tryz.prog 79 _ _ _ at C
  refine C.mono ?_
  rintro e w' ⟨rfl, q, hq⟩
  refine ⟨⟨_, rfl, ?_⟩, q, hq⟩
  have get : ∀ k, k < ss.length → ss[k]? = some (d[k]!).1 := fun k hk => by
    have hk' : k < d.length := by omega
    rw [getElem!_pos d k hk', ← hd, List.getElem?_map, List.getElem?_eq_getElem hk']; rfl
  by_cases hex : ∃ k, k < ss.length ∧ goesI (E.map (·.a)) su (d[k]!).1 = true
  · obtain ⟨k, hk, hg, hmin⟩ : ∃ k, k < ss.length ∧ goesI (E.map (·.a)) su (d[k]!).1 = true ∧ ∀ k', k' < k → goesI (E.map (·.a)) su (d[k']!).1 = false := by
      obtain ⟨k, hk⟩ := hex
      induction k using Nat.strongRecOn with
      | _ k ih =>
        by_cases hh : ∃ k', k' < k ∧ goesI (E.map (·.a)) su (d[k']!).1 = true
        · obtain ⟨k', h1, h2⟩ := hh
          exact ih k' h1 ⟨by omega, h2⟩
        · refine ⟨k, hk.1, hk.2, fun k' h1 => ?_⟩
          cases hc' : goesI (E.map (·.a)) su (d[k']!).1
          · rfl
          · exact absurd ⟨k', h1, hc'⟩ hh
    refine .inr ⟨k, _, Lib.idxBy_hit (fun _ (y : KeyOf E) => goesI (E.map (·.a)) su y.1) d ss.length k default hk (by omega) hg hmin, get k hk, hg, fun jn y hj hy => ?_⟩
    have e2 := get jn (by omega)
    rw [hy] at e2
    cases e2
    exact hmin jn hj
  · refine .inl ⟨Lib.idxBy_miss (fun _ (y : KeyOf E) => goesI (E.map (·.a)) su y.1) d ss.length default (fun k hk => ?_), fun x hx => ?_⟩
    · cases hc' : goesI (E.map (·.a)) su (d[k]!).1
      · rfl
      · exact absurd ⟨k, hk, hc'⟩ hex
    · obtain ⟨k, hk, rfl⟩ := List.mem_iff_getElem.1 hx
      have e2 := get k hk
      rw [List.getElem?_eq_getElem hk] at e2
      cases hc' : goesI (E.map (·.a)) su ss[k]
      · rfl
      · exact absurd ⟨k, hk, by rw [← Option.some.inj e2]; exact hc'⟩ hex
set_option maxRecDepth 100000 in
set_option maxHeartbeats 4000000 in
theorem proom_no (h : IsE w o j g pd m n su t E ck) (hne : E ≠ []) (hl : E.length ≤ 1000) (hk : ∀ e ∈ E, e.a.page ≤ 1000000) (hno : ∀ e ∈ E, e.a.goes su = false) :
    Calls Tryz.prog 66 #[.pointer (some ⟨g, 0, none⟩)] w fun x w' => x = .returned (.bool false) ∧ Below w.heap.size w w' := by
  have b1 : Below w.heap.size w (w.alloc (.cells #[.pointer (some ⟨g, 0, none⟩)] 30)) := (Below.refl _ w).alloc (Nat.le_refl _) _
  have h1 := h.reads b1
  have d0 : (w.alloc (.cells #[.pointer (some ⟨g, 0, none⟩)] 30)).cell? ⟨w.heap.size, 0, none⟩ = some (.pointer (some ⟨g, 0, none⟩)) := by rw [World.cell?_alloc_at _ _ _ _ rfl]; rfl
  have HA1 := Lib.hid (At.new w #[.pointer (some ⟨g, 0, none⟩)] 30)
  have c2 : (w.alloc (.cells #[.pointer (some ⟨g, 0, none⟩)] 30)).cell? ⟨g, 2, none⟩ = some (.map (some m)) := h1.hp.cell 2
  have HH := Lib.hid h
  obtain ⟨B, hBe⟩ : ∃ B, w.heap.size = B := ⟨_, rfl⟩
  have CK := Lib.hid (fun W : World => keys_plain (some m) W)
  have HB1 := Lib.hid b1; have H1 := Lib.hid h1
  go_enter Tryz.func66, Tryz.ntmps66
  go_upto_region 1 with fail
  rw [hBe] at d0 HA1
  have hsz1 : (w.alloc (.cells #[.pointer (some ⟨g, 0, none⟩)] 30)).heap.size = w.heap.size + 1 := by simp
  have HSZ1 := Lib.hid hsz1
  clear b1 h1 h hsz1
  generalize w.alloc (.cells #[.pointer (some ⟨g, 0, none⟩)] 30) = W1 at *
  go_wp2_with fail
  refine (CK.out _).mono ?_; rintro x W2 ⟨rfl, hW2⟩
  have b2 : Below W1.heap.size W1 W2 := by rw [hW2]; exact (Below.refl _ W1).alloc (Nat.le_refl _) _
  have h2 := H1.out.reads b2
  have e0 : W2.cell? ⟨B, 0, none⟩ = some (.pointer (some ⟨g, 0, none⟩)) := (b2.cell (p := ⟨B, 0, none⟩) (World.block_lt_of_cell? W1 _ d0)).trans d0
  have e1 : W2.cell? ⟨W1.heap.size, 0, none⟩ = some (.map (some m)) := by rw [hW2, World.cell?_alloc_at _ _ _ _ rfl]; rfl
  have e2 : W1.heap.size < W2.heap.size := by rw [hW2]; simp
  have CS := Lib.hid (sortedf h2 hne hl hk W1.heap.size e2 e1 B e0)
  have HB2 := Lib.hid b2; have H2 := Lib.hid h2; have HE0 := Lib.hid e0
  clear b2 h2 e0 e1 e2 hW2 c2 d0 H1 CK
  obtain ⟨B2, hB2⟩ : ∃ B2, W1.heap.size = B2 := ⟨_, rfl⟩
  rw [hB2] at CS ⊢
  go_wp2_with fail
  refine CS.out.mono ?_; rintro x W3 ⟨gb, cap, ss, rfl, hp, hpw, hrow, b3⟩
  have h3 := H2.out.reads b3
  have f0 : W3.cell? ⟨B, 0, none⟩ = some (.pointer (some ⟨g, 0, none⟩)) := (b3.cell (p := ⟨B, 0, none⟩) (World.block_lt_of_cell? W2 _ HE0.out)).trans HE0.out
  have hmem : ∀ x ∈ ss, ∃ e ∈ E, (e.a.page : Int) = x := fun x hx => by
    obtain ⟨e, he, rfl⟩ := List.mem_map.1 (hp.mem_iff.1 hx)
    exact ⟨e, he, rfl⟩
  have hsl : ss.length ≤ 1000 := by rw [hp.length_eq, List.length_map]; exact hl
  have CI := Lib.hid (indexf h3 hne f0 hsl hrow hmem)
  have b13 : Below w.heap.size w W3 := (HB1.out.trans (HB2.out.mono (by have := HSZ1.out; omega))).trans (b3.mono (by have := HSZ1.out; have := HB2.out.size; omega))
  have HB113 := Lib.hid (HB2.out.trans (b3.mono HB2.out.size))
  have HB3 := Lib.hid b13; have H3 := Lib.hid h3; have HM := Lib.hid hmem; have HP := Lib.hid hp; have HPW := Lib.hid hpw; have HR := Lib.hid (isInts_of_row hrow)
  have HSL := Lib.hid hsl
  clear b13 b3 h3 hmem hp hpw hrow CS HE0 H2 HB1 HB2 hB2 hsl
  go_wp2_with fail
  refine CI.out.mono ?_
  rintro x W4 ⟨⟨k, rfl, hkk⟩, nq, rfl⟩
  have hk1 : k = -1 := by
    rcases hkk with ⟨rfl, _⟩ | ⟨kn, x, _, hx, hg, _⟩
    · rfl
    · obtain ⟨e, he, rfl⟩ := HM.out x (List.mem_of_getElem? hx)
      unfold goesI at hg
      rw [H3.out.find he] at hg
      simp only at hg
      rw [hno e he] at hg; cases hg
  subst hk1
  have HB4 := Lib.hid (HB3.out.trans ((below_drew W3 nq).mono HB3.out.size))
  clear hkk CI HB3 H3 HM HP HPW HR hno hk
  generalize W3.drewN nq = W4 at *
  go_wp2_with fail
  go_ret
  exact ⟨rfl, HB4.out⟩
set_option maxRecDepth 100000 in
set_option maxHeartbeats 4000000 in
theorem proom_yes (h : IsE w o j g pd m n su t E ck) (D : IsD w o q pd S Ws) (hqj : q ≠ j) (hl : E.length ≤ 1000) (hpg : ∀ e ∈ E, e.a.page < S.length) (hbs : ∀ e ∈ E, e.a.body.size ≤ 252) (hW : Ws.length ≤ 50000) {L : List Pl} (hL : L.Perm (E.map (·.a))) (age : L.Pairwise (fun a b => a.pinned < b.pinned)) {a : Pl} (ha : L.find? (Pl.goes su) = some a) :
    Calls Tryz.prog 66 #[.pointer (some ⟨g, 0, none⟩)] w fun x w' => x = .returned (.bool true) ∧ ∃ o', IsE w' o' j g pd m n su t (cutE E a.page) ck ∧ IsD w' o' q pd S (Ws ++ if a.dirty then [(a.page, pageOf a.body)] else []) ∧ Moves (Two j q) o w o' w' := by
  have haL : a ∈ L := List.mem_of_find?_eq_some ha
  have hne : E ≠ [] := fun e => by rw [e] at hL; rw [hL.eq_nil] at haL; cases haL
  have hS := D.n2
  have hk : ∀ e ∈ E, e.a.page ≤ 1000000 := fun e he => by have := hpg e he; omega
  have HD := Lib.hid D
  generalize hWX : (Ws ++ if a.dirty then [(a.page, pageOf a.body)] else []) = WX
  have HWX := Lib.hid hWX
  clear D hWX
  have b1 : Below w.heap.size w (w.alloc (.cells #[.pointer (some ⟨g, 0, none⟩)] 30)) := (Below.refl _ w).alloc (Nat.le_refl _) _
  have h1 := h.reads b1
  have d0 : (w.alloc (.cells #[.pointer (some ⟨g, 0, none⟩)] 30)).cell? ⟨w.heap.size, 0, none⟩ = some (.pointer (some ⟨g, 0, none⟩)) := by rw [World.cell?_alloc_at _ _ _ _ rfl]; rfl
  have HA1 := Lib.hid (At.new w #[.pointer (some ⟨g, 0, none⟩)] 30)
  have c2 : (w.alloc (.cells #[.pointer (some ⟨g, 0, none⟩)] 30)).cell? ⟨g, 2, none⟩ = some (.map (some m)) := h1.hp.cell 2
  have HH := Lib.hid h
  obtain ⟨B, hBe⟩ : ∃ B, w.heap.size = B := ⟨_, rfl⟩
  have CK := Lib.hid (fun W : World => keys_plain (some m) W)
  have HB1 := Lib.hid b1; have H1 := Lib.hid h1
  go_enter Tryz.func66, Tryz.ntmps66
  go_upto_region 1 with fail
  rw [hBe] at d0 HA1
  have hsz1 : (w.alloc (.cells #[.pointer (some ⟨g, 0, none⟩)] 30)).heap.size = w.heap.size + 1 := by simp
  have HSZ1 := Lib.hid hsz1
  clear b1 h1 h hsz1
  generalize w.alloc (.cells #[.pointer (some ⟨g, 0, none⟩)] 30) = W1 at *
  go_wp2_with fail
  refine (CK.out _).mono ?_; rintro x W2 ⟨rfl, hW2⟩
  have b2 : Below W1.heap.size W1 W2 := by rw [hW2]; exact (Below.refl _ W1).alloc (Nat.le_refl _) _
  have h2 := H1.out.reads b2
  have e0 : W2.cell? ⟨B, 0, none⟩ = some (.pointer (some ⟨g, 0, none⟩)) := (b2.cell (p := ⟨B, 0, none⟩) (World.block_lt_of_cell? W1 _ d0)).trans d0
  have e1 : W2.cell? ⟨W1.heap.size, 0, none⟩ = some (.map (some m)) := by rw [hW2, World.cell?_alloc_at _ _ _ _ rfl]; rfl
  have e2 : W1.heap.size < W2.heap.size := by rw [hW2]; simp
  have CS := Lib.hid (sortedf h2 hne hl hk W1.heap.size e2 e1 B e0)
  have HB2 := Lib.hid b2; have H2 := Lib.hid h2; have HE0 := Lib.hid e0
  clear b2 h2 e0 e1 e2 hW2 c2 d0 H1 CK
  obtain ⟨B2, hB2⟩ : ∃ B2, W1.heap.size = B2 := ⟨_, rfl⟩
  rw [hB2] at CS ⊢
  go_wp2_with fail
  refine CS.out.mono ?_; rintro x W3 ⟨gb, cap, ss, rfl, hp, hpw, hrow, b3⟩
  have h3 := H2.out.reads b3
  have f0 : W3.cell? ⟨B, 0, none⟩ = some (.pointer (some ⟨g, 0, none⟩)) := (b3.cell (p := ⟨B, 0, none⟩) (World.block_lt_of_cell? W2 _ HE0.out)).trans HE0.out
  have hmem : ∀ x ∈ ss, ∃ e ∈ E, (e.a.page : Int) = x := fun x hx => by
    obtain ⟨e, he, rfl⟩ := List.mem_map.1 (hp.mem_iff.1 hx)
    exact ⟨e, he, rfl⟩
  have hsl : ss.length ≤ 1000 := by rw [hp.length_eq, List.length_map]; exact hl
  have CI := Lib.hid (indexf h3 hne f0 hsl hrow hmem)
  have b13 : Below w.heap.size w W3 := (HB1.out.trans (HB2.out.mono (by have := HSZ1.out; omega))).trans (b3.mono (by have := HSZ1.out; have := HB2.out.size; omega))
  have HB113 := Lib.hid (HB2.out.trans (b3.mono HB2.out.size))
  have HB3 := Lib.hid b13; have H3 := Lib.hid h3; have HM := Lib.hid hmem; have HP := Lib.hid hp; have HPW := Lib.hid hpw; have HR := Lib.hid (isInts_of_row hrow)
  have HSL := Lib.hid hsl
  clear b13 b3 h3 hmem hp hpw hrow CS HE0 H2 HB1 HB2 hB2 hsl
  go_wp2_with fail
  refine CI.out.mono ?_
  rintro x W4 ⟨⟨k, rfl, hkk⟩, nq, rfl⟩
  have hss := by_age hL H3.out.nkL age HP.out HPW.out
  have goesOf : ∀ c ∈ L, goesI (E.map (·.a)) su (c.page : Int) = c.goes su := fun c hc => by unfold goesI; rw [findP_mem H3.out.nkL (hL.mem_iff.1 hc)]
  obtain ⟨kn, rfl, hkx, hkl⟩ : ∃ kn : Nat, k = (kn : Int) ∧ ss[kn]? = some (a.page : Int) ∧ kn < ss.length := by
    have hg : a.goes su = true := List.find?_some ha
    rcases hkk with ⟨_, hall⟩ | ⟨kn, x, hkn, hx, hgx, hmin⟩
    · have := hall (a.page : Int) (by rw [hss]; exact List.mem_map.2 ⟨a, haL, rfl⟩)
      rw [goesOf a haL, hg] at this; cases this
    · refine ⟨kn, hkn, ?_, (List.getElem?_eq_some_iff.1 hx).1⟩
      obtain ⟨hg', ks, hks, hka, hmin'⟩ := List.find?_eq_some_iff_getElem.1 ha
      rw [hss, List.getElem?_map] at hx ⊢
      obtain ⟨c, hc, hcx⟩ := Option.map_eq_some_iff.1 hx
      have hcL := List.mem_of_getElem? hc
      rw [← hcx, goesOf c hcL] at hgx
      rcases Nat.lt_trichotomy kn ks with hlt | heq | hgt
      · have := hmin' kn hlt
        rw [(List.getElem?_eq_some_iff.1 hc).2, hgx] at this
        simp at this
      · subst heq
        rw [List.getElem?_eq_getElem hks, hka]; rfl
      · have := hmin ks (a.page : Int) hgt (by rw [hss, List.getElem?_map, List.getElem?_eq_getElem hks, hka]; rfl)
        rw [goesOf a haL, hg] at this; cases this
  obtain ⟨e, he, hea⟩ := List.mem_map.1 (hL.mem_iff.1 haL)
  subst hea
  have b4 : Below w.heap.size w (W3.drewN nq) := HB3.out.trans ((below_drew W3 nq).mono HB3.out.size)
  have h4 := HH.out.reads b4
  have D4 := HD.out.reads b4
  have g0 : (W3.drewN nq).cell? ⟨B, 0, none⟩ = some (.pointer (some ⟨g, 0, none⟩)) := f0
  have g2 : (W3.drewN nq).cell? ⟨g, 2, none⟩ = some (.map (some m)) := h4.hp.cell 2
  have lk := h4.look false he
  simp only [Bool.false_eq_true, if_false] at lk
  have hI := HR.out.below (below_drew W3 nq)
  have cx : (W3.drewN nq).cell? ⟨gb, kn, none⟩ = some (.int .i64 (e.a.page : Int)) := by
    rcases hI with ⟨h1, _⟩ | ⟨g', C', h1, h2⟩
    · cases h1
    · cases h1; exact h2 kn _ hkx
  have k0 : ¬ ((kn : Int) < 0) := by omega
  have k00 : (0 : Int) ≤ (kn : Int) := by omega
  have k1 : (kn : Int) < (ss.length : Int) := by omega
  obtain ⟨z, hz⟩ : ∃ z, z = j + q + 1 := ⟨_, rfl⟩
  have hzj : ¬ Two j q z := by unfold Two; omega
  have S4 := stp_giveNew b4 o j z
  have M4 : Moves (Two j q) o w (gives o w.heap.size z) (W3.drewN nq) := Moves.of (.inl rfl) S4
  have E4 : IsE (W3.drewN nq) (gives o w.heap.size z) j g pd m n su t E ck := HH.out.kept (fun k hk _ => b4.block k hk) (fun _ hk => gives_old hk)
  have D5 : IsD (W3.drewN nq) (gives o w.heap.size z) q pd S Ws := HD.out.other S4 hqj
  have oB : gives o w.heap.size z B = z := gives_new (by omega)
  have A4 : At (W3.drewN nq) B #[.pointer (some ⟨g, 0, none⟩)] 30 := (HA1.out.reads HB113.out).reads (below_drew W3 nq)
  generalize gives o w.heap.size z = o1 at *
  have CD := Lib.hid (pdirty (h4.hb e he))
  have CW := Lib.hid (pwrite E4 D5 hqj he (hpg e he) (hbs e he) (by omega))
  have HD4 := Lib.hid D5; have H4 := Lib.hid E4; have HM4 := Lib.hid M4; have HK := Lib.hid he; have HA4 := Lib.hid A4; have HOB := Lib.hid oB; have HZ := Lib.hid hzj
  clear hkk CI HB3 H3 HM HP HPW HR hk hss goesOf hkx hkl hI h4 D4 b4 f0 HH HD he HSL HSZ1 hpg hbs ha haL hL age hl S4 M4 E4 D5 A4 oB hz hzj HA1 HB113
  generalize W3.drewN nq = W4 at *
  cases hdd : e.a.dirty with
  | false =>
    rw [hdd] at CD
    obtain ⟨W5, hdel, E5, S5⟩ := H4.out.del HK.out
    have HE5 := Lib.hid E5; have HS5 := Lib.hid S5
    have HX : WX = Ws := by have := HWX.out; rw [hdd] at this; simpa using this.symm
    subst HX
    clear hdd CW E5 S5 HWX
    generalize hpp : (e.a.page : Int) = pg at *
    go_wp2_with fail
    refine CD.out.mono ?_; rintro x w2 ⟨rfl, rfl⟩
    clear CD
    go_wp2_with fail
    go_ret
    exact ⟨rfl, o1, by rw [hpp]; exact HE5.out, HD4.out.other HS5.out hqj, HM4.out.trans (Moves.of (.inl rfl) HS5.out)⟩
  | true =>
    rw [hdd] at CD
    have HX : WX = Ws ++ [(e.a.page, pageOf e.a.body)] := by have := HWX.out; rw [hdd] at this; simpa using this.symm
    subst HX
    clear hdd HWX
    generalize hpp : (e.a.page : Int) = pg at *
    go_wp2_with fail
    refine CD.out.mono ?_; rintro x w2 ⟨rfl, rfl⟩
    clear CD
    go_wp2_with fail
    refine CW.out.mono ?_; rintro x W5 ⟨rfl, o2, E5, D5, M5⟩
    obtain ⟨A5, oB5⟩ := HA4.out.moves HOB.out M5 HZ.out
    have he5 := updE_mem HK.out Pl.clean
    rw [hpp] at he5
    obtain ⟨W6, hdel, E6, S6⟩ := E5.del he5
    have e6 : cutE (updE E pg Pl.clean) ((({ e with a := Pl.clean e.a } : En).a.page : Nat) : Int) = cutE E pg := by
      show cutE (updE E pg Pl.clean) (e.a.page : Int) = cutE E pg
      rw [hpp]
      unfold cutE updE
      rw [List.filter_map]
      have hf : ((fun e : En => decide ((e.a.page : Int) ≠ pg)) ∘ fun e : En => if (e.a.page : Int) = pg then { e with a := Pl.clean e.a } else e) = fun e : En => decide ((e.a.page : Int) ≠ pg) := by
        funext y; simp only [Function.comp]; split <;> rfl
      rw [hf]
      conv => rhs; rw [← List.map_id (List.filter (fun e : En => decide ((e.a.page : Int) ≠ pg)) E)]
      refine List.map_congr_left (fun y hy => ?_)
      have := (List.mem_filter.1 hy).2
      simp only [decide_eq_true_eq] at this
      rw [if_neg this]; rfl
    have hdel' : ∀ ty : TypeId, (Builtin.delete_ #[61, 3] ty #[.map (some m), .int .i64 pg]).run Tryz.prog W5 = .ok (.tuple #[]) W6 := by rw [← hpp]; exact hdel
    have r0 : W5.cell? ⟨B, 0, none⟩ = some (.pointer (some ⟨g, 0, none⟩)) := A5.cell 0
    have r2 : W5.cell? ⟨g, 2, none⟩ = some (.map (some m)) := E5.hp.cell 2
    rw [e6] at E6
    have HE6 := Lib.hid E6; have HS6 := Lib.hid S6; have HD5 := Lib.hid D5; have HM5 := Lib.hid M5
    clear A5 oB5 he5 hdel E5 D5 M5 E6 S6 e6 CW lk cx g0 g2
    go_wp2_with fail
    go_ret
    exact ⟨rfl, o2, by rw [hpp]; exact HE6.out, HD5.out.other HS6.out hqj, (HM4.out.trans HM5.out).trans (Moves.of (.inl rfl) HS6.out)⟩
end
end Go.Proofs.YthjlbfijfpfohaaGreat
