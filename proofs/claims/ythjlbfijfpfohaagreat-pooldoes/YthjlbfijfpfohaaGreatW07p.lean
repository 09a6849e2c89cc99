/-
  A pool and its disk: one contract a call.
-/
import Derived.Test.YthjlbfijfpfohaaGreatK07c
namespace Go.Proofs.YthjlbfijfpfohaaGreat
open Go.RowKit Go.MapKept

def IsP (w : World) (o : Nat → Nat) (j g pd : Nat) (p : PoolP) : Prop := ∃ m E ck, IsE w o j g pd m p.n p.sure p.t E ck ∧ p.L.Perm (E.map (·.a))
/-- a disk's owner, and a pool's on it; c: how many calls there were -/
structure PD (w : World) (o : Nat → Nat) (q pd j g : Nat) (S : List ByteArray) (Ws : Wrs) (p : PoolP) (c : Nat) : Prop where
  D : IsD w o q pd S Ws
  G : IsP w o j g pd p
  I : PI S Ws p
  ne : q ≠ j
  cW : Ws.length ≤ 64 * c
  ct : p.t ≤ c
  cp : ∀ a ∈ p.L, a.pins ≤ c
section
variable {w w' : World} {o o' : Nat → Nat} {q pd j g c : Nat} {S : List ByteArray} {Ws : Wrs} {p : PoolP} {X : Nat → Prop}
theorem IsP.reads (h : IsP w o j g pd p) (b : Below w.heap.size w w') : IsP w' o j g pd p := by obtain ⟨m, E, ck, h1, h2⟩ := h; exact ⟨m, E, ck, h1.reads b, h2⟩
theorem IsP.other {i : Nat} (h : IsP w o j g pd p) (s : Stp o i w o' w') (hne : j ≠ i) : IsP w' o' j g pd p := by obtain ⟨m, E, ck, h1, h2⟩ := h; exact ⟨m, E, ck, h1.other s hne, h2⟩
theorem IsP.moves (h : IsP w o j g pd p) (M : Moves X o w o' w') (hj : ¬ X j) : IsP w' o' j g pd p :=
  M (fun o w => IsP w o j g pd p) (fun _ _ _i _ _ hi s h => h.other s (fun e => hj (e ▸ hi))) h
theorem PD.moves (h : PD w o q pd j g S Ws p c) (M : Moves X o w o' w') (h1 : ¬ X q) (h2 : ¬ X j) : PD w' o' q pd j g S Ws p c := ⟨h.D.moves M h1, h.G.moves M h2, h.I, h.ne, h.cW, h.ct, h.cp⟩
theorem PD.reads (h : PD w o q pd j g S Ws p c) (b : Below w.heap.size w w') : PD w' o q pd j g S Ws p c := ⟨h.D.reads b, h.G.reads b, h.I, h.ne, h.cW, h.ct, h.cp⟩
theorem PD.later (h : PD w o q pd j g S Ws p c) : PD w o q pd j g S Ws p (c + 1) := ⟨h.D, h.G, h.I, h.ne, by have := h.cW; omega, by have := h.ct; omega, fun a ha => by have := h.cp a ha; omega⟩
theorem PD.len (h : PD w o q pd j g S Ws p c) : p.L.length ≤ 64 := Nat.le_trans h.I.I.len h.I.I.n2
theorem bodyAt_of {k : Nat} {s : ByteArray} (h : S[k]? = some s) : bodyAt S Ws k = readOf (rawAt Ws k s) := by unfold bodyAt; rw [h]
theorem memE {E : List En} (hp : p.L.Perm (E.map (·.a))) {a : Pl} (ha : a ∈ p.L) : ∃ e ∈ E, e.a = a := by obtain ⟨e, he, h⟩ := List.mem_map.1 (hp.mem_iff.1 ha); exact ⟨e, he, h⟩
theorem memL {E : List En} (hp : p.L.Perm (E.map (·.a))) {e : En} (he : e ∈ E) : e.a ∈ p.L := hp.mem_iff.2 (List.mem_map.2 ⟨e, he, rfl⟩)
theorem pd_pin (H : PD w o q pd j g S Ws p c) (hc : c ≤ 400) (x : Int) :
    Calls Tryz.prog 24 #[.pointer (some ⟨g, 0, none⟩), .int .i64 x] w fun e w' => e = .returned (.tuple #[.string (pinS S Ws p x), .int .i64 (pinE S p x)]) ∧ ∃ o', PD w' o' q pd j g S (pinW S Ws p x) (pinL S Ws p x) (c + 1) ∧ Moves (Two j q) o w o' w' := by
  obtain ⟨m, E, ck, hE, hp⟩ := H.G
  have hI := pi_pin H.I x
  have hlen : E.length = p.L.length := by rw [hp.length_eq, List.length_map]
  have hl64 := H.len
  have hct := H.ct; have hcW := H.cW
  have hS := H.D.n2
  have hpg : ∀ e ∈ E, e.a.page < S.length := fun e he => H.I.I.pg _ (memL hp he)
  have hbs : ∀ e ∈ E, e.a.body.size ≤ 252 := fun e he => by have := H.I.I.bs _ (memL hp he); omega
  cases pinWay H.I.I Ws x with
  | arg hx =>
    obtain ⟨e1, e2, e3, e4⟩ := pin_arg (p := p) (Ws := Ws) hx
    rw [e1, e2, e3, e4]
    refine (ppin_arg hE H.D x hx).mono ?_
    rintro e w' ⟨rfl, rfl⟩
    exact ⟨rfl, o, H.later, Moves.refl _ _ _⟩
  | held a ha hx hk =>
    subst hx
    obtain ⟨e1, e2, e3, e4⟩ := pin_held (S := S) (Ws := Ws) H.I.I.nd ha hk
    rw [e3, e4] at hI
    rw [e1, e2, e3, e4]
    obtain ⟨e, he, rfl⟩ := memE hp ha
    have := H.cp _ ha
    refine (ppin_in hE H.D he hk (by omega) (by omega) (by have := hbs e he; omega)).mono ?_
    rintro x w' ⟨rfl, E', s'⟩
    refine ⟨rfl, o, ⟨H.D.other s' H.ne, ⟨m, _, ck, E', ?_⟩, hI, H.ne, by omega, by show p.t + 1 ≤ c + 1; omega, fun b hb => ?_⟩, Moves.of (.inl rfl) s'⟩
    · rw [updE_places]
      exact (upd_perm H.I.I.nd ha (Pl.bump p.t)).symm.trans (hp.map _)
    · rcases List.mem_append.1 hb with hb | hb
      · have := H.cp b (mem_cutP.1 hb).1; omega
      · obtain rfl := List.mem_singleton.1 hb
        show e.a.pins + 1 ≤ c + 1; omega
  | room k hx hk hno hn =>
    subst hx
    obtain ⟨e1, e2, e3, e4⟩ := pin_room (S := S) (Ws := Ws) hk hno hn
    rw [e3, e4] at hI
    rw [e1, e2, e3, e4]
    have hs : S[k]? = some S[k] := List.getElem?_eq_getElem hk
    have hno' : ∀ e ∈ E, e.a.page ≠ k := fun e he => hno _ (memL hp he)
    rw [bodyAt_of (Ws := Ws) hs] at hI ⊢
    have hsz := H.I.siz k hk
    rw [bodyAt_of (Ws := Ws) hs] at hsz
    refine (ppin_room hE H.D H.ne k _ hs (H.I.err k _ hs) hno' (by omega) (by omega) (by omega)).mono ?_
    rintro x w' ⟨rfl, o', b, id, ck', E', D', M'⟩
    refine ⟨rfl, o', ⟨D', ⟨m, _, ck', E', ?_⟩, hI, H.ne, by omega, by show p.t + 1 ≤ c + 1; omega, fun b hb => ?_⟩, M'⟩
    · rw [updE_places, List.map_append]
      have hf : ∀ a ∈ E.map (·.a), (a.page : Int) ≠ (k : Int) := fun a ha => by have := hno a (hp.mem_iff.2 ha); omega
      show (p.L ++ [_]).Perm (updP (E.map (fun e : En => e.a) ++ [Pl.new k _]) k (Pl.bump p.t))
      unfold updP
      rw [List.map_append]
      have := updP_none (f := Pl.bump p.t) hf
      unfold updP at this
      rw [this]
      simp only [List.map_cons, List.map_nil]
      rw [if_pos (by rfl)]
      exact hp.append_right _
    · rcases List.mem_append.1 hb with hb | hb
      · have := H.cp b hb; omega
      · obtain rfl := List.mem_singleton.1 hb
        show 0 + 1 ≤ c + 1; omega
  | full k hx hk hno hn hg =>
    subst hx
    obtain ⟨e1, e2, e3, e4⟩ := pin_full (S := S) (Ws := Ws) hk hno hn hg
    rw [e1, e2, e3, e4]
    have hs : S[k]? = some S[k] := List.getElem?_eq_getElem hk
    have hno' : ∀ e ∈ E, e.a.page ≠ k := fun e he => hno _ (memL hp he)
    have hsz := H.I.siz k hk
    rw [bodyAt_of (Ws := Ws) hs] at hsz
    have hne : E ≠ [] := fun e => by rw [e] at hlen; have := H.I.I.n1; simp at hlen; omega
    refine (ppin_full hE H.D H.ne k _ hs (H.I.err k _ hs) hno' (by omega) (by omega) (by omega) (by omega) (fun e he => by have := hpg e he; omega) hne (fun e he => hg _ (memL hp he))).mono ?_
    rintro x w' ⟨rfl, b⟩
    exact ⟨rfl, o, (H.reads b).later, Moves.of (.inl rfl) (Stp.ofBelow b o j)⟩
  | swap k hx hk hno hn a ha =>
    subst hx
    obtain ⟨e1, e2, e3, e4⟩ := pin_swap (S := S) (Ws := Ws) hk hno hn ha
    rw [e3, e4] at hI
    rw [e1, e2, e3, e4]
    have hs : S[k]? = some S[k] := List.getElem?_eq_getElem hk
    have hno' : ∀ e ∈ E, e.a.page ≠ k := fun e he => hno _ (memL hp he)
    rw [bodyAt_of (Ws := Ws) hs] at hI ⊢
    have hsz := H.I.siz k hk
    rw [bodyAt_of (Ws := Ws) hs] at hsz
    refine (ppin_swap hE H.D H.ne k _ hs (H.I.err k _ hs) hno' (by omega) (by omega) (by omega) (by omega) hpg hbs (by omega) hp H.I.I.age ha).mono ?_
    rintro x w' ⟨rfl, o', b, id, ck', E', D', M'⟩
    refine ⟨rfl, o', ⟨D', ⟨m, _, ck', E', ?_⟩, hI, H.ne, ?_, by show p.t + 1 ≤ c + 1; omega, fun b hb => ?_⟩, M'⟩
    · rw [updE_places, List.map_append, cutE_places]
      have hf : ∀ y ∈ cutP (E.map (·.a)) a.page, (y.page : Int) ≠ (k : Int) := fun y hy => by have := hno y (hp.mem_iff.2 (mem_cutP.1 hy).1); omega
      show (cutP p.L a.page ++ [_]).Perm (updP (cutP (E.map (fun e : En => e.a)) a.page ++ [Pl.new k _]) k (Pl.bump p.t))
      unfold updP
      rw [List.map_append]
      have := updP_none (f := Pl.bump p.t) hf
      unfold updP at this
      rw [this]
      simp only [List.map_cons, List.map_nil]
      rw [if_pos (by rfl)]
      exact (hp.filter _).append_right _
    · rw [List.length_append]; split <;> simp <;> omega
    · rcases List.mem_append.1 hb with hb | hb
      · have := H.cp b (mem_cutP.1 hb).1; omega
      · obtain rfl := List.mem_singleton.1 hb
        show 0 + 1 ≤ c + 1; omega
theorem pd_unpin (H : PD w o q pd j g S Ws p c) (hc : c ≤ 400) (x : Int) :
    Calls Tryz.prog 26 #[.pointer (some ⟨g, 0, none⟩), .int .i64 x] w fun e w' => e = .returned (.int .i64 (unE p x)) ∧ ∃ o', PD w' o' q pd j g S Ws (unL p x) (c + 1) ∧ Moves (Two j q) o w o' w' := by
  obtain ⟨m, E, ck, hE, hp⟩ := H.G
  have hI := pi_un H.I x
  cases hf : findP p.L x with
  | none =>
    have e1 : unE p x = 7 := by unfold unE; rw [hf]
    rw [e1, unL_no (by rw [e1]; decide)]
    refine (punpin_none hE x (fun e he => findP_none hf _ (memL hp he))).mono ?_
    rintro e w' ⟨rfl, rfl⟩
    exact ⟨rfl, o, H.later, Moves.refl _ _ _⟩
  | some a =>
    obtain ⟨ha, rfl⟩ := findP_some hf
    obtain ⟨e, he, rfl⟩ := memE hp ha
    by_cases h0 : e.a.pins = 0
    · have e1 : unE p e.a.page = 9 := by unfold unE; rw [hf]; simp only; rw [if_pos h0]
      rw [e1, unL_no (by rw [e1]; decide)]
      refine (punpin_state hE he h0).mono ?_
      rintro e w' ⟨rfl, rfl⟩
      exact ⟨rfl, o, H.later, Moves.refl _ _ _⟩
    · have e1 : unE p e.a.page = 0 := by unfold unE; rw [hf]; simp only; rw [if_neg h0]
      have e2 : unL p e.a.page = { p with L := updP p.L e.a.page Pl.less } := if_pos e1
      rw [e2] at hI
      rw [e1, e2]
      have := H.cp _ ha
      refine (punpin_ok hE he h0 (by omega)).mono ?_
      rintro x w' ⟨rfl, E', s'⟩
      refine ⟨rfl, o, ⟨H.D.other s' H.ne, ⟨m, _, ck, E', ?_⟩, hI, H.ne, by have := H.cW; omega, by have := H.ct; show p.t ≤ c + 1; omega, fun b hb => ?_⟩, Moves.of (.inl rfl) s'⟩
      · rw [updE_places]; exact hp.map _
      · rcases mem_updP hb with ⟨hb, _⟩ | ⟨b', hb', _, rfl⟩
        · have := H.cp b hb; omega
        · have := H.cp b' hb'; show b'.pins - 1 ≤ c + 1; omega
theorem pd_put (H : PD w o q pd j g S Ws p c) (x : Int) (s : ByteArray) (l : Int) :
    Calls Tryz.prog 28 #[.pointer (some ⟨g, 0, none⟩), .int .i64 x, .string s, .int .i64 l] w fun e w' => e = .returned (.int .i64 (putE p x s l)) ∧ ∃ o', PD w' o' q pd j g S Ws (putL p x s l) (c + 1) ∧ Moves (Two j q) o w o' w' := by
  obtain ⟨m, E, ck, hE, hp⟩ := H.G
  have hI := pi_put H.I x s l
  cases hf : findP p.L x with
  | none =>
    have e1 : putE p x s l = 7 := by unfold putE; rw [hf]
    rw [e1, putL_no (by rw [e1]; decide)]
    refine (pput_none hE x (fun e he => findP_none hf _ (memL hp he)) s l).mono ?_
    rintro e w' ⟨rfl, rfl⟩
    exact ⟨rfl, o, H.later, Moves.refl _ _ _⟩
  | some a =>
    obtain ⟨ha, rfl⟩ := findP_some hf
    obtain ⟨e, he, rfl⟩ := memE hp ha
    by_cases h0 : e.a.pins = 0
    · have e1 : putE p e.a.page s l = 9 := by unfold putE; rw [hf]; simp only; rw [if_pos h0]
      rw [e1, putL_no (by rw [e1]; decide)]
      refine (pput_state hE he h0 s l).mono ?_
      rintro e w' ⟨rfl, rfl⟩
      exact ⟨rfl, o, H.later, Moves.refl _ _ _⟩
    · by_cases hs : 252 < s.size
      · have e1 : putE p e.a.page s l = 2 := by unfold putE; rw [hf]; simp only; rw [if_neg h0, if_pos hs]
        rw [e1, putL_no (by rw [e1]; decide)]
        refine (pput_big hE he h0 s l hs).mono ?_
        rintro e w' ⟨rfl, rfl⟩
        exact ⟨rfl, o, H.later, Moves.refl _ _ _⟩
      · by_cases hl : l < 1 ∨ l < e.a.last
        · have e1 : putE p e.a.page s l = 1 := by unfold putE; rw [hf]; simp only; rw [if_neg h0, if_neg hs, if_pos hl]
          rw [e1, putL_no (by rw [e1]; decide)]
          refine (pput_arg hE he h0 s l (by omega) hl).mono ?_
          rintro e w' ⟨rfl, rfl⟩
          exact ⟨rfl, o, H.later, Moves.refl _ _ _⟩
        · have e1 : putE p e.a.page s l = 0 := by unfold putE; rw [hf]; simp only; rw [if_neg h0, if_neg hs, if_neg hl]
          have e2 : putL p e.a.page s l = { p with L := updP p.L e.a.page (Pl.put s l) } := if_pos e1
          rw [e2] at hI
          rw [e1, e2]
          refine (pput_ok hE he h0 s l (by omega) (by omega) (by omega)).mono ?_
          rintro x w' ⟨rfl, E', s'⟩
          refine ⟨rfl, o, ⟨H.D.other s' H.ne, ⟨m, _, ck, E', ?_⟩, hI, H.ne, by have := H.cW; omega, by have := H.ct; show p.t ≤ c + 1; omega, fun b hb => ?_⟩, Moves.of (.inl rfl) s'⟩
          · rw [updE_places]; exact hp.map _
          · rcases mem_updP hb with ⟨hb, _⟩ | ⟨b', hb', _, rfl⟩
            · have := H.cp b hb; omega
            · have := H.cp b' hb'; show b'.pins ≤ c + 1; omega
theorem pd_sure (H : PD w o q pd j g S Ws p c) (l : Int) :
    Calls Tryz.prog 30 #[.pointer (some ⟨g, 0, none⟩), .int .i64 l] w fun e w' => e = .returned (.tuple #[]) ∧ ∃ o', PD w' o' q pd j g S Ws (sureL p l) (c + 1) ∧ Moves (Two j q) o w o' w' := by
  obtain ⟨m, E, ck, hE, hp⟩ := H.G
  refine (psure hE l).mono ?_
  rintro x w' ⟨rfl, E', s'⟩
  exact ⟨rfl, o, ⟨H.D.other s' H.ne, ⟨m, _, ck, E', hp⟩, pi_sure H.I l, H.ne, by have := H.cW; omega, by have := H.ct; show p.t ≤ c + 1; omega, fun a ha => by have := H.cp a ha; omega⟩, Moves.of (.inl rfl) s'⟩
theorem findP_perm {L L' : List Pl} (hn : (L.map (·.page)).Nodup) (hp : L.Perm L') (x : Int) : findP L x = findP L' x := by
  cases h : findP L x with
  | none => exact (findP_none_of (fun a ha => findP_none h a (hp.mem_iff.2 ha))).symm
  | some a =>
    obtain ⟨ha, rfl⟩ := findP_some h
    exact (findP_mem ((hp.map _).nodup_iff.1 hn) (hp.mem_iff.1 ha)).symm
theorem dirtyI_perm {L L' : List Pl} (hn : (L.map (·.page)).Nodup) (hp : L.Perm L') : dirtyI L = dirtyI L' := by
  unfold dirtyI
  rw [pagesI_perm hp]
  congr 1; funext x; unfold isDirty; rw [findP_perm hn hp]
theorem cleanI_perm {L L' : List Pl} (hn : (L.map (·.page)).Nodup) (hp : L.Perm L') (su : Int) : cleanI L su = cleanI L' su := by
  unfold cleanI
  rw [dirtyI_perm hn hp]
  congr 1; funext x; unfold mayI; rw [findP_perm hn hp]
theorem wrsOf_perm {L L' : List Pl} (hn : (L.map (·.page)).Nodup) (hp : L.Perm L') (xs : List Int) : wrsOf L xs = wrsOf L' xs := by
  unfold wrsOf
  congr 1; funext x; rw [findP_perm hn hp]
theorem cleanI_length (L : List Pl) (su : Int) : (cleanI L su).length ≤ L.length := by
  unfold cleanI dirtyI
  exact Nat.le_trans (List.length_filter_le _ _) (Nat.le_trans (List.length_filter_le _ _) (by rw [pagesI_length]; omega))
theorem pd_clean (H : PD w o q pd j g S Ws p c) (hc : c ≤ 400) :
    Calls Tryz.prog 31 #[.pointer (some ⟨g, 0, none⟩)] w fun e w' => e = .returned (.int .i64 ((cleanI p.L p.sure).length : Int)) ∧ ∃ o', PD w' o' q pd j g S (cleanW Ws p) (cleanL p) (c + 1) ∧ Moves (Two j q) o w o' w' := by
  obtain ⟨m, E, ck, hE, hp⟩ := H.G
  have hlen : E.length = p.L.length := by rw [hp.length_eq, List.length_map]
  have hl64 := H.len
  have hcW := H.cW
  have C := pclean hE H.D H.ne (by omega) (fun e he => H.I.I.pg _ (memL hp he)) (fun e he => by have := H.I.I.bs _ (memL hp he); omega) (by omega)
  rw [← cleanI_perm H.I.I.nd hp, ← wrsOf_perm H.I.I.nd hp] at C
  refine C.mono ?_
  rintro x w' ⟨rfl, o', E', D', M'⟩
  refine ⟨rfl, o', ⟨D', ⟨m, _, ck, E', ?_⟩, pi_clean H.I, H.ne, ?_, by have := H.ct; show p.t ≤ c + 1; omega, fun b hb => ?_⟩, M'⟩
  · rw [cleanE_places]; exact hp.map _
  · have := cleanI_length p.L p.sure
    unfold cleanW
    rw [List.length_append, wrsOf_length]; omega
  · obtain ⟨a, ha, rfl⟩ := List.mem_map.1 hb
    have := H.cp a ha
    split
    · show a.pins ≤ c + 1; omega
    · omega
theorem pd_pins (H : PD w o q pd j g S Ws p c) (x : Int) :
    Calls Tryz.prog 15 #[.pointer (some ⟨g, 0, none⟩), .int .i64 x] w fun e w' => e = .returned (.int .i64 (pinsN p x : Int)) ∧ w = w' := by
  obtain ⟨m, E, ck, hE, hp⟩ := H.G
  unfold pinsN
  cases hf : findP p.L x with
  | none => exact ppins_none hE x (fun e he => findP_none hf _ (memL hp he))
  | some a =>
    obtain ⟨ha, rfl⟩ := findP_some hf
    obtain ⟨e, he, rfl⟩ := memE hp ha
    exact ppins_some hE he
theorem pd_pages (H : PD w o q pd j g S Ws p c) :
    Calls Tryz.prog 12 #[.pointer (some ⟨g, 0, none⟩)] w fun e w' => ∃ v, e = .returned v ∧ IsInts w' v (pagesI p.L) ∧ PD w' o q pd j g S Ws p c ∧ Below w.heap.size w w' := by
  obtain ⟨m, E, ck, hE, hp⟩ := H.G
  have hlen : E.length = p.L.length := by rw [hp.length_eq, List.length_map]
  have hl64 := H.len
  have hS := H.D.n2
  refine (ppages' hE (by omega) (fun e he => by have := H.I.I.pg _ (memL hp he); omega)).mono ?_
  rintro x w' ⟨v, rfl, hr, b⟩
  rw [← pagesI_perm hp] at hr
  exact ⟨v, rfl, isInts_of_row hr, H.reads b, b⟩
theorem pd_dirty (H : PD w o q pd j g S Ws p c) :
    Calls Tryz.prog 14 #[.pointer (some ⟨g, 0, none⟩)] w fun e w' => ∃ v, e = .returned v ∧ IsInts w' v (dirtyI p.L) ∧ PD w' o q pd j g S Ws p c ∧ Below w.heap.size w w' := by
  obtain ⟨m, E, ck, hE, hp⟩ := H.G
  have hlen : E.length = p.L.length := by rw [hp.length_eq, List.length_map]
  have hl64 := H.len
  have hS := H.D.n2
  refine (pdirtys hE (by omega) (fun e he => by have := H.I.I.pg _ (memL hp he); omega)).mono ?_
  rintro x w' ⟨v, rfl, hr, b⟩
  rw [← dirtyI_perm H.I.I.nd hp] at hr
  exact ⟨v, rfl, isInts_of_row hr, H.reads b, b⟩
theorem pd_least (H : PD w o q pd j g S Ws p c) :
    Calls Tryz.prog 9 #[.pointer (some ⟨g, 0, none⟩)] w fun e w' => ∃ y : Int, e = .returned (.tuple #[.int .i64 y, .bool (decide (0 < y))]) ∧ LeastOf p.L y ∧ PD w' o q pd j g S Ws p c ∧ Below w.heap.size w w' := by
  obtain ⟨m, E, ck, hE, hp⟩ := H.G
  have hlen : E.length = p.L.length := by rw [hp.length_eq, List.length_map]
  have hl64 := H.len
  have hS := H.D.n2
  refine (pleast hE (by omega) (fun e he => by have := H.I.I.pg _ (memL hp he); omega)).mono ?_
  rintro x w' ⟨y, rfl, hl, b⟩
  exact ⟨y, rfl, hl.perm hp.symm, H.reads b, b⟩
/-- a new disk's pages -/
theorem pi_new (N n : Nat) (h1 : 1 ≤ n) (h2 : n ≤ 64) : PI (List.replicate N blank) [] ⟨n, [], 0, 0⟩ := by
  have hb : ∀ k s, (List.replicate N blank)[k]? = some s → s = blank := fun k s h => by
    rw [List.getElem?_replicate] at h; split at h
    · exact (Option.some.inj h).symm
    · cases h
  refine ⟨⟨h1, h2, by simp, by simp, by simp, by simp, by simp, by simp, by simp⟩, fun k s hs => ?_, fun k hk => ?_, by simp⟩
  · rw [hb k s hs]
    exact errOf_page ⟨#[]⟩ (by decide)
  · have hk' : k < N := by simpa using hk
    have hs : (List.replicate N blank)[k]? = some blank := by rw [List.getElem?_replicate, if_pos hk']
    rw [bodyAt_of hs]
    show (readOf blank).size = 252
    unfold blank
    rw [readOf_page _ (by decide)]; exact padOf_size _ _ (by decide)
theorem pd_new (D : IsD w o q pd (List.replicate c blank) []) (j n : Nat) (hne : q ≠ j) (h1 : 1 ≤ n) (h2 : n ≤ 64) :
    Calls Tryz.prog 6 #[.pointer (some ⟨pd, 0, none⟩), .int .i64 (n : Int)] w fun e w' => ∃ g, e = .returned (.tuple #[.pointer (some ⟨g, 0, none⟩), .int .i64 0]) ∧ ∃ o', PD w' o' q pd j g (List.replicate c blank) [] ⟨n, [], 0, 0⟩ 0 ∧ Stp o j w o' w' ∧ Below w.heap.size w w' := by
  refine (pnew_ok w o j pd n h1 h2).mono ?_
  rintro e w' ⟨g, rfl, m, ck, o', E', s', b'⟩
  exact ⟨g, rfl, o', ⟨D.other s' hne, ⟨m, [], ck, E', List.Perm.refl _⟩, pi_new c n h1 h2, hne, by simp, Nat.le_refl _, by simp⟩, s', b'⟩
end
end Go.Proofs.YthjlbfijfpfohaaGreat
