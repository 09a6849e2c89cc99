/-
  What a table's parts tell of who holds what, and who waits for it: plain.
-/
import Derived.Test.YtainnhcmhgloaaaGreatDoorW09a
namespace Go.Proofs.YtainnhcmhgloaaaGreatDoor
open Go.RowKit

def toH (e : En) (p : Int × Nat) : Has9 := ⟨p.1, p.2, e.name⟩
structure Abs (N : List En) (HL : List Ho) (WL H W : Hs) (n0 : ByteArray) (pre : List Int) : Prop where
  hm : ∀ e ∈ N, (e.hs.map (toH e)).Perm (nameL H e.name)
  hx : ∀ x ∈ H, ∃ e ∈ N, e.name = x.name
  qn : ∀ e ∈ N, e.q = (if e.name = n0 then pre else []) ++ (nameL W e.name).map (·.owner)
  qx : ∀ x ∈ W, ∃ e ∈ N, e.name = x.name
  wm : WL.Perm W
  om : ∀ h ∈ HL, (h.ns.map (·.1)).Perm ((ownL H h.owner).map (·.name))
  ox : ∀ x ∈ H, ∃ h ∈ HL, h.owner = x.owner
  ob : ∀ h ∈ HL, ∀ p ∈ h.ns, ∃ e ∈ N, e.name = p.1 ∧ e.b = p.2
  ok : Ok9 H W
section
variable {H W : Hs} {o : Int} {n nm : ByteArray} {x : Has9}
theorem nameL_woN_ne (h : n ≠ nm) : nameL (woN H o nm) n = nameL H n := by
  unfold nameL woN; rw [List.filter_filter]
  refine List.filter_congr (fun y _ => ?_)
  by_cases e : y.name = n
  · have : y.name ≠ nm := by rw [e]; exact h
    simp [e, h]
  · simp [e]
theorem nameL_woN (H : Hs) (o : Int) (nm : ByteArray) : nameL (woN H o nm) nm = (nameL H nm).filter (fun y => decide (y.owner ≠ o)) := by
  unfold nameL woN; rw [List.filter_filter, List.filter_filter]
  refine List.filter_congr (fun y _ => ?_)
  by_cases e : y.name = nm <;> simp [e]
theorem ownL_woN_ne {o' : Int} (h : o' ≠ o) : ownL (woN H o nm) o' = ownL H o' := by
  unfold ownL woN; rw [List.filter_filter]
  refine List.filter_congr (fun y _ => ?_)
  by_cases e : y.owner = o'
  · have : y.owner ≠ o := by rw [e]; exact h
    simp [e, h]
  · simp [e]
theorem ownL_woN (H : Hs) (o : Int) (nm : ByteArray) : ownL (woN H o nm) o = (ownL H o).filter (fun y => decide (y.name ≠ nm)) := by
  unfold ownL woN; rw [List.filter_filter, List.filter_filter]
  refine List.filter_congr (fun y _ => ?_)
  by_cases e : y.owner = o <;> simp [e]
theorem nameL_app (A B : Hs) (n : ByteArray) : nameL (A ++ B) n = nameL A n ++ nameL B n := by unfold nameL; exact List.filter_append _ _
theorem ownL_app (A B : Hs) (n : Int) : ownL (A ++ B) n = ownL A n ++ ownL B n := by unfold ownL; exact List.filter_append _ _
theorem nameL_hold_ne (h : n ≠ x.name) : nameL (holdP H x) n = nameL H n := by
  unfold holdP; rw [nameL_app, nameL_woN_ne h]
  have : nameL [x] n = [] := by unfold nameL; simp [Ne.symm h]
  rw [this, List.append_nil]
theorem nameL_hold (H : Hs) (x : Has9) : nameL (holdP H x) x.name = (nameL H x.name).filter (fun y => decide (y.owner ≠ x.owner)) ++ [x] := by
  unfold holdP; rw [nameL_app, nameL_woN]
  have : nameL [x] x.name = [x] := by unfold nameL; simp
  rw [this]
theorem ownL_hold_ne {o' : Int} (h : o' ≠ x.owner) : ownL (holdP H x) o' = ownL H o' := by
  unfold holdP; rw [ownL_app, ownL_woN_ne h]
  have : ownL [x] o' = [] := by unfold ownL; simp [Ne.symm h]
  rw [this, List.append_nil]
theorem ownL_hold (H : Hs) (x : Has9) : ownL (holdP H x) x.owner = (ownL H x.owner).filter (fun y => decide (y.name ≠ x.name)) ++ [x] := by
  unfold holdP; rw [ownL_app, ownL_woN]
  have : ownL [x] x.owner = [x] := by unfold ownL; simp
  rw [this]
theorem woN_pair (hn : H.Pairwise (fun a b => ¬ (a.owner = b.owner ∧ a.name = b.name))) : (woN H o nm).Pairwise (fun a b => ¬ (a.owner = b.owner ∧ a.name = b.name)) := List.Pairwise.filter _ hn
theorem Ok9.woN (h : Ok9 H W) (o : Int) (nm : ByteArray) : Ok9 (woN H o nm) W :=
  ⟨fun y hy => h.hm y (mem_woN.1 hy).1, h.wm, woN_pair h.hn, h.wn⟩
theorem Ok9.hold (h : Ok9 H W) (hx : 0 < x.mode ∧ x.mode < 7 ∧ 0 ≤ x.owner ∧ x.owner ≤ 9223372036854775807 ∧ x.name.size ≤ 300) : Ok9 (holdP H x) W := by
  refine ⟨fun y hy => ?_, h.wm, ?_, h.wn⟩
  · rcases mem_holdP.1 hy with hy | rfl
    · exact h.hm y hy.1
    · exact hx
  · unfold holdP
    refine List.pairwise_append.2 ⟨woN_pair h.hn, by simp, fun a ha b hb => ?_⟩
    obtain rfl := List.mem_singleton.1 hb
    exact (mem_woN.1 ha).2
theorem Ok9.woA (h : Ok9 H W) (o : Int) : Ok9 H (woA W o) :=
  ⟨h.hm, fun y hy => h.wm y (mem_woA.1 hy).1, h.hn, (List.filter_sublist.map _).nodup h.wn⟩
end
section
variable {N N1 N2 : List En} {HL : List Ho} {WL H W : Hs} {n0 : ByteArray} {pre : List Int} {e : En}
theorem Abs.mem (A : Abs N HL WL H W n0 pre) (he : e ∈ N) (x : Int) (m : Nat) : (x, m) ∈ e.hs ↔ (⟨x, m, e.name⟩ : Has9) ∈ H := by
  have p := (A.hm e he).mem_iff (a := (⟨x, m, e.name⟩ : Has9))
  rw [mem_nameL] at p
  constructor
  · intro h
    exact (p.1 (List.mem_map.2 ⟨(x, m), h, rfl⟩)).1
  · intro h
    obtain ⟨q, hq, e1⟩ := List.mem_map.1 (p.2 ⟨h, rfl⟩)
    simp only [toH, Has9.mk.injEq] at e1
    have : q = (x, m) := Prod.ext e1.1 e1.2.1
    rw [← this]; exact hq
theorem Abs.mode (A : Abs N HL WL H W n0 pre) (he : e ∈ N) (hn : (e.hs.map (·.1)).Nodup) (x : Int) : hsM e.hs x = modeP H x e.name := by
  rcases hs_cases e.hs x with h | ⟨p, hp, rfl⟩
  · rw [hsM_none h, modeP_none]
    rintro y hy ⟨rfl, h2⟩
    exact h _ ((A.mem he y.owner y.mode).2 (by rw [← h2]; exact hy)) rfl
  · rw [hsM_mem hn hp]
    exact (modeP_mem A.ok.hn ((A.mem he p.1 p.2).1 hp)).symm
theorem Abs.bounds (A : Abs N HL WL H W n0 pre) (he : e ∈ N) : (∀ p ∈ e.hs, 0 ≤ p.1 ∧ p.1 ≤ 9223372036854775807) ∧ (∀ p ∈ e.hs, p.2 < 7) ∧ e.hs.length ≤ H.length := by
  refine ⟨fun p hp => ?_, fun p hp => ?_, ?_⟩
  · have := A.ok.hm _ ((A.mem he p.1 p.2).1 hp); exact ⟨this.2.2.1, this.2.2.2.1⟩
  · exact (A.ok.hm _ ((A.mem he p.1 p.2).1 hp)).2.1
  · have := (A.hm e he).length_eq
    rw [List.length_map] at this
    rw [this]; exact List.length_filter_le _ _
theorem ob_same {N N' : List En} (h : N'.map (fun e => (e.name, e.b)) = N.map (fun e => (e.name, e.b))) {n : ByteArray} {b : Nat} (hp : ∃ e ∈ N, e.name = n ∧ e.b = b) : ∃ e ∈ N', e.name = n ∧ e.b = b := by
  obtain ⟨e, he, h1, h2⟩ := hp
  have : (n, b) ∈ N'.map (fun e => (e.name, e.b)) := by rw [h]; exact List.mem_map.2 ⟨e, he, by rw [h1, h2]⟩
  obtain ⟨e', he', h3⟩ := List.mem_map.1 this
  simp only [Prod.mk.injEq] at h3
  exact ⟨e', he', h3.1, h3.2⟩
theorem nx_same {N N' : List En} (h : N'.map (fun e => (e.name, e.b)) = N.map (fun e => (e.name, e.b))) {n : ByteArray} (hp : ∃ e ∈ N, e.name = n) : ∃ e ∈ N', e.name = n := by
  obtain ⟨e, he, h1⟩ := hp
  obtain ⟨e', he', h2, _⟩ := ob_same h ⟨e, he, h1, rfl⟩
  exact ⟨e', he', h2⟩
/-- the holders of a name change -/
theorem Abs.holders (A : Abs (N1 ++ e :: N2) HL WL H W n0 pre) (nd : ((N1 ++ e :: N2).map (·.name)).Nodup) {hs : List (Int × Nat)} {HL' : List Ho} {H' : Hs} (h1 : ∀ n, n ≠ e.name → nameL H' n = nameL H n) (h2 : (hs.map (toH e)).Perm (nameL H' e.name))
    (om : ∀ h ∈ HL', (h.ns.map (·.1)).Perm ((ownL H' h.owner).map (·.name))) (ox : ∀ x ∈ H', ∃ h ∈ HL', h.owner = x.owner) (ob : ∀ h ∈ HL', ∀ p ∈ h.ns, ∃ e' ∈ N1 ++ e :: N2, e'.name = p.1 ∧ e'.b = p.2) (ok : Ok9 H' W) (hx : ∀ x ∈ H', ∃ e' ∈ N1 ++ e :: N2, e'.name = x.name) :
    Abs (N1 ++ { e with hs := hs } :: N2) HL' WL H' W n0 pre := by
  have em : (N1 ++ { e with hs := hs } :: N2).map (fun e => (e.name, e.b)) = (N1 ++ e :: N2).map (fun e => (e.name, e.b)) := by simp
  refine ⟨fun y hy => ?_, fun x hx' => nx_same em (hx x hx'), fun y hy => ?_, fun x hx' => nx_same em (A.qx x hx'), A.wm, om, ox, fun h hh p hp => ob_same em (ob h hh p hp), ok⟩
  · rcases mem_mid hy with rfl | hy
    · exact h2
    · rw [h1 _ (mid_ne nd hy)]; exact A.hm y (mid_old hy)
  · rcases mem_mid hy with rfl | hy
    · exact A.qn e (by simp)
    · exact A.qn y (mid_old hy)
/-- a queue, and who waits, change -/
theorem Abs.queue (A : Abs (N1 ++ e :: N2) HL WL H W n0 pre) (_nd : ((N1 ++ e :: N2).map (·.name)).Nodup) {qv : Value} {q : List Int} {WL' W' : Hs} {n1 : ByteArray} {pre' : List Int} (h1 : ∀ y, y ∈ N1 ∨ y ∈ N2 → y.q = (if y.name = n1 then pre' else []) ++ (nameL W' y.name).map (·.owner)) (h2 : q = (if e.name = n1 then pre' else []) ++ (nameL W' e.name).map (·.owner))
    (wm : WL'.Perm W') (ok : Ok9 H W') (qx : ∀ x ∈ W', ∃ e' ∈ N1 ++ e :: N2, e'.name = x.name) : Abs (N1 ++ { e with qv := qv, q := q } :: N2) HL WL' H W' n1 pre' := by
  have em : (N1 ++ { e with qv := qv, q := q } :: N2).map (fun e => (e.name, e.b)) = (N1 ++ e :: N2).map (fun e => (e.name, e.b)) := by simp
  refine ⟨fun y hy => ?_, fun x hx' => nx_same em (A.hx x hx'), fun y hy => ?_, fun x hx' => nx_same em (qx x hx'), wm, A.om, A.ox, fun h hh p hp => ob_same em (A.ob h hh p hp), ok⟩
  · rcases mem_mid hy with rfl | hy
    · exact A.hm e (by simp)
    · exact A.hm y (mid_old hy)
  · rcases mem_mid hy with rfl | hy
    · exact h2
    · exact h1 y hy
/-- what an owner holds: the name's entry is among it just if they hold the name -/
theorem Abs.own_has (A : Abs N HL WL H W n0 pre) (nd : (N.map (·.name)).Nodup) (he : e ∈ N) {h : Ho} (hh : h ∈ HL) {m : Nat} (hp : (h.owner, m) ∈ e.hs) : (e.name, e.b) ∈ h.ns := by
  have h1 := (A.mem he h.owner m).1 hp
  have h2 : e.name ∈ h.ns.map (·.1) := (A.om h hh).mem_iff.2 (List.mem_map.2 ⟨_, mem_ownL.2 ⟨h1, rfl⟩, rfl⟩)
  obtain ⟨p, hp2, h3⟩ := List.mem_map.1 h2
  obtain ⟨e', he', h4, h5⟩ := A.ob h hh p hp2
  have : e' = e := by
    have key : ∀ {l : List En} {a b : En}, (l.map (·.name)).Nodup → a ∈ l → b ∈ l → a.name = b.name → a = b := by
      intro l a b hn ha hb e
      induction l with
      | nil => cases ha
      | cons z l ih =>
        simp only [List.map_cons, List.nodup_cons] at hn
        rcases List.mem_cons.1 ha with e1 | e1 <;> rcases List.mem_cons.1 hb with e2 | e2
        · rw [e1, e2]
        · exact absurd (List.mem_map.2 ⟨b, e2, by rw [← e, e1]⟩) hn.1
        · exact absurd (List.mem_map.2 ⟨a, e1, by rw [e, e2]⟩) hn.1
        · exact ih hn.2 e1 e2
    exact key nd he' he (by rw [h4, h3])
  have hpe : p = (e.name, e.b) := Prod.ext h3 (by rw [← h5, this])
  rw [← hpe]; exact hp2
theorem Abs.own_not (A : Abs N HL WL H W n0 pre) (he : e ∈ N) {h : Ho} (hh : h ∈ HL) (hp : ∀ p ∈ e.hs, p.1 ≠ h.owner) : ∀ p ∈ h.ns, p.1 ≠ e.name := by
  intro p hp2 h3
  have h2 : e.name ∈ (ownL H h.owner).map (·.name) := (A.om h hh).mem_iff.1 (by rw [← h3]; exact List.mem_map.2 ⟨p, hp2, rfl⟩)
  obtain ⟨x, hx, h4⟩ := List.mem_map.1 h2
  obtain ⟨h5, h6⟩ := mem_ownL.1 hx
  have : (⟨x.owner, x.mode, e.name⟩ : Has9) ∈ H := by rw [← h4]; exact h5
  exact hp _ ((A.mem he x.owner x.mode).2 this) h6
/-- a holder more, or in another mode -/
def hsPut (hs : List (Int × Nat)) (x : Int) (m : Nat) : List (Int × Nat) := if hs.any (fun p => decide (p.1 = x)) then hs.map (fun p => if p.1 = x then (x, m) else p) else hs ++ [(x, m)]
theorem hsPut_new {hs : List (Int × Nat)} {x : Int} (h : ∀ p ∈ hs, p.1 ≠ x) (m : Nat) : hsPut hs x m = hs ++ [(x, m)] := by
  unfold hsPut; rw [if_neg]
  simp only [List.any_eq_true, decide_eq_true_eq]; rintro ⟨p, hp, e⟩; exact h p hp e
theorem hsPut_old {l1 l2 : List (Int × Nat)} {x : Int} {m0 : Nat} (hn : ((l1 ++ (x, m0) :: l2).map (·.1)).Nodup) (m : Nat) : hsPut (l1 ++ (x, m0) :: l2) x m = l1 ++ (x, m) :: l2 := by
  unfold hsPut; rw [if_pos (by simp)]
  have ne : ∀ p, p ∈ l1 ∨ p ∈ l2 → p.1 ≠ x := fun p hp => mid_ne (x := (x, m0)) hn hp
  rw [List.map_append, List.map_cons, if_pos rfl]
  congr 1
  · rw [List.map_congr_left (g := id) (fun p hp => by simp [ne p (.inl hp)]), List.map_id]
  · congr 1
    rw [List.map_congr_left (g := id) (fun p hp => by simp [ne p (.inr hp)]), List.map_id]
theorem hsPut_perm (A : Abs N HL WL H W n0 pre) (he : e ∈ N) (hn : (e.hs.map (·.1)).Nodup) (x : Int) (m : Nat) : ((hsPut e.hs x m).map (toH e)).Perm (nameL (holdP H ⟨x, m, e.name⟩) e.name) := by
  rw [nameL_hold H ⟨x, m, e.name⟩]
  have p1 := ((A.hm e he).filter (fun y => decide (y.owner ≠ x))).append_right [(⟨x, m, e.name⟩ : Has9)]
  refine List.Perm.trans ?_ p1
  rw [List.filter_map]
  rcases hs_cases e.hs x with h | ⟨p, hp, rfl⟩
  · rw [hsPut_new h, List.filter_eq_self.2 (fun p hp => by have := h p hp; simp [toH, this]), List.map_append]
    exact List.Perm.refl _
  · obtain ⟨l1, l2, hl⟩ := List.append_of_mem hp
    rw [hl] at hn ⊢
    rw [hsPut_old hn]
    have ne : ∀ q, q ∈ l1 ∨ q ∈ l2 → q.1 ≠ p.1 := fun q hq => mid_ne (x := p) hn hq
    have e1 : (l1 ++ p :: l2).filter ((fun y : Has9 => decide (y.owner ≠ p.1)) ∘ toH e) = l1 ++ l2 := by
      rw [List.filter_append, List.filter_cons_of_neg (by simp [toH]), List.filter_eq_self.2 (fun q hq => by have := ne q (.inl hq); simp [toH, this]), List.filter_eq_self.2 (fun q hq => by have := ne q (.inr hq); simp [toH, this])]
    rw [e1]
    simp only [List.map_append, List.map_cons, List.append_assoc]
    exact (List.perm_append_left_iff _).2 (List.perm_append_comm (l₁ := [_]))
end
end Go.Proofs.YtainnhcmhgloaaaGreatDoor
