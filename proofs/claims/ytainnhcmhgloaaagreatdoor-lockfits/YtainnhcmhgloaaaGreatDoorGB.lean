/-
  What holds of who holds what and who waits for what, and how asking keeps it: plain.
  How letting go keeps what holds of who holds what and who waits for what: plain.
  Who waits behind whom, as the document says it and as the program follows it; how many hold and wait: plain.
  What the statements ask of asking again, and of dropping all: plain.
  What the statements ask of each answer of Ask, and of who waits: plain.
  Locks, plain: behind whom somebody waits, as a list that rises; such a list is known by what is in it. No program in this text.
-/
import Derived.Test.YtainnhcmhgloaaaGreatDoorW09m
import Derived.Test.YtainnhcmhgloaaaGreatDoorK09e
import Derived.Test.YtainnhcmhgloaaaGreatDoorW09n
namespace Go.Proofs.YtainnhcmhgloaaaGreatDoor
open Go.RowKit

structure Inv9 (H W : Hs) : Prop where
  ok : Ok9 H W
  fits : ∀ a ∈ H, ∀ b ∈ H, a.name = b.name → a.owner ≠ b.owner → fitN a.mode b.mode = true
  ahead : Ahead H W
  more : ∀ y ∈ W, modeP H y.owner y.name ≠ y.mode
  loop : ∀ x, ¬ Bqs H W x x
/-- who is first of a queue could not have it -/
def First9 (H W : Hs) (n : ByteArray) : Prop := ∀ y l, nameL W n = y :: l → canP H y = false
section
variable {H W H' W' : Hs} {x : Has9} {a b c o : Int} {n : ByteArray}
theorem modeP_ext (h1 : H.Pairwise (fun a b => ¬ (a.owner = b.owner ∧ a.name = b.name))) (h2 : H'.Pairwise (fun a b => ¬ (a.owner = b.owner ∧ a.name = b.name))) (he : ∀ h : Has9, h.owner = o → h.name = n → (h ∈ H ↔ h ∈ H')) : modeP H o n = modeP H' o n := by
  by_cases hx : ∃ h ∈ H, h.owner = o ∧ h.name = n
  · obtain ⟨h, hh, rfl, rfl⟩ := hx
    rw [modeP_mem h1 hh, modeP_mem h2 ((he h rfl rfl).1 hh)]
  · rw [modeP_none (fun h hh e => hx ⟨h, hh, e⟩), modeP_none (fun h hh e => hx ⟨h, (he h e.1 e.2).2 hh, e⟩)]
theorem modeP_hold_ne (ok : Ok9 H W) (hx : 0 < x.mode ∧ x.mode < 7 ∧ 0 ≤ x.owner ∧ x.owner ≤ 9223372036854775807 ∧ x.name.size ≤ 300) (h : ¬ (o = x.owner ∧ n = x.name)) : modeP (holdP H x) o n = modeP H o n :=
  modeP_ext (ok.hold hx).hn ok.hn (fun y h1 h2 => by
    rw [mem_holdP]
    constructor
    · rintro (h3 | rfl)
      · exact h3.1
      · exact absurd ⟨h1.symm, h2.symm⟩ h
    · intro h3
      exact .inl ⟨h3, fun e => h ⟨h1.symm.trans e.1, h2.symm.trans e.2⟩⟩)
theorem modeP_woN_ne (ok : Ok9 H W) {xo : Int} {xn : ByteArray} (h : ¬ (o = xo ∧ n = xn)) : modeP (woN H xo xn) o n = modeP H o n :=
  modeP_ext (ok.woN xo xn).hn ok.hn (fun y h1 h2 => by
    rw [mem_woN]
    exact ⟨fun h3 => h3.1, fun h3 => ⟨h3, fun e => h ⟨h1.symm.trans e.1, h2.symm.trans e.2⟩⟩⟩)
theorem Bqs.first (h : Bqs H W a c) : ∃ b, Bq H W a b := by
  cases h with
  | one h => exact ⟨_, h⟩
  | more h _ => exact ⟨_, h⟩
theorem Bqs.trans (h : Bqs H W a b) (h' : Bqs H W b c) : Bqs H W a c := by
  induction h with
  | one h => exact .more h h'
  | more h _ ih => exact .more h (ih h')
/-- all new edges go to one that waits for nothing: no ring comes -/
theorem loop_sink {x : Int} (hs : ∀ b, ¬ Bq H' W' x b) (he : ∀ a b, Bq H' W' a b → Bq H W a b ∨ b = x) (hl : ∀ z, ¬ Bqs H W z z) (z : Int) : ¬ Bqs H' W' z z := by
  have key : ∀ {a c : Int}, Bqs H' W' a c → c = x ∨ Bqs H W a c := by
    intro a c h
    induction h with
    | one h => exact (he _ _ h).elim (fun h => .inr (.one h)) .inl
    | @more a b c h t ih =>
      have hb : Bq H W a b := (he _ _ h).elim id (fun e => by
        obtain ⟨d, hd⟩ := t.first
        rw [e] at hd; exact absurd hd (hs d))
      exact ih.imp id (fun h2 => .more hb h2)
  intro h
  rcases key h with e | h2
  · subst e
    obtain ⟨d, hd⟩ := h.first
    exact hs d hd
  · exact hl z h2
/-- all new edges are of one that is on no ring: no ring comes -/
theorem loop_new {x : Int} (hx : ¬ Bqs H' W' x x) (he : ∀ a b, Bq H' W' a b → Bq H W a b ∨ a = x ∨ b = x) (hl : ∀ z, ¬ Bqs H W z z) (z : Int) : ¬ Bqs H' W' z z := by
  have key : ∀ {a c : Int}, Bqs H' W' a c → Bqs H W a c ∨ ((a = x ∨ Bqs H' W' a x) ∧ (c = x ∨ Bqs H' W' x c)) := by
    intro a c h
    induction h with
    | @one a b h =>
      rcases he _ _ h with h1 | rfl | rfl
      · exact .inl (.one h1)
      · exact .inr ⟨.inl rfl, .inr (.one h)⟩
      · exact .inr ⟨.inr (.one h), .inl rfl⟩
    | @more a b c h t ih =>
      rcases ih with ih | ⟨i1, i2⟩
      · rcases he _ _ h with h1 | rfl | rfl
        · exact .inl (.more h1 ih)
        · exact .inr ⟨.inl rfl, .inr (.more h t)⟩
        · exact .inr ⟨.inr (.one h), .inr t⟩
      · refine .inr ⟨.inr ?_, i2⟩
        rcases i1 with rfl | i1
        · exact .one h
        · exact .more h i1
  intro h
  rcases key h with h2 | ⟨h1, h2⟩
  · exact hl z h2
  · rcases h1 with rfl | h1
    · exact hx h
    · rcases h2 with rfl | h2
      · exact hx h
      · exact hx (h2.trans h1)
/-- all new edges stood for ways: no ring comes -/
theorem loop_less (he : ∀ a b, Bq H' W' a b → Bqs H W a b) (hl : ∀ z, ¬ Bqs H W z z) (z : Int) : ¬ Bqs H' W' z z := by
  have key : ∀ {a c : Int}, Bqs H' W' a c → Bqs H W a c := by
    intro a c h
    induction h with
    | one h => exact he _ _ h
    | more h _ ih => exact (he _ _ h).trans ih
  exact fun h => hl z (key h)
/-- somebody who waits for nothing gets something that fits all others -/
theorem Inv9.hold (I : Inv9 H W) (hx : 0 < x.mode ∧ x.mode < 7 ∧ 0 ≤ x.owner ∧ x.owner ≤ 9223372036854775807 ∧ x.name.size ≤ 300) (no : ∀ y ∈ W, y.owner ≠ x.owner) (hc : canP H x = true) : Inv9 (holdP H x) W := by
  have hm : ∀ y ∈ W, ∀ n, modeP (holdP H x) y.owner n = modeP H y.owner n := fun y hy n => modeP_hold_ne I.ok hx (fun e => no y hy e.1)
  refine ⟨I.ok.hold hx, ?_, ?_, fun y hy => by rw [hm y hy]; exact I.more y hy, ?_⟩
  · intro a ha b hb h1 h2
    rw [mem_holdP] at ha hb
    rw [canP_iff] at hc
    rcases ha with ⟨ha, _⟩ | rfl <;> rcases hb with ⟨hb, _⟩ | rfl
    · exact I.fits a ha b hb h1 h2
    · exact hc a ha h1 h2
    · rw [fit_swap _ (I.ok.hm b hb).2.1 _ hx.2.1]
      exact hc b hb h1.symm (fun e => h2 e.symm)
    · exact absurd rfl h2
  · intro n l1 l2 u y hl hy h0
    have hu := (mem_nameL.1 (show u ∈ nameL W n by rw [hl]; simp)).1
    have hyW := (mem_nameL.1 (show y ∈ nameL W n by rw [hl]; simp [hy])).1
    rw [hm u hu]; rw [hm y hyW] at h0
    exact I.ahead n l1 l2 u y hl hy h0
  · refine loop_sink (x := x.owner) (H := H) (W := W) (fun b ⟨y, hy, e, _⟩ => no y hy e) (fun a b ⟨y, hy, e, h⟩ => ?_) I.loop
    rcases h with ⟨h, hh, h1, h2, h3, h4⟩ | h
    · rcases mem_holdP.1 hh with ⟨hh, _⟩ | rfl
      · exact .inl ⟨y, hy, e, .inl ⟨h, hh, h1, h2, h3, h4⟩⟩
      · exact .inr h2.symm
    · exact .inl ⟨y, hy, e, .inr h⟩
theorem first_hold (ok : Ok9 H W) (hx : x.mode < 7) (cov : ∀ h ∈ H, h.owner = x.owner → h.name = x.name → covN x.mode h.mode = true) (h : First9 H W n) : First9 (holdP H x) W n := by
  intro y l hl
  have hy := (mem_nameL.1 (show y ∈ nameL W n by rw [hl]; simp)).1
  have h7 := (ok.wm y hy).2.1
  have hc := h y l hl
  rw [canP_not] at hc ⊢
  obtain ⟨k, hk, h1, h2, h3⟩ := hc
  by_cases hkx : k.owner = x.owner ∧ k.name = x.name
  · refine ⟨x, mem_holdP.2 (.inr rfl), hkx.2.symm.trans h1, fun e => h2 (hkx.1.trans e), ?_⟩
    cases hf : fitN x.mode y.mode with
    | false => rfl
    | true =>
      have := fits1 _ hx _ (ok.hm k hk).2.1 _ h7 (cov k hk hkx.1 hkx.2) hf
      rw [this] at h3; cases h3
  · exact ⟨k, mem_holdP.2 (.inl ⟨hk, hkx⟩), h1, h2, h3⟩
theorem splits_pairwise {α : Type} {R : α → α → Prop} : ∀ {L : List α}, L.Pairwise R ↔ ∀ l1 l2 u y, L = l1 ++ u :: l2 → y ∈ l2 → R u y
  | [] => ⟨fun _ l1 l2 u y h _ => by simp at h, fun _ => List.Pairwise.nil⟩
  | z :: L => by
    rw [List.pairwise_cons, splits_pairwise (L := L)]
    constructor
    · rintro ⟨h1, h2⟩ l1 l2 u y h hy
      cases l1 with
      | nil => simp at h; obtain ⟨rfl, rfl⟩ := h; exact h1 y hy
      | cons v l => simp at h; exact h2 l l2 u y h.2 hy
    · intro h
      exact ⟨fun y hy => h [] L z y rfl hy, fun l1 l2 u y e hy => h (z :: l1) l2 u y (by rw [e]; rfl) hy⟩
theorem nameL_stay (no : ∀ y ∈ W, y.owner ≠ x.owner) (bb : Bool) (n : ByteArray) : nameL W n = (nameL (stayAt H x bb W) n).filter (fun y => decide (y.owner ≠ x.owner)) := by
  have := woA_stay (x := x) bb no H
  conv => lhs; rw [← this]
  unfold nameL woA
  rw [List.filter_filter, List.filter_filter]
  refine List.filter_congr (fun y _ => ?_)
  rw [Bool.and_comm]
/-- somebody comes to wait -/
theorem Inv9.stay (I : Inv9 H W) (hx : 0 < x.mode ∧ x.mode < 7 ∧ 0 ≤ x.owner ∧ x.owner ≤ 9223372036854775807 ∧ x.name.size ≤ 300) (no : ∀ y ∈ W, y.owner ≠ x.owner) (ne : modeP H x.owner x.name ≠ x.mode) (hd : ¬ Bqs H (stayAt H x (decide (modeP H x.owner x.name ≠ 0)) W) x.owner x.owner) :
    Inv9 H (stayAt H x (decide (modeP H x.owner x.name ≠ 0)) W) := by
  obtain ⟨l1, l2, h1, h2, h3, h4⟩ := stayAt_name H x (decide (modeP H x.owner x.name ≠ 0)) W
  have hmem : ∀ y, y ∈ stayAt H x (decide (modeP H x.owner x.name ≠ 0)) W → y ∈ W ∨ y = x := fun y hy => by
    rcases List.mem_append.1 ((stayAt_perm H x _ W).mem_iff.1 hy) with hy | hy
    · exact .inl hy
    · exact .inr (List.mem_singleton.1 hy)
  refine ⟨I.ok.stay hx no, I.fits, ?_, fun y hy => ?_, ?_⟩
  · intro n
    by_cases hn : n = x.name
    · subst hn
      have hp : (l1 ++ l2).Pairwise (fun u y => modeP H y.owner x.name ≠ 0 → modeP H u.owner x.name ≠ 0) := by
        rw [← h1]; exact splits_pairwise.2 (fun k1 k2 u y e hy => I.ahead x.name k1 k2 u y e hy)
      rw [List.pairwise_append] at hp
      have hp2 : (l1 ++ x :: l2).Pairwise (fun u y => modeP H y.owner x.name ≠ 0 → modeP H u.owner x.name ≠ 0) := by
        rw [List.pairwise_append, List.pairwise_cons]
        by_cases hb : modeP H x.owner x.name = 0
        · obtain rfl := h3 (by simp [hb])
          exact ⟨hp.1, ⟨fun _ h => (by cases h), hp.2.1⟩, fun u hu y hy h0 => by
            obtain rfl := List.mem_singleton.1 hy
            exact absurd hb h0⟩
        · have h5 := (h4 (by simp [hb])).1
          exact ⟨hp.1, ⟨fun _ _ _ => hb, hp.2.1⟩, fun u hu y hy _ => h5 u hu⟩
      rw [← h2] at hp2
      exact fun k1 k2 u y e hy h0 => splits_pairwise.1 hp2 k1 k2 u y e hy h0
    · rw [stayAt_ne H x _ hn W]; exact I.ahead n
  · rcases hmem y hy with hy | rfl
    · exact I.more y hy
    · exact ne
  · refine loop_new hd (fun a b ⟨y, hy, e, h⟩ => ?_) I.loop
    rcases hmem y hy with hyW | rfl
    · rcases h with h | ⟨k1, k2, z, hk, hz⟩
      · exact .inl ⟨y, hyW, e, .inl h⟩
      · by_cases hzx : z.owner = x.owner
        · exact .inr (.inr (hz.symm.trans hzx))
        · refine .inl ⟨y, hyW, e, .inr ⟨k1.filter (fun y => decide (y.owner ≠ x.owner)), k2.filter (fun y => decide (y.owner ≠ x.owner)), z, ?_, hz⟩⟩
          rw [nameL_stay (H := H) no (decide (modeP H x.owner x.name ≠ 0)) y.name, hk, List.filter_append, List.filter_cons_of_pos (by simp [hzx]), List.filter_cons_of_pos (by simp [no y hyW])]
    · exact .inr (.inl e.symm)
theorem first_stay (hn : ¬ ((modeP H x.owner x.name ≠ 0 ∨ nameL W x.name = []) ∧ canP H x = true)) (h : First9 H W n) : First9 H (stayAt H x (decide (modeP H x.owner x.name ≠ 0)) W) n := by
  by_cases hnx : n = x.name
  · subst hnx
    obtain ⟨l1, l2, h1, h2, h3, h4⟩ := stayAt_name H x (decide (modeP H x.owner x.name ≠ 0)) W
    intro y l hl
    rw [h2] at hl
    cases l1 with
    | nil =>
      simp at hl
      obtain ⟨rfl, rfl⟩ := hl
      cases hc : canP H x with
      | false => rfl
      | true =>
        refine absurd ⟨?_, hc⟩ hn
        by_cases hb : modeP H x.owner x.name = 0
        · right; rw [h1, h3 (by simp [hb])]; rfl
        · exact .inl hb
    | cons v l' =>
      simp at hl
      obtain ⟨rfl, _⟩ := hl
      exact h v (l' ++ l2) (by rw [h1]; rfl)
  · intro y l hl
    rw [stayAt_ne H x _ hnx W] at hl
    exact h y l hl
/-- asking keeps it -/
theorem Inv9.ask {m : Int} {k : Nat} (I : Inv9 H W) (F : ∀ n, First9 H W n) (ho : o ≤ 9223372036854775807) (hs : n.size ≤ 300) (h : AskS H W o n m k H' W') : Inv9 H' W' ∧ ∀ n, First9 H' W' n := by
  cases h with
  | arg _ => exact ⟨I, F⟩
  | state _ _ _ _ => exact ⟨I, F⟩
  | has _ _ _ => exact ⟨I, F⟩
  | dead _ _ _ _ _ => exact ⟨I, F⟩
  | got hb no ne hn hc =>
    have h7 := modeP_lt I.ok o n
    have hm7 : m.toNat < 7 := by omega
    have hx : 0 < jn (modeP H o n) m.toNat 7 ∧ jn (modeP H o n) m.toNat 7 < 7 ∧ 0 ≤ o ∧ o ≤ 9223372036854775807 ∧ n.size ≤ 300 := ⟨jn_pos _ h7 _ hm7 (by omega), jn_lt _ _ _ (by omega), hb.1, ho, hs⟩
    refine ⟨I.hold hx no hc, fun n' => first_hold I.ok hx.2.1 (fun k hk h1 h2 => ?_) (F n')⟩
    have : modeP H o n = k.mode := by
      have := modeP_mem I.ok.hn hk
      rw [h1, h2] at this; exact this
    show covN (jn (modeP H o n) m.toNat 7) k.mode = true
    rw [← this]
    exact jn_left _ h7 _ hm7
  | wait hb no ne hn hd =>
    have h7 := modeP_lt I.ok o n
    have hm7 : m.toNat < 7 := by omega
    have hx : 0 < jn (modeP H o n) m.toNat 7 ∧ jn (modeP H o n) m.toNat 7 < 7 ∧ 0 ≤ o ∧ o ≤ 9223372036854775807 ∧ n.size ≤ 300 := ⟨jn_pos _ h7 _ hm7 (by omega), jn_lt _ _ _ (by omega), hb.1, ho, hs⟩
    exact ⟨I.stay (x := ⟨o, jn (modeP H o n) m.toNat 7, n⟩) hx no (fun e => ne e.symm) hd, fun n' => first_stay (x := ⟨o, jn (modeP H o n) m.toNat 7, n⟩) hn (F n')⟩
end
end Go.Proofs.YtainnhcmhgloaaaGreatDoor

namespace Go.Proofs.YtainnhcmhgloaaaGreatDoor
open Go.RowKit
section
variable {H W H' W' : Hs} {x y : Has9} {a b c o : Int} {n n' : ByteArray}
theorem filter_next {α : Type} {p : α → Bool} {L k1 k2 : List α} {z y : α} (h : L.filter p = k1 ++ z :: y :: k2) : ∃ j1 m j2, L = j1 ++ z :: (m ++ y :: j2) := by
  obtain ⟨l1, l2, rfl, _, h2⟩ := List.filter_eq_append_iff.1 h
  obtain ⟨m1, m2, rfl, _, _, h3⟩ := List.filter_eq_cons_iff.1 h2
  obtain ⟨m3, m4, rfl, _, _, _⟩ := List.filter_eq_cons_iff.1 h3
  exact ⟨l1 ++ m1, m3, m4, by simp⟩
theorem chain_bqs (y : Has9) (n : ByteArray) (j2 : Hs) : ∀ (m j1 : Hs) (z : Has9), nameL W n = j1 ++ z :: (m ++ y :: j2) → Bqs H W y.owner z.owner
  | [], j1, z, h => by
    have hy := mem_nameL.1 (show y ∈ nameL W n by rw [h]; simp)
    exact .one ⟨y, hy.1, rfl, .inr ⟨j1, j2, z, by rw [hy.2, h]; rfl, rfl⟩⟩
  | v :: m, j1, z, h => by
    have hv := mem_nameL.1 (show v ∈ nameL W n by rw [h]; simp)
    have h1 := chain_bqs y n j2 m (j1 ++ [z]) v (by rw [h]; simp)
    exact h1.trans (.one ⟨v, hv.1, rfl, .inr ⟨j1, m ++ y :: j2, z, by rw [hv.2, h]; rfl, rfl⟩⟩)
theorem nameL_woA_filter (W : Hs) (o : Int) (n : ByteArray) : nameL (woA W o) n = (nameL W n).filter (fun y => decide (y.owner ≠ o)) := by
  unfold nameL woA
  rw [List.filter_filter, List.filter_filter]
  exact List.filter_congr (fun y _ => Bool.and_comm ..)
theorem Inv9.cutA (I : Inv9 H W) (o : Int) : Inv9 H (woA W o) := by
  refine ⟨I.ok.woA o, I.fits, ?_, fun y hy => I.more y (mem_woA.1 hy).1, loop_less (H := H) (W := W) (fun a b ⟨y, hy, e, h⟩ => ?_) I.loop⟩
  · intro n k1 k2 u y e hy h0
    have hp : (nameL W n).Pairwise (fun u y => modeP H y.owner n ≠ 0 → modeP H u.owner n ≠ 0) := splits_pairwise.2 (fun k1 k2 u y e hy => I.ahead n k1 k2 u y e hy)
    rw [nameL_woA_filter] at e
    exact splits_pairwise.1 (hp.filter (fun y : Has9 => decide (y.owner ≠ o))) k1 k2 u y e hy h0
  · subst e
    have hyW := (mem_woA.1 hy).1
    rcases h with h | ⟨k1, k2, z, hk, rfl⟩
    · exact .one ⟨y, hyW, rfl, .inl h⟩
    · rw [nameL_woA_filter] at hk
      obtain ⟨j1, m, j2, hL⟩ := filter_next hk
      exact chain_bqs y y.name j2 m j1 z hL
theorem Inv9.cutN (I : Inv9 H W) (hw : ∀ y ∈ W, y.owner = o → y.name ≠ n) : Inv9 (woN H o n) W := by
  have hm : ∀ y ∈ W, modeP (woN H o n) y.owner y.name = modeP H y.owner y.name := fun y hy => modeP_woN_ne I.ok (fun e => hw y hy e.1 e.2)
  refine ⟨I.ok.woN o n, fun a ha b hb => I.fits a (mem_woN.1 ha).1 b (mem_woN.1 hb).1, ?_, fun y hy => by rw [hm y hy]; exact I.more y hy, loop_less (H := H) (W := W) (fun a b ⟨y, hy, e, h⟩ => .one ⟨y, hy, e, ?_⟩) I.loop⟩
  · intro n' l1 l2 u y hl hy h0
    have hu := mem_nameL.1 (show u ∈ nameL W n' by rw [hl]; simp)
    have hyW := mem_nameL.1 (show y ∈ nameL W n' by rw [hl]; simp [hy])
    have e1 := hm u hu.1; have e2 := hm y hyW.1
    rw [hu.2] at e1; rw [hyW.2] at e2
    rw [e1]; rw [e2] at h0
    exact I.ahead n' l1 l2 u y hl hy h0
  · rcases h with ⟨h, hh, h1⟩ | h
    · exact .inl ⟨h, (mem_woN.1 hh).1, h1⟩
    · exact .inr h
theorem first_woN (h : First9 H W n') (hne : n' ≠ n) : First9 (woN H o n) W n' := by
  intro y l hl
  have hy := mem_nameL.1 (show y ∈ nameL W n' by rw [hl]; simp)
  obtain ⟨k, hk, h1, h2⟩ := canP_not.1 (h y l hl)
  exact canP_not.2 ⟨k, mem_woN.2 ⟨hk, fun e => hne (hy.2.symm.trans (h1.symm.trans e.2))⟩, h1, h2⟩
theorem first_hold_ne (h : First9 H W n') (hne : n' ≠ x.name) : First9 (holdP H x) W n' := by
  intro y l hl
  have hy := mem_nameL.1 (show y ∈ nameL W n' by rw [hl]; simp)
  obtain ⟨k, hk, h1, h2⟩ := canP_not.1 (h y l hl)
  exact canP_not.2 ⟨k, mem_holdP.2 (.inl ⟨hk, fun e => hne (hy.2.symm.trans (h1.symm.trans e.2))⟩), h1, h2⟩
theorem first_woA (ok : Ok9 H W) (hx : x ∈ W) (h : First9 H W n') (hne : n' ≠ x.name) : First9 H (woA W x.owner) n' := by
  intro y l hl
  rw [nameL_woA_ne ok.wn hx hne] at hl
  exact h y l hl
theorem comeP_sub (n : ByteArray) : ∀ (k : Nat) (H W : Hs), ∀ y ∈ (comeP n k H W).2.1, y ∈ W
  | 0, H, W => by unfold comeP; exact fun y hy => hy
  | k + 1, H, W => by
    unfold comeP
    cases hn : nameL W n with
    | nil => exact fun y hy => hy
    | cons z l =>
      by_cases hc : canP H z = true
      · simp only [hc, if_true]
        exact fun y hy => (mem_woA.1 (comeP_sub n k _ _ y hy)).1
      · simp only [hc]; exact fun y hy => hy
theorem comeP_keeps (n : ByteArray) : ∀ (k : Nat) (H W : Hs), (nameL W n).length ≤ k → Inv9 H W → Inv9 (comeP n k H W).1 (comeP n k H W).2.1 ∧ First9 (comeP n k H W).1 (comeP n k H W).2.1 n ∧ ∀ n', n' ≠ n → First9 H W n' → First9 (comeP n k H W).1 (comeP n k H W).2.1 n'
  | 0, H, W, hk, I => by
    unfold comeP
    refine ⟨I, fun y l hl => ?_, fun _ _ h => h⟩
    rw [hl] at hk; simp at hk
  | k + 1, H, W, hk, I => by
    cases hn : nameL W n with
    | nil =>
      rw [show comeP n (k + 1) H W = (H, W, []) by unfold comeP; rw [hn]]
      exact ⟨I, (show First9 H W n from fun y l hl => by rw [hn] at hl; cases hl), fun _ _ h => h⟩
    | cons z l =>
      have hz := mem_nameL.1 (show z ∈ nameL W n by rw [hn]; simp)
      cases hc : canP H z with
      | false =>
        rw [comeP_no hn hc (k + 1)]
        exact ⟨I, (show First9 H W n from fun y l' hl => by rw [hn] at hl; cases hl; exact hc), fun _ _ h => h⟩
      | true =>
        rw [comeP_yes hn hc]
        have I2 := (I.cutA z.owner).hold (x := z) (I.ok.wm z hz.1) (fun y hy => (mem_woA.1 hy).2) hc
        have hl : (nameL (woA W z.owner) n).length ≤ k := by
          rw [nameL_woA_filter, hn, List.filter_cons_of_neg (by simp)]
          rw [hn, List.length_cons] at hk
          have := List.length_filter_le (fun y : Has9 => decide (y.owner ≠ z.owner)) l
          omega
        obtain ⟨J1, J2, J3⟩ := comeP_keeps n k _ _ hl I2
        exact ⟨J1, J2, fun n' hne h => J3 n' hne (first_hold_ne (first_woA I.ok hz.1 h (by rw [hz.2]; exact hne)) (by rw [hz.2]; exact hne))⟩
/-- letting one name go keeps it -/
theorem Inv9.free {k : Nat} {l : List Int} (I : Inv9 H W) (F : ∀ n, First9 H W n) (h : FreeS H W o n k H' W' l) : Inv9 H' W' ∧ ∀ n, First9 H' W' n := by
  cases h with
  | none _ => exact ⟨I, F⟩
  | state _ _ _ _ _ => exact ⟨I, F⟩
  | ok h0 no =>
    obtain ⟨J1, J2, J3⟩ := comeP_keeps n (nameL W n).length _ _ (Nat.le_refl _) (I.cutN no)
    refine ⟨J1, fun n' => ?_⟩
    by_cases hne : n' = n
    · rw [hne]; exact J2
    · exact J3 n' hne (first_woN (F n') hne)
theorem dropP_keeps (o : Int) : ∀ (K : List ByteArray) (H W : Hs), Inv9 H W → (∀ y ∈ W, y.owner ≠ o) → (∀ n, n ∉ K → First9 H W n) → Inv9 (dropP o K H W).1 (dropP o K H W).2.1 ∧ (∀ n, First9 (dropP o K H W).1 (dropP o K H W).2.1 n) ∧ ∀ y ∈ (dropP o K H W).2.1, y ∈ W
  | [], H, W, I, hw, F => ⟨I, fun n => F n (by simp), fun y hy => hy⟩
  | n :: K, H, W, I, hw, F => by
    obtain ⟨J1, J2, J3⟩ := comeP_keeps n (nameL W n).length _ _ (Nat.le_refl _) (I.cutN (o := o) (n := n) (fun y hy e => absurd e (hw y hy)))
    have hsub := comeP_sub n (nameL W n).length (woN H o n) W
    obtain ⟨L1, L2, L3⟩ := dropP_keeps o K _ _ J1 (fun y hy => hw y (hsub y hy)) (fun n' hn' => by
      by_cases hne : n' = n
      · rw [hne]; exact J2
      · exact J3 n' hne (first_woN (F n' (by simp [hne, hn'])) hne))
    exact ⟨L1, L2, fun y hy => hsub y (L3 y hy)⟩
/-- dropping all keeps it -/
theorem Inv9.drop (I : Inv9 H W) (F : ∀ n, First9 H W n) (o : Int) : Inv9 (dropP o (namesP H W o) H (woA W o)).1 (dropP o (namesP H W o) H (woA W o)).2.1 ∧ ∀ n, First9 (dropP o (namesP H W o) H (woA W o)).1 (dropP o (namesP H W o) H (woA W o)).2.1 n := by
  have := dropP_keeps o (namesP H W o) H _ (I.cutA o) (fun y hy => (mem_woA.1 hy).2) (fun n hn => by
    rcases forP_cases W o with hno | ⟨y, hy, rfl⟩
    · have : woA W o = W := List.filter_eq_self.2 (fun y hy => by simp [hno y hy])
      rw [this]; exact F n
    · refine first_woA I.ok hy (F n) (fun e => hn ?_)
      unfold namesP
      rw [mem_namesU, forP_mem I.ok hy, e]
      simp)
  exact ⟨this.1, this.2.1⟩
end
end Go.Proofs.YtainnhcmhgloaaaGreatDoor

namespace Go.Proofs.YtainnhcmhgloaaaGreatDoor
open Go.RowKit
section
variable {H W H' W' : Hs} {x y : Has9} {a b c o : Int} {n n' : ByteArray}
theorem bq_bh (ok : Ok9 H W) (h : Bq H W a b) : Bh H W a b := by
  obtain ⟨y, hy, rfl, h⟩ := h
  rcases h with ⟨h, hh, h1, h2, h3, h4⟩ | ⟨l1, l2, z, hl, rfl⟩
  · refine .holds y h hy rfl hh h1 h2 h3 ?_
    rw [fit_swap _ (ok.wm y hy).2.1 _ (ok.hm h hh).2.1]; exact h4
  · have hz := mem_nameL.1 (show z ∈ nameL W y.name by rw [hl]; simp)
    unfold nameL at hl
    obtain ⟨j1, m, j2, hW⟩ := filter_next hl
    exact .ahead y z j1 m j2 (by rw [hW]; simp) rfl rfl hz.2
theorem bh_bqs (ok : Ok9 H W) (h : Bh H W a b) : Bqs H W a b := by
  cases h with
  | holds x h hx ha hh hn hb hne hf =>
    refine .one ⟨x, hx, ha, .inl ⟨h, hh, hn, hb, hne, ?_⟩⟩
    rw [fit_swap _ (ok.hm h hh).2.1 _ (ok.wm x hx).2.1]; exact hf
  | ahead x y L1 L2 L3 hW ha hb hn =>
    have := chain_bqs (H := H) (W := W) x x.name (nameL L3 x.name) (nameL L2 x.name) (nameL L1 x.name) y (by
      rw [hW, nameL_app, nameL_app]
      have e1 : nameL (y :: L2) x.name = y :: nameL L2 x.name := by unfold nameL; rw [List.filter_cons_of_pos (by simp [hn])]
      have e2 : nameL (x :: L3) x.name = x :: nameL L3 x.name := by unfold nameL; rw [List.filter_cons_of_pos (by simp)]
      rw [e1, e2]; simp)
    rw [ha, hb] at this
    exact this
/-- who waits behind whom, over however many: the document's way and the program's tell the same -/
theorem beh_bqs (ok : Ok9 H W) : Beh H W a b ↔ Bqs H W a b := by
  constructor
  · intro h
    induction h with
    | one h => exact bh_bqs ok h
    | more h _ ih => exact (bh_bqs ok h).trans ih
  · intro h
    induction h with
    | one h => exact .one (bq_bh ok h)
    | more h _ ih => exact .more (bq_bh ok h) ih
theorem ask_len {m : Int} {k : Nat} (h : AskS H W o n m k H' W') : H'.length + W'.length ≤ H.length + W.length + 1 := by
  cases h with
  | arg _ => omega
  | state _ _ _ _ => omega
  | has _ _ _ => omega
  | dead _ _ _ _ _ => omega
  | got _ _ _ _ _ => have := holdP_len H (⟨o, jn (modeP H o n) m.toNat 7, n⟩ : Has9); omega
  | wait _ _ _ _ _ =>
    have := (stayAt_perm H (⟨o, jn (modeP H o n) m.toNat 7, n⟩ : Has9) (decide (modeP H o n ≠ 0)) W).length_eq
    rw [List.length_append, List.length_singleton] at this
    omega
theorem free_len {k : Nat} {l : List Int} (h : FreeS H W o n k H' W' l) : H'.length + W'.length ≤ H.length + W.length := by
  cases h with
  | none _ => omega
  | state _ _ _ _ _ => omega
  | ok _ _ =>
    have h1 := (comeP_len n (nameL W n).length (woN H o n) W).1
    have h2 : (woN H o n).length ≤ H.length := List.length_filter_le _ _
    omega
theorem dropP_len (o : Int) : ∀ (K : List ByteArray) (H W : Hs), (dropP o K H W).1.length + (dropP o K H W).2.1.length ≤ H.length + W.length
  | [], H, W => Nat.le_refl _
  | n :: K, H, W => by
    have h1 := (comeP_len n (nameL W n).length (woN H o n) W).1
    have h2 : (woN H o n).length ≤ H.length := List.length_filter_le _ _
    have h3 := dropP_len o K (comeP n (nameL W n).length (woN H o n) W).1 (comeP n (nameL W n).length (woN H o n) W).2.1
    show (dropP o K (comeP n (nameL W n).length (woN H o n) W).1 (comeP n (nameL W n).length (woN H o n) W).2.1).1.length + (dropP o K (comeP n (nameL W n).length (woN H o n) W).1 (comeP n (nameL W n).length (woN H o n) W).2.1).2.1.length ≤ _
    omega
theorem Inv9.start : Inv9 [] [] :=
  ⟨⟨fun _ h => (by cases h), fun _ h => (by cases h), List.Pairwise.nil, List.nodup_nil⟩, fun _ h => (by cases h), fun n l1 l2 u y h => by simp [nameL] at h, fun _ h => (by cases h), fun x h => by
    obtain ⟨b, y, hy, _⟩ := h.first
    cases hy⟩
end
end Go.Proofs.YtainnhcmhgloaaaGreatDoor

namespace Go.Proofs.YtainnhcmhgloaaaGreatDoor
open Go.RowKit
theorem jn_cov : ∀ a, a < 7 → ∀ b, b < 7 → covN a b = true → jn a b 7 = a := by decide +kernel
section
variable {H W H' W' : Hs} {x y : Has9} {a b c o : Int} {n n' : ByteArray}
theorem ask_again {m : Int} {k : Nat} (ok : Ok9 H W) (hb : 0 ≤ o ∧ 0 < m ∧ m < 7) (no : ∀ y ∈ W, y.owner ≠ o) (cov : covN (modeP H o n) m.toNat = true) (h : AskS H W o n m k H' W') : k = 0 ∧ H' = H ∧ W' = W := by
  have e := jn_cov _ (modeP_lt ok o n) _ (show m.toNat < 7 by omega) cov
  cases h with
  | arg h => exact absurd hb h
  | state _ y hy hyo => exact absurd hyo (no y hy)
  | has _ _ _ => exact ⟨rfl, rfl, rfl⟩
  | got _ _ ne _ _ => exact absurd e ne
  | dead _ _ ne _ _ => exact absurd e ne
  | wait _ _ ne _ _ => exact absurd e ne
theorem comeP_from (n : ByteArray) : ∀ (k : Nat) (H W : Hs), ∀ h ∈ (comeP n k H W).1, h ∈ H ∨ h ∈ W
  | 0, H, W => by unfold comeP; exact fun h hh => .inl hh
  | k + 1, H, W => by
    cases hn : nameL W n with
    | nil => rw [comeP_nil hn]; exact fun h hh => .inl hh
    | cons z l =>
      have hz := mem_nameL.1 (show z ∈ nameL W n by rw [hn]; simp)
      cases hc : canP H z with
      | false => rw [comeP_no hn hc]; exact fun h hh => .inl hh
      | true =>
        rw [comeP_yes hn hc]
        intro h hh
        rcases comeP_from n k _ _ h hh with h1 | h1
        · rcases mem_holdP.1 h1 with h2 | rfl
          · exact .inl h2.1
          · exact .inr hz.1
        · exact .inr (mem_woA.1 h1).1
/-- who holds something still does when others have come -/
theorem comeP_still (n : ByteArray) : ∀ (k : Nat) (H W : Hs) (b : Int), (∃ h ∈ H, h.owner = b) → ∃ h ∈ (comeP n k H W).1, h.owner = b
  | 0, H, W, b, h => by unfold comeP; exact h
  | k + 1, H, W, b, h => by
    cases hn : nameL W n with
    | nil => rw [comeP_nil hn]; exact h
    | cons z l =>
      cases hc : canP H z with
      | false => rw [comeP_no hn hc]; exact h
      | true =>
        rw [comeP_yes hn hc]
        refine comeP_still n k _ _ b ?_
        obtain ⟨h, hh, rfl⟩ := h
        by_cases e : h.owner = z.owner ∧ h.name = z.name
        · exact ⟨z, mem_holdP.2 (.inr rfl), e.1.symm⟩
        · exact ⟨h, mem_holdP.2 (.inl ⟨hh, e⟩), rfl⟩
/-- who has come waited, waits no more, and holds something -/
theorem comeP_came (n : ByteArray) : ∀ (k : Nat) (H W : Hs), ∀ b ∈ (comeP n k H W).2.2, (∃ y ∈ W, y.owner = b) ∧ (∃ h ∈ (comeP n k H W).1, h.owner = b) ∧ ∀ y ∈ (comeP n k H W).2.1, y.owner ≠ b
  | 0, H, W => by unfold comeP; exact fun b hb => by cases hb
  | k + 1, H, W => by
    cases hn : nameL W n with
    | nil => rw [comeP_nil hn]; exact fun b hb => by cases hb
    | cons z l =>
      have hz := mem_nameL.1 (show z ∈ nameL W n by rw [hn]; simp)
      cases hc : canP H z with
      | false => rw [comeP_no hn hc]; exact fun b hb => by cases hb
      | true =>
        rw [comeP_yes hn hc]
        intro b hb
        rcases List.mem_cons.1 hb with rfl | hb
        · exact ⟨⟨z, hz.1, rfl⟩, comeP_still n k _ _ _ ⟨z, mem_holdP.2 (.inr rfl), rfl⟩, fun y hy => (mem_woA.1 (comeP_sub n k _ _ y hy)).2⟩
        · obtain ⟨⟨y, hy, e⟩, h2, h3⟩ := comeP_came n k _ _ b hb
          exact ⟨⟨y, (mem_woA.1 hy).1, e⟩, h2, h3⟩
theorem dropP_gone (o : Int) : ∀ (K : List ByteArray) (H W : Hs), (∀ y ∈ W, y.owner ≠ o) → (∀ h ∈ H, h.owner = o → h.name ∈ K) → ∀ h ∈ (dropP o K H W).1, h.owner ≠ o
  | [], H, W, _, hH => fun h hh e => by have := hH h hh e; cases this
  | n :: K, H, W, hw, hH => by
    refine dropP_gone o K _ _ (fun y hy => hw y (comeP_sub n _ _ _ y hy)) (fun h hh e => ?_)
    rcases comeP_from n _ _ _ h hh with h1 | h1
    · obtain ⟨h2, h3⟩ := mem_woN.1 h1
      rcases List.mem_cons.1 (hH h h2 e) with h4 | h4
      · exact absurd ⟨e, h4⟩ h3
      · exact h4
    · exact absurd e (hw h h1)
theorem dropP_still (o : Int) : ∀ (K : List ByteArray) (H W : Hs) (b : Int), b ≠ o → (∃ h ∈ H, h.owner = b) → ∃ h ∈ (dropP o K H W).1, h.owner = b
  | [], H, W, b, _, h => h
  | n :: K, H, W, b, hb, h => by
    refine dropP_still o K _ _ b hb (comeP_still n _ _ _ b ?_)
    obtain ⟨h, hh, e⟩ := h
    exact ⟨h, mem_woN.2 ⟨hh, fun e2 => hb (e.symm.trans e2.1)⟩, e⟩
theorem dropP_sub (o : Int) : ∀ (K : List ByteArray) (H W : Hs), ∀ y ∈ (dropP o K H W).2.1, y ∈ W
  | [], _H, _W => fun _y hy => hy
  | n :: K, _H, _W => fun y hy => comeP_sub n _ _ _ y (dropP_sub o K _ _ y hy)
theorem dropP_came (o : Int) : ∀ (K : List ByteArray) (H W : Hs), (∀ y ∈ W, y.owner ≠ o) → ∀ b ∈ (dropP o K H W).2.2, b ≠ o ∧ (∃ h ∈ (dropP o K H W).1, h.owner = b) ∧ ∀ y ∈ (dropP o K H W).2.1, y.owner ≠ b
  | [], H, W, _ => fun b hb => by cases hb
  | n :: K, H, W, hw => by
    intro b hb
    rcases List.mem_append.1 hb with hb | hb
    · obtain ⟨⟨y, hy, e⟩, h2, h3⟩ := comeP_came n _ _ _ b hb
      have hbo : b ≠ o := fun e2 => hw y hy (e.trans e2)
      exact ⟨hbo, dropP_still o K _ _ b hbo h2, fun z hz => h3 z (dropP_sub o K _ _ z hz)⟩
    · exact dropP_came o K _ _ (fun y hy => hw y (comeP_sub n _ _ _ y hy)) b hb
/-- who drops all holds nothing and waits for nothing; who comes by that waits no more, and holds something -/
theorem drop_all (_ok : Ok9 H W) (o : Int) : (∀ h ∈ (dropP o (namesP H W o) H (woA W o)).1, h.owner ≠ o) ∧ (∀ y ∈ (dropP o (namesP H W o) H (woA W o)).2.1, y.owner ≠ o) ∧
    ∀ b ∈ (dropP o (namesP H W o) H (woA W o)).2.2, b ≠ o ∧ (∃ h ∈ (dropP o (namesP H W o) H (woA W o)).1, h.owner = b) ∧ ∀ y ∈ (dropP o (namesP H W o) H (woA W o)).2.1, y.owner ≠ b := by
  have hw : ∀ y ∈ woA W o, y.owner ≠ o := fun y hy => (mem_woA.1 hy).2
  refine ⟨dropP_gone o _ _ _ hw (fun h hh e => ?_), fun y hy => hw y (dropP_sub o _ _ _ y hy), dropP_came o _ _ _ hw⟩
  unfold namesP
  rw [mem_namesU, List.mem_append]
  exact .inl (List.mem_map.2 ⟨h, mem_ownL.2 ⟨hh, e⟩, rfl⟩)
end
end Go.Proofs.YtainnhcmhgloaaaGreatDoor

namespace Go.Proofs.YtainnhcmhgloaaaGreatDoor
open Go.RowKit
section
variable {H W H' W' : Hs} {x y : Has9} {a b c o : Int} {n n' : ByteArray} {m : Int} {k : Nat}
/-- who waits does so behind somebody -/
theorem waits_behind (ok : Ok9 H W) (F : ∀ n, First9 H W n) (hy : y ∈ W) : ∃ b, Bh H W y.owner b := by
  obtain ⟨l1, l2, hsp⟩ := List.append_of_mem (mem_nameL.2 ⟨hy, rfl⟩)
  cases hl : l1 with
  | nil =>
    rw [hl] at hsp
    obtain ⟨h, hh, h1, h2, h3⟩ := canP_not.1 (F y.name y l2 hsp)
    exact ⟨h.owner, .holds y h hy rfl hh h1 rfl h2 h3⟩
  | cons z r =>
    have hr : l1 ≠ [] := by rw [hl]; simp
    obtain ⟨u, v, hv⟩ : ∃ u v, l1 = u ++ [v] := ⟨l1.dropLast, l1.getLast hr, (List.dropLast_concat_getLast hr).symm⟩
    exact ⟨v.owner, bq_bh ok ⟨y, hy, rfl, .inr ⟨u, l2, v, by rw [hsp, hv]; simp, rfl⟩⟩⟩
theorem modeP_hold_self (ok : Ok9 H W) (hx : 0 < x.mode ∧ x.mode < 7 ∧ 0 ≤ x.owner ∧ x.owner ≤ 9223372036854775807 ∧ x.name.size ≤ 300) : modeP (holdP H x) x.owner x.name = x.mode :=
  modeP_mem (ok.hold hx).hn (mem_holdP.2 (.inr rfl))
theorem ask_ok (ok : Ok9 H W) (ho : o ≤ 9223372036854775807) (hs : n.size ≤ 300) (h : AskS H W o n m 0 H' W') : W' = W ∧ (∀ y ∈ W', y.owner ≠ o) ∧ 0 < m ∧ m < 7 ∧ covN (modeP H' o n) m.toNat = true ∧ covN (modeP H' o n) (modeP H o n) = true := by
  have h7 := modeP_lt ok o n
  cases h with
  | has hb no e =>
    have hm7 : m.toNat < 7 := by omega
    have h1 := jn_right _ h7 _ hm7
    have h2 := jn_left _ h7 _ hm7
    rw [e] at h1 h2
    exact ⟨rfl, no, hb.2.1, hb.2.2, h1, h2⟩
  | got hb no ne hn hc =>
    have hm7 : m.toNat < 7 := by omega
    have e : modeP (holdP H ⟨o, jn (modeP H o n) m.toNat 7, n⟩) o n = jn (modeP H o n) m.toNat 7 := modeP_hold_self (x := ⟨o, jn (modeP H o n) m.toNat 7, n⟩) ok ⟨jn_pos _ h7 _ hm7 (by omega), jn_lt _ _ _ (by omega), hb.1, ho, hs⟩
    rw [e]
    exact ⟨rfl, no, hb.2.1, hb.2.2, jn_right _ h7 _ hm7, jn_left _ h7 _ hm7⟩
theorem ask_wait (ok : Ok9 H W) (h : AskS H W o n m 10 H' W') : H' = H ∧ (∀ y ∈ W, y.owner ≠ o) ∧ (nameL W' n).length = (nameL W n).length + 1 ∧ 0 < m ∧ m < 7 ∧ ∃ y ∈ W', y.owner = o ∧ y.name = n ∧ y.mode < 7 ∧ covN y.mode m.toNat = true := by
  have h7 := modeP_lt ok o n
  cases h with
  | wait hb no ne hn hd =>
    have hm7 : m.toNat < 7 := by omega
    refine ⟨rfl, no, ?_, hb.2.1, hb.2.2, ⟨o, jn (modeP H o n) m.toNat 7, n⟩, (stayAt_perm H _ _ W).mem_iff.2 (by simp), rfl, rfl, jn_lt _ _ _ (by omega), jn_right _ h7 _ hm7⟩
    obtain ⟨l1, l2, h1, h2, _⟩ := stayAt_name H (⟨o, jn (modeP H o n) m.toNat 7, n⟩ : Has9) (decide (modeP H o n ≠ 0)) W
    have h1' : nameL W n = l1 ++ l2 := h1
    have h2' : nameL (stayAt H (⟨o, jn (modeP H o n) m.toNat 7, n⟩ : Has9) (decide (modeP H o n ≠ 0)) W) n = l1 ++ ⟨o, jn (modeP H o n) m.toNat 7, n⟩ :: l2 := h2
    rw [h1', h2']; simp; omega
theorem ask_else (h : AskS H W o n m k H' W') (h0 : k ≠ 0) (h10 : k ≠ 10) : H' = H ∧ W' = W := by
  cases h with
  | arg _ => exact ⟨rfl, rfl⟩
  | state _ _ _ _ => exact ⟨rfl, rfl⟩
  | has _ _ _ => exact absurd rfl h0
  | got _ _ _ _ _ => exact absurd rfl h0
  | dead _ _ _ _ _ => exact ⟨rfl, rfl⟩
  | wait _ _ _ _ _ => exact absurd rfl h10
theorem ask_state (h : AskS H W o n m k H' W') : k = 9 ↔ (0 ≤ o ∧ 0 < m ∧ m < 7) ∧ ∃ y ∈ W, y.owner = o := by
  cases h with
  | arg hb => exact ⟨fun e => by omega, fun e => absurd e.1 hb⟩
  | state hb y hy e => exact ⟨fun _ => ⟨hb, y, hy, e⟩, fun _ => rfl⟩
  | has _ no _ => exact ⟨fun e => by omega, fun ⟨_, y, hy, e⟩ => absurd e (no y hy)⟩
  | got _ no _ _ _ => exact ⟨fun e => by omega, fun ⟨_, y, hy, e⟩ => absurd e (no y hy)⟩
  | dead _ no _ _ _ => exact ⟨fun e => by omega, fun ⟨_, y, hy, e⟩ => absurd e (no y hy)⟩
  | wait _ no _ _ _ => exact ⟨fun e => by omega, fun ⟨_, y, hy, e⟩ => absurd e (no y hy)⟩
end
end Go.Proofs.YtainnhcmhgloaaaGreatDoor

namespace Go.Proofs.YtainnhcmhgloaaaGreatDoor
open Go.RowKit
section
variable {H W H' W' W0 : Hs} {x y : Has9} {a b c o : Int} {n n' : ByteArray}
/-- a number more, in its place, once -/
def insI (a : Int) : List Int → List Int
  | [] => [a]
  | b :: l => if a < b then a :: b :: l else if a = b then b :: l else b :: insI a l
theorem mem_insI {l : List Int} : b ∈ insI a l ↔ b = a ∨ b ∈ l := by
  induction l with
  | nil => simp [insI]
  | cons c l ih =>
    unfold insI
    by_cases h1 : a < c
    · rw [if_pos h1]; simp
    · rw [if_neg h1]
      by_cases h2 : a = c
      · rw [if_pos h2]; simp [h2]
      · rw [if_neg h2]; simp only [List.mem_cons, ih]
        constructor
        · rintro (h | h | h)
          · exact .inr (.inl h)
          · exact .inl h
          · exact .inr (.inr h)
        · rintro (h | h | h)
          · exact .inr (.inl h)
          · exact .inl h
          · exact .inr (.inr h)
theorem insI_rise {l : List Int} (h : l.Pairwise (· < ·)) : (insI a l).Pairwise (· < ·) := by
  induction l with
  | nil => simp [insI]
  | cons c l ih =>
    rw [List.pairwise_cons] at h
    unfold insI
    by_cases h1 : a < c
    · rw [if_pos h1]
      refine List.pairwise_cons.2 ⟨fun z hz => ?_, List.pairwise_cons.2 h⟩
      rcases List.mem_cons.1 hz with rfl | hz
      · exact h1
      · exact Int.lt_trans h1 (h.1 z hz)
    · rw [if_neg h1]
      by_cases h2 : a = c
      · rw [if_pos h2]; exact List.pairwise_cons.2 h
      · rw [if_neg h2]
        refine List.pairwise_cons.2 ⟨fun z hz => ?_, ih h.2⟩
        rcases mem_insI.1 hz with rfl | hz
        · omega
        · exact h.1 z hz
theorem insI_len {l : List Int} : (insI a l).length ≤ l.length + 1 := by
  induction l with
  | nil => simp [insI]
  | cons c l ih =>
    unfold insI
    by_cases h1 : a < c
    · rw [if_pos h1]; simp
    · rw [if_neg h1]
      by_cases h2 : a = c
      · rw [if_pos h2]; simp
      · rw [if_neg h2]; simp; exact ih
/-- numbers, rising, each once -/
def riseI (l : List Int) : List Int := l.foldr insI []
theorem mem_riseI {l : List Int} : b ∈ riseI l ↔ b ∈ l := by
  induction l with
  | nil => simp [riseI]
  | cons c l ih => show b ∈ insI c (riseI l) ↔ _; rw [mem_insI, ih]; simp
theorem riseI_rise (l : List Int) : (riseI l).Pairwise (· < ·) := by
  induction l with
  | nil => simp [riseI]
  | cons c l ih => exact insI_rise ih
theorem riseI_len (l : List Int) : (riseI l).length ≤ l.length := by
  induction l with
  | nil => simp [riseI]
  | cons c l ih => show (insI c (riseI l)).length ≤ _; have := insI_len (a := c) (l := riseI l); simp; omega
theorem rise_unique : ∀ {l m : List Int}, l.Pairwise (· < ·) → m.Pairwise (· < ·) → (∀ z, z ∈ l ↔ z ∈ m) → l = m
  | [], [], _, _, _ => rfl
  | [], b :: m, _, _, h => by have := (h b).2 (by simp); cases this
  | a :: l, [], _, _, h => by have := (h a).1 (by simp); cases this
  | a :: l, b :: m, h1, h2, h => by
    rw [List.pairwise_cons] at h1 h2
    have e : a = b := by
      rcases List.mem_cons.1 ((h a).1 (by simp)) with e | e
      · exact e
      · rcases List.mem_cons.1 ((h b).2 (by simp)) with e2 | e2
        · exact e2.symm
        · have := h1.1 b e2; have := h2.1 a e; omega
    subst e
    rw [rise_unique h1.2 h2.2 (fun z => ?_)]
    constructor
    · intro hz
      rcases List.mem_cons.1 ((h z).1 (List.mem_cons_of_mem _ hz)) with e | e
      · have := h1.1 z hz; omega
      · exact e
    · intro hz
      rcases List.mem_cons.1 ((h z).2 (List.mem_cons_of_mem _ hz)) with e | e
      · have := h2.1 z hz; omega
      · exact e
/-- behind whom somebody waits: who holds against them, who stands ahead -/
def behL (H W : Hs) (x : Int) : List Int := match forP W x with
  | none => []
  | some y => ((nameL H y.name).filter (fun h => decide (h.owner ≠ x) && !fitN y.mode h.mode)).map (·.owner) ++ ((nameL W y.name).takeWhile (fun z => decide (z.owner ≠ x))).map (·.owner)
def behI (H W : Hs) (x : Int) : List Int := riseI (behL H W x)
theorem take_mid {l1 l2 : Hs} (h : ((l1 ++ y :: l2).map (·.owner)).Nodup) : (l1 ++ y :: l2).takeWhile (fun z => decide (z.owner ≠ y.owner)) = l1 := by
  have h1 : ∀ z ∈ l1, z.owner ≠ y.owner := fun z hz => mid_ne (f := fun z : Has9 => z.owner) h (.inl hz)
  induction l1 with
  | nil => simp
  | cons u l ih =>
    rw [List.cons_append, List.takeWhile_cons_of_pos (by simp [h1 u (by simp)])]
    rw [ih (by rw [List.cons_append, List.map_cons, List.nodup_cons] at h; exact h.2) (fun z hz => h1 z (by simp [hz]))]
theorem behL_none (h : ∀ y ∈ W, y.owner ≠ o) : behL H W o = [] := by unfold behL; rw [forP_none h]
theorem behL_some (ok : Ok9 H W) (hy : y ∈ W) {l1 l2 : Hs} (h : nameL W y.name = l1 ++ y :: l2) : behL H W y.owner = ((nameL H y.name).filter (fun h => decide (h.owner ≠ y.owner) && !fitN y.mode h.mode)).map (·.owner) ++ l1.map (·.owner) := by
  unfold behL
  rw [forP_mem ok hy]
  simp only
  have hn := nameL_owners ok.wn y.name
  rw [h] at hn ⊢
  rw [take_mid hn]
theorem behL_bh (ok : Ok9 H W) : b ∈ behL H W a ↔ Bh H W a b := by
  constructor
  · intro h
    rcases forP_cases W a with hno | ⟨y, hy, rfl⟩
    · rw [behL_none hno] at h; cases h
    · obtain ⟨l1, l2, hl⟩ := List.append_of_mem (mem_nameL.2 ⟨hy, rfl⟩)
      rw [behL_some ok hy hl] at h
      rcases List.mem_append.1 h with h | h
      · obtain ⟨z, hz, rfl⟩ := List.mem_map.1 h
        obtain ⟨h1, h2⟩ := List.mem_filter.1 hz
        obtain ⟨h3, h4⟩ := mem_nameL.1 h1
        simp only [Bool.and_eq_true, decide_eq_true_eq, Bool.not_eq_true'] at h2
        exact .holds y z hy rfl h3 h4 rfl h2.1 (by rw [fit_swap _ (ok.wm y hy).2.1 _ (ok.hm z h3).2.1]; exact h2.2)
      · obtain ⟨z, hz, rfl⟩ := List.mem_map.1 h
        have hzn := (mem_nameL.1 (show z ∈ nameL W y.name by rw [hl]; simp [hz])).2
        obtain ⟨k1, k2, rfl⟩ := List.append_of_mem hz
        unfold nameL at hl
        obtain ⟨j1, j2, hW, _, h2⟩ := List.filter_eq_append_iff.1 (by rw [List.append_assoc, List.cons_append] at hl; exact hl)
        obtain ⟨m1, m2, hj, _, _, h3⟩ := List.filter_eq_cons_iff.1 h2
        obtain ⟨q1, q2, hm, _, h4⟩ := List.filter_eq_append_iff.1 h3
        obtain ⟨r1, r2, hq, _, _, _⟩ := List.filter_eq_cons_iff.1 h4
        exact .ahead y z (j1 ++ m1) (q1 ++ r1) r2 (by rw [hW, hj, hm, hq]; simp) rfl rfl hzn
  · intro h
    cases h with
    | holds x h hx ha hh hn hb hne hf =>
      subst ha
      obtain ⟨l1, l2, hl⟩ := List.append_of_mem (mem_nameL.2 ⟨hx, rfl⟩)
      rw [behL_some ok hx hl]
      refine List.mem_append_left _ (List.mem_map.2 ⟨h, List.mem_filter.2 ⟨mem_nameL.2 ⟨hh, hn⟩, ?_⟩, hb⟩)
      rw [fit_swap _ (ok.hm h hh).2.1 _ (ok.wm x hx).2.1, hf]
      simp [hb, hne]
    | ahead x y L1 L2 L3 hW ha hb hn =>
      subst ha
      have hx : x ∈ W := by rw [hW]; simp
      have hl : nameL W x.name = (nameL L1 x.name ++ y :: nameL L2 x.name) ++ x :: nameL L3 x.name := by
        rw [hW, nameL_app, nameL_app]
        have e1 : nameL (y :: L2) x.name = y :: nameL L2 x.name := by unfold nameL; rw [List.filter_cons_of_pos (by simp [hn])]
        have e2 : nameL (x :: L3) x.name = x :: nameL L3 x.name := by unfold nameL; rw [List.filter_cons_of_pos (by simp)]
        rw [e1, e2]
      rw [behL_some ok hx hl]
      exact List.mem_append_right _ (List.mem_map.2 ⟨y, by simp, hb⟩)
theorem behI_bh (ok : Ok9 H W) : b ∈ behI H W a ↔ Bh H W a b := by unfold behI; rw [mem_riseI, behL_bh ok]
theorem behL_len (H W : Hs) (a : Int) : (behL H W a).length ≤ H.length + W.length := by
  unfold behL
  cases forP W a with
  | none => simp
  | some y =>
    simp only [List.length_append, List.length_map]
    have h1 : ((nameL H y.name).filter (fun h => decide (h.owner ≠ a) && !fitN y.mode h.mode)).length ≤ H.length := Nat.le_trans (List.length_filter_le _ _) (List.length_filter_le _ _)
    have h2 : ((nameL W y.name).takeWhile (fun z => decide (z.owner ≠ a))).length ≤ W.length := Nat.le_trans (List.takeWhile_prefix _).length_le (List.length_filter_le _ _)
    omega
theorem behI_len (H W : Hs) (a : Int) : (behI H W a).length ≤ H.length + W.length := Nat.le_trans (riseI_len _) (behL_len H W a)
/-- a set that leads nowhere else: no ring of one outside of it -/
theorem no_ring (ok : Ok9 H W) (S : List Int) (h0 : ∀ b ∈ behL H W a, b ∈ S) (hc : ∀ z ∈ S, ∀ b ∈ behL H W z, b ∈ S) (ha : a ∉ S) : ¬ Bqs H W a a := by
  intro h
  have key : ∀ {u v : Int}, Beh H W u v → (u = a ∨ u ∈ S) → v ∈ S := by
    intro u v hb
    induction hb with
    | one h1 =>
      intro hu
      rcases hu with hu | hu
      · exact h0 _ (by rw [← hu]; exact (behL_bh ok).2 h1)
      · exact hc _ hu _ ((behL_bh ok).2 h1)
    | more h1 _ ih =>
      intro hu
      rcases hu with hu | hu
      · exact ih (.inr (h0 _ (by rw [← hu]; exact (behL_bh ok).2 h1)))
      · exact ih (.inr (hc _ hu _ ((behL_bh ok).2 h1)))
  exact ha (key ((beh_bqs ok).2 h) (.inl rfl))
end
end Go.Proofs.YtainnhcmhgloaaaGreatDoor
