/-
  What holds of who holds what and who waits for what, and how asking keeps it: plain.
-/
import Derived.Test.YtainnhcmhgloaaaDoorW09m
import Derived.Test.YtainnhcmhgloaaaDoorK09e
namespace Go.Proofs.YtainnhcmhgloaaaDoor
open Go.RowKit

structure Inv9 (H W : Hs) : Prop where
  ok : Ok9 H W
  fits : ∀ a ∈ H, ∀ b ∈ H, a.name = b.name → a.owner ≠ b.owner → fitN a.mode b.mode = true
  ahead : Ahead H W
  more : ∀ y ∈ W, modeP H y.owner y.name ≠ y.mode
  loop : ∀ x, ¬ Bqs H W x x
/-- who is first of a queue could not have it -/
def First9 (H W : Hs) (n : ByteArray) : Prop := ∀ y l, nameL W n = y :: l → canP H y = false
section
variable {H W H' W' : Hs} {x : Has9} {a b c o : Int} {n : ByteArray}
theorem modeP_ext (h1 : H.Pairwise (fun a b => ¬ (a.owner = b.owner ∧ a.name = b.name))) (h2 : H'.Pairwise (fun a b => ¬ (a.owner = b.owner ∧ a.name = b.name))) (he : ∀ h : Has9, h.owner = o → h.name = n → (h ∈ H ↔ h ∈ H')) : modeP H o n = modeP H' o n := by
  by_cases hx : ∃ h ∈ H, h.owner = o ∧ h.name = n
  · obtain ⟨h, hh, rfl, rfl⟩ := hx
    rw [modeP_mem h1 hh, modeP_mem h2 ((he h rfl rfl).1 hh)]
  · rw [modeP_none (fun h hh e => hx ⟨h, hh, e⟩), modeP_none (fun h hh e => hx ⟨h, (he h e.1 e.2).2 hh, e⟩)]
theorem modeP_hold_ne (ok : Ok9 H W) (hx : 0 < x.mode ∧ x.mode < 7 ∧ 0 ≤ x.owner ∧ x.owner ≤ 9223372036854775807 ∧ x.name.size ≤ 300) (h : ¬ (o = x.owner ∧ n = x.name)) : modeP (holdP H x) o n = modeP H o n :=
  modeP_ext (ok.hold hx).hn ok.hn (fun y h1 h2 => by
    rw [mem_holdP]
    constructor
    · rintro (h3 | rfl)
      · exact h3.1
      · exact absurd ⟨h1.symm, h2.symm⟩ h
    · intro h3
      exact .inl ⟨h3, fun e => h ⟨h1.symm.trans e.1, h2.symm.trans e.2⟩⟩)
theorem modeP_woN_ne (ok : Ok9 H W) {xo : Int} {xn : ByteArray} (h : ¬ (o = xo ∧ n = xn)) : modeP (woN H xo xn) o n = modeP H o n :=
  modeP_ext (ok.woN xo xn).hn ok.hn (fun y h1 h2 => by
    rw [mem_woN]
    exact ⟨fun h3 => h3.1, fun h3 => ⟨h3, fun e => h ⟨h1.symm.trans e.1, h2.symm.trans e.2⟩⟩⟩)
theorem Bqs.first (h : Bqs H W a c) : ∃ b, Bq H W a b := by
  cases h with
  | one h => exact ⟨_, h⟩
  | more h _ => exact ⟨_, h⟩
theorem Bqs.trans (h : Bqs H W a b) (h' : Bqs H W b c) : Bqs H W a c := by
  induction h with
  | one h => exact .more h h'
  | more h _ ih => exact .more h (ih h')
/-- all new edges go to one that waits for nothing: no ring comes -/
theorem loop_sink {x : Int} (hs : ∀ b, ¬ Bq H' W' x b) (he : ∀ a b, Bq H' W' a b → Bq H W a b ∨ b = x) (hl : ∀ z, ¬ Bqs H W z z) (z : Int) : ¬ Bqs H' W' z z := by
  have key : ∀ {a c : Int}, Bqs H' W' a c → c = x ∨ Bqs H W a c := by
    intro a c h
    induction h with
    | one h => exact (he _ _ h).elim (fun h => .inr (.one h)) .inl
    | @more a b c h t ih =>
      have hb : Bq H W a b := (he _ _ h).elim id (fun e => by
        obtain ⟨d, hd⟩ := t.first
        rw [e] at hd; exact absurd hd (hs d))
      exact ih.imp id (fun h2 => .more hb h2)
  intro h
  rcases key h with e | h2
  · subst e
    obtain ⟨d, hd⟩ := h.first
    exact hs d hd
  · exact hl z h2
/-- all new edges are of one that is on no ring: no ring comes -/
theorem loop_new {x : Int} (hx : ¬ Bqs H' W' x x) (he : ∀ a b, Bq H' W' a b → Bq H W a b ∨ a = x ∨ b = x) (hl : ∀ z, ¬ Bqs H W z z) (z : Int) : ¬ Bqs H' W' z z := by
  have key : ∀ {a c : Int}, Bqs H' W' a c → Bqs H W a c ∨ ((a = x ∨ Bqs H' W' a x) ∧ (c = x ∨ Bqs H' W' x c)) := by
    intro a c h
    induction h with
    | @one a b h =>
      rcases he _ _ h with h1 | rfl | rfl
      · exact .inl (.one h1)
      · exact .inr ⟨.inl rfl, .inr (.one h)⟩
      · exact .inr ⟨.inr (.one h), .inl rfl⟩
    | @more a b c h t ih =>
      rcases ih with ih | ⟨i1, i2⟩
      · rcases he _ _ h with h1 | rfl | rfl
        · exact .inl (.more h1 ih)
        · exact .inr ⟨.inl rfl, .inr (.more h t)⟩
        · exact .inr ⟨.inr (.one h), .inr t⟩
      · refine .inr ⟨.inr ?_, i2⟩
        rcases i1 with rfl | i1
        · exact .one h
        · exact .more h i1
  intro h
  rcases key h with h2 | ⟨h1, h2⟩
  · exact hl z h2
  · rcases h1 with rfl | h1
    · exact hx h
    · rcases h2 with rfl | h2
      · exact hx h
      · exact hx (h2.trans h1)
/-- all new edges stood for ways: no ring comes -/
theorem loop_less (he : ∀ a b, Bq H' W' a b → Bqs H W a b) (hl : ∀ z, ¬ Bqs H W z z) (z : Int) : ¬ Bqs H' W' z z := by
  have key : ∀ {a c : Int}, Bqs H' W' a c → Bqs H W a c := by
    intro a c h
    induction h with
    | one h => exact he _ _ h
    | more h _ ih => exact (he _ _ h).trans ih
  exact fun h => hl z (key h)
/-- somebody who waits for nothing gets something that fits all others -/
theorem Inv9.hold (I : Inv9 H W) (hx : 0 < x.mode ∧ x.mode < 7 ∧ 0 ≤ x.owner ∧ x.owner ≤ 9223372036854775807 ∧ x.name.size ≤ 300) (no : ∀ y ∈ W, y.owner ≠ x.owner) (hc : canP H x = true) : Inv9 (holdP H x) W := by
  have hm : ∀ y ∈ W, ∀ n, modeP (holdP H x) y.owner n = modeP H y.owner n := fun y hy n => modeP_hold_ne I.ok hx (fun e => no y hy e.1)
  refine ⟨I.ok.hold hx, ?_, ?_, fun y hy => by rw [hm y hy]; exact I.more y hy, ?_⟩
  · intro a ha b hb h1 h2
    rw [mem_holdP] at ha hb
    rw [canP_iff] at hc
    rcases ha with ⟨ha, _⟩ | rfl <;> rcases hb with ⟨hb, _⟩ | rfl
    · exact I.fits a ha b hb h1 h2
    · exact hc a ha h1 h2
    · rw [fit_swap _ (I.ok.hm b hb).2.1 _ hx.2.1]
      exact hc b hb h1.symm (fun e => h2 e.symm)
    · exact absurd rfl h2
  · intro n l1 l2 u y hl hy h0
    have hu := (mem_nameL.1 (show u ∈ nameL W n by rw [hl]; simp)).1
    have hyW := (mem_nameL.1 (show y ∈ nameL W n by rw [hl]; simp [hy])).1
    rw [hm u hu]; rw [hm y hyW] at h0
    exact I.ahead n l1 l2 u y hl hy h0
  · refine loop_sink (x := x.owner) (H := H) (W := W) (fun b ⟨y, hy, e, _⟩ => no y hy e) (fun a b ⟨y, hy, e, h⟩ => ?_) I.loop
    rcases h with ⟨h, hh, h1, h2, h3, h4⟩ | h
    · rcases mem_holdP.1 hh with ⟨hh, _⟩ | rfl
      · exact .inl ⟨y, hy, e, .inl ⟨h, hh, h1, h2, h3, h4⟩⟩
      · exact .inr h2.symm
    · exact .inl ⟨y, hy, e, .inr h⟩
theorem first_hold (ok : Ok9 H W) (hx : x.mode < 7) (cov : ∀ h ∈ H, h.owner = x.owner → h.name = x.name → covN x.mode h.mode = true) (h : First9 H W n) : First9 (holdP H x) W n := by
  intro y l hl
  have hy := (mem_nameL.1 (show y ∈ nameL W n by rw [hl]; simp)).1
  have h7 := (ok.wm y hy).2.1
  have hc := h y l hl
  rw [canP_not] at hc ⊢
  obtain ⟨k, hk, h1, h2, h3⟩ := hc
  by_cases hkx : k.owner = x.owner ∧ k.name = x.name
  · refine ⟨x, mem_holdP.2 (.inr rfl), hkx.2.symm.trans h1, fun e => h2 (hkx.1.trans e), ?_⟩
    cases hf : fitN x.mode y.mode with
    | false => rfl
    | true =>
      have := fits1 _ hx _ (ok.hm k hk).2.1 _ h7 (cov k hk hkx.1 hkx.2) hf
      rw [this] at h3; cases h3
  · exact ⟨k, mem_holdP.2 (.inl ⟨hk, hkx⟩), h1, h2, h3⟩
theorem splits_pairwise {α : Type} {R : α → α → Prop} : ∀ {L : List α}, L.Pairwise R ↔ ∀ l1 l2 u y, L = l1 ++ u :: l2 → y ∈ l2 → R u y
  | [] => ⟨fun _ l1 l2 u y h _ => by simp at h, fun _ => List.Pairwise.nil⟩
  | z :: L => by
    rw [List.pairwise_cons, splits_pairwise (L := L)]
    constructor
    · rintro ⟨h1, h2⟩ l1 l2 u y h hy
      cases l1 with
      | nil => simp at h; obtain ⟨rfl, rfl⟩ := h; exact h1 y hy
      | cons v l => simp at h; exact h2 l l2 u y h.2 hy
    · intro h
      exact ⟨fun y hy => h [] L z y rfl hy, fun l1 l2 u y e hy => h (z :: l1) l2 u y (by rw [e]; rfl) hy⟩
theorem nameL_stay (no : ∀ y ∈ W, y.owner ≠ x.owner) (bb : Bool) (n : ByteArray) : nameL W n = (nameL (stayAt H x bb W) n).filter (fun y => decide (y.owner ≠ x.owner)) := by
  have := woA_stay (x := x) bb no H
  conv => lhs; rw [← this]
  unfold nameL woA
  rw [List.filter_filter, List.filter_filter]
  refine List.filter_congr (fun y _ => ?_)
  rw [Bool.and_comm]
/-- somebody comes to wait -/
theorem Inv9.stay (I : Inv9 H W) (hx : 0 < x.mode ∧ x.mode < 7 ∧ 0 ≤ x.owner ∧ x.owner ≤ 9223372036854775807 ∧ x.name.size ≤ 300) (no : ∀ y ∈ W, y.owner ≠ x.owner) (ne : modeP H x.owner x.name ≠ x.mode) (hd : ¬ Bqs H (stayAt H x (decide (modeP H x.owner x.name ≠ 0)) W) x.owner x.owner) :
    Inv9 H (stayAt H x (decide (modeP H x.owner x.name ≠ 0)) W) := by
  obtain ⟨l1, l2, h1, h2, h3, h4⟩ := stayAt_name H x (decide (modeP H x.owner x.name ≠ 0)) W
  have hmem : ∀ y, y ∈ stayAt H x (decide (modeP H x.owner x.name ≠ 0)) W → y ∈ W ∨ y = x := fun y hy => by
    rcases List.mem_append.1 ((stayAt_perm H x _ W).mem_iff.1 hy) with hy | hy
    · exact .inl hy
    · exact .inr (List.mem_singleton.1 hy)
  refine ⟨I.ok.stay hx no, I.fits, ?_, fun y hy => ?_, ?_⟩
  · intro n
    by_cases hn : n = x.name
    · subst hn
      have hp : (l1 ++ l2).Pairwise (fun u y => modeP H y.owner x.name ≠ 0 → modeP H u.owner x.name ≠ 0) := by
        rw [← h1]; exact splits_pairwise.2 (fun k1 k2 u y e hy => I.ahead x.name k1 k2 u y e hy)
      rw [List.pairwise_append] at hp
      have hp2 : (l1 ++ x :: l2).Pairwise (fun u y => modeP H y.owner x.name ≠ 0 → modeP H u.owner x.name ≠ 0) := by
        rw [List.pairwise_append, List.pairwise_cons]
        by_cases hb : modeP H x.owner x.name = 0
        · obtain rfl := h3 (by simp [hb])
          exact ⟨hp.1, ⟨fun _ h => (by cases h), hp.2.1⟩, fun u hu y hy h0 => by
            obtain rfl := List.mem_singleton.1 hy
            exact absurd hb h0⟩
        · have h5 := (h4 (by simp [hb])).1
          exact ⟨hp.1, ⟨fun _ _ _ => hb, hp.2.1⟩, fun u hu y hy _ => h5 u hu⟩
      rw [← h2] at hp2
      exact fun k1 k2 u y e hy h0 => splits_pairwise.1 hp2 k1 k2 u y e hy h0
    · rw [stayAt_ne H x _ hn W]; exact I.ahead n
  · rcases hmem y hy with hy | rfl
    · exact I.more y hy
    · exact ne
  · refine loop_new hd (fun a b ⟨y, hy, e, h⟩ => ?_) I.loop
    rcases hmem y hy with hyW | rfl
    · rcases h with h | ⟨k1, k2, z, hk, hz⟩
      · exact .inl ⟨y, hyW, e, .inl h⟩
      · by_cases hzx : z.owner = x.owner
        · exact .inr (.inr (hz.symm.trans hzx))
        · refine .inl ⟨y, hyW, e, .inr ⟨k1.filter (fun y => decide (y.owner ≠ x.owner)), k2.filter (fun y => decide (y.owner ≠ x.owner)), z, ?_, hz⟩⟩
          rw [nameL_stay (H := H) no (decide (modeP H x.owner x.name ≠ 0)) y.name, hk, List.filter_append, List.filter_cons_of_pos (by simp [hzx]), List.filter_cons_of_pos (by simp [no y hyW])]
    · exact .inr (.inl e.symm)
theorem first_stay (hn : ¬ ((modeP H x.owner x.name ≠ 0 ∨ nameL W x.name = []) ∧ canP H x = true)) (h : First9 H W n) : First9 H (stayAt H x (decide (modeP H x.owner x.name ≠ 0)) W) n := by
  by_cases hnx : n = x.name
  · subst hnx
    obtain ⟨l1, l2, h1, h2, h3, h4⟩ := stayAt_name H x (decide (modeP H x.owner x.name ≠ 0)) W
    intro y l hl
    rw [h2] at hl
    cases l1 with
    | nil =>
      simp at hl
      obtain ⟨rfl, rfl⟩ := hl
      cases hc : canP H x with
      | false => rfl
      | true =>
        refine absurd ⟨?_, hc⟩ hn
        by_cases hb : modeP H x.owner x.name = 0
        · right; rw [h1, h3 (by simp [hb])]; rfl
        · exact .inl hb
    | cons v l' =>
      simp at hl
      obtain ⟨rfl, _⟩ := hl
      exact h v (l' ++ l2) (by rw [h1]; rfl)
  · intro y l hl
    rw [stayAt_ne H x _ hnx W] at hl
    exact h y l hl
/-- asking keeps it -/
theorem Inv9.ask {m : Int} {k : Nat} (I : Inv9 H W) (F : ∀ n, First9 H W n) (ho : o ≤ 9223372036854775807) (hs : n.size ≤ 300) (h : AskS H W o n m k H' W') : Inv9 H' W' ∧ ∀ n, First9 H' W' n := by
  cases h with
  | arg _ => exact ⟨I, F⟩
  | state _ _ _ _ => exact ⟨I, F⟩
  | has _ _ _ => exact ⟨I, F⟩
  | dead _ _ _ _ _ => exact ⟨I, F⟩
  | got hb no ne hn hc =>
    have h7 := modeP_lt I.ok o n
    have hm7 : m.toNat < 7 := by omega
    have hx : 0 < jn (modeP H o n) m.toNat 7 ∧ jn (modeP H o n) m.toNat 7 < 7 ∧ 0 ≤ o ∧ o ≤ 9223372036854775807 ∧ n.size ≤ 300 := ⟨jn_pos _ h7 _ hm7 (by omega), jn_lt _ _ _ (by omega), hb.1, ho, hs⟩
    refine ⟨I.hold hx no hc, fun n' => first_hold I.ok hx.2.1 (fun k hk h1 h2 => ?_) (F n')⟩
    have : modeP H o n = k.mode := by
      have := modeP_mem I.ok.hn hk
      rw [h1, h2] at this; exact this
    show covN (jn (modeP H o n) m.toNat 7) k.mode = true
    rw [← this]
    exact jn_left _ h7 _ hm7
  | wait hb no ne hn hd =>
    have h7 := modeP_lt I.ok o n
    have hm7 : m.toNat < 7 := by omega
    have hx : 0 < jn (modeP H o n) m.toNat 7 ∧ jn (modeP H o n) m.toNat 7 < 7 ∧ 0 ≤ o ∧ o ≤ 9223372036854775807 ∧ n.size ≤ 300 := ⟨jn_pos _ h7 _ hm7 (by omega), jn_lt _ _ _ (by omega), hb.1, ho, hs⟩
    exact ⟨I.stay (x := ⟨o, jn (modeP H o n) m.toNat 7, n⟩) hx no (fun e => ne e.symm) hd, fun n' => first_stay (x := ⟨o, jn (modeP H o n) m.toNat 7, n⟩) hn (F n')⟩
end
end Go.Proofs.YtainnhcmhgloaaaDoor
