/-
  PoolClean: the plain part, and hasMore.
-/
import Derived.Test.YtdbniiggbjmfoaaH07
namespace Go.Proofs.Ytdbniiggbjmfoaa
open Go.RowKit Go.MapKept
section
variable {S : List ByteArray} {Ws : Wrs} {p : PoolP}
/-- behind Clean nothing is dirty, if all might be written -/
theorem all_clean (h : PI S Ws p) (hm : ∀ a ∈ p.L, a.dirty = true → a.last ≤ p.sure) : ∀ a ∈ (cleanL p).L, a.dirty = false := fun a ha => by
  obtain ⟨b, hb, rfl⟩ := List.mem_map.1 ha
  by_cases hd : b.dirty = true
  · have : (b.page : Int) ∈ cleanI p.L p.sure := (mem_cleanI h.I.nd).2 ⟨b, hb, rfl, by unfold Pl.may; rw [hd]; simp; exact hm b hb hd⟩
    rw [if_pos this]; rfl
  · have hf : b.dirty = false := by simpa using hd
    by_cases hx : (b.page : Int) ∈ cleanI p.L p.sure
    · rw [if_pos hx]; rfl
    · rw [if_neg hx]; exact hf
theorem dirtyI_none (hn : (p.L.map (·.page)).Nodup) : dirtyI p.L = [] ↔ ∀ a ∈ p.L, a.dirty = false := by
  constructor
  · intro h a ha
    cases hd : a.dirty with
    | false => rfl
    | true =>
      have : (a.page : Int) ∈ dirtyI p.L := by
        unfold dirtyI
        rw [List.mem_filter]
        refine ⟨mem_pagesI.2 ⟨a, ha, rfl⟩, ?_⟩
        unfold isDirty; rw [findP_mem hn ha]; exact hd
      rw [h] at this; cases this
  · intro h
    unfold dirtyI
    rw [List.filter_eq_nil_iff]
    intro x hx
    obtain ⟨a, ha, rfl⟩ := mem_pagesI.1 hx
    unfold isDirty; rw [findP_mem hn ha]; simp [h a ha]
/-- then the disk has all -/
theorem disk_has (h : PI S Ws p) (hc : ∀ a ∈ p.L, a.dirty = false) (k : Nat) : bodyAt S Ws k = content S Ws p k := by
  unfold content
  cases hf : findP p.L (k : Int) with
  | none => rfl
  | some a =>
    obtain ⟨ha, hk⟩ := findP_some hf
    have := h.cl a ha (hc a ha)
    have e : a.page = k := by omega
    rw [e] at this; exact this
theorem least_none {y : Int} (h : LeastOf p.L y) (hc : ∀ a ∈ p.L, a.dirty = false) : y = 0 := by
  rcases h.some with h | ⟨a, ha, hd, _⟩
  · exact h
  · rw [hc a ha] at hd; cases hd
theorem cleanI_dirty (L : List Pl) (su : Int) : (cleanI L su).length ≤ (dirtyI L).length := by unfold cleanI; exact List.length_filter_le _ _
/-- the numbers of records come from the calls -/
def LastIn (M : Int → Prop) (p : PoolP) : Prop := ∀ a ∈ p.L, a.last = 0 ∨ M a.last
theorem last_pin {M : Int → Prop} (h : PI S Ws p) (hl : LastIn M p) (x : Int) : LastIn M (pinL S Ws p x) := by
  cases pinWay h.I Ws x with
  | arg hx => rw [(pin_arg (p := p) (Ws := Ws) hx).2.2.1]; exact hl
  | held a ha hx hk =>
    subst hx
    rw [(pin_held (S := S) (Ws := Ws) h.I.nd ha hk).2.2.1]
    intro b hb
    rcases List.mem_append.1 hb with hb | hb
    · exact hl b (mem_cutP.1 hb).1
    · obtain rfl := List.mem_singleton.1 hb
      exact hl a ha
  | room k hx hk hno hn =>
    subst hx
    rw [(pin_room (S := S) (Ws := Ws) hk hno hn).2.2.1]
    intro b hb
    rcases List.mem_append.1 hb with hb | hb
    · exact hl b hb
    · obtain rfl := List.mem_singleton.1 hb; exact .inl rfl
  | full k hx hk hno hn hg => subst hx; rw [(pin_full (S := S) (Ws := Ws) hk hno hn hg).2.2.1]; exact hl
  | swap k hx hk hno hn a ha =>
    subst hx
    rw [(pin_swap (S := S) (Ws := Ws) hk hno hn ha).2.2.1]
    intro b hb
    rcases List.mem_append.1 hb with hb | hb
    · exact hl b (mem_cutP.1 hb).1
    · obtain rfl := List.mem_singleton.1 hb; exact .inl rfl
theorem last_un {M : Int → Prop} (hl : LastIn M p) (x : Int) : LastIn M (unL p x) := by
  unfold unL; split
  · intro b hb
    rcases mem_updP hb with ⟨hb, _⟩ | ⟨a, ha, _, rfl⟩
    · exact hl b hb
    · exact hl a ha
  · exact hl
theorem last_put {M : Int → Prop} (hl : LastIn M p) (x : Int) (s : ByteArray) (l : Int) (hm : M l) : LastIn M (putL p x s l) := by
  unfold putL; split
  · intro b hb
    rcases mem_updP hb with ⟨hb, _⟩ | ⟨a, ha, _, rfl⟩
    · exact hl b hb
    · exact .inr hm
  · exact hl
end
/-- is a number above 2^62 among the calls? -/
def moreB (zs : List OpP) : Bool := zs.any (fun x => decide (4611686018427387904 < x.n))
set_option maxRecDepth 100000 in
set_option maxHeartbeats 1000000 in
theorem hasMore_any (w w0 : World) (o : Nat → Nat) (a : Option Addr) (len cap : Nat) (zs : List OpP) (h : ArgOps7 w0 a len zs) (hz : Since w0 o w) (hlen : len ≤ maxLen) :
    Calls Try.prog 23 #[.slice a len cap] w fun e w' => e = .returned (.bool (moreB zs)) ∧ Below w.heap.size w w' := by
  have hlen2 : (len : Int) ≤ 9223372036854775807 := by simp [maxLen] at hlen; omega
  have HA := Lib.hid h; have HZ := Lib.hid hz
  obtain ⟨mb, hmb⟩ : ∃ b, moreB zs = b := ⟨_, rfl⟩
  rw [hmb]
  have HM := Lib.hid hmb
  clear h hz hlen hmb
  go_enter Try.func23, Try.ntmps23
  go_wp2_with fail
  go_loopw [3] (fun u wr => ∃ i : Nat, i ≤ len ∧ u = .int .i64 (i : Int) ∧ wr = w ∧ Hid (∀ (j : Nat) x, j < i → zs[j]? = some x → decide (4611686018427387904 < x.n) = false)) (fun u _ => len - (intOf u).toNat)
  case atStart => exact ⟨0, by omega, rfl, rfl, Lib.hid (fun j x hj => absurd hj (by omega))⟩
  case round =>
    obtain ⟨i, hi, rfl, rfl, HN⟩ := hrel
    by_cases hlt : i < len
    · have hlt' : (i : Int) < (len : Int) := by omega
      have hi0 : (0 : Int) ≤ (i : Int) := by omega
      obtain ⟨x, b, off, hx, rfl, k0, k1, k2, k3, x3, x4⟩ := HA.out.got HZ.out i hlt
      have HX := Lib.hid hx
      obtain ⟨xk, xp, xs, xn⟩ := x
      dsimp only at k0 k1 k2 k3
      clear k0 k1 k2 x3 x4 hx
      go_upto_if 15 with fail
      cases hd : decide (4611686018427387904 < xn) with
      | true =>
        have HD := Lib.hid hd
        clear hd
        try rw [HD.out]
        go_wp2_with fail
        go_ret
        refine ⟨?_, Below.refl _ _⟩
        have : moreB zs = true := List.any_eq_true.2 ⟨_, List.mem_of_getElem? HX.out, HD.out⟩
        rw [HM.out] at this
        rw [this]; rfl
      | false =>
        have HD := Lib.hid hd
        clear hd
        try rw [HD.out]
        go_wp2_with fail
        exact ⟨⟨i + 1, by omega, by go_num, trivial, Lib.hid (fun j x hj hx => by
          by_cases e : j = i
          · subst e; rw [HX.out] at hx; cases hx; exact HD.out
          · exact HN.out j x (by omega) hx)⟩, by simp [intOf]; omega⟩
    · have hge : ¬ (i : Int) < (len : Int) := by omega
      go_wp2_with fail
      go_ret
      refine ⟨?_, Below.refl _ _⟩
      have : moreB zs = false := by
        unfold moreB
        rw [List.any_eq_false]
        intro x hx
        obtain ⟨j, hj, rfl⟩ := List.mem_iff_getElem.1 hx
        have hl := HA.out.1
        rw [HN.out j zs[j] (by omega) (List.getElem?_eq_getElem hj)]; simp
      rw [HM.out] at this
      rw [this]; rfl
end Go.Proofs.Ytdbniiggbjmfoaa
