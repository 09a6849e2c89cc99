/-
  A pool and its disk, plain: what each call answers, and leaves.
-/
import Derived.Test.YthjlbfijfpfohaaGreatQ07e
namespace Go.Proofs.YthjlbfijfpfohaaGreat

/-- what a page of the disk has -/
def bodyAt (S : List ByteArray) (Ws : Wrs) (k : Nat) : ByteArray := match S[k]? with
  | some s => readOf (rawAt Ws k s)
  | none => ⟨#[]⟩
structure PI (S : List ByteArray) (Ws : Wrs) (p : PoolP) : Prop where
  I : PInv S.length p
  err : ∀ k s, S[k]? = some s → errOf (rawAt Ws k s) = 0
  siz : ∀ k, k < S.length → (bodyAt S Ws k).size = 252
  cl : ∀ a ∈ p.L, a.dirty = false → bodyAt S Ws a.page = a.body
theorem pad_full (b : ByteArray) (h : b.size = 252) : padOf b 252 = b := by
  unfold padOf
  rw [h]
  simp
theorem bodyAt_write (S : List ByteArray) (Ws : Wrs) (k k' : Nat) (b : ByteArray) (hk : k < S.length) (hb : b.size = 252) : bodyAt S (Ws ++ [(k, pageOf b)]) k' = if k = k' then b else bodyAt S Ws k' := by
  unfold bodyAt
  by_cases e : k = k'
  · subst e
    rw [List.getElem?_eq_getElem hk, if_pos rfl]
    simp only
    rw [rawAt_snoc, if_pos rfl, readOf_page b (by omega), pad_full b hb]
  · rw [if_neg e]
    cases S[k']? with
    | none => rfl
    | some s => simp only; rw [rawAt_snoc, if_neg e]
theorem err_write {S : List ByteArray} {Ws : Wrs} (h : ∀ k s, S[k]? = some s → errOf (rawAt Ws k s) = 0) (k : Nat) (b : ByteArray) (hb : b.size = 252) : ∀ k' s, S[k']? = some s → errOf (rawAt (Ws ++ [(k, pageOf b)]) k' s) = 0 := fun k' s hs => by
  rw [rawAt_snoc]; split
  · exact errOf_page b (by omega)
  · exact h k' s hs
section
variable {S : List ByteArray} {Ws : Wrs} {p : PoolP}
theorem PInv.push {N : Nat} (h : PInv N p) {L0 : List Pl} (hs : L0.Sublist p.L) (x : Pl) (hx : ∀ a ∈ L0, a.page ≠ x.page) (hl : L0.length < p.n) (hp : x.page < N) (hb : x.body.size = 252) (ht : x.pinned = p.t) (hf : 0 ≤ x.first ∧ 0 ≤ x.last) : PInv N { p with L := L0 ++ [x], t := p.t + 1 } := by
  have m : ∀ a, a ∈ L0 ++ [x] → a ∈ p.L ∨ a = x := fun a ha => by
    rcases List.mem_append.1 ha with ha | ha
    · exact .inl (hs.subset ha)
    · exact .inr (List.mem_singleton.1 ha)
  refine ⟨h.n1, h.n2, by simp; omega, ?_, ?_, fun a ha => ?_, fun a ha => ?_, fun a ha => ?_, fun a ha => ?_⟩
  · show ((L0 ++ [x]).map (·.page)).Nodup
    rw [List.map_append]
    exact List.nodup_append.2 ⟨(hs.map _).nodup h.nd, by simp, fun y hy z hz => by
      obtain ⟨a, ha, rfl⟩ := List.mem_map.1 hy
      simp at hz; subst hz; exact hx a ha⟩
  · show (L0 ++ [x]).Pairwise _
    refine List.pairwise_append.2 ⟨h.age.sublist hs, by simp, fun a ha b hb => ?_⟩
    obtain rfl := List.mem_singleton.1 hb
    have := h.tm a (hs.subset ha); omega
  · rcases m a ha with h' | rfl
    · have := h.tm a h'; show a.pinned < p.t + 1; omega
    · show a.pinned < p.t + 1; omega
  · rcases m a ha with h' | rfl
    · exact h.pg a h'
    · exact hp
  · rcases m a ha with h' | rfl
    · exact h.bs a h'
    · exact hb
  · rcases m a ha with h' | rfl
    · exact h.lf a h'
    · exact hf
theorem PInv.map {N : Nat} (h : PInv N p) (f : Pl → Pl) (hp : ∀ a ∈ p.L, (f a).page = a.page ∧ (f a).pinned = a.pinned ∧ (f a).body.size = 252 ∧ 0 ≤ (f a).first ∧ 0 ≤ (f a).last) : PInv N { p with L := p.L.map f } := by
  refine ⟨h.n1, h.n2, by simpa using h.len, ?_, ?_, fun a ha => ?_, fun a ha => ?_, fun a ha => ?_, fun a ha => ?_⟩
  · show ((p.L.map f).map (·.page)).Nodup
    have e : p.L.map ((fun x : Pl => x.page) ∘ f) = p.L.map (·.page) := List.map_congr_left (fun a ha => (hp a ha).1)
    rw [List.map_map, e]
    exact h.nd
  · show (p.L.map f).Pairwise _
    rw [List.pairwise_map]
    exact h.age.imp_of_mem (fun {a b} ha hb hab => by rw [(hp a ha).2.1, (hp b hb).2.1]; exact hab)
  all_goals
    obtain ⟨b, hb, rfl⟩ := List.mem_map.1 ha
    have hpb := hp b hb
  · rw [hpb.2.1]; exact h.tm b hb
  · rw [hpb.1]; exact h.pg b hb
  · exact hpb.2.2.1
  · exact hpb.2.2.2
/-! the calls -/
def pinE (S : List ByteArray) (p : PoolP) (x : Int) : Int :=
  if x < 0 ∨ (S.length : Int) ≤ x then 1 else match findP p.L x with
  | some _ => 0
  | none => if p.L.length ≠ p.n then 0 else match p.L.find? (Pl.goes p.sure) with
    | none => 6
    | some _ => 0
def pinS (S : List ByteArray) (Ws : Wrs) (p : PoolP) (x : Int) : ByteArray :=
  if pinE S p x = 0 then match findP p.L x with
  | some a => a.body
  | none => bodyAt S Ws x.toNat
  else ⟨#[]⟩
def pinL (S : List ByteArray) (Ws : Wrs) (p : PoolP) (x : Int) : PoolP :=
  if pinE S p x = 0 then match findP p.L x with
  | some a => { p with L := cutP p.L x ++ [a.bump p.t], t := p.t + 1 }
  | none => if p.L.length ≠ p.n then { p with L := p.L ++ [(Pl.new x.toNat (bodyAt S Ws x.toNat)).bump p.t], t := p.t + 1 } else match p.L.find? (Pl.goes p.sure) with
    | none => p
    | some a => { p with L := cutP p.L a.page ++ [(Pl.new x.toNat (bodyAt S Ws x.toNat)).bump p.t], t := p.t + 1 }
  else p
def pinW (S : List ByteArray) (Ws : Wrs) (p : PoolP) (x : Int) : Wrs :=
  if pinE S p x = 0 then match findP p.L x with
  | some _ => Ws
  | none => if p.L.length ≠ p.n then Ws else match p.L.find? (Pl.goes p.sure) with
    | none => Ws
    | some a => Ws ++ if a.dirty then [(a.page, pageOf a.body)] else []
  else Ws
def unE (p : PoolP) (x : Int) : Int := match findP p.L x with
  | none => 7
  | some a => if a.pins = 0 then 9 else 0
def unL (p : PoolP) (x : Int) : PoolP := if unE p x = 0 then { p with L := updP p.L x Pl.less } else p
def putE (p : PoolP) (x : Int) (s : ByteArray) (l : Int) : Int := match findP p.L x with
  | none => 7
  | some a => if a.pins = 0 then 9 else if 252 < s.size then 2 else if l < 1 ∨ l < a.last then 1 else 0
def putL (p : PoolP) (x : Int) (s : ByteArray) (l : Int) : PoolP := if putE p x s l = 0 then { p with L := updP p.L x (Pl.put s l) } else p
def sureL (p : PoolP) (l : Int) : PoolP := { p with sure := max p.sure l }
def cleanL (p : PoolP) : PoolP := { p with L := cleanP p.L (cleanI p.L p.sure) }
def cleanW (Ws : Wrs) (p : PoolP) : Wrs := Ws ++ wrsOf p.L (cleanI p.L p.sure)
def pinsN (p : PoolP) (x : Int) : Nat := match findP p.L x with
  | none => 0
  | some a => a.pins
/-- which way a pin goes -/
inductive PinWay (S : List ByteArray) (Ws : Wrs) (p : PoolP) (x : Int) : Prop where
  | arg (h : x < 0 ∨ (S.length : Int) ≤ x)
  | held (a : Pl) (h : a ∈ p.L) (hx : x = (a.page : Int)) (hk : a.page < S.length)
  | room (k : Nat) (hx : x = (k : Int)) (hk : k < S.length) (hno : ∀ a ∈ p.L, a.page ≠ k) (hn : p.L.length ≠ p.n)
  | full (k : Nat) (hx : x = (k : Int)) (hk : k < S.length) (hno : ∀ a ∈ p.L, a.page ≠ k) (hn : p.L.length = p.n) (hg : ∀ a ∈ p.L, a.goes p.sure = false)
  | swap (k : Nat) (hx : x = (k : Int)) (hk : k < S.length) (hno : ∀ a ∈ p.L, a.page ≠ k) (hn : p.L.length = p.n) (a : Pl) (ha : p.L.find? (Pl.goes p.sure) = some a)
theorem pinWay (h : PInv S.length p) (Ws : Wrs) (x : Int) : PinWay S Ws p x := by
  by_cases h1 : x < 0 ∨ (S.length : Int) ≤ x
  · exact .arg h1
  · cases hf : findP p.L x with
    | some a =>
      obtain ⟨ha, hx⟩ := findP_some hf
      exact .held a ha hx.symm (h.pg a ha)
    | none =>
      obtain ⟨k, rfl⟩ : ∃ k : Nat, x = (k : Int) := ⟨x.toNat, by omega⟩
      have hno : ∀ a ∈ p.L, a.page ≠ k := fun a ha e => findP_none hf a ha (by rw [e])
      by_cases hn : p.L.length = p.n
      · cases hg : p.L.find? (Pl.goes p.sure) with
        | none => exact .full k rfl (by omega) hno hn (fun a ha => by have := List.find?_eq_none.1 hg a ha; simpa using this)
        | some a => exact .swap k rfl (by omega) hno hn a hg
      · exact .room k rfl (by omega) hno hn
section
variable {x : Int}
theorem pin_arg (h : x < 0 ∨ (S.length : Int) ≤ x) : pinE S p x = 1 ∧ pinS S Ws p x = ⟨#[]⟩ ∧ pinL S Ws p x = p ∧ pinW S Ws p x = Ws := by
  have e : pinE S p x = 1 := by unfold pinE; rw [if_pos h]
  refine ⟨e, ?_, ?_, ?_⟩
  · unfold pinS; rw [e]; rfl
  · unfold pinL; rw [e]; rfl
  · unfold pinW; rw [e]; rfl
theorem pin_held (hn : (p.L.map (·.page)).Nodup) {a : Pl} (h : a ∈ p.L) (hk : a.page < S.length) : pinE S p a.page = 0 ∧ pinS S Ws p a.page = a.body ∧ pinL S Ws p a.page = { p with L := cutP p.L a.page ++ [a.bump p.t], t := p.t + 1 } ∧ pinW S Ws p a.page = Ws := by
  have f := findP_mem hn h
  have e : pinE S p a.page = 0 := by unfold pinE; rw [if_neg (by omega), f]
  refine ⟨e, ?_, ?_, ?_⟩
  · unfold pinS; rw [if_pos e, f]
  · unfold pinL; rw [if_pos e, f]
  · unfold pinW; rw [if_pos e, f]
theorem pin_room {k : Nat} (hk : k < S.length) (hno : ∀ a ∈ p.L, a.page ≠ k) (hn : p.L.length ≠ p.n) : pinE S p k = 0 ∧ pinS S Ws p k = bodyAt S Ws k ∧ pinL S Ws p k = { p with L := p.L ++ [(Pl.new k (bodyAt S Ws k)).bump p.t], t := p.t + 1 } ∧ pinW S Ws p k = Ws := by
  have f : findP p.L (k : Int) = none := findP_none_of (fun a ha => by have := hno a ha; omega)
  have e : pinE S p k = 0 := by unfold pinE; rw [if_neg (by omega), f]; simp only; rw [if_pos hn]
  refine ⟨e, ?_, ?_, ?_⟩
  · unfold pinS; rw [if_pos e, f]; rfl
  · unfold pinL; rw [if_pos e, f]; simp only; rw [if_pos hn]; rfl
  · unfold pinW; rw [if_pos e, f]; simp only; rw [if_pos hn]
theorem pin_full {k : Nat} (hk : k < S.length) (hno : ∀ a ∈ p.L, a.page ≠ k) (hn : p.L.length = p.n) (hg : ∀ a ∈ p.L, a.goes p.sure = false) : pinE S p k = 6 ∧ pinS S Ws p k = ⟨#[]⟩ ∧ pinL S Ws p k = p ∧ pinW S Ws p k = Ws := by
  have f : findP p.L (k : Int) = none := findP_none_of (fun a ha => by have := hno a ha; omega)
  have f2 : p.L.find? (Pl.goes p.sure) = none := List.find?_eq_none.2 (fun a ha => by rw [hg a ha]; simp)
  have e : pinE S p k = 6 := by unfold pinE; rw [if_neg (by omega), f]; simp only; rw [if_neg (by simp [hn]), f2]
  refine ⟨e, ?_, ?_, ?_⟩
  · unfold pinS; rw [e]; rfl
  · unfold pinL; rw [e]; rfl
  · unfold pinW; rw [e]; rfl
theorem pin_swap {k : Nat} (hk : k < S.length) (hno : ∀ a ∈ p.L, a.page ≠ k) (hn : p.L.length = p.n) {a : Pl} (ha : p.L.find? (Pl.goes p.sure) = some a) : pinE S p k = 0 ∧ pinS S Ws p k = bodyAt S Ws k ∧ pinL S Ws p k = { p with L := cutP p.L a.page ++ [(Pl.new k (bodyAt S Ws k)).bump p.t], t := p.t + 1 } ∧ pinW S Ws p k = Ws ++ (if a.dirty then [(a.page, pageOf a.body)] else []) := by
  have f : findP p.L (k : Int) = none := findP_none_of (fun a ha => by have := hno a ha; omega)
  have e : pinE S p k = 0 := by unfold pinE; rw [if_neg (by omega), f]; simp only; rw [if_neg (by simp [hn]), ha]
  refine ⟨e, ?_, ?_, ?_⟩
  · unfold pinS; rw [if_pos e, f]; rfl
  · unfold pinL; rw [if_pos e, f]; simp only; rw [if_neg (by simp [hn]), ha]; rfl
  · unfold pinW; rw [if_pos e, f]; simp only; rw [if_neg (by simp [hn]), ha]
end
theorem goes_may {a : Pl} {s : Int} (h : a.goes s = true) (hd : a.dirty = true) : a.last ≤ s := by
  unfold Pl.goes Pl.may at h
  rw [hd] at h
  simp at h
  exact h.2
theorem goes_pins {a : Pl} {s : Int} (h : a.goes s = true) : a.pins = 0 := by unfold Pl.goes at h; simp at h; exact h.1
/-- what stands, however a pin goes -/
theorem pi_pin (h : PI S Ws p) (x : Int) : PI S (pinW S Ws p x) (pinL S Ws p x) := by
  cases pinWay h.I Ws x with
  | arg hx => obtain ⟨_, _, e3, e4⟩ := pin_arg (p := p) (Ws := Ws) hx; rw [e3, e4]; exact h
  | held a ha hx hk =>
    subst hx
    obtain ⟨_, _, e3, e4⟩ := pin_held (S := S) (Ws := Ws) h.I.nd ha hk
    rw [e3, e4]
    refine ⟨h.I.push (cutP_sublist _ _) (a.bump p.t) (fun b hb => ?_) ?_ hk (h.I.bs a ha) rfl (h.I.lf a ha), h.err, h.siz, fun b hb hd => ?_⟩
    · have := (mem_cutP.1 hb).2; show b.page ≠ a.page; omega
    · have := cutP_length h.I.nd ha; have := h.I.len; omega
    · rcases List.mem_append.1 hb with hb | hb
      · exact h.cl b (mem_cutP.1 hb).1 hd
      · obtain rfl := List.mem_singleton.1 hb
        exact h.cl a ha hd
  | room k hx hk hno hn =>
    subst hx
    obtain ⟨_, _, e3, e4⟩ := pin_room (S := S) (Ws := Ws) hk hno hn
    rw [e3, e4]
    refine ⟨h.I.push (List.Sublist.refl _) _ hno (by have := h.I.len; omega) hk (h.siz k hk) rfl ⟨Int.le_refl _, Int.le_refl _⟩, h.err, h.siz, fun b hb hd => ?_⟩
    rcases List.mem_append.1 hb with hb | hb
    · exact h.cl b hb hd
    · obtain rfl := List.mem_singleton.1 hb; rfl
  | full k hx hk hno hn hg => subst hx; obtain ⟨_, _, e3, e4⟩ := pin_full (S := S) (Ws := Ws) hk hno hn hg; rw [e3, e4]; exact h
  | swap k hx hk hno hn a ha =>
    subst hx
    obtain ⟨_, _, e3, e4⟩ := pin_swap (S := S) (Ws := Ws) hk hno hn ha
    have haL : a ∈ p.L := List.mem_of_find?_eq_some ha
    rw [e3, e4]
    have I' : PInv S.length { p with L := cutP p.L a.page ++ [(Pl.new k (bodyAt S Ws k)).bump p.t], t := p.t + 1 } :=
      h.I.push (cutP_sublist _ _) _ (fun b hb => hno b (mem_cutP.1 hb).1) (by have := cutP_length h.I.nd haL; have := h.I.len; omega) hk (h.siz k hk) rfl ⟨Int.le_refl _, Int.le_refl _⟩
    cases hd : a.dirty with
    | false =>
      simp only [Bool.false_eq_true, if_false, List.append_nil]
      refine ⟨I', h.err, h.siz, fun b hb hd => ?_⟩
      rcases List.mem_append.1 hb with hb | hb
      · exact h.cl b (mem_cutP.1 hb).1 hd
      · obtain rfl := List.mem_singleton.1 hb; rfl
    | true =>
      simp only [if_true]
      have hpa := h.I.pg a haL; have hba := h.I.bs a haL
      refine ⟨I', err_write h.err a.page a.body hba, fun k' hk' => ?_, fun b hb hd => ?_⟩
      · rw [bodyAt_write S Ws _ _ _ hpa hba]; split
        · exact hba
        · exact h.siz k' hk'
      · rw [bodyAt_write S Ws _ _ _ hpa hba]
        rcases List.mem_append.1 hb with hb | hb
        · have := (mem_cutP.1 hb).2
          rw [if_neg (by omega)]
          exact h.cl b (mem_cutP.1 hb).1 hd
        · obtain rfl := List.mem_singleton.1 hb
          rw [if_neg (by show ¬ a.page = k; exact hno a haL)]; rfl
theorem pi_un (h : PI S Ws p) (x : Int) : PI S Ws (unL p x) := by
  unfold unL; split
  · refine ⟨h.I.map _ (fun a ha => ?_), h.err, h.siz, fun b hb hd => ?_⟩
    · have := h.I.bs a ha; have := h.I.lf a ha
      split <;> exact ⟨rfl, rfl, by assumption, by assumption⟩
    · rcases mem_updP hb with ⟨hb, _⟩ | ⟨a, ha, _, rfl⟩
      · exact h.cl b hb hd
      · exact h.cl a ha hd
  · exact h
theorem putE_ok {x : Int} {s : ByteArray} {l : Int} (h : putE p x s l = 0) : ∃ a, findP p.L x = some a ∧ a.pins ≠ 0 ∧ s.size ≤ 252 ∧ 1 ≤ l ∧ a.last ≤ l := by
  unfold putE at h
  cases hf : findP p.L x with
  | none => rw [hf] at h; simp at h
  | some a =>
    rw [hf] at h
    simp only at h
    split at h
    · cases h
    · split at h
      · cases h
      · split at h
        · cases h
        · exact ⟨a, rfl, by assumption, by omega, by omega, by omega⟩
theorem pad_size (s : ByteArray) (h : s.size ≤ 252) : (padOf s 252).size = 252 := by
  have e : s.size = s.data.toList.length := Lib.size_eq s
  rw [Lib.size_eq]; unfold padOf; simp only [List.length_append, List.length_replicate]; omega
theorem put_dirty (s : ByteArray) (l : Int) (a : Pl) (hl : 1 ≤ l) : (a.put s l).dirty = true := by
  unfold Pl.put Pl.dirty
  by_cases h : 0 < a.first
  · simp [h]
  · simp [h]; omega
theorem pi_put (h : PI S Ws p) (x : Int) (s : ByteArray) (l : Int) : PI S Ws (putL p x s l) := by
  unfold putL; split
  · rename_i he
    obtain ⟨a0, hf, _, hs, hl, _⟩ := putE_ok he
    refine ⟨h.I.map _ (fun a ha => ?_), h.err, h.siz, fun b hb hd => ?_⟩
    · have h1 := h.I.bs a ha; have h2 := h.I.lf a ha
      split
      · refine ⟨rfl, rfl, pad_size s hs, ?_, by show 0 ≤ l; omega⟩
        show 0 ≤ (if a.dirty then a.first else l)
        split
        · exact h2.1
        · omega
      · exact ⟨rfl, rfl, h1, h2⟩
    · rcases mem_updP hb with ⟨hb, _⟩ | ⟨a, ha, _, rfl⟩
      · exact h.cl b hb hd
      · rw [put_dirty s l a hl] at hd; cases hd
  · exact h
theorem pi_sure (h : PI S Ws p) (l : Int) : PI S Ws (sureL p l) := ⟨⟨h.I.n1, h.I.n2, h.I.len, h.I.nd, h.I.age, h.I.tm, h.I.pg, h.I.bs, h.I.lf⟩, h.err, h.siz, h.cl⟩
end
end Go.Proofs.YthjlbfijfpfohaaGreat
