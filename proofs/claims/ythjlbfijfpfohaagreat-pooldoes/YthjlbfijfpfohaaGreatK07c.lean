/-
  A pool and its disk, plain: what is on the disk behind Clean; what a page has, be it in memory or on the disk; how often it is held.
-/
import Derived.Test.YthjlbfijfpfohaaGreatK07b
namespace Go.Proofs.YthjlbfijfpfohaaGreat
section
variable {S : List ByteArray} {Ws : Wrs} {p : PoolP}
theorem findP_map (L : List Pl) (f : Pl → Pl) (hf : ∀ a, (f a).page = a.page) (y : Int) : findP (L.map f) y = (findP L y).map f := by
  induction L with
  | nil => rfl
  | cons a l ih =>
    unfold findP at *
    rw [List.map_cons, List.find?_cons, List.find?_cons, hf]
    by_cases h : (a.page : Int) = y
    · simp [h]
    · simp only [h, decide_false]; exact ih
theorem findP_append (A B : List Pl) (y : Int) : findP (A ++ B) y = (findP A y).or (findP B y) := by unfold findP; rw [List.find?_append]
theorem findP_cut (L : List Pl) (x y : Int) : findP (cutP L x) y = if y = x then none else findP L y := by
  by_cases h : y = x
  · subst h; rw [if_pos rfl]; exact findP_none_of (fun a ha => (mem_cutP.1 ha).2)
  · rw [if_neg h]
    induction L with
    | nil => rfl
    | cons a l ih =>
      unfold findP cutP at *
      by_cases h1 : (a.page : Int) = x
      · rw [List.filter_cons_of_neg (by simp [h1]), List.find?_cons, ih]
        have : decide ((a.page : Int) = y) = false := by rw [h1]; exact decide_eq_false (fun e => h e.symm)
        rw [this]
      · rw [List.filter_cons_of_pos (by simpa using h1), List.find?_cons, List.find?_cons, ih]
theorem findP_upd (L : List Pl) (x : Int) (f : Pl → Pl) (hf : ∀ a, (f a).page = a.page) (y : Int) : findP (updP L x f) y = if y = x then (findP L x).map f else findP L y := by
  unfold updP
  rw [findP_map L _ (fun a => by split; exact hf a; rfl)]
  by_cases h : y = x
  · subst h; rw [if_pos rfl]
    cases hfd : findP L y with
    | none => rfl
    | some a => simp [(findP_some hfd).2]
  · rw [if_neg h]
    cases hfd : findP L y with
    | none => rfl
    | some a => simp [(findP_some hfd).2, h]
theorem findP_one (b : Pl) (y : Int) : findP [b] y = if y = (b.page : Int) then some b else none := by
  unfold findP
  by_cases h : y = (b.page : Int)
  · simp [h]
  · rw [if_neg h]; simp; exact fun e => h e.symm
theorem clean_page (xs : List Int) (a : Pl) : (if (a.page : Int) ∈ xs then a.clean else a).page = a.page := by split <;> rfl
theorem findP_clean (L : List Pl) (xs : List Int) (y : Int) : findP (cleanP L xs) y = (findP L y).map (fun a => if (a.page : Int) ∈ xs then a.clean else a) := findP_map L _ (clean_page xs) y
/-! what Clean writes -/
theorem mem_cleanI {L : List Pl} (hn : (L.map (·.page)).Nodup) {su x : Int} : x ∈ cleanI L su ↔ ∃ a ∈ L, (a.page : Int) = x ∧ a.may su = true := by
  unfold cleanI dirtyI
  rw [List.mem_filter, List.mem_filter, mem_pagesI]
  constructor
  · rintro ⟨⟨⟨a, ha, rfl⟩, _⟩, h2⟩
    unfold mayI at h2
    rw [findP_mem hn ha] at h2
    exact ⟨a, ha, rfl, h2⟩
  · rintro ⟨a, ha, rfl, h⟩
    refine ⟨⟨⟨a, ha, rfl⟩, ?_⟩, ?_⟩
    · unfold isDirty; rw [findP_mem hn ha]
      unfold Pl.may at h; simp at h; exact h.1
    · unfold mayI; rw [findP_mem hn ha]; exact h
theorem bodyAt_wrs (L : List Pl) (hn : (L.map (·.page)).Nodup) (hp : ∀ a ∈ L, a.page < S.length) (hb : ∀ a ∈ L, a.body.size = 252) : ∀ (xs : List Int) (Ws : Wrs), (∀ x ∈ xs, ∃ a ∈ L, (a.page : Int) = x) → ∀ k, bodyAt S (Ws ++ wrsOf L xs) k = if (k : Int) ∈ xs then (match findP L (k : Int) with | some a => a.body | none => ⟨#[]⟩) else bodyAt S Ws k
  | [], Ws, _, k => by simp [wrsOf]
  | x :: xs, Ws, hx, k => by
    obtain ⟨a, ha, hax⟩ := hx x (by simp)
    have hf := findP_mem hn ha
    have ew : Ws ++ wrsOf L (x :: xs) = (Ws ++ [(a.page, pageOf a.body)]) ++ wrsOf L xs := by
      have : wrsOf L (x :: xs) = (a.page, pageOf a.body) :: wrsOf L xs := by
        show (match findP L x with | some a => (a.page, pageOf a.body) | none => (0, ⟨#[]⟩)) :: _ = _
        rw [← hax, hf]; rfl
      rw [this]; simp
    rw [ew, bodyAt_wrs L hn hp hb xs _ (fun y hy => hx y (by simp [hy])) k]
    by_cases h1 : (k : Int) ∈ xs
    · rw [if_pos h1, if_pos (by simp [h1])]
    · rw [if_neg h1, bodyAt_write S Ws _ _ _ (hp a ha) (hb a ha)]
      by_cases h2 : a.page = k
      · subst h2
        rw [if_pos rfl, if_pos (by rw [hax]; simp), hf]
      · rw [if_neg h2, if_neg (by simp [h1]; intro e; exact h2 (by omega))]
theorem err_wrs (L : List Pl) (hn : (L.map (·.page)).Nodup) (hb : ∀ a ∈ L, a.body.size = 252) : ∀ (xs : List Int) (Ws : Wrs), (∀ x ∈ xs, ∃ a ∈ L, (a.page : Int) = x) → (∀ k s, S[k]? = some s → errOf (rawAt Ws k s) = 0) → ∀ k s, S[k]? = some s → errOf (rawAt (Ws ++ wrsOf L xs) k s) = 0
  | [], Ws, _, h => by simpa [wrsOf] using h
  | x :: xs, Ws, hx, h => by
    obtain ⟨a, ha, hax⟩ := hx x (by simp)
    have hf := findP_mem hn ha
    have ew : Ws ++ wrsOf L (x :: xs) = (Ws ++ [(a.page, pageOf a.body)]) ++ wrsOf L xs := by
      have : wrsOf L (x :: xs) = (a.page, pageOf a.body) :: wrsOf L xs := by
        show (match findP L x with | some a => (a.page, pageOf a.body) | none => (0, ⟨#[]⟩)) :: _ = _
        rw [← hax, hf]; rfl
      rw [this]; simp
    rw [ew]
    exact err_wrs L hn hb xs _ (fun y hy => hx y (by simp [hy])) (err_write h a.page a.body (hb a ha))
theorem cleanI_pages (h : PInv S.length p) : ∀ x ∈ cleanI p.L p.sure, ∃ a ∈ p.L, (a.page : Int) = x := fun x hx => by
  obtain ⟨a, ha, e, _⟩ := (mem_cleanI h.nd).1 hx; exact ⟨a, ha, e⟩
theorem body_clean (h : PI S Ws p) (k : Nat) : bodyAt S (cleanW Ws p) k = if (k : Int) ∈ cleanI p.L p.sure then (match findP p.L (k : Int) with | some a => a.body | none => ⟨#[]⟩) else bodyAt S Ws k :=
  bodyAt_wrs p.L h.I.nd h.I.pg h.I.bs _ Ws (cleanI_pages h.I) k
theorem pi_clean (h : PI S Ws p) : PI S (cleanW Ws p) (cleanL p) := by
  refine ⟨h.I.map _ (fun a ha => ?_), err_wrs p.L h.I.nd h.I.bs _ Ws (cleanI_pages h.I) h.err, fun k hk => ?_, fun b hb hd => ?_⟩
  · have h1 := h.I.bs a ha; have h2 := h.I.lf a ha
    split
    · exact ⟨rfl, rfl, h1, Int.le_refl _, h2.2⟩
    · exact ⟨rfl, rfl, h1, h2⟩
  · rw [body_clean h]; split
    · rename_i hm
      obtain ⟨a, ha, e⟩ := cleanI_pages h.I _ hm
      rw [← e, findP_mem h.I.nd ha]; exact h.I.bs a ha
    · exact h.siz k hk
  · obtain ⟨a, ha, rfl⟩ := List.mem_map.1 hb
    rw [clean_page, body_clean h]
    by_cases hm : (a.page : Int) ∈ cleanI p.L p.sure
    · rw [if_pos hm, if_pos hm, findP_mem h.I.nd ha]; rfl
    · rw [if_neg hm, if_neg hm]
      rw [if_neg hm] at hd
      exact h.cl a ha hd
/-! what a page has -/
def content (S : List ByteArray) (Ws : Wrs) (p : PoolP) (k : Nat) : ByteArray := match findP p.L (k : Int) with
  | some a => a.body
  | none => bodyAt S Ws k
theorem content_pin (h : PI S Ws p) (x : Int) (k : Nat) : content S (pinW S Ws p x) (pinL S Ws p x) k = content S Ws p k := by
  unfold content
  cases pinWay h.I Ws x with
  | arg hx => obtain ⟨_, _, e3, e4⟩ := pin_arg (p := p) (Ws := Ws) hx; rw [e3, e4]
  | held a ha hx hk =>
    subst hx
    obtain ⟨_, _, e3, e4⟩ := pin_held (S := S) (Ws := Ws) h.I.nd ha hk
    rw [e3, e4]
    simp only
    rw [findP_append, findP_cut, findP_one]
    by_cases hkp : (k : Int) = (a.page : Int)
    · rw [if_pos hkp, if_pos (by exact hkp), hkp, findP_mem h.I.nd ha]; rfl
    · rw [if_neg hkp, if_neg (by exact hkp)]; simp
  | room k0 hx hk hno hn =>
    subst hx
    obtain ⟨_, _, e3, e4⟩ := pin_room (S := S) (Ws := Ws) hk hno hn
    rw [e3, e4]
    simp only
    rw [findP_append, findP_one]
    by_cases hkp : (k : Int) = (k0 : Int)
    · have e : k = k0 := by omega
      subst e
      rw [findP_none_of (fun a ha => by have := hno a ha; omega), if_pos (by exact rfl)]; rfl
    · rw [if_neg (by exact hkp)]; simp
  | full k0 hx hk hno hn hg => subst hx; obtain ⟨_, _, e3, e4⟩ := pin_full (S := S) (Ws := Ws) hk hno hn hg; rw [e3, e4]
  | swap k0 hx hk hno hn a ha =>
    subst hx
    obtain ⟨_, _, e3, e4⟩ := pin_swap (S := S) (Ws := Ws) hk hno hn ha
    have haL : a ∈ p.L := List.mem_of_find?_eq_some ha
    have hpa := h.I.pg a haL; have hba := h.I.bs a haL
    rw [e3, e4]
    simp only
    rw [findP_append, findP_cut, findP_one]
    have hb : bodyAt S (Ws ++ if a.dirty then [(a.page, pageOf a.body)] else []) k = if a.page = k then a.body else bodyAt S Ws k := by
      cases hd : a.dirty with
      | true => simp only [if_true]; exact bodyAt_write S Ws _ _ _ hpa hba
      | false =>
        simp only [Bool.false_eq_true, if_false, List.append_nil]
        by_cases e : a.page = k
        · rw [if_pos e, ← e, h.cl a haL hd]
        · rw [if_neg e]
    rw [hb]
    by_cases hkp : (k : Int) = (k0 : Int)
    · have e : k = k0 := by omega
      subst e
      have hne := hno a haL
      rw [if_neg (by omega), findP_none_of (fun a ha => by have := hno a ha; omega), if_pos (by exact rfl)]; rfl
    · rw [if_neg (show ¬ (k : Int) = (((Pl.new k0 (bodyAt S Ws k0)).bump p.t).page : Int) from hkp)]
      by_cases hka : (k : Int) = (a.page : Int)
      · rw [if_pos hka]
        have e : a.page = k := by omega
        subst e
        rw [findP_mem h.I.nd haL]; simp
      · rw [if_neg hka, if_neg (by omega)]; simp
theorem content_un (x : Int) (k : Nat) : content S Ws (unL p x) k = content S Ws p k := by
  by_cases he : unE p x = 0
  · have e : unL p x = { p with L := updP p.L x Pl.less } := if_pos he
    rw [e]; unfold content
    simp only
    rw [findP_upd p.L x Pl.less (fun _ => rfl)]
    by_cases hx : (k : Int) = x
    · rw [if_pos hx, hx]; cases findP p.L x <;> rfl
    · rw [if_neg hx]
  · rw [show unL p x = p from if_neg he]
theorem content_put (x : Nat) (s : ByteArray) (l : Int) (h : putE p x s l = 0) (k : Nat) : content S Ws (putL p x s l) k = if k = x then padOf s 252 else content S Ws p k := by
  obtain ⟨a, hf, _⟩ := putE_ok h
  unfold content putL
  rw [if_pos h]
  simp only
  rw [findP_upd p.L x (Pl.put s l) (fun _ => rfl)]
  by_cases e : k = x
  · subst e; rw [if_pos rfl, if_pos rfl, hf]; rfl
  · rw [if_neg e, if_neg (by omega)]
theorem putL_no {x : Int} {s : ByteArray} {l : Int} (h : putE p x s l ≠ 0) : putL p x s l = p := by unfold putL; rw [if_neg h]
theorem content_clean (h : PI S Ws p) (k : Nat) : content S (cleanW Ws p) (cleanL p) k = content S Ws p k := by
  unfold content cleanL
  simp only
  rw [findP_clean]
  cases hf : findP p.L (k : Int) with
  | some a =>
    simp only [Option.map_some]
    split <;> rfl
  | none =>
    simp only [Option.map_none]
    rw [body_clean h, if_neg]
    intro hm
    obtain ⟨a, ha, e⟩ := cleanI_pages h.I _ hm
    exact findP_none hf a ha e
theorem pin_content (_h : PI S Ws p) (k : Nat) (h0 : pinE S p k = 0) : pinS S Ws p k = content S Ws p k := by
  unfold pinS content
  rw [if_pos h0]; rfl
/-! how often a page is held -/
theorem pinE_way (h : PInv S.length p) (k : Nat) (hk : k < S.length) : pinE S p k = 0 ∨ (pinE S p k = 6 ∧ pinsN p k = 0) := by
  cases pinWay h [] (k : Int) with
  | arg hx => omega
  | held a ha hx hk =>
    have e : k = a.page := by omega
    subst e
    exact .inl (pin_held (S := S) (Ws := []) h.nd ha hk).1
  | room k0 hx hk hno hn => have e : k = k0 := by omega
                            subst e; exact .inl (pin_room (S := S) (Ws := []) hk hno hn).1
  | full k0 hx hk hno hn hg =>
    have e : k = k0 := by omega
    subst e
    refine .inr ⟨(pin_full (S := S) (Ws := []) hk hno hn hg).1, ?_⟩
    unfold pinsN
    rw [findP_none_of (fun a ha => by have := hno a ha; omega)]
  | swap k0 hx hk hno hn a ha => have e : k = k0 := by omega
                                 subst e; exact .inl (pin_swap (S := S) (Ws := []) hk hno hn ha).1
theorem pinL_no {x : Int} (h : pinE S p x ≠ 0) : pinL S Ws p x = p := by unfold pinL; rw [if_neg h]
theorem pins_pin (h : PI S Ws p) (x : Int) (h0 : pinE S p x = 0) (y : Int) : pinsN (pinL S Ws p x) y = if y = x then pinsN p x + 1 else pinsN p y := by
  unfold pinsN
  cases pinWay h.I Ws x with
  | arg hx => rw [(pin_arg (p := p) (Ws := Ws) hx).1] at h0; cases h0
  | held a ha hx hk =>
    subst hx
    rw [(pin_held (S := S) (Ws := Ws) h.I.nd ha hk).2.2.1]
    simp only
    rw [findP_append, findP_cut, findP_one]
    by_cases hkp : y = (a.page : Int)
    · rw [if_pos hkp, if_pos (by exact hkp), if_pos hkp, findP_mem h.I.nd ha]; rfl
    · rw [if_neg hkp, if_neg (by exact hkp), if_neg hkp]; simp
  | room k0 hx hk hno hn =>
    subst hx
    rw [(pin_room (S := S) (Ws := Ws) hk hno hn).2.2.1]
    simp only
    rw [findP_append, findP_one]
    by_cases hkp : y = (k0 : Int)
    · subst hkp
      rw [findP_none_of (fun a ha => by have := hno a ha; omega), if_pos (by exact rfl), if_pos rfl]; rfl
    · rw [if_neg (by exact hkp), if_neg hkp]; simp
  | full k0 hx hk hno hn hg => subst hx; rw [(pin_full (S := S) (Ws := Ws) hk hno hn hg).1] at h0; cases h0
  | swap k0 hx hk hno hn a ha =>
    subst hx
    have haL : a ∈ p.L := List.mem_of_find?_eq_some ha
    rw [(pin_swap (S := S) (Ws := Ws) hk hno hn ha).2.2.1]
    simp only
    rw [findP_append, findP_cut, findP_one]
    by_cases hkp : y = (k0 : Int)
    · subst hkp
      have hne := hno a haL
      rw [if_neg (by omega), findP_none_of (fun a ha => by have := hno a ha; omega), if_pos (by exact rfl), if_pos rfl]; rfl
    · rw [if_neg (show ¬ y = (((Pl.new k0 (bodyAt S Ws k0)).bump p.t).page : Int) from hkp), if_neg hkp]
      by_cases hka : y = (a.page : Int)
      · rw [if_pos hka, hka, findP_mem h.I.nd haL]
        have := goes_pins (List.find?_some ha)
        simp [this]
      · rw [if_neg hka]; simp
theorem unE_iff (x : Int) : unE p x = 0 ↔ 0 < pinsN p x := by
  unfold unE pinsN
  cases findP p.L x with
  | none => simp
  | some a =>
    simp only
    split
    · simp; omega
    · simp; omega
theorem pins_un (x : Int) (h0 : unE p x = 0) (y : Int) : pinsN (unL p x) y = if y = x then pinsN p x - 1 else pinsN p y := by
  unfold unL; rw [if_pos h0]; unfold pinsN
  simp only
  rw [findP_upd p.L x Pl.less (fun _ => rfl)]
  by_cases e : y = x
  · rw [if_pos e, if_pos e]; cases findP p.L x <;> rfl
  · rw [if_neg e, if_neg e]
theorem unL_no {x : Int} (h : unE p x ≠ 0) : unL p x = p := by unfold unL; rw [if_neg h]
theorem pins_put (x : Int) (s : ByteArray) (l : Int) (y : Int) : pinsN (putL p x s l) y = pinsN p y := by
  unfold putL; split
  · unfold pinsN; simp only
    rw [findP_upd p.L x (Pl.put s l) (fun _ => rfl)]
    by_cases e : y = x
    · rw [if_pos e, e]; cases findP p.L x <;> rfl
    · rw [if_neg e]
  · rfl
theorem pins_clean (y : Int) : pinsN (cleanL p) y = pinsN p y := by
  unfold pinsN cleanL
  simp only
  rw [findP_clean]
  cases findP p.L y with
  | none => rfl
  | some a => simp only [Option.map_some]; split <;> rfl
end
end Go.Proofs.YthjlbfijfpfohaaGreat
