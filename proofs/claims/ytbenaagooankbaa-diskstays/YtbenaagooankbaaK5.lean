/-
  Plain facts: halves of pages behind a crash; the document of halves(): no program but the law's halves().
-/
import Derived.Test.YtbenaagooankbaaD7
namespace Go.Proofs.Ytbenaagooankbaa
open Go.RowKit Go.ChangeMaps

/-- both halves of r are halves of some of l -/
def Halved (r : ByteArray) (l : List ByteArray) : Prop := ∃ a ∈ l, ∃ b ∈ l, r.data.toList.take 128 = a.data.toList.take 128 ∧ r.data.toList.drop 128 = b.data.toList.drop 128
theorem halved_mem {r : ByteArray} {l : List ByteArray} (h : r ∈ l) : Halved r l := ⟨r, h, r, h, rfl, rfl⟩
theorem halved_left {s t : ByteArray} {l : List ByteArray} (f : Int) (h256 : s.size = 256) (hs : s ∈ l) (ht : Halved t l) : Halved (leftOf f s t) l := by
  unfold leftOf
  split
  · obtain ⟨_, _, b, hb, _, e2⟩ := ht
    have hl : (s.data.toList.take 128).length = 128 := by rw [List.length_take, ← Lib.size_eq, h256]; rfl
    refine ⟨s, hs, b, hb, ?_, ?_⟩
    · rw [tornOf_list, List.take_left' hl]
    · rw [tornOf_list, List.drop_left' hl, e2]
  · split
    · exact halved_mem hs
    · exact ht
/-- the texts of writes of a page -/
def texts (Wr : Wrs) (k : Nat) : List ByteArray := (Wr.filter (fun x => x.1 == k)).map (·.2)
theorem texts_snoc (Wr : Wrs) (k j : Nat) (s : ByteArray) : texts (Wr ++ [(k, s)]) j = if k = j then texts Wr j ++ [s] else texts Wr j := by
  unfold texts
  rw [List.filter_append, List.map_append]
  by_cases e : k = j
  · subst e; simp
  · simp [e]
theorem texts_length (Wr : Wrs) (k : Nat) : (texts Wr k).length ≤ Wr.length := by unfold texts; rw [List.length_map]; exact List.length_filter_le _ _
theorem texts_mem {Wr : Wrs} {k : Nat} {s : ByteArray} (h : s ∈ texts Wr k) : (k, s) ∈ Wr := by
  unfold texts at h
  obtain ⟨⟨a, b⟩, h1, h2⟩ := List.mem_map.1 h
  obtain ⟨h3, h4⟩ := List.mem_filter.1 h1
  simp at h2 h4
  subst h2 h4
  exact h3
theorem mem_texts {Wr : Wrs} {k : Nat} {s : ByteArray} (h : (k, s) ∈ Wr) : s ∈ texts Wr k := List.mem_map.2 ⟨(k, s), List.mem_filter.2 ⟨h, by simp⟩, rfl⟩
theorem crN_halved (S : List ByteArray) (Ws : Wrs) (fs : List Int) (k : Nat) (s : ByteArray) (hs : S[k]? = some s) (hW : ∀ x ∈ Ws, x.2.size = 256) : ∀ j, j ≤ Ws.length → ∃ r, (crN S Ws fs j)[k]? = some r ∧ Halved r (s :: texts Ws k)
  | 0, _ => ⟨s, hs, halved_mem (by simp)⟩
  | j + 1, hj => by
    obtain ⟨r, hr, hh⟩ := crN_halved S Ws fs k s hs hW j (by omega)
    have hx : Ws[j]? = some Ws[j] := List.getElem?_eq_getElem (by omega)
    have hm := List.mem_of_getElem? hx
    simp only [crN]
    rw [List.getD_eq_getElem?_getD (l := Ws), hx, List.getElem?_set]
    simp only [Option.getD_some]
    by_cases e : Ws[j].1 = k
    · rw [if_pos e, if_pos (by rw [e]; exact (List.getElem?_eq_some_iff.1 hr).1)]
      refine ⟨_, rfl, halved_left _ (hW _ hm) ?_ ?_⟩
      · refine List.mem_cons_of_mem _ (mem_texts ?_)
        rw [← e]; exact hm
      · rw [e, List.getD_eq_getElem?_getD, hr]; exact hh
    · rw [if_neg e]; exact ⟨r, hr, hh⟩
theorem crN_same (S : List ByteArray) (Ws : Wrs) (fs : List Int) (k : Nat) (h : texts Ws k = []) : ∀ j, j ≤ Ws.length → (crN S Ws fs j)[k]? = S[k]?
  | 0, _ => rfl
  | j + 1, hj => by
    have ih := crN_same S Ws fs k h j (by omega)
    have hx : Ws[j]? = some Ws[j] := List.getElem?_eq_getElem (by omega)
    have hm := List.mem_of_getElem? hx
    simp only [crN]
    rw [List.getD_eq_getElem?_getD (l := Ws), hx, List.getElem?_set]
    simp only [Option.getD_some]
    by_cases e : Ws[j].1 = k
    · have : Ws[j].2 ∈ texts Ws k := mem_texts (by rw [← e]; exact hm)
      rw [h] at this; simp at this
    · rw [if_neg e]; exact ih
/-- sealed writes -/
def seals (Wr : Wrs) : Wrs := Wr.map (fun x => (x.1, pageOf x.2))
theorem seals_snoc (Wr : Wrs) (k : Nat) (s : ByteArray) : seals (Wr ++ [(k, s)]) = seals Wr ++ [(k, pageOf s)] := by simp [seals]
theorem seals_length (Wr : Wrs) : (seals Wr).length = Wr.length := by simp [seals]
theorem texts_seals (Wr : Wrs) (k : Nat) : texts (seals Wr) k = (texts Wr k).map pageOf := by
  unfold texts seals
  rw [List.filter_map, List.map_map, List.map_map]
  rfl
/-- pages that are whole -/
def Good (S : List ByteArray) : Prop := ∀ s ∈ S, ∃ u, u.size ≤ 252 ∧ s = pageOf u
def GoodW (Ws : Wrs) : Prop := ∀ x ∈ Ws, ∃ u, u.size ≤ 252 ∧ x.2 = pageOf u
theorem rawAt_good : ∀ (Ws : Wrs) (k : Nat) (s : ByteArray), GoodW Ws → (∃ u, u.size ≤ 252 ∧ s = pageOf u) → ∃ u, u.size ≤ 252 ∧ rawAt Ws k s = pageOf u
  | [], _, _, _, h => h
  | x :: l, k, s, hW, h => by
    simp only [rawAt]
    refine rawAt_good l k _ (fun y hy => hW y (by simp [hy])) ?_
    split
    · exact hW x (by simp)
    · exact h
theorem good_sync (S : List ByteArray) (Ws : Wrs) (h : Good S) (hW : GoodW Ws) : Good (syncOf S Ws) := by
  intro r hr
  obtain ⟨k, hk⟩ := List.mem_iff_getElem?.1 hr
  have hlt : k < S.length := by rw [← syncOf_length S Ws]; exact (List.getElem?_eq_some_iff.1 hk).1
  have h1 := sync_raw S Ws k _ (List.getElem?_eq_getElem hlt)
  rw [hk] at h1
  cases h1
  exact rawAt_good Ws k _ hW (h _ (List.getElem_mem hlt))
theorem goodW_snoc {Ws : Wrs} (h : GoodW Ws) (k : Nat) (u : ByteArray) (hu : u.size ≤ 252) : GoodW (Ws ++ [(k, pageOf u)]) := by
  intro x hx
  rcases List.mem_append.1 hx with h1 | h1
  · exact h x h1
  · simp at h1; subst h1; exact ⟨u, hu, rfl⟩
def preB (s : ByteArray) (l : List ByteArray) : Bool := l.any (fun u => (s.extract 0 128).toList == (u.extract 0 128).toList)
def sufB (s : ByteArray) (l : List ByteArray) : Bool := l.any (fun u => (s.extract 128 252).toList == (u.extract 128 252).toList)
theorem preB_snoc (s : ByteArray) (l : List ByteArray) (u : ByteArray) : preB s (l ++ [u]) = (preB s l || ((s.extract 0 128).toList == (u.extract 0 128).toList)) := by simp [preB]
theorem sufB_snoc (s : ByteArray) (l : List ByteArray) (u : ByteArray) : sufB s (l ++ [u]) = (sufB s l || ((s.extract 128 252).toList == (u.extract 128 252).toList)) := by simp [sufB]
theorem page_take (u : ByteArray) (h : u.size = 252) : (pageOf u).data.toList.take 128 = u.data.toList.take 128 := by
  rw [pageOf_list, padOf_full u 252 h, List.take_append_of_le_length (by rw [← Lib.size_eq, h]; omega)]
theorem page_mid (u : ByteArray) (h : u.size = 252) : ((pageOf u).data.toList.drop 128).take 124 = u.data.toList.drop 128 := by
  have hl : u.data.toList.length = 252 := by rw [← Lib.size_eq, h]
  rw [pageOf_list, padOf_full u 252 h, List.drop_append_of_le_length (by omega), List.take_left' (by rw [List.length_drop, hl])]
/-- a whole page with halves of some: its bytes have halves of theirs -/
theorem page_halves (r old : ByteArray) (l : List ByteArray) (hr : r.size = 256) (ho : okPage r = true) (h1 : old.size = 252) (hl : ∀ u ∈ l, u.size = 252) (h : Halved r (pageOf old :: l.map pageOf)) :
    (readOf r).size = 252 ∧ preB (readOf r) (l ++ [old]) = true ∧ sufB (readOf r) (l ++ [old]) = true := by
  have e : readOf r = r.extract 0 252 := by unfold readOf; rw [ho]; rfl
  have hx : (r.extract 0 252).size = 252 := by rw [ByteArray.size_extract]; omega
  obtain ⟨a, ha, b, hb, e1, e2⟩ := h
  have key : ∀ a, a ∈ pageOf old :: l.map pageOf → ∃ u, u ∈ l ++ [old] ∧ u.size = 252 ∧ a = pageOf u := by
    intro a ha
    rcases List.mem_cons.1 ha with rfl | h
    · exact ⟨old, by simp, h1, rfl⟩
    · obtain ⟨u, hu, rfl⟩ := List.mem_map.1 h
      exact ⟨u, by simp [hu], hl u hu, rfl⟩
  obtain ⟨ua, ma, sa, rfl⟩ := key a ha
  obtain ⟨ub, mb, sb, rfl⟩ := key b hb
  rw [page_take ua sa] at e1
  have e3 := congrArg (List.take 124) e2
  rw [page_mid ub sb] at e3
  rw [e]
  refine ⟨hx, ?_, ?_⟩
  · unfold preB
    rw [List.any_eq_true]
    refine ⟨ua, ma, ?_⟩
    rw [toList_beq, decide_eq_true_iff]
    apply ba_ext
    rw [extract_list, extract_list, extract_list]
    simp only [List.drop_zero, Nat.sub_zero, List.take_take]
    rw [show min 128 252 = 128 from rfl, e1]
  · unfold sufB
    rw [List.any_eq_true]
    refine ⟨ub, mb, ?_⟩
    rw [toList_beq, decide_eq_true_iff]
    apply ba_ext
    rw [extract_list, extract_list, extract_list]
    simp only [List.drop_zero, Nat.sub_zero]
    rw [List.drop_take, List.take_take, show min (252 - 128) (252 - 128) = 124 from rfl, e3, List.take_of_length_le (by rw [List.length_drop, ← Lib.size_eq, sb]; omega)]
set_option maxHeartbeats 1000000 in
theorem halves_any (w : World) (g C : Nat) (s : ByteArray) (l : List ByteArray) (hs : s.size = 252) (hl : ∀ u ∈ l, u.size = 252) (hn : l.length ≤ 1000000)
    (hc : ∀ k u, l[k]? = some u → w.cell? ⟨g, k, none⟩ = some (.string u)) (h1 : preB s l = true) (h2 : sufB s l = true) :
    Calls Try.prog 23 #[.string s, .slice (some ⟨g, 0, none⟩) l.length C] w fun e w' => e = .returned (.bool true) ∧ Below w.heap.size w w' := by
  have HC := Lib.hid hc; have HL := Lib.hid hl; have P1 := Lib.hid h1; have P2 := Lib.hid h2
  clear hc hl h1 h2
  have HS := Lib.hid hs
  have s1 : (128 : Int) ≤ (s.size : Int) := by omega
  have s2 : (s.size : Int) ≤ 252 := by omega
  clear hs
  go_enter Try.func23, Try.ntmps23
  go_wp2
  go_loopw [5, 6, 7] (fun a b i wr => ∃ k : Nat, k ≤ l.length ∧ a = .bool (preB s (l.take k)) ∧ b = .bool (sufB s (l.take k)) ∧ i = .int .i64 (k : Int) ∧ ∃ m, wr = w.drewN m) (fun _ _ i _ => l.length - (intOf i).toNat)
  case atStart => exact ⟨0, by omega, rfl, rfl, rfl, 0, rfl⟩
  case round =>
    obtain ⟨k, hk, rfl, rfl, rfl, m, rfl⟩ := hrel
    by_cases hlt : k < l.length
    · have hlt' : (k : Int) < (l.length : Int) := by omega
      have h0 : (0 : Int) ≤ (k : Int) := by omega
      obtain ⟨u, hu⟩ : ∃ u, l[k]? = some u := ⟨_, List.getElem?_eq_getElem hlt⟩
      have hus := HL.out u (List.mem_of_getElem? hu)
      have u1 : (128 : Int) ≤ (u.size : Int) := by omega
      have u2 : (u.size : Int) ≤ 252 := by omega
      have HUS := Lib.hid hus; clear hus
      have d1 : (w.drewN m).cell? ⟨g, k, none⟩ = some (.string u) := HC.out k u hu
      have X1 := Lib.hid (show preB s (l.take (k + 1)) = (preB s (l.take k) || ((s.extract 0 128).toList == (u.extract 0 128).toList)) by rw [List.take_add_one, hu]; exact preB_snoc _ _ _)
      have X2 := Lib.hid (show sufB s (l.take (k + 1)) = (sufB s (l.take k) || ((s.extract 128 s.size).toList == (u.extract 128 u.size).toList)) by rw [List.take_add_one, hu, HS.out, HUS.out]; exact sufB_snoc _ _ _)
      clear hu
      obtain ⟨w1, HW⟩ : ∃ w1, Hid (w.drewN m = w1) := ⟨_, rfl⟩
      rw [HW.out] at d1 ⊢
      generalize preB s (l.take k) = A at *
      generalize sufB s (l.take k) = B at *
      cases A <;> cases B
      all_goals
        go_wp2_with fail
        go_quiet (fail)
        go_wp2_with fail
        go_quiet (fail)
        go_wp2
        refine ⟨⟨k + 1, by omega, by rw [X1.out]; simp, by rw [X2.out]; simp, by go_num, ?_⟩, by simp [intOf]; omega⟩
        rw [← HW.out]; simp [World.drewN, Nat.add_assoc]
    · obtain rfl : k = l.length := by omega
      rw [List.take_length, P1.out, P2.out]
      go_wp2
      go_ret
      exact ⟨rfl, below_drew _ _⟩
end Go.Proofs.Ytbenaagooankbaa
