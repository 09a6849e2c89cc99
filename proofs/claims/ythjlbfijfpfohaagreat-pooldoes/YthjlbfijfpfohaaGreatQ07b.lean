/-
  Package pool: the pages by age, sorted: the contract of slices.SortedFunc.
-/
import Derived.Test.YthjlbfijfpfohaaGreatQ07a
namespace Go.Proofs.YthjlbfijfpfohaaGreat
open Go.RowKit Go.MapKept Go.Maps Go.Sort

/-- a number that is a page in memory -/
abbrev KeyOf (E : List En) := { x : Int // ∃ e ∈ E, (e.a.page : Int) = x }
def encK {E : List En} (x : KeyOf E) : Value := .int .i64 x.1
theorem grownBy_sortW {α : Type} [Inhabited α] (enc : α → Value) (w : World) (g k : Nat) (d : Array α) (os : Array Obj) : w.grownBy (sortWorld enc w g 0 k d os) (some g) := by
  refine ⟨rfl, rfl, rfl, by simp [sortWorld], fun b hb hne => ?_⟩
  unfold sortWorld
  rw [heap_grow_old _ _ (by simpa using hb)]
  have : g ≠ b := fun e => hne (by rw [e])
  simp [putRow, mapBlock, Sort.ahead, Array.getElem?_modify, this]
theorem sortW_ints {E : List En} [Inhabited (KeyOf E)] (w : World) (g k : Nat) (d : Array (KeyOf E)) (os : Array Obj) : sortWorld encK w g 0 k d os = grow (putRow encZ (Sort.ahead w k) g 0 (d.toList.map (·.1)).toArray) os := by
  unfold sortWorld putRow
  congr 2
  funext c
  unfold putCells
  congr 1
  funext k x
  by_cases hk : k < d.size
  · have h1 : 0 ≤ k ∧ k < 0 + d.size := by omega
    have h2 : 0 ≤ k ∧ k < 0 + (d.toList.map (fun x : KeyOf E => x.1)).toArray.size := by simpa using hk
    rw [if_pos h1, if_pos h2]
    simp [encK, hk]
  · have h1 : ¬ (0 ≤ k ∧ k < 0 + d.size) := by omega
    have h2 : ¬ (0 ≤ k ∧ k < 0 + (d.toList.map (fun x : KeyOf E => x.1)).toArray.size) := by simpa using hk
    rw [if_neg h1, if_neg h2]
theorem cmpI_neg (x y : Int) : decide (cmpI x y < 0) = decide (x < y) := by
  unfold cmpI
  by_cases h1 : x < y
  · simp [h1]
  · rw [if_neg h1]
    by_cases h2 : y < x
    · simp [h1, h2]
    · simp [h1, h2]
section
variable {w w' : World} {o o' : Nat → Nat} {i j g pd m n t ck b q : Nat} {su : Int} {E : List En} {S : List ByteArray} {Ws : Wrs}
def cfK (E : List En) (x y : KeyOf E) : Int := cmpI (pinI (E.map (·.a)) x.1) (pinI (E.map (·.a)) y.1)
theorem swoK (E : List En) : SWO (ltOf (cfK E)) := by
  have e : ∀ x y, ltOf (cfK E) x y = decide (pinI (E.map (·.a)) x.1 < pinI (E.map (·.a)) y.1) := fun x y => cmpI_neg _ _
  refine ⟨fun x => by rw [e]; simp, fun x y z h1 h2 => ?_, fun x y z h1 h2 => ?_⟩
  · rw [e] at h1 h2 ⊢; simp only [decide_eq_true_eq] at *; omega
  · rw [e] at h1 h2 ⊢; simp only [decide_eq_false_iff_not] at *; omega
theorem IsE.pin (h : IsE w o j g pd m n su t E ck) {e : En} (he : e ∈ E) : pinI (E.map (·.a)) (e.a.page : Int) = (e.a.pinned : Int) := by unfold pinI; rw [h.find he]
theorem lift_keys (E : List En) : ∀ (ss : List Int), (∀ x ∈ ss, ∃ e ∈ E, (e.a.page : Int) = x) → ∃ d : List (KeyOf E), d.map (·.1) = ss
  | [], _ => ⟨[], rfl⟩
  | x :: l, h => by
    obtain ⟨d, hd⟩ := lift_keys E l (fun y hy => h y (by simp [hy]))
    exact ⟨⟨x, h x (by simp)⟩ :: d, by simp [hd]⟩
set_option maxRecDepth 100000 in
set_option maxHeartbeats 2000000 in
theorem sortedf (h : IsE w o j g pd m n su t E ck) (hne : E ≠ []) (hl : E.length ≤ 1000) (hk : ∀ e ∈ E, e.a.page ≤ 1000000) (Bm : Nat) (hBm : Bm < w.heap.size) (hmb : w.cell? ⟨Bm, 0, none⟩ = some (.map (some m))) (B : Nat) (hB : w.cell? ⟨B, 0, none⟩ = some (.pointer (some ⟨g, 0, none⟩))) :
    Calls Tryz.prog 76 #[.func (.func 59) #[] #[.pointer (some ⟨Bm, 0, none⟩)], .func (.func 77) #[] #[.pointer (some ⟨B, 0, none⟩)]] w fun e w' => ∃ (gb cap : Nat) (ss : List Int), e = .returned (.slice (some ⟨gb, 0, none⟩) ss.length cap) ∧ ss.Perm (E.map (fun e => (e.a.page : Int))) ∧ ss.Pairwise (fun x y => pinI (E.map (·.a)) x ≤ pinI (E.map (·.a)) y) ∧ w'.ownsRow w.heap.size 3 1 (.slice (some ⟨gb, 0, none⟩) ss.length cap) ss.length (ss.map encZ) ∧ Below w.heap.size w w' := by
  obtain ⟨D0, hown, hperm, hsize⟩ := h.owns hl hk
  have hseq : SeqGives Fence.wide 1 Tryz.prog 59 #[.pointer (some ⟨Bm, 0, none⟩)] encZ (fun ss => ss.Perm (intKeys D0)) (Maps.size D0) w :=
    AnyZI.keys_gives (ρ := keys7_ren) { keys7 with } Fence.wide _ trivial rfl (by omega) Bm m E.length D0 w hBm hmb hown
  have cC := callsIn_wide.1 (AnyZI.collect_in collect7 Fence.wide 3 trivial trivial rfl (by omega) 59 #[.pointer (some ⟨Bm, 0, none⟩)] trivial (enters_of Tryz.func59 (by kernel_rfl) rfl) _ _ (by rw [hsize]; simp [maxLen]; omega) (by rw [hsize]; omega) w hseq)
  change Calls Tryz.prog 57 _ _ _ at cC
  have HC := Lib.hid cC; have HH := Lib.hid h; have HP := Lib.hid hperm; have HB := Lib.hid hB
  have HLN := Lib.hid hl
  clear cC hseq hown hsize h hmb hBm hl hk hperm hB
  go_enter Tryz.func76, Tryz.ntmps76
  go_wp2_with fail
  refine HC.out.mono ?_
  rintro x w1 ⟨v, ss, rfl, hS, hrow, hnil, hb⟩
  have hS2 := hS.trans HP.out
  have hssne : ss ≠ [] := fun e => by
    have := hS2.length_eq
    rw [e, List.length_map] at this
    exact hne (List.eq_nil_of_length_eq_zero this.symm)
  have hmem : ∀ x ∈ ss, ∃ e ∈ E, (e.a.page : Int) = x := fun x hx => by
    obtain ⟨e, he, rfl⟩ := List.mem_map.1 (hS2.mem_iff.1 hx)
    exact ⟨e, he, rfl⟩
  rcases hrow.2 with ⟨rfl, _⟩ | ⟨gb, cap, cur, rfl, hbase, hgb, r1, r2, r3, r4⟩
  · exact absurd (hnil.1 rfl) hssne
  obtain ⟨d, hd⟩ := lift_keys E ss hmem
  obtain ⟨e0, he0⟩ : ∃ e, e ∈ E := by
    cases E with
    | nil => exact absurd rfl hne
    | cons a l => exact ⟨a, by simp⟩
  haveI : Inhabited (KeyOf E) := ⟨⟨(e0.a.page : Int), e0, he0, rfl⟩⟩
  have hdl : d.toArray.size = ss.length := by rw [← hd]; simp
  have hHi : Holds encZ w1 gb 0 ss.toArray := holds_of_block_i hgb (by simpa using r4)
  have hH : Holds (encK (E := E)) w1 gb 0 d.toArray := fun k hk2 => by
    have hk3 : k < d.length := by simpa using hk2
    have h2 := hHi k (by rw [← hd]; simpa using hk2)
    have e1 : encZ ss.toArray[k]! = encK d.toArray[k]! := by
      subst hd
      simp [encK, hk3]
    rw [← e1]; exact h2
  have hgl : gb < w1.heap.size := (Array.getElem?_eq_some_iff.1 hgb).1
  have hcmp : CmpReads Tryz.prog 77 #[.pointer (some ⟨B, 0, none⟩)] (encK (E := E)) (cfK E) gb 0 d.toArray.size w1 := fun mm os dk _ x y => by
    have hbW : Below w.heap.size w (sortWorld encK w1 gb 0 mm dk os) := hb.grown (grownBy_sortW encK w1 gb mm dk os) hb.size (fun j hj => by cases hj; exact hbase)
    have hE := HH.out.reads hbW
    have hBW : (sortWorld encK w1 gb 0 mm dk os).cell? ⟨B, 0, none⟩ = some (.pointer (some ⟨g, 0, none⟩)) := (hbW.cell (p := ⟨B, 0, none⟩) (World.block_lt_of_cell? w _ HB.out)).trans HB.out
    obtain ⟨ex, hex, hx⟩ := x.2
    obtain ⟨ey, hey, hy⟩ := y.2
    have := room1 hE hBW hex hey
    rw [← hE.pin hex, ← hE.pin hey, hx, hy] at this
    exact this
  have hsl : ss.length ≤ 1000 := by rw [hS2.length_eq, List.length_map]; exact HLN.out
  have cS := Any.slices_SortFunc sortf7 (encK (E := E)) (fun _ => rfl) (cfK E) (swoK E) 77 #[.pointer (some ⟨B, 0, none⟩)] gb 0 cap d.toArray w1 (enters_of Tryz.func77 (by kernel_rfl) rfl) hcmp.lays hH hgl (by rw [hdl]; omega)
  change Calls Tryz.prog 92 _ _ _ at cS
  rw [hdl] at cS
  have HCS := Lib.hid cS
  have fin : ∀ (d' : Array (KeyOf E)) (k : Nat) (os : Array Obj), PermIn 0 ss.length d.toArray d' → SortedIn (ltOf (cfK E)) 0 ss.length d' → ∃ (gb2 cap2 : Nat) (ts : List Int), (Value.slice (some ⟨gb, 0, none⟩) ss.length cap) = (.slice (some ⟨gb2, 0, none⟩) ts.length cap2) ∧ ts.Perm (E.map (fun e => (e.a.page : Int))) ∧ ts.Pairwise (fun x y => pinI (E.map (·.a)) x ≤ pinI (E.map (·.a)) y) ∧ (sortWorld encK w1 gb 0 k d' os).ownsRow w.heap.size 3 1 (.slice (some ⟨gb2, 0, none⟩) ts.length cap2) ts.length (ts.map encZ) ∧ Below w.heap.size w (sortWorld encK w1 gb 0 k d' os) := fun d' k os h1 h2 => by
    have hsz' : d'.size = ss.length := by rw [h1.1, hdl]
    have hlen : (d'.toList.map (·.1)).length = ss.length := by simp [hsz']
    have hp0 : d'.toList.Perm d := by
      have := h1.2.2
      rw [← hdl] at this
      have e1 : d'.extract 0 d.toArray.size = d' := by rw [hdl, ← hsz']; simp
      have e2 : d.toArray.extract 0 d.toArray.size = d.toArray := by simp
      rw [e1, e2] at this
      simpa using this
    refine ⟨gb, cap, d'.toList.map (·.1), by rw [hlen], ?_, ?_, ?_, ?_⟩
    · have := hp0.map (fun x : KeyOf E => x.1)
      rw [hd] at this
      exact this.trans hS2
    · rw [List.pairwise_map, List.pairwise_iff_getElem]
      intro a c ha hc hac
      have hc' : c < d'.size := by simpa using hc
      have ha' : a < d'.size := by simpa using ha
      have := h2 a c (Nat.zero_le _) hac (by rw [← hsz']; exact hc')
      unfold ltOf cfK at this
      rw [cmpI_neg] at this
      rw [getElem!_pos d' c hc', getElem!_pos d' a ha'] at this
      simp only [decide_eq_false_iff_not] at this
      simp only [Array.getElem_toList]
      omega
    · rw [sortW_ints, hlen]
      exact ownsRow_sorted_i hlen hbase hgb r1 r2 r3
    · exact hb.grown (grownBy_sortW encK w1 gb k d' os) hb.size (fun j hj => by cases hj; exact hbase)
  have HF := Lib.hid fin
  clear fin cS hcmp hH hHi hd hdl hnil hrow hS hS2 hmem hsl r1 r2 r3 r4 HC hb hgb
  go_wp2_with fail
  refine HCS.out.mono ?_
  rintro x w2 ⟨rfl, d', k, os, h1, h2, rfl⟩
  have HFF := Lib.hid (HF.out d' k os h1 h2)
  clear h1 h2 HF HCS
  generalize sortWorld encK w1 gb 0 k d' os = W2 at *
  go_wp2_with fail
  go_ret
  obtain ⟨gb2, cap2, ts, h1, h2⟩ := HFF.out
  exact ⟨gb2, cap2, ts, by rw [← h1]; rfl, h2⟩
end
end Go.Proofs.YthjlbfijfpfohaaGreat
