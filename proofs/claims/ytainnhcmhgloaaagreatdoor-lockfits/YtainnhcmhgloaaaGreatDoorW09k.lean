/-
  Package lock: the contract of isLoop.
-/
import Derived.Test.YtainnhcmhgloaaaGreatDoorW09j
import Derived.Laws.EntriesVeiled
namespace Go.Proofs.YtainnhcmhgloaaaGreatDoor
open Go.RowKit Go.Shelf Go.MapKept Go.Maps Go.Sort

theorem Bqs.last {H W : Hs} {a b : Int} (h : Bqs H W a b) : ∃ c, Bq H W c b := by
  induction h with
  | one h => exact ⟨_, h⟩
  | more _ _ ih => exact ih
theorem Bqs.closed {H W : Hs} {S : List Int} (hs : ∀ x ∈ S, ∀ b, Bq H W x b → b ∈ S) {a b : Int} (h : Bqs H W a b) (ha : ∀ b, Bq H W a b → b ∈ S) : b ∈ S := by
  induction h with
  | one h => exact ha _ h
  | more h _ ih => exact ih (hs _ (ha _ h))
/-- who stands ahead of somebody in a queue holds its name -/
def Front (H W : Hs) (x : Int) : Prop := ∀ (n : ByteArray) (l1 l2 : Hs) (z y : Has9), nameL W n = l1 ++ z :: y :: l2 → z.owner = x → ∃ h ∈ H, h.owner = x ∧ h.name = n
section
variable {w w' : World} {o0 : Nat → Nat} {j g m1 m2 m3 : Nat} {N : List En} {HL : List Ho} {WL H W : Hs} {n0 : ByteArray}
theorem no_loop (A : Abs N HL WL H W n0 []) {x : Int} (hf : Front H W x) (hw : ∀ h ∈ H, h.owner = x → ∀ y ∈ W, y.name = h.name → y.owner = x) (c : Int) : ¬ Bq H W c x := by
  rintro ⟨y, hy, hyc, h⟩
  rcases h with ⟨h, hh, h1, h2, h3, _⟩ | ⟨l1, l2, z, h1, h2⟩
  · exact h3 ((hw h hh h2 y hy h1.symm).symm.trans hyc)
  · obtain ⟨h, hh, h3, h4⟩ := hf y.name l1 l2 z y h1 h2
    have hyx := hw h hh h3 y hy h4.symm
    have hz := mem_nameL.1 (show z ∈ nameL W y.name by rw [h1]; simp)
    have nd := nameL_owners A.ok.wn y.name
    rw [h1] at nd
    exact mid_ne (x := z) nd (.inr (List.mem_cons_self ..)) (hyx.trans h2.symm)
theorem seen_stack (w2 : World) (x : Int) (b2 b3 : Nat) : 
    let W5 := ((((w2.alloc (.map #[] 0)).alloc (.cells #[.map (some w2.heap.size)] 109)).alloc (.cells #[.int .i64 x] 3)).alloc (.cells #[.slice (some ⟨w2.heap.size + 1 + 1, 0, none⟩) 0 1] 36)).alloc (.cells #[leadsV b2 b3 (w2.heap.size + 1) (w2.heap.size + 1 + 1 + 1) (w2.heap.size + 1 + 1 + 1 + 1)] 38)
    Below w2.heap.size w2 W5 ∧ MapAt (.int .i64) W5 w2.heap.size (([] : List Int).map skv) ∧ At W5 (w2.heap.size + 1) #[.map (some w2.heap.size)] 109 ∧ At W5 (w2.heap.size + 1 + 1 + 1) #[.slice (some ⟨w2.heap.size + 1 + 1, 0, none⟩) 0 1] 36 ∧ At W5 (w2.heap.size + 1 + 1 + 1 + 1) #[leadsV b2 b3 (w2.heap.size + 1) (w2.heap.size + 1 + 1 + 1) (w2.heap.size + 1 + 1 + 1 + 1)] 38 := by
  intro W5
  have al : ∀ (W : World) (x : Obj), (W.alloc x).heap.size = W.heap.size + 1 := fun W x => by simp
  have bl : ∀ (W : World) (x : Obj), Below W.heap.size W (W.alloc x) := fun W x => (Below.refl _ W).alloc (Nat.le_refl _) x
  have n1 := mapAt_new (.int .i64) w2
  have n2 := At.new (w2.alloc (.map #[] 0)) #[.map (some w2.heap.size)] 109
  have n4 := At.new (((w2.alloc (.map #[] 0)).alloc (.cells #[.map (some w2.heap.size)] 109)).alloc (.cells #[.int .i64 x] 3)) #[.slice (some ⟨w2.heap.size + 1 + 1, 0, none⟩) 0 1] 36
  have n5 := At.new ((((w2.alloc (.map #[] 0)).alloc (.cells #[.map (some w2.heap.size)] 109)).alloc (.cells #[.int .i64 x] 3)).alloc (.cells #[.slice (some ⟨w2.heap.size + 1 + 1, 0, none⟩) 0 1] 36)) #[leadsV b2 b3 (w2.heap.size + 1) (w2.heap.size + 1 + 1 + 1) (w2.heap.size + 1 + 1 + 1 + 1)] 38
  have b1 := bl w2 (.map #[] 0)
  have b2' := bl (w2.alloc (.map #[] 0)) (.cells #[.map (some w2.heap.size)] 109)
  have b3' := bl ((w2.alloc (.map #[] 0)).alloc (.cells #[.map (some w2.heap.size)] 109)) (.cells #[.int .i64 x] 3)
  have b4' := bl (((w2.alloc (.map #[] 0)).alloc (.cells #[.map (some w2.heap.size)] 109)).alloc (.cells #[.int .i64 x] 3)) (.cells #[.slice (some ⟨w2.heap.size + 1 + 1, 0, none⟩) 0 1] 36)
  have b5' := bl ((((w2.alloc (.map #[] 0)).alloc (.cells #[.map (some w2.heap.size)] 109)).alloc (.cells #[.int .i64 x] 3)).alloc (.cells #[.slice (some ⟨w2.heap.size + 1 + 1, 0, none⟩) 0 1] 36)) (.cells #[leadsV b2 b3 (w2.heap.size + 1) (w2.heap.size + 1 + 1 + 1) (w2.heap.size + 1 + 1 + 1 + 1)] 38)
  have c4 := b4'.trans (b5'.mono b4'.size)
  have c3 := b3'.trans (c4.mono b3'.size)
  have c2 := b2'.trans (c3.mono b2'.size)
  have c1 := b1.trans (c2.mono b1.size)
  have e1 : (w2.alloc (.map #[] 0)).heap.size = w2.heap.size + 1 := al _ _
  have e2 : (((w2.alloc (.map #[] 0)).alloc (.cells #[.map (some w2.heap.size)] 109)).alloc (.cells #[.int .i64 x] 3)).heap.size = w2.heap.size + 1 + 1 + 1 := by rw [al, al, al]
  have e3 : ((((w2.alloc (.map #[] 0)).alloc (.cells #[.map (some w2.heap.size)] 109)).alloc (.cells #[.int .i64 x] 3)).alloc (.cells #[.slice (some ⟨w2.heap.size + 1 + 1, 0, none⟩) 0 1] 36)).heap.size = w2.heap.size + 1 + 1 + 1 + 1 := by rw [al, e2]
  have n2' := n2.reads c3
  have n4' := n4.reads b5'
  refine ⟨c1, n1.same (c2.block _ (by rw [e1]; omega)), ?_, ?_, ?_⟩
  · rw [e1] at n2'; exact n2'
  · rw [e2] at n4'; exact n4'
  · rw [e3] at n5; exact n5
def LoopOut (w : World) (H W : Hs) (x : Int) (r : Ending) (w' : World) : Prop := ∃ b : Bool, r = .returned (.bool b) ∧ (b = true ↔ Bqs H W x x) ∧ Below w.heap.size w w'
set_option maxRecDepth 100000 in
set_option maxHeartbeats 4000000 in
theorem c_isLoop (T : IsT w o0 j g m1 m2 m3 N HL WL) (A : Abs N HL WL H W n0 []) (hB : H.length + W.length ≤ 900) (hL : Laid9 w) (x : Int) (hf : Front H W x) :
    Calls Tryz.prog 51 #[ptr9 g, .int .i64 x] w (LoopOut w H W x) := by
  have ba : Below w.heap.size w ((w.alloc (.cells #[ptr9 g] 23)).alloc (.cells #[.int .i64 x] 3)) := ((Below.refl _ w).alloc (Nat.le_refl _) _).alloc (by simp) _
  have hA2 : At ((w.alloc (.cells #[ptr9 g] 23)).alloc (.cells #[.int .i64 x] 3)) w.heap.size #[ptr9 g] 23 := (At.new w _ _).reads ((Below.refl _ _).alloc (Nat.le_refl _) _)
  have hA3 : At ((w.alloc (.cells #[ptr9 g] 23)).alloc (.cells #[.int .i64 x] 3)) (w.heap.size + 1) #[.int .i64 x] 3 := by
    have := At.new (w.alloc (.cells #[ptr9 g] 23)) #[.int .i64 x] 3
    have e : (w.alloc (.cells #[ptr9 g] 23)).heap.size = w.heap.size + 1 := by simp
    rw [e] at this; exact this
  unfold ptr9 at *
  generalize hW1 : (w.alloc (.cells #[.pointer (some ⟨g, 0, none⟩)] 23)).alloc (.cells #[.int .i64 x] 3) = W1 at *
  have CW := Lib.hid (c_isWanted (T.reads ba) A (by omega) x)
  have HW1 := Lib.hid hW1
  have HT := Lib.hid T; have HA := Lib.hid A; have HB := Lib.hid hB; have HLD := Lib.hid hL; have HF := Lib.hid hf; have HBA := Lib.hid ba
  have H23 := Lib.hid (show _ ∧ _ from ⟨hA2, hA3⟩)
  have b2 : W1.cell? ⟨w.heap.size, 0, none⟩ = some (.pointer (some ⟨g, 0, none⟩)) := hA2.cell 0
  have b3 : W1.cell? ⟨w.heap.size + 1, 0, none⟩ = some (.int .i64 x) := hA3.cell 0
  clear T A hB hL hf ba hA2 hA3
  unfold ptr9 at *
  go_enter Tryz.func51, Tryz.ntmps51
  go_upto_region 1 with fail
  clear hW1
  go_wp2_with fail
  refine CW.out.mono ?_; rintro r w2 ⟨bb, rfl, hbb, hb2⟩
  cases bb with
  | false =>
    have HR := Lib.hid (show LoopOut w H W x (.returned (.bool false)) w2 from ⟨false, rfl, ⟨fun h => (by cases h), fun h => by
      obtain ⟨c, hc⟩ := h.last
      exact absurd hc (no_loop HA.out HF.out (hbb rfl) c)⟩, HBA.out.trans (hb2.mono HBA.out.size)⟩)
    clear hbb hb2 CW b2 b3
    go_wp2_with fail
    go_ret
    exact HR.out
  | true =>
    clear hbb CW
    have HB2 := Lib.hid hb2
    have c2 : w2.cell? ⟨w.heap.size, 0, none⟩ = some (.pointer (some ⟨g, 0, none⟩)) := (H23.out.1.reads hb2).cell 0
    have c3 : w2.cell? ⟨w.heap.size + 1, 0, none⟩ = some (.int .i64 x) := (H23.out.2.reads hb2).cell 0
    have c3' : ∀ o1 o2, ((w2.alloc o1).alloc o2).cell? ⟨w.heap.size + 1, 0, none⟩ = some (.int .i64 x) := fun o1 o2 =>
      ((((Below.refl _ w2).alloc (Nat.le_refl _) o1).alloc (by simp) o2).cell (p := ⟨w.heap.size + 1, 0, none⟩) (World.block_lt_of_cell? w2 _ c3)).trans c3
    have mk : (Instr.makeMap 109 none).run Tryz.prog w2 = .ok (.map (some w2.heap.size)) (w2.alloc (.map #[] 0)) := RowKit.run_makeMap _ w2
    clear hb2 b2 b3
    go_upto_region 7 with fail
    refine wp_loop_rounds 2 ?_
    rw [rounds_succ]
    go_wp2_with fail
    have hsp := seen_stack w2 x w.heap.size (w.heap.size + 1)
    have ls : LS w g w.heap.size (w.heap.size + 1) (w2.heap.size + 1) (w2.heap.size + 1 + 1 + 1) (w2.heap.size + 1 + 1 + 1 + 1) w2.heap.size x (.slice (some ⟨w2.heap.size + 1 + 1, 0, none⟩) 0 1) 109 38 _ [] :=
      ⟨(HBA.out.trans (HB2.out.mono HBA.out.size)).trans (hsp.1.mono (Nat.le_trans HBA.out.size HB2.out.size)), Nat.le_trans HBA.out.size HB2.out.size, (H23.out.1.reads HB2.out).reads hsp.1, (H23.out.2.reads HB2.out).reads hsp.1, hsp.2.2.1, hsp.2.2.2.1, hsp.2.2.2.2, hsp.2.1⟩
    have CL := c_leads HT.out HA.out HB.out HLD.out ((H.map (·.owner)) ++ (W.map (·.owner))).length [] [] x 1 _ ls ⟨fun _ h => (by cases h), (by simp), (by simp), fun _ h => (by cases h)⟩ (by have := HB.out; simp; omega)
    have HLS := Lib.hid ls; have HCL := Lib.hid CL
    have HSP := Lib.hid hsp.1
    clear ls CL hsp mk c2 c3 c3'
    unfold leadsV ptr9 at *
    have HW := Lib.hid (show w2.heap.size ≤ w2.heap.size from Nat.le_refl _)
    generalize (((((w2.alloc (.map #[] 0)).alloc (.cells #[.map (some w2.heap.size)] 109)).alloc (.cells #[.int .i64 x] 3)).alloc (.cells #[.slice (some ⟨w2.heap.size + 1 + 1, 0, none⟩) 0 1] 36)).alloc (.cells #[.func (.func 82) #[] #[.pointer (some ⟨w.heap.size, 0, none⟩), .pointer (some ⟨w.heap.size + 1, 0, none⟩), .pointer (some ⟨w2.heap.size + 1, 0, none⟩), .pointer (some ⟨w2.heap.size + 1 + 1 + 1, 0, none⟩), .pointer (some ⟨w2.heap.size + 1 + 1 + 1 + 1, 0, none⟩)]] 38)) = W5 at *
    refine HCL.out.mono ?_
    rintro r w6 ⟨b, rfl, S6, hS6, hB6, ht6, hf6⟩
    have d5 : w6.cell? ⟨w2.heap.size + 1 + 1 + 1, 0, none⟩ = some (.slice (some ⟨w2.heap.size + 1 + 1, 0, none⟩) 0 1) := hS6.a5.cell 0
    cases b with
    | true =>
      have HR := Lib.hid (show LoopOut w H W x (.returned (.bool true)) w6 from ⟨true, rfl, ⟨fun _ => ht6 rfl, fun _ => rfl⟩, hS6.bel⟩)
      clear hS6 hB6 ht6 hf6 HCL HLS
      go_wp2_with fail
      go_ret
      exact HR.out
    | false =>
      have hp := hf6 rfl
      have HR := Lib.hid (show LoopOut w H W x (.returned (.bool false)) w6 from ⟨false, rfl, ⟨fun h => (by cases h), fun h => absurd (h.closed (fun y hy => hp.shut y hy (by simp)) hp.mine) hp.no⟩, hS6.bel⟩)
      clear hS6 hB6 ht6 hf6 HCL HLS hp
      go_wp2_with fail
      rw [rounds_succ]
      go_wp2_with fail
      go_ret
      exact HR.out
end
end Go.Proofs.YtainnhcmhgloaaaGreatDoor
