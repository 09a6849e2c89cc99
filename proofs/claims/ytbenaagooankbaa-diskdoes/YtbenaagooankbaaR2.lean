/-
  The document's disk (budwoodref04): the contracts of New, Sync, Crash, Dirty, Copy.
-/
import Derived.Test.YtbenaagooankbaaR1
namespace Go.Proofs.Ytbenaagooankbaa
open Go.RowKit Go.ChangeMaps

section
variable {w w' : World} {o o' : Nat → Nat} {i j p : Nat} {vl vw : Value} {S : List ByteArray} {Ws : Wrs}
theorem crN_step (S : List ByteArray) (Ws : Wrs) (fs : List Int) (t : Nat) (x : Nat × ByteArray) (f : Int) (q : ByteArray) (hx : Ws[t]? = some x) (hf : fs.getD t 0 = f) (hq : (crN S Ws fs t)[x.1]? = some q) :
    crN S Ws fs (t + 1) = (crN S Ws fs t).set x.1 (leftOf f x.2 q) := by
  simp only [crN]
  rw [hf, List.getD_eq_getElem?_getD, hx, List.getD_eq_getElem?_getD]
  simp only [Option.getD_some]
  rw [hq]; rfl
theorem leftOf_kept (s t : ByteArray) : leftOf 1 s t = s := rfl
theorem leftOf_torn (s t : ByteArray) : leftOf 2 s t = tornOf s t := rfl
set_option maxHeartbeats 1000000 in
theorem rsync_any (H : IsR w o i p S Ws) (hW : Ws.length ≤ 1000000) :
    Calls Try.prog 30 #[.pointer (some ⟨p, 0, none⟩)] w fun e w' => e = .returned (.tuple #[]) ∧ IsR w' o i p (syncOf S Ws) [] ∧ Stp o i w o w' := by
  obtain ⟨vl, vw, H⟩ := H
  obtain ⟨a, C, b, D, rfl, rfl⟩ := H.slots
  have HH := Lib.hid H; clear H
  go_enter Try.func30, Try.ntmps30
  go_wp2
  go_loopw [2] (fun c wr => ∃ t : Nat, t ≤ Ws.length ∧ c = .int .i64 (t : Int) ∧ IsN wr o i p (.slice a S.length C) (.slice b Ws.length D) (crN S Ws (List.replicate Ws.length 1) t) Ws ∧ Stp o i w o wr) (fun c _ => Ws.length - (intOf c).toNat)
  case atStart => exact ⟨0, by omega, rfl, HH.out, Stp.refl _ _ _⟩
  case round =>
    obtain ⟨t, ht, rfl, hN, hS⟩ := hrel
    clear HH
    have hcl := crN_length S Ws (List.replicate Ws.length 1) t
    have c1 := hN.c1
    by_cases hlt : t < Ws.length
    · have h0 : (t : Int) < (Ws.length : Int) := by omega
      have h00 : (0 : Int) ≤ (t : Int) := by omega
      obtain ⟨⟨k, s⟩, hx⟩ : ∃ x, Ws[t]? = some x := ⟨_, List.getElem?_eq_getElem hlt⟩
      have hxw := hN.ws _ (List.mem_of_getElem? hx)
      dsimp only at hxw
      obtain ⟨gw, rfl, d0, d1⟩ := hN.wat t _ hx
      obtain ⟨q, hq⟩ : ∃ q, (crN S Ws (List.replicate Ws.length 1) t)[k]? = some q := ⟨_, List.getElem?_eq_getElem hxw.1⟩
      have HE := Lib.hid (crN_step S Ws _ t (k, s) 1 q hx (by rw [List.getD_eq_getElem?_getD, List.getElem?_replicate, if_pos hlt]; rfl) hq)
      rw [leftOf_kept] at HE
      dsimp only at HE d0 d1
      rw [← hcl] at hN
      obtain ⟨g, rfl, cg, fg⟩ := hN.lat k q hq
      have c0 := hN.c0
      rw [hcl] at c0
      obtain ⟨hN2, s2⟩ := hN.drew.setL k s hxw.1 hxw.2
      have hkS : (k : Int) < (S.length : Int) := by omega
      have hk0 : (0 : Int) ≤ (k : Int) := by omega
      rw [hcl] at hN2
      have HN := Lib.hid hN2
      have HS := Lib.hid ((hS.trans (Stp.drew o i wr)).trans s2)
      clear hN hN2 s2 hS hq hxw hx hcl
      go_wp2_with fail
      go_still_tail 21, (by kernel_rfl)
      change wpList _ _ _ _ _ wr.drew
      go_wp2
      exact ⟨⟨t + 1, by omega, by go_num, by rw [HE.out]; exact HN.out, HS.out⟩, by simp [intOf]; omega⟩
    · obtain rfl : t = Ws.length := by omega
      have f1 := hN.fz 1
      have HC := Lib.hid hN.cleared
      have HS := Lib.hid (hS.trans (Stp.setCell o i wr p 1 (.slice none 0 0) hN.op))
      clear hN hS
      go_wp2
      go_end0
      exact ⟨rfl, ⟨_, _, HC.out⟩, HS.out⟩
set_option maxRecDepth 100000 in
set_option maxHeartbeats 2000000 in
theorem rcrash_any (H : IsR w o i p S Ws) (hW : Ws.length ≤ 1000000) (fa : Option Addr) (fl fc : Nat) (fs : List Int) (HF : FInts w o i fa fl fs) (hfl : fl ≤ 1000000) :
    Calls Try.prog 31 #[.pointer (some ⟨p, 0, none⟩), .slice fa fl fc] w fun e w' => e = .returned (.tuple #[]) ∧ IsR w' o i p (crashOf S Ws fs) [] ∧ Stp o i w o w' := by
  obtain ⟨vl, vw, H⟩ := H
  obtain ⟨a, C, b, D, rfl, rfl⟩ := H.slots
  have HH := Lib.hid H; have HF0 := Lib.hid HF; clear H HF
  go_enter Try.func31, Try.ntmps31
  go_wp2
  go_loopw [4] (fun c wr => ∃ t : Nat, t ≤ Ws.length ∧ t ≤ fl ∧ c = .int .i64 (t : Int) ∧ IsN wr o i p (.slice a S.length C) (.slice b Ws.length D) (crN S Ws fs t) Ws ∧ Stp o i w o wr) (fun c _ => Ws.length - (intOf c).toNat)
  case atStart => exact ⟨0, by omega, by omega, rfl, HH.out, Stp.refl _ _ _⟩
  case round =>
    obtain ⟨t, ht, htf, rfl, hN, hS⟩ := hrel
    clear HH
    have hcl := crN_length S Ws fs t
    have c1 := hN.c1
    have hFr := HF0.out.stp hS
    by_cases hc : t < Ws.length ∧ t < fl
    · obtain ⟨hlt, hf⟩ := hc
      have h0 : (t : Int) < (Ws.length : Int) := by omega
      have h01 : (t : Int) < (fl : Int) := by omega
      have h00 : (0 : Int) ≤ (t : Int) := by omega
      obtain ⟨⟨k, s⟩, hx⟩ : ∃ x, Ws[t]? = some x := ⟨_, List.getElem?_eq_getElem hlt⟩
      have hxw := hN.ws _ (List.mem_of_getElem? hx)
      dsimp only at hxw
      obtain ⟨gw, rfl, d0, d1⟩ := hN.wat t _ hx
      obtain ⟨q, hq⟩ : ∃ q, (crN S Ws fs t)[k]? = some q := ⟨_, List.getElem?_eq_getElem hxw.1⟩
      have hq256 := hN.sz q (List.mem_of_getElem? hq)
      have HQ := Lib.hid hq
      obtain ⟨f, hfx⟩ : ∃ f, fs[t]? = some f := ⟨_, List.getElem?_eq_getElem (by rw [hFr.1]; exact hf)⟩
      obtain ⟨fb, fo, rfl, hfc, hfo⟩ := hFr.2 t f hfx
      have HE := Lib.hid (crN_step S Ws fs t (k, s) f q hx (by rw [List.getD_eq_getElem?_getD, hfx]; rfl) hq)
      dsimp only at HE d0 d1
      rw [← hcl] at hN
      obtain ⟨g, rfl, cg, fg⟩ := hN.lat k q hq
      have hkS : (k : Int) < (S.length : Int) := by omega
      have hk0 : (0 : Int) ≤ (k : Int) := by omega
      have c0 := hN.c0
      rw [hcl] at c0
      -- the write is copied into a box of its own
      have hNa := hN.alloc (.cells #[.int .i64 (k : Int), .string s] 68)
      have hSa := hS.trans (Stp.alloc o i wr (.cells #[.int .i64 (k : Int), .string s] 68))
      have hBa := (Below.refl wr.heap.size wr).alloc (Nat.le_refl _) (.cells #[.int .i64 (k : Int), .string s] 68)
      have a0 : (wr.alloc (.cells #[.int .i64 (k : Int), .string s] 68)).cell? ⟨wr.heap.size, 0, none⟩ = some (.int .i64 (k : Int)) := by rw [World.cell?_alloc_at _ _ _ _ rfl]; rfl
      have a1 : (wr.alloc (.cells #[.int .i64 (k : Int), .string s] 68)).cell? ⟨wr.heap.size, 1, none⟩ = some (.string s) := by rw [World.cell?_alloc_at _ _ _ _ rfl]; rfl
      have a2 := (hBa.cell (p := ⟨p, 0, none⟩) hN.ltp).trans c0
      have a3 := (hBa.cell (p := ⟨g, k, none⟩) (World.block_lt_of_cell? wr _ cg)).trans cg
      have a4 := (hBa.frozen (p := ⟨g, k, none⟩) (World.block_lt_of_cell? wr _ cg)).trans fg
      have a5 := (hBa.cell (p := ⟨fb, fo + t, none⟩) (World.block_lt_of_cell? wr _ hfc)).trans hfc
      have og : o g = i := hN.hl.own g rfl
      have hfg : fb ≠ g := fun e => hfo (by rw [e]; exact og)
      have far : ∀ (W : World) (u : Value), (W.setCell ⟨g, k, none⟩ u).cell? ⟨fb, fo + t, none⟩ = W.cell? ⟨fb, fo + t, none⟩ := fun W u => World.cell?_of_block (Below.heap_setCell _ _ _ _ hfg)
      clear hBa c0 cg fg hfx hx hq hN hS hfo hFr og
      have HNa := Lib.hid hNa; have HSa := Lib.hid hSa; have FAR := Lib.hid far
      clear hNa hSa far
      generalize hW0 : wr.alloc (.cells #[.int .i64 (k : Int), .string s] 68) = W0 at *
      by_cases f1 : f = 1
      · subst f1
        rw [leftOf_kept] at HE
        obtain ⟨hN2, s2⟩ := HNa.out.drew.setL k s hxw.1 hxw.2
        rw [hcl] at hN2
        have HN := Lib.hid hN2
        have HS := Lib.hid ((HSa.out.trans (Stp.drew o i W0)).trans s2)
        have a6 := (FAR.out W0.drew (.string s)).trans (show W0.drew.cell? _ = _ from a5)
        clear hN2 s2 HNa HSa hcl hxw
        go_wp2_with fail
        try rw [hW0]
        clear hW0
        generalize wr.heap.size = B at *
        go_still_tail 9, (by kernel_rfl)
        change wpList _ _ _ _ _ W0.drew
        go_wp2
        exact ⟨⟨t + 1, by omega, by omega, by go_num, by rw [HE.out]; exact HN.out, HS.out⟩, by simp [intOf]; omega⟩
      · by_cases f2 : f = 2
        · subst f2
          rw [leftOf_torn] at HE
          have C3 := Lib.hid (fun W => rtorn_any s q W (by omega) (by omega))
          have hts := tornOf_size s q hxw.2 hq256
          generalize tornOf s q = T at *
          obtain ⟨hN2, s2⟩ := HNa.out.drew.setL k T hxw.1 hts
          rw [hcl] at hN2
          have HN := Lib.hid hN2
          have HS := Lib.hid ((HSa.out.trans (Stp.drew o i W0)).trans s2)
          clear hN2 s2 HNa HSa hcl hxw f1
          go_wp2_with fail
          try rw [hW0]
          clear hW0
          generalize wr.heap.size = B at *
          refine wp_region_still_tail 18 (by kernel_rfl) (by kernel_rfl) ?_
          simp only [List.take_succ_cons, List.take_zero, List.drop_succ_cons, List.drop_zero]
          change wpStill _ _ W0.drew _ _ _
          repeat (first | still_step | still_call ((C3.out _).mono (fun e w' h => ⟨h.1, h.2.symm⟩)))
          refine wpStill_nil ?_
          go_wp2
          exact ⟨⟨t + 1, by omega, by omega, by go_num, by rw [HE.out]; exact HN.out, HS.out⟩, by simp [intOf]; omega⟩
        · rw [leftOf_lost f s q f1 f2] at HE
          have hst : (crN S Ws fs t).set k q = crN S Ws fs t := by
            apply List.ext_getElem?
            intro j
            rw [List.getElem?_set]
            split
            · rename_i e; subst e; rw [if_pos hxw.1]; exact HQ.out.symm
            · rfl
          rw [hst] at HE
          have g1 : (f == 1) = false := by rw [beq_eq_false_iff_ne]; exact f1
          have g2 : (f == 2) = false := by rw [beq_eq_false_iff_ne]; exact f2
          have HN := Lib.hid (show IsN W0 o i p (.slice (some ⟨g, 0, none⟩) S.length C) (.slice (some ⟨gw, 0, none⟩) Ws.length D) (crN S Ws fs t) Ws by rw [← hcl]; exact HNa.out)
          clear hst hcl hxw f1 f2 HNa
          go_wp2_with fail
          try rw [hW0]
          exact ⟨⟨t + 1, by omega, by omega, by go_num, by rw [HE.out]; exact HN.out, HSa.out⟩, by simp [intOf]; omega⟩
    · have f1 := hN.fz 1
      have HC := Lib.hid hN.cleared
      have HS := Lib.hid (hS.trans (Stp.setCell o i wr p 1 (.slice none 0 0) hN.op))
      have HE := Lib.hid (show crN S Ws fs t = crashOf S Ws fs by
        unfold crashOf
        by_cases e : t < Ws.length
        · have hle : fs.length ≤ t := by rw [hFr.1]; omega
          obtain ⟨d, hd⟩ : ∃ d, Ws.length = t + d := ⟨Ws.length - t, by omega⟩
          rw [hd, crN_past S Ws fs t d hle]
        · rw [show t = Ws.length by omega])
      clear hN hS hFr HF0
      by_cases h1 : t < Ws.length
      · have c2 : (t : Int) < (Ws.length : Int) := by omega
        have c3 : (fl : Int) ≤ (t : Int) := by omega
        clear hc
        go_wp2
        go_end0
        exact ⟨rfl, ⟨_, _, by rw [← HE.out]; exact HC.out⟩, HS.out⟩
      · have c2 : (Ws.length : Int) ≤ (t : Int) := by omega
        clear hc
        go_wp2
        go_end0
        exact ⟨rfl, ⟨_, _, by rw [← HE.out]; exact HC.out⟩, HS.out⟩
end
end Go.Proofs.Ytbenaagooankbaa
