/-
  DiskDoes: a disk and the document's, call by call.
-/
import Derived.Test.YtbenaagooankbaaR3
namespace Go.Proofs.Ytbenaagooankbaa
open Go.RowKit Go.ChangeMaps

/-- a disk (i), and the document's (j), in one state -/
structure Duo (w0 w : World) (o : Nat → Nat) (i j p q : Nat) (S : List ByteArray) (Ws : Wrs) : Prop where
  d : IsD w o i p S Ws
  r : IsR w o j q S Ws
  z : Since w0 o w
  i0 : i ≠ 0
  j0 : j ≠ 0
  ij : i ≠ j
section
variable {w0 w w' : World} {o o' : Nat → Nat} {i j k p q : Nat} {S : List ByteArray} {Ws : Wrs}
theorem Duo.reads (h : Duo w0 w o i j p q S Ws) (b : Below w.heap.size w w') : Duo w0 w' o i j p q S Ws := ⟨h.d.reads b, h.r.reads b, h.z.reads b, h.i0, h.j0, h.ij⟩
theorem Duo.other (h : Duo w0 w o i j p q S Ws) (s : Stp o k w o' w') (h0 : k ≠ 0) (h1 : k ≠ i) (h2 : k ≠ j) : Duo w0 w' o' i j p q S Ws := ⟨h.d.other s (fun e => h1 e.symm), h.r.other s (fun e => h2 e.symm), h.z.step s h0, h.i0, h.j0, h.ij⟩
theorem ArgOps.got {a : Option Addr} {len : Nat} {zs : List OpA} (h : ArgOps w0 a len zs) (Z : Since w0 o w) (t : Nat) (ht : t < len) :
    ∃ (x : OpA) (b off : Nat), a = some ⟨b, off, none⟩ ∧ w.cell? ⟨b, off + t * 4, none⟩ = some (.int .i64 x.k) ∧ w.cell? ⟨b, off + t * 4 + 1, none⟩ = some (.int .i64 x.p) ∧ w.cell? ⟨b, off + t * 4 + 2, none⟩ = some (.string x.s) ∧ w.cell? ⟨b, off + t * 4 + 3, none⟩ = some (.slice x.fa x.fl x.fc) ∧
      x.s.size ≤ maxLen ∧ x.fl ≤ x.fc ∧ x.fc ≤ maxLen ∧ ArgInts w0 x.fa x.fl x.fs := by
  obtain ⟨hl, hz⟩ := h
  have hx : zs[t]? = some zs[t] := List.getElem?_eq_getElem (by omega)
  obtain ⟨_, _, s3, s4, s5, s6, b, off, e, c0, c1, c2, c3⟩ := hz t _ hx
  exact ⟨_, b, off, e, Z.cell c0, Z.cell c1, Z.cell c2, Z.cell c3, s3, s4, s5, s6⟩
theorem eqb_self (n : Int) : (n == n) = true := by simp
set_option maxRecDepth 100000 in
set_option maxHeartbeats 4000000 in
theorem play_any (H : Duo w0 w o i j p q S Ws) (hW : Ws.length ≤ 1000) (x : OpA) (hs : x.s.size ≤ maxLen) (hfl : x.fl ≤ x.fc) (hfc : x.fc ≤ maxLen) (HF : ArgInts w0 x.fa x.fl x.fs) :
    Calls Try.prog 11 #[.pointer (some ⟨p, 0, none⟩), .pointer (some ⟨q, 0, none⟩), .agg #[.int .i64 x.k, .int .i64 x.p, .string x.s, .slice x.fa x.fl x.fc]] w fun e w' =>
      ∃ o' S' Ws', e = .returned (.bool true) ∧ Duo w0 w' o' i j p q S' Ws' ∧ S'.length = S.length ∧ Ws'.length ≤ Ws.length + 1 := by
  obtain ⟨k, pg, s, fa, fl, fc, fs⟩ := x
  dsimp only at hs hfl hfc HF ⊢
  obtain ⟨n, hn1, hn2, hn3, hn4⟩ := cut_at s 300
  have hcs : (s.extract 0 n).size ≤ 300 := by rw [hn4]; exact cutOf_size _ _
  obtain ⟨m, hm1, hm2, hm3⟩ := min_at fl 60
  have hm4 : (m : Int) ≤ (fc : Int) := by omega
  have hm5 : m ≤ 60 := by omega
  have hs2 : (s.size : Int) ≤ 9223372036854775807 := by simp [maxLen] at hs; omega
  have hf2 : (fc : Int) ≤ 9223372036854775807 := by simp [maxLen] at hfc; omega
  simp only [Int.cast_ofNat_Int] at hn1 hm1
  have HM := Lib.hid hm3; clear hm3 hn4
  have HFF := Lib.hid HF; clear HF
  -- the call in a box of its own
  have ko : i + j ≠ 0 := by have := H.i0; omega
  have st0 := stp_new o (i + j + 1) w (.cells #[.int .i64 k, .int .i64 pg, .string s, .slice fa fl fc] 32)
  have H0 := H.other st0 (by omega) (by have := H.j0; omega) (by have := H.i0; omega)
  have oB : gives o w.heap.size (i + j + 1) w.heap.size = i + j + 1 := gives_new (Nat.le_refl _)
  have hB : w.heap.size < (w.alloc (.cells #[.int .i64 k, .int .i64 pg, .string s, .slice fa fl fc] 32)).heap.size := by simp
  have c0 : (w.alloc (.cells #[.int .i64 k, .int .i64 pg, .string s, .slice fa fl fc] 32)).cell? ⟨w.heap.size, 0, none⟩ = some (.int .i64 k) := by rw [World.cell?_alloc_at _ _ _ _ rfl]; rfl
  have c1 : (w.alloc (.cells #[.int .i64 k, .int .i64 pg, .string s, .slice fa fl fc] 32)).cell? ⟨w.heap.size, 1, none⟩ = some (.int .i64 pg) := by rw [World.cell?_alloc_at _ _ _ _ rfl]; rfl
  have c2 : (w.alloc (.cells #[.int .i64 k, .int .i64 pg, .string s, .slice fa fl fc] 32)).cell? ⟨w.heap.size, 2, none⟩ = some (.string s) := by rw [World.cell?_alloc_at _ _ _ _ rfl]; rfl
  have c3 : (w.alloc (.cells #[.int .i64 k, .int .i64 pg, .string s, .slice fa fl fc] 32)).cell? ⟨w.heap.size, 3, none⟩ = some (.slice fa fl fc) := by rw [World.cell?_alloc_at _ _ _ _ rfl]; rfl
  clear st0 H
  go_enter Try.func11, Try.ntmps11
  go_wp2_with fail
  generalize w.alloc (.cells #[.int .i64 k, .int .i64 pg, .string s, .slice fa fl fc] 32) = W0 at *
  generalize gives o w.heap.size (i + j + 1) = o0 at *
  generalize w.heap.size = B at *
  go_quiet (fail)
  have hd := below_drew W0 nq
  have H1 := Lib.hid (H0.reads hd)
  have e0 : (W0.drewN nq).cell? ⟨B, 0, none⟩ = some (.int .i64 k) := c0
  have e1 : (W0.drewN nq).cell? ⟨B, 1, none⟩ = some (.int .i64 pg) := c1
  have hB1 : B < (W0.drewN nq).heap.size := hB
  clear hd H0 c0 c1 c2 c3 hB
  generalize W0.drewN nq = W1 at *
  by_cases k0 : k = 0
  · subst k0
    have hcs2 := hcs
    have OB := Lib.hid oB; clear oB
    generalize s.extract 0 n = U at *
    have far : ∀ (w2 : World) (o2 : Nat → Nat) (ii : Nat), ii ≤ i + j → Stp o0 ii W1.drew o2 w2 → w2.cell? ⟨B, 1, none⟩ = some (.int .i64 pg) := fun w2 o2 ii hii st => (World.cell?_of_block (st.blk B hB1 (by rw [OB.out]; omega)) (a := ⟨B, 1, none⟩)).trans e1
    have FAR := Lib.hid far; clear far
    have H2 := Lib.hid (show Duo w0 W1.drew o0 i j p q S Ws from H1.out.reads ⟨rfl, rfl, rfl, Nat.le_refl _, fun _ _ => rfl⟩)
    by_cases hout : pg < 0 ∨ (S.length : Int) ≤ pg
    · go_wp2_with fail
      go_region_held3 (fun W => W.cell? ⟨B, 1, none⟩ = some (.int .i64 pg)) (first | exact e1 | exact e2 | exact e3)
        (first
          | (go_at_call 9; refine (d_write_arg H2.out.d pg hout _).mono ?_; rintro e w2 ⟨rfl, b2⟩; have e2 := (b2.cell (p := ⟨B, 1, none⟩) hB1).trans e1; have H3 := Lib.hid (H2.out.reads b2); have hB2 : B < w2.heap.size := Nat.lt_of_lt_of_le hB1 b2.size)
          | (go_at_call 29; refine (rwrite_arg H3.out.r pg hout _).mono ?_; rintro e w3 ⟨rfl, b3⟩; have e3 := (b3.cell (p := ⟨B, 1, none⟩) hB2).trans e2; have H4 := Lib.hid (H3.out.reads b3)))
      go_wp2
      go_ret
      exact ⟨_, S, Ws, rfl, H4.out, rfl, by omega⟩
    · obtain ⟨pn, rfl⟩ : ∃ pn : Nat, pg = (pn : Int) := ⟨pg.toNat, by omega⟩
      have hpn : pn < S.length := by omega
      clear hout
      by_cases hbig : 252 < U.size
      · go_wp2_with fail
        go_region_held3 (fun W => W.cell? ⟨B, 1, none⟩ = some (.int .i64 (pn : Int))) (first | exact e1 | exact e2 | exact e3)
          (first
            | (go_at_call 9; refine (d_write_big H2.out.d pn hpn _ hbig).mono ?_; rintro e w2 ⟨rfl, b2⟩; have e2 := (b2.cell (p := ⟨B, 1, none⟩) hB1).trans e1; have H3 := Lib.hid (H2.out.reads b2); have hB2 : B < w2.heap.size := Nat.lt_of_lt_of_le hB1 b2.size)
            | (go_at_call 29; refine (rwrite_big H3.out.r pn hpn _ hbig (by omega)).mono ?_; rintro e w3 ⟨rfl, b3⟩; have e3 := (b3.cell (p := ⟨B, 1, none⟩) hB2).trans e2; have H4 := Lib.hid (H3.out.reads b3)))
        go_wp2
        go_ret
        exact ⟨_, S, Ws, rfl, H4.out, rfl, by omega⟩
      · have hle : U.size ≤ 252 := by omega
        clear hbig
        go_wp2_with fail
        go_region_held3 (fun W => W.cell? ⟨B, 1, none⟩ = some (.int .i64 (pn : Int))) (first | exact e1 | exact e2 | exact e3)
          (first
            | (go_at_call 9; refine (d_write H2.out.d pn hpn _ hle (by omega)).mono ?_; rintro e w2 ⟨o2, rfl, h2, s2⟩; have e2 := FAR.out _ _ _ (by omega) s2; have R2 := Lib.hid (H2.out.r.other s2 (fun e => H2.out.ij e.symm)); have D2 := Lib.hid h2; have Z2 := Lib.hid (H2.out.z.step s2 H2.out.i0); have S2 := Lib.hid s2)
            | (go_at_call 29; refine (rwrite_ok R2.out pn hpn _ hle (by omega)).mono ?_; rintro e w3 ⟨o3, rfl, h3, s3⟩; have H4 := Lib.hid (show Duo w0 w3 o3 i j p q S (Ws ++ [(pn, pageOf U)]) from ⟨D2.out.other s3 H2.out.ij, h3, Z2.out.step s3 H2.out.j0, H2.out.i0, H2.out.j0, H2.out.ij⟩); have e3 : w3.cell? ⟨B, 1, none⟩ = some (.int .i64 (pn : Int)) := (World.cell?_of_block (s3.blk B (Nat.lt_of_lt_of_le hB1 S2.out.size) (by rw [S2.out.own B hB1, OB.out]; omega)) (a := ⟨B, 1, none⟩)).trans e2))
        go_wp2
        go_ret
        exact ⟨_, S, _, rfl, H4.out, rfl, by simp⟩
  · by_cases k1 : k = 1
    · subst k1
      clear k0 oB hB1 e1
      go_wp2_with fail
      refine (d_sync H1.out.d (by omega)).mono ?_; rintro e w2 ⟨rfl, h2, s2⟩
      have R2 := Lib.hid (H1.out.r.other s2 (fun e => H1.out.ij e.symm)); have D2 := Lib.hid h2; have Z2 := Lib.hid (H1.out.z.step s2 H1.out.i0)
      clear h2 s2 e0
      go_wp2_with fail
      refine (rsync_any R2.out (by omega)).mono ?_; rintro e w3 ⟨rfl, h3, s3⟩
      have H4 := Lib.hid (show Duo w0 w3 o0 i j p q (syncOf S Ws) [] from ⟨D2.out.other s3 H1.out.ij, h3, Z2.out.step s3 H1.out.j0, H1.out.i0, H1.out.j0, H1.out.ij⟩)
      clear h3 s3
      go_wp2
      go_ret
      exact ⟨_, _, _, rfl, H4.out, syncOf_length _ _, by simp⟩
    · by_cases k2 : k = 2
      · subst k2
        clear k0 k1 oB hB1 e1
        have F1 := Lib.hid (show FInts W1 o0 i fa m (fs.take 60) by rw [HM.out]; exact (fints_of_arg HFF.out H1.out.z H1.out.i0).take 60)
        go_wp2_with fail
        refine (d_crash H1.out.d (by omega) fa m _ (fs.take 60) F1.out (by omega)).mono ?_; rintro e w2 ⟨rfl, h2, s2⟩
        have R2 := Lib.hid (H1.out.r.other s2 (fun e => H1.out.ij e.symm)); have D2 := Lib.hid h2; have Z2 := Lib.hid (H1.out.z.step s2 H1.out.i0)
        have F2 := Lib.hid (show FInts w2 o0 j fa m (fs.take 60) by rw [HM.out]; exact (fints_of_arg HFF.out Z2.out H1.out.j0).take 60)
        clear h2 s2 e0
        go_wp2_with fail
        refine (rcrash_any R2.out (by omega) fa m _ (fs.take 60) F2.out (by omega)).mono ?_; rintro e w3 ⟨rfl, h3, s3⟩
        have H4 := Lib.hid (show Duo w0 w3 o0 i j p q (crashOf S Ws (fs.take 60)) [] from ⟨D2.out.other s3 H1.out.ij, h3, Z2.out.step s3 H1.out.j0, H1.out.i0, H1.out.j0, H1.out.ij⟩)
        clear h3 s3
        go_wp2
        go_ret
        exact ⟨_, _, _, rfl, H4.out, crashOf_length _ _ _, by simp⟩
      · have g0 : (k == 0) = false := by rw [beq_eq_false_iff_ne]; exact k0
        have g1 : (k == 1) = false := by rw [beq_eq_false_iff_ne]; exact k1
        have g2 : (k == 2) = false := by rw [beq_eq_false_iff_ne]; exact k2
        clear oB hB1 e1
        go_wp2
        go_ret
        exact ⟨_, _, _, rfl, H1.out, rfl, by omega⟩
end
end Go.Proofs.Ytbenaagooankbaa
