/-
  Package lock: who waits for whom, followed: the contract of the closure that calls itself.
-/
import Derived.Test.YtainnhcmhgloaaaGreatDoorW09i
namespace Go.Proofs.YtainnhcmhgloaaaGreatDoor
open Go.RowKit Go.Shelf Go.MapKept Go.Maps Go.Sort

section
variable {w w' wr W2 : World} {o0 : Nat → Nat} {j g m1 m2 m3 B2 B3 B4 B5 B6 ms : Nat} {N : List En} {HL : List Ho} {WL H W : Hs} {n0 : ByteArray} {e : En} {o : Int} {lat : Value} {T4 T6 : TypeId} {S S' : List Int}
/-- what before tells: those who hold against one, and the one just ahead -/
structure BefO (H W : Hs) (x : Int) (w : World) (w' : World) (v : Value) (a : Option Addr) (p : Nat) (l : List Int) : Prop where
  row : w'.ownsRow w.heap.size 3 1 v l.length (l.map (Value.int .i64))
  bel : Below w.heap.size w w'
  ln : l.length ≤ 1000
  pn : p ≤ 1000
  zero : p = 0 → ∀ b, b ∈ l ↔ Bq H W x b
  some : ∀ k, p = k + 1 → ∃ gq z, a = .some ⟨gq, 0, none⟩ ∧ w.cell? ⟨gq, k, none⟩ = .some (.int .i64 z) ∧ ∀ b, b ∈ l ++ [z] ↔ Bq H W x b
theorem c_before_any (T : IsT w o0 j g m1 m2 m3 N HL WL) (A : Abs N HL WL H W n0 []) (hB : H.length + W.length ≤ 900) (hL : Laid9 w) (x : Int) :
    Calls Tryz.prog 38 #[ptr9 g, .int .i64 x] w fun r w' => ∃ v a p c, r = .returned (.tuple #[v, .slice a p c]) ∧ ∃ l, BefO H W x w w' v a p l := by
  rcases forP_cases W x with hno | ⟨y, hy, rfl⟩
  · refine (c_before_no T x (fun y hy => hno y (A.wm.mem_iff.1 hy))).mono ?_
    rintro r w' ⟨rfl, b⟩
    exact ⟨_, _, _, _, rfl, [], World.ownsRow_nil _ _ _ _, b, by simp, by omega, fun _ b => ⟨fun h => (by cases h), fun h => absurd h (bq_no hno b)⟩, fun k hk => by omega⟩
  · refine (c_before T A (by omega) hL hy).mono ?_
    rintro r w' ⟨v, a, p, c, rfl, l, l1, l2, e, un, he, hn, hqv, hsp, rfl, hl, hrow, b⟩
    have hnd := hs_nodup (T.eh e he)
    have key := next_bq A hy he hn hnd hsp hl
    have hln : l.length ≤ 1000 := by
      have h1 := hl.length_eq
      have h2 := List.length_filter_le (badP e.hs y.owner y.mode) (e.hs.map (·.1))
      have h3 := (A.bounds he).2.2
      simp at h2; omega
    have hl1 : l1.length ≤ 1000 := by
      have h1 : (nameL W y.name).length ≤ W.length := List.length_filter_le _ _
      rw [hsp] at h1; simp at h1; omega
    refine ⟨_, _, _, _, rfl, l, hrow, b, hln, hl1, fun h0 b => ?_, fun k hk => ?_⟩
    · have : l1 = [] := List.eq_nil_of_length_eq_zero h0
      subst this
      have := key b
      simpa using this
    · obtain ⟨ys, z, rfl⟩ : ∃ ys z, l1 = ys ++ [z] := by
        rcases List.eq_nil_or_concat l1 with h | ⟨ys, z, h⟩
        · rw [h] at hk; simp at hk
        · exact ⟨ys, z, by rw [h]; simp⟩
      have hk2 : k = ys.length := by simp at hk; omega
      have hq : e.q[k]? = .some z.owner := by
        rw [A.q_len he, hn, hsp, hk2]; simp
      have hun : (e.qv = .slice a un c) := hqv
      have hr := T.er e he
      rw [hqv] at hr
      obtain ⟨gq, h1, h2⟩ := row_cell9 hr hq
      exact ⟨gq, z.owner, h1, h2, fun b => by have := key b; simpa using this⟩
theorem seen_ne {S : List Int} {x : Int} (hx : x ∉ S) : ∀ y ∈ S.map skv, y.1 ≠ .int .i64 x := fun y hy e => by
  obtain ⟨p, hp, rfl⟩ := List.mem_map.1 hy
  have : p = x := by simpa [skv] using e
  exact hx (this ▸ hp)
theorem seen_put {w : World} {m : Nat} {S : List Int} (M : MapAt (.int .i64) w m (S.map skv)) (x : Int) (hx : x ∉ S) :
    ∃ w', (Instr.mapUpdate 109 (.map (some m)) (.int .i64 x) (.agg #[])).run Tryz.prog w = .ok () w' ∧ MapAt (.int .i64) w' m ((S ++ [x]).map skv) ∧ Only m w w' := by
  obtain ⟨w', h1, h2, h3⟩ := M.putNew Tryz.underlying109 Tryz.underlying3 (show IsKey (.int .i64) (.int .i64 x) from rfl) (seen_ne hx) (.agg #[])
  exact ⟨w', h1, by rw [List.map_append]; exact h2, h3⟩
theorem seen_yes {w : World} {m : Nat} {S : List Int} (M : MapAt (.int .i64) w m (S.map skv)) (x : Int) (hx : x ∈ S) : (Instr.lookup 109 (.map (some m)) (.int .i64 x) true).run Tryz.prog w = .ok (.tuple #[.agg #[], .bool true]) w :=
  M.look Tryz.underlying109 Tryz.underlying3 (List.mem_map.2 ⟨x, hx, rfl⟩) true
theorem seen_no {w : World} {m : Nat} {S : List Int} (M : MapAt (.int .i64) w m (S.map skv)) (x : Int) (hx : x ∉ S) : (Instr.lookup 109 (.map (some m)) (.int .i64 x) true).run Tryz.prog w = .ok (.tuple #[.agg #[], .bool false]) w :=
  M.lookNo Tryz.underlying109 Tryz.underlying3 (show IsKey (.int .i64) (.int .i64 x) from rfl) (seen_ne hx) (Tryz.zeroValue110 w) true
/-- what following somebody asks for, and leaves -/
structure LPre (H W : Hs) (o : Int) (U : List Int) (M : Nat) (S O : List Int) (f : Int) : Prop where
  univ : ∀ x ∈ S, x ∈ U
  room : U.length ≤ S.length + M
  no : o ∉ S
  shut : ∀ x ∈ S, x ∉ f :: O → ∀ b, Bq H W x b → b ∈ S
structure LPost (H W : Hs) (o : Int) (U : List Int) (S O S' : List Int) (f : Int) : Prop where
  sub : ∀ x ∈ S, x ∈ S'
  univ : ∀ x ∈ S', x ∈ U
  no : o ∉ S'
  mine : ∀ b, Bq H W f b → b ∈ S'
  shut : ∀ x ∈ S', x ∉ O → ∀ b, Bq H W x b → b ∈ S'
structure LInv (H W : Hs) (o : Int) (U : List Int) (M : Nat) (S O : List Int) (f : Int) (L : List Int) (t : Nat) (S' : List Int) : Prop where
  sub : ∀ x ∈ S, x ∈ S'
  univ : ∀ x ∈ S', x ∈ U
  room : U.length ≤ S'.length + M
  no : o ∉ S'
  shut : ∀ x ∈ S', x ∉ f :: O → ∀ b, Bq H W x b → b ∈ S'
  seen : ∀ k b, k < t → L[k]? = .some b → b ∈ S'
theorem LInv.start {U L O : List Int} {M : Nat} {f : Int} (h : LPre H W o U M S O f) : LInv H W o U M S O f L 0 S := ⟨fun _ h => h, h.univ, h.room, h.no, h.shut, fun k b hk => by omega⟩
theorem LInv.next {U L O : List Int} {M t : Nat} {f x : Int} (h : LInv H W o U M S O f L t S') (hx : L[t]? = .some x) (hm : x ∈ S') : LInv H W o U M S O f L (t + 1) S' :=
  ⟨h.sub, h.univ, h.room, h.no, h.shut, fun k b hk hb => by
    rcases Nat.lt_or_ge k t with h1 | h1
    · exact h.seen k b h1 hb
    · obtain rfl : k = t := by omega
      rw [hx] at hb; cases hb; exact hm⟩
theorem LInv.pre {U L O : List Int} {M t : Nat} {f x : Int} (h : LInv H W o U M S O f L t S') (hn : S'.Nodup) (hx : x ∉ S') (hxo : x ≠ o) (hU : x ∈ U) : 0 < M ∧ LPre H W o U (M - 1) (S' ++ [x]) (f :: O) x := by
  have h1 := nodup_len (x :: S') U (List.nodup_cons.2 ⟨hx, hn⟩) (fun y hy => by
    rcases List.mem_cons.1 hy with rfl | hy
    · exact hU
    · exact h.univ y hy)
  have h2 := h.room
  simp at h1
  refine ⟨by omega, fun y hy => ?_, by simp; omega, fun hy => ?_, fun y hy hno b hb => ?_⟩
  · rcases List.mem_append.1 hy with hy | hy
    · exact h.univ y hy
    · obtain rfl := List.mem_singleton.1 hy; exact hU
  · rcases List.mem_append.1 hy with hy | hy
    · exact h.no hy
    · exact hxo (List.mem_singleton.1 hy).symm
  · rcases List.mem_append.1 hy with hy | hy
    · exact List.mem_append_left _ (h.shut y hy (fun e => hno (List.mem_cons_of_mem _ e)) b hb)
    · exact absurd (List.mem_cons.2 (.inl (List.mem_singleton.1 hy))) hno
theorem LInv.post {U L O S2 : List Int} {M t : Nat} {f x : Int} (h : LInv H W o U M S O f L t S') (_hn2 : S2.Nodup) (hn : S'.Nodup) (hx : L[t]? = .some x) (p : LPost H W o U (S' ++ [x]) (f :: O) S2 x) : LInv H W o U M S O f L (t + 1) S2 := by
  have s1 : ∀ y ∈ S', y ∈ S2 := fun y hy => p.sub y (List.mem_append_left _ hy)
  refine ⟨fun y hy => s1 y (h.sub y hy), p.univ, ?_, p.no, p.shut, fun k b hk hb => ?_⟩
  · have := nodup_len S' S2 hn s1
    have := h.room; omega
  · rcases Nat.lt_or_ge k t with h1 | h1
    · exact s1 b (h.seen k b h1 hb)
    · obtain rfl : k = t := by omega
      rw [hx] at hb; cases hb; exact p.sub _ (by simp)
theorem LInv.done {U L O : List Int} {M : Nat} {f : Int} (h : LInv H W o U M S O f L L.length S') (hbq : ∀ b, b ∈ L ↔ Bq H W f b) : LPost H W o U S O S' f := by
  have key : ∀ b, Bq H W f b → b ∈ S' := fun b hb => by
    obtain ⟨k, hk, e⟩ := List.getElem_of_mem ((hbq b).2 hb)
    exact h.seen k b hk (by rw [List.getElem?_eq_getElem hk, e])
  refine ⟨h.sub, h.univ, h.no, key, fun x hx hO b hb => ?_⟩
  by_cases e : x = f
  · subst e; exact key b hb
  · exact h.shut x hx (fun h1 => by
      rcases List.mem_cons.1 h1 with h1 | h1
      · exact e h1
      · exact hO h1) b hb
theorem own_cell9 {base n : Nat} {na : Option Addr} {nn nc : Nat} {L : List Int} (h : w.ownsRow base 3 1 (.slice na nn nc) n (L.map (Value.int .i64))) {t : Nat} {x : Int} (hx : L[t]? = .some x) : ∃ ga, na = .some ⟨ga, 0, none⟩ ∧ w.cell? ⟨ga, t, none⟩ = .some (.int .i64 x) := by
  rcases h.2 with ⟨_, h0⟩ | ⟨g, cap, cur, hv, hb, hg, h1, h2, h3, h4⟩
  · have := h.1
    rw [h0] at this
    have : L = [] := List.eq_nil_of_length_eq_zero (by simpa using this)
    rw [this] at hx; cases hx
  · cases hv
    refine ⟨g, rfl, ?_⟩
    have := h.cells (g := g) rfl t (.int .i64 x) (by rw [List.getElem?_map, hx]; rfl)
    rwa [add_zero'] at this
/-- what following somebody answers -/
def LOut (w : World) (g B2 B3 B4 B5 B6 ms : Nat) (o : Int) (lat : Value) (T4 T6 : TypeId) (H W : Hs) (S O : List Int) (f : Int) (wz : World) (r : Ending) (w' : World) : Prop :=
  ∃ b : Bool, r = .returned (.bool b) ∧ ∃ S', LS w g B2 B3 B4 B5 B6 ms o lat T4 T6 w' S' ∧ But ms wz w' ∧ (b = true → Bqs H W f o) ∧ (b = false → LPost H W o (H.map (·.owner) ++ W.map (·.owner)) S O S' f)
set_option maxRecDepth 100000 in
set_option maxHeartbeats 4000000 in
theorem c_leads (T : IsT w o0 j g m1 m2 m3 N HL WL) (A : Abs N HL WL H W n0 []) (hB : H.length + W.length ≤ 900) (hL : Laid9 w) : ∀ (M : Nat) (S O : List Int) (f : Int) (deep : Nat) (wz : World), LS w g B2 B3 B4 B5 B6 ms o lat T4 T6 wz S → LPre H W o (H.map (·.owner) ++ W.map (·.owner)) M S O f → deep + M ≤ 999 →
    Calls Tryz.prog 82 #[.int .i64 f, .int .i64 (deep : Int), ptr9 B2, ptr9 B3, ptr9 B4, ptr9 B5, ptr9 B6] wz (LOut w g B2 B3 B4 B5 B6 ms o lat T4 T6 H W S O f wz) := by
  intro M
  induction M using Nat.strongRecOn with
  | ind M ih =>
    intro S O f deep wz hS hP hd
    have CB := Lib.hid (c_before_any (T.reads hS.bel) A hB (hL.step hS.bel) f)
    have HS := Lib.hid hS; have HP := Lib.hid hP; have IH := Lib.hid ih
    have b20 : wz.cell? ⟨B2, 0, none⟩ = some (.pointer (some ⟨g, 0, none⟩)) := hS.a2.cell 0
    have hd1 : (deep : Int) ≤ 999 := by omega
    have hd0 : (0 : Int) ≤ (deep : Int) := by omega
    have HD := Lib.hid hd
    obtain ⟨i0, hi, hz0, hz1, hz2⟩ := info_parts info_int
    clear T A hB hL hS hP ih hd
    unfold ptr9 at *
    go_enter Tryz.func82, Tryz.ntmps82
    go_wp2_with fail
    refine CB.out.mono ?_; rintro r w1 ⟨v, a, p, c, rfl, l, hb⟩
    have HBE := Lib.hid hb
    have hp1 : (p : Int) ≤ 1000 := by have := hb.pn; omega
    have hp0 : (0 : Int) ≤ (p : Int) := by omega
    clear CB hb b20
    go_upto_if 27 with fail
    go_cut [10, 12] (fun u _ wx => ∃ L : List Int, LS w g B2 B3 B4 B5 B6 ms o lat T4 T6 wx S ∧ But ms wz wx ∧ wx.ownsRow wz.heap.size 3 1 u L.length (L.map (Value.int .i64)) ∧ L.length ≤ 1001 ∧ wz.heap.size ≤ wx.heap.size ∧ ∀ b, b ∈ L ↔ Bq H W f b)
    case first =>
      by_cases hpz : p = 0
      · subst hpz
        have HF := Lib.hid (show _ ∧ _ ∧ _ ∧ _ ∧ _ ∧ _ from ⟨HS.out.reads HBE.out.bel, But.of (m := ms) HBE.out.bel, HBE.out.row, Nat.le_succ_of_le HBE.out.ln, HBE.out.bel.size, HBE.out.zero rfl⟩)
        clear HBE hi hz0 hz1 hz2
        go_wp2_with fail
        go_meet
        exact ⟨l, HF.out⟩
      · obtain ⟨k, hk⟩ : ∃ k, p = k + 1 := ⟨p - 1, by omega⟩
        obtain ⟨gq, z, rfl, cz, hbq⟩ := HBE.out.some k hk
        have cz1 : w1.cell? ⟨gq, k, none⟩ = some (.int .i64 z) := (HBE.out.bel.cell (p := ⟨gq, k, none⟩) (World.block_lt_of_cell? wz _ cz)).trans cz
        have e1 : (p : Int) - 1 = (k : Int) := by omega
        have e2 : (0 : Int) ≤ (k : Int) := by omega
        have e3 : (k : Int) < (p : Int) := by omega
        have HBQ := Lib.hid hbq
        have hrow := HBE.out.row
        have hll : l.length ≤ 1000 := HBE.out.ln
        have hsz : wz.heap.size ≤ w1.heap.size := HBE.out.bel.size
        have HROW := Lib.hid hrow
        have e4 : (1 : Int) ≤ (p : Int) := by omega
        have e5 : k < p := by omega
        have HB1 := Lib.hid HBE.out.bel
        have HBQ := Lib.hid hbq
        have hrow := HBE.out.row
        have hll : l.length ≤ 1000 := HBE.out.ln
        have hsz : wz.heap.size ≤ w1.heap.size := HBE.out.bel.size
        have HROW := Lib.hid hrow
        clear hbq cz hrow hpz HBE
        clear hk
        go_wp2_with (at_builtin; refine wpList_append_own _ rfl _ _ 36 rfl wz.heap.size 3 i0 (.int .i64 0) 1 8 Tryz.underlying36 hi hz0 hz1 hz2 rfl (by decide) _ _ _ rfl (HROW.out.alloc _) ⟨w1.heap.size, 0, none⟩ 1 1 [.int .i64 z] rfl rfl (cell_one_new _ _) (by simp [Value.oneCell']) (by simp [maxLen]; omega) (by omega) (by simp; omega) ?_; intro v' w4 hown' hgrow _)
        have hb4 := below_append HB1.out HROW.out hgrow (Nat.le_refl _) hsz
        have HF := Lib.hid (show _ ∧ _ ∧ _ ∧ _ ∧ _ ∧ _ from ⟨HS.out.reads hb4, But.of (m := ms) hb4, hown', (show (l ++ [z]).length ≤ 1001 by simp; omega), hb4.size, HBQ.out⟩)
        clear hown' hgrow hb4 hi hz0 hz1 hz2 cz1 HROW HBQ HB1
        go_wp2_with fail
        go_meet
        refine ⟨l ++ [z], HF.out.1, HF.out.2.1, ?_, HF.out.2.2.2.1, HF.out.2.2.2.2.1, HF.out.2.2.2.2.2⟩
        have := HF.out.2.2.1
        simpa using this
    case rest =>
      obtain ⟨L, hS1, hbut, hrow, hln, hszx, hbq⟩ := hcut
      obtain ⟨na, nn, nc, rfl⟩ : ∃ a n c, u10 = .slice a n c := by
        rcases hrow.2 with ⟨h, _⟩ | ⟨g, cap, cur, h, _⟩
        · exact ⟨_, _, _, h⟩
        · exact ⟨_, _, _, h⟩
      obtain rfl : nn = L.length := by
        rcases hrow.2 with ⟨h, h0⟩ | ⟨g, cap, cur, h, _⟩
        · cases h; exact h0.symm
        · cases h; rfl
      have HI := Lib.hid (LInv.start (L := L) HP.out)
      have H1 := Lib.hid (show _ ∧ _ ∧ _ from ⟨hS1, hbut, hrow⟩)
      have HBQ := Lib.hid hbq
      clear hS1 hbut hrow hszx hbq HBE hi hz0 hz1 hz2
      go_wp2_with fail
      go_loopw [37] (fun cc wr => ∃ (t : Nat) (S' : List Int), t ≤ L.length ∧ cc = .int .i64 (t : Int) ∧ LS w g B2 B3 B4 B5 B6 ms o lat T4 T6 wr S' ∧ But ms wz wr ∧ wr.ownsRow wz.heap.size 3 1 (.slice na L.length nc) L.length (L.map (Value.int .i64)) ∧ LInv H W o (H.map (·.owner) ++ W.map (·.owner)) M S O f L t S') (fun cc _ => L.length - (intOf cc).toNat)
      case atStart => exact ⟨0, S, by omega, rfl, H1.out.1, H1.out.2.1, H1.out.2.2, HI.out⟩
      case round =>
        obtain ⟨t, S', ht, rfl, hS', hbut, hrow, hinv⟩ := hrel
        clear HI H1
        by_cases hlt : t < L.length
        · have c1 : (t : Int) < (L.length : Int) := by omega
          have c2 : (0 : Int) ≤ (t : Int) := by omega
          obtain ⟨x, hx⟩ : ∃ x, L[t]? = some x := ⟨_, List.getElem?_eq_getElem hlt⟩
          obtain ⟨ga, rfl, cx⟩ := own_cell9 hrow hx
          have b3 : wr.cell? ⟨B3, 0, none⟩ = some (.int .i64 o) := hS'.a3.cell 0
          have hbx : Bq H W f x := (HBQ.out x).1 (List.mem_of_getElem? hx)
          have HSX := Lib.hid (show _ ∧ _ ∧ _ from ⟨hS', hbut, hrow⟩)
          have HIN := Lib.hid hinv; have HX := Lib.hid hx; have HBX := Lib.hid hbx
          have b4 : wr.cell? ⟨B4, 0, none⟩ = some (.map (some ms)) := hS'.a4.cell 0
          by_cases hxo : x = o
          · subst hxo
            clear hS' hbut hrow hinv hx hbx b4
            go_wp2_with fail
            go_ret
            exact ⟨true, rfl, S', HSX.out.1, HSX.out.2.1, fun _ => .one HBX.out, fun h => (by cases h)⟩
          · have hxe : (x == o) = false := by rw [beq_eq_false_iff_ne]; exact hxo
            by_cases hm : x ∈ S'
            · have lk := seen_yes hS'.m x hm
              have HNX := Lib.hid (hinv.next hx hm)
              clear hS' hbut hrow hinv hx hbx hm hxo
              go_wp2_with fail
              have ba : Below wr.heap.size wr (wr.alloc (.cells #[] 110)) := (Below.refl _ wr).alloc (Nat.le_refl _) _
              exact ⟨⟨t + 1, S', by omega, by go_num, HSX.out.1.reads ba, HSX.out.2.1.trans (But.of ba), HSX.out.2.2.alloc _, HNX.out⟩, by simp [intOf]; omega⟩
            · have lk := seen_no hS'.m x hm
              have HXO := Lib.hid hxo; have HM := Lib.hid hm
              clear hS' hbut hrow hinv hx hbx hm hxo
              go_upto_region 12 with fail
              have ba : Below wr.heap.size wr (wr.alloc (.cells #[] 110)) := (Below.refl _ wr).alloc (Nat.le_refl _) _
              have hS1 := HSX.out.1.reads ba
              have hB1 := HSX.out.2.1.trans (But.of (m := ms) ba)
              have hR1 := HSX.out.2.2.alloc (.cells #[] 110)
              clear lk ba b3 b4 cx
              generalize wr.alloc (.cells #[] 110) = W1 at *
              obtain ⟨w5, hr5, M5, O5⟩ := seen_put hS1.m x HM.out
              have b4 : W1.cell? ⟨B4, 0, none⟩ = some (.map (some ms)) := hS1.a4.cell 0
              have hS5 := hS1.but (But.only O5) M5
              have hB5 := hB1.trans (But.only O5)
              have hR5 : w5.ownsRow wz.heap.size 3 1 (.slice (some ⟨ga, 0, none⟩) L.length nc) L.length (L.map (Value.int .i64)) := ownsRow_same hR1 (fun r hr => O5.blk r (fun e => by
                rcases hR1.2 with ⟨h, _⟩ | ⟨g', cap, cur, h, _, hg', _⟩
                · cases h
                · cases h
                  have : ga = r := by simpa [Value.ownBlock] using hr
                  exact hS1.m.notCells (by rw [← e, ← this]; exact hg')))
              have hpre := HIN.out.pre (seen_nodup hS1.m) HM.out HXO.out (HBX.out.univ)
              have hd2 := HD.out
              have CL := IH.out (M - 1) (by omega) (S' ++ [x]) (f :: O) x (deep + 1) w5 hS5 hpre.2 (by omega)
              rw [show ((deep + 1 : Nat) : Int) = (deep : Int) + 1 by omega] at CL
              have b6 : w5.cell? ⟨B6, 0, none⟩ = some (leadsV B2 B3 B4 B5 B6) := hS5.a6.cell 0
              have hde : ((deep : Int) == 1000) = false := by rw [beq_eq_false_iff_ne]; omega
              have HND := Lib.hid (seen_nodup HSX.out.1.m)
              have H5 := Lib.hid (show _ ∧ _ ∧ _ from ⟨hS5, hB5, hR5⟩)
              have HCL := Lib.hid CL
              clear CL hS5 hB5 hR5 hpre hS1 hB1 hR1 M5 O5 hd2
              unfold leadsV ptr9 at *
              go_wp2_with fail
              refine HCL.out.mono ?_; rintro r w6 ⟨bb, rfl, S6, hS6, hB6, ht6, hf6⟩
              have hB56 := H5.out.2.1.trans hB6
              cases bb with
              | true =>
                have HF := Lib.hid (show _ ∧ _ ∧ _ from ⟨hS6, hB56, Bqs.more HBX.out (ht6 rfl)⟩)
                clear hS6 hB6 ht6 hf6 hB56 HCL hr5 b4 b6
                go_wp2_with fail
                go_ret
                exact ⟨true, rfl, S6, HF.out.1, HF.out.2.1, fun _ => HF.out.2.2, fun h => (by cases h)⟩
              | false =>
                have hR6 : w6.ownsRow wz.heap.size 3 1 (.slice (some ⟨ga, 0, none⟩) L.length nc) L.length (L.map (Value.int .i64)) := ownsRow_same H5.out.2.2 (fun r hr => hB6.blk r (H5.out.2.2.lt r hr).2 (fun e => by
                  rcases H5.out.2.2.2 with ⟨h, _⟩ | ⟨g', cap, cur, h, _, hg', _⟩
                  · cases h
                  · cases h
                    have : ga = r := by simpa [Value.ownBlock] using hr
                    exact H5.out.1.m.notCells (by rw [← e, ← this]; exact hg')))
                have hin := HIN.out.post (seen_nodup hS6.m) HND.out HX.out (hf6 rfl)
                have HF := Lib.hid (show _ ∧ _ ∧ _ ∧ _ from ⟨hS6, hB56, hR6, hin⟩)
                clear hS6 hB6 ht6 hf6 hB56 hR6 hin HCL hr5 b4 b6
                go_wp2_with fail
                exact ⟨⟨t + 1, S6, by omega, by go_num, HF.out.1, HF.out.2.1, HF.out.2.2.1, HF.out.2.2.2⟩, by simp [intOf]; omega⟩
        · obtain rfl : t = L.length := by omega
          have HPO := Lib.hid (hinv.done HBQ.out)
          have HSX := Lib.hid (show _ ∧ _ from ⟨hS', hbut⟩)
          clear hS' hbut hrow hinv
          go_wp2_with fail
          go_ret
          exact ⟨false, rfl, S', HSX.out.1, HSX.out.2, fun h => (by cases h), fun _ => HPO.out⟩
end
end Go.Proofs.YtainnhcmhgloaaaGreatDoor
