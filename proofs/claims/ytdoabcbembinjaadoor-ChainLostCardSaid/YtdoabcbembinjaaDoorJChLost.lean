import Derived.Test.YtdoabcbembinjaaDoorJ21
/- Of a claim's texts, joined: ChLost. No statement but in the last. -/
namespace Go.Proofs.YtdoabcbembinjaaDoor
open Go.RowKit
set_option linter.unusedVariables false

theorem PgT.drewL {w : World} {T : Tg} {A : Option Addr} {n c : Nat} {q : List Hd} (h : PgT w T A n c q) : PgT w.drew T A n c q := h.below (Below.refl _ w).drew
theorem make_bools9 (w : World) : (Instr.makeSlice 55 (.int .i64 1000) (.int .i64 1000)).run Tryd.prog w = .ok (.slice (some ⟨w.heap.size, 0, none⟩) 1000 1000) (w.alloc (.cells (madeCells #[.bool false] 1000) 4)) := by
  obtain ⟨i0, hi, hz0, hz1, hz2⟩ := info_parts (show (Tryd.prog.info? 4).map (fun i => (i.zero, i.size, i.bytes)) = some (some (.bool false), 1, 1) by kernel_rfl)
  have := run_make (P := Tryd.prog) (w := w) 55 4 i0 (.bool false) Tryd.underlying55 hi hz0 .i64 .i64 1000 1000 (by omega) (by omega) (by rw [hz2]; omega) (by omega)
  have e : (Int.toNat 1000) * i0.size = 1000 := by rw [hz1]; rfl
  have e2 : (Value.bool false).cells = #[.bool false] := rfl
  simpa [hz1, e2] using this
theorem Tn.alloc9 {w : World} {T : Tg} (hlo : ∀ x t, T x = some t → x < w.heap.size) (o : Obj) : Tn T 1 w (markT T 0 w.heap.size) (w.alloc o) :=
  ⟨rfl, rfl, rfl, by simp, fun x hx _ => Below.heap_alloc w o x hx, fun x hx => by unfold markT; rw [if_neg (by omega)], fun x t hx hm => by
    unfold markT at hm
    split at hm
    · rename_i e
      injection hm with hm
      subst hm
      exact ⟨rfl, by rw [e]; simp⟩
    · exact absurd (hlo x t hm) (by omega)⟩
theorem Tn.touch9 {w w' : World} {T : Tg} {d2 k g : Nat} (hT : T g = some (d2, k)) (hlo : ∀ x t, T x = some t → x < w.heap.size) (hw : w.grownBy w' (some g)) : Tn T d2 w T w' :=
  ⟨hw.os, hw.tape, hw.output, hw.size, fun x hx hk => hw.block x hx (fun e => by
    injection e with e
    subst e
    exact hk k hT), fun _ _ => rfl, fun x t hx hm => absurd (hlo x t hm) (by omega)⟩
structure UsB (w : World) (T : Tg) (g : Nat) (l : List Int) (k : Nat) : Prop where
  tag : T g = some (1, 0)
  row : ∃ cs, Has w g 4 cs ∧ cs.size = 1000 ∧ ∀ j, j < 1000 → cs[j]? = some (.bool (decide ((j : Int) ∈ l.take k)))
theorem UsB.start (w : World) (T : Tg) (l : List Int) : UsB (w.alloc (.cells (madeCells #[.bool false] 1000) 4)) (markT T 0 w.heap.size) w.heap.size l 0 :=
  ⟨by unfold markT; rw [if_pos rfl], _, Has.made w 4 _, by rw [size_madeCells], fun j hj => by
    rw [← Array.getElem?_toList, toList_madeCells_one, List.getElem?_replicate, if_pos hj]
    simp⟩
theorem UsB.below {w w' : World} {T : Tg} {g k : Nat} {l : List Int} (h : UsB w T g l k) (hb : Below w.heap.size w w') : UsB w' T g l k := by
  obtain ⟨ht, cs, hh, hs, hc⟩ := h
  exact ⟨ht, cs, hh.below hb hh.lt, hs, hc⟩
theorem UsB.drew9 {w : World} {T : Tg} {g k : Nat} {l : List Int} (h : UsB w T g l k) : UsB w.drew T g l k := h.below (Below.refl _ w).drew
theorem UsB.tn {w w' : World} {T T' : Tg} {g k : Nat} {l : List Int} (h : UsB w T g l k) (t : Tn T 0 w T' w') : UsB w' T' g l k := by
  obtain ⟨ht, cs, hh, hs, hc⟩ := h
  exact ⟨(t.old g hh.lt).trans ht, cs, (t.block g hh.lt (fun j hj => by rw [ht] at hj; injection hj with hj; injection hj with hj _; omega)).trans hh, hs, hc⟩
theorem UsB.at {w : World} {T : Tg} {g k j : Nat} {l : List Int} (h : UsB w T g l k) (hj : j < 1000) : w.cell? ⟨g, j, none⟩ = some (.bool (decide ((j : Int) ∈ l.take k))) := by
  obtain ⟨_, cs, hh, _, hc⟩ := h
  rw [hh.cell]
  exact hc j hj
theorem UsB.mark {w : World} {T : Tg} {g k pn : Nat} {l : List Int} (h : UsB w T g l k) (hk : k < l.length) (hp : l.getD k 0 = (pn : Int)) (h9 : pn < 1000) : ∃ cs, Has w g 4 cs ∧ (∃ u, w.cell? ⟨g, pn, none⟩ = some u) ∧ w.frozen? ⟨g, pn, none⟩ = false ∧ UsB (w.setCell ⟨g, pn, none⟩ (.bool true)) T g l (k + 1) := by
  have hat := h.at h9
  obtain ⟨ht, cs, hh, hs, hc⟩ := h
  refine ⟨cs, hh, ⟨_, hat⟩, hh.free pn, ht, _, hh.store pn (.bool true), by rw [Array.size_setIfInBounds]; exact hs, fun j hj => ?_⟩
  rw [Array.getElem?_setIfInBounds]
  have htk : l.take (k + 1) = l.take k ++ [(pn : Int)] := by
    rw [List.take_add_one, getD_some hk, hp]
    rfl
  rw [htk]
  by_cases e : pn = j
  · subst e
    rw [if_pos rfl, if_pos (by omega)]
    simp
  · rw [if_neg e, hc j hj]
    congr 2
    have hne : (j : Int) ≠ (pn : Int) := by omega
    simp [hne]
set_option maxRecDepth 100000 in
set_option maxHeartbeats 8000000 in
theorem walkChLost (sb : ByteArray) (A : Option Addr) (n c : Nat) (l : List Int) (y : UInt8) (W : World) (ht : Tab W) (h : Ints6 W A n l) (hc : n ≤ c) (hcm : c ≤ maxLen) (hsz : sb.size ≤ 9223372036854775807) :
    Calls Tryd.prog 7 #[.string sb, .slice A n c, .int .u8 (y.toNat : Int)] W fun e W' => e = .returned (.bool true) ∧ Below W.heap.size W W' := by
  have hmx : Tryd.prog.follows .mixedOrders = true := by kernel_rfl
  have hcI : (n : Int) ≤ 9223372036854775807 := by unfold maxLen at hcm; omega
  have HAW := Lib.hid (awake09_any W ht)
  by_cases hs : 600 < sb.size
  · have hsI : (600 : Int) < (sb.size : Int) := by omega
    clear hc hcm h
    go_enter Tryd.func7, Tryd.ntmps7
    go_wp2_with (go_at_call 8; (with_reducible refine HAW.out.mono ?_); rintro e w1 ⟨rfl, b1⟩; have B1 := Lib.hid b1; clear b1)
    go_ret
    exact ⟨rfl, B1.out⟩
  · by_cases hn : 20 < n
    · have hsI : ¬ (600 : Int) < (sb.size : Int) := by omega
      have hnI : (20 : Int) < (n : Int) := by omega
      clear hc hcm h
      go_enter Tryd.func7, Tryd.ntmps7
      go_wp2_with (go_at_call 8; (with_reducible refine HAW.out.mono ?_); rintro e w1 ⟨rfl, b1⟩; have B1 := Lib.hid b1; clear b1)
      go_ret
      exact ⟨rfl, B1.out⟩
    · have hsI : ¬ (600 : Int) < (sb.size : Int) := by omega
      have hnI : ¬ (20 : Int) < (n : Int) := by omega
      obtain ⟨s, hse⟩ : ∃ s : List UInt8, (⟨s.toArray⟩ : ByteArray) = sb := ⟨sb.data.toList, by simp⟩
      have hsl : s.length = sb.size := by rw [← size_list, hse]
      have HPU : Hid (∀ w1, Below W.heap.size W w1 → Calls Tryd.prog 9 #[.string sb, .slice A n c] w1 (PutEnd s l w1)) := Lib.hid (fun w1 b1 => by
        rw [← hse]
        exact hPut_any s A n c l w1 (ht.below b1) (by omega) (h.below9 b1) (by omega) hc hcm)
      unfold PutEnd at HPU
      by_cases hg : goodP s l
      · have hp : putN s l = (pagesN s l, 0) := by unfold putN; rw [if_pos hg]
        rw [hp] at HPU
        have hln : n = l.length := h.len
        have hnd : n = needN s.length := hln.trans hg.2.1
        obtain ⟨hne, hz1, hz2⟩ := need_pos hg.1
        rw [Int.toNat_natCast, ← hnd] at hne
        have hn1 : 1 ≤ n := by omega
        have hn4 : n ≤ 4 := by omega
        have hgc := fun w1 T D AD N ws (hz : Dz W w1 T 0 D AD N ws) (x : Int) p => hGet_any x p (s.length : Int) (ht.below hz.bel) hz.dk
        rw [hsl] at hgc
        have HGC := Lib.hid hgc
        have HND := Lib.hid (hNeed_any (s.length : Int))
        rw [← hnd, hsl] at HND
        have HG := Lib.hid hg
        have HA := Lib.hid h
        have HLN := Lib.hid hln
        have HSE := Lib.hid hse
        have HSLN := Lib.hid hsl
        obtain ⟨ga, oa, rfl⟩ : ∃ ga oa, A = some ⟨ga, oa, none⟩ := by
          obtain ⟨g, off, e, _⟩ := h.reads (by rw [List.length_map]; omega)
          exact ⟨g, off, e⟩
        have HPX : Hid (∀ k, k < n → 2 ≤ l.getD k 0 ∧ l.getD k 0 ≤ 999 ∧ ∀ w1, Below W.heap.size W w1 → w1.cell? ⟨ga, oa + k, none⟩ = some (.int .i64 (l.getD k 0))) := Lib.hid (fun k hk => by
          have h1 := getD_some (l := l) (j := k) (by rw [← hln]; exact hk)
          obtain ⟨g', o', e, hcc⟩ := h.at_ h1
          injection e with e
          injection e with e1 e2 _
          subst e1 e2
          have h2 := okP_pg hg.2.2 h1
          exact ⟨h2.1, h2.2, fun w1 b => cell_below hcc b⟩)
        have HNW : Hid (∀ w2, Below W.heap.size W w2 → ∀ X2, w2.alloc (.cells #[.int .i64 1000, .int .i64 1000] 3) = X2 → Calls Tryd.prog 14 #[.slice (some ⟨w2.heap.size, 0, none⟩) 2 2] X2 fun e w' => ∃ D A T', e = .returned (.tuple #[.pointer (some ⟨D, 0, none⟩), .int .i64 0]) ∧ Dz W w' T' 0 D A 0 [lz 1000 [], lz 1000 []] ∧ Tn noT 0 X2 T' w' ∧ Below X2.heap.size X2 w') := Lib.hid (fun w2 b X2 e => by
          subst e
          exact New_z (w0 := W) (c := 2) 0 (ints_lit w2 [1000, 1000] _ rfl) (lo_none _ _) (b.alloc b.size _) (by decide))
        have hrem : ((y.toNat : Int)).tmod (n : Int) = ((y.toNat % n : Nat) : Int) := by rw [Int.tmod_eq_emod_of_nonneg (by omega)]; exact (Int.natCast_emod _ _).symm
        have hkk : y.toNat % n < n := Nat.mod_lt _ (by omega)
        generalize y.toNat % n = kk at hrem hkk
        have hyb : (0 : Int) ≤ (y.toNat : Int) := by omega
        have hyb2 : (y.toNat : Int) ≤ 255 := by have := y.toNat_lt; omega
        have hmk := make_bools9
        clear hse h ht hs hn hp hg hnd hln hne hsl hgc HND
        go_enter Tryd.func7, Tryd.ntmps7
        go_wp2_with (first
          | (go_at_call 8; (with_reducible refine HAW.out.mono ?_); rintro e w1 ⟨rfl, b1⟩; have B1 := Lib.hid b1; clear b1)
          | (go_at_call 9; (with_reducible refine (HPU.out _ B1.out).mono ?_); rintro e w2 ⟨A2, n2, c2, q, rfl, hC, hq, hR, b2, hRw⟩; have hn2 : n2 = n := (hC.len.trans ((lq_pages hq).1.trans HLN.out.symm)); subst hn2; have hq' : lq q = (putN s l).1 := (by have := HG.out; unfold putN; rw [if_pos this]; exact hq); have P2 := Lib.hid (PgT.of_put (T := noT) hC hq' hR hRw (fun _ _ => rfl)); have HQ := Lib.hid hq; have B2 := Lib.hid (below_step B1.out b2); obtain ⟨X2, hX2⟩ : ∃ X2, w2.alloc (.cells #[.int .i64 1000, .int .i64 1000] 3) = X2 := ⟨_, rfl⟩; have BX := Lib.hid (show Below w2.heap.size w2 X2 from hX2 ▸ (Below.refl _ w2).alloc (Nat.le_refl _) _); have HX2 := Lib.hid hX2; clear hC hq hq' hR hRw b2 hX2)
          | (go_at_call 14; (try rw [HX2.out]); (with_reducible refine (HNW.out _ B2.out _ HX2.out).mono ?_); rintro e w3 ⟨D, AD, T3, rfl, hz3, ht3, _⟩; have Z3 := Lib.hid hz3; have P3 := Lib.hid ((P2.out.below BX.out).tn ht3); clear hz3 ht3))
        obtain ⟨W4, hW4⟩ : ∃ W4, w3.alloc (.cells (madeCells #[.bool false] 1000) 4) = W4 := ⟨_, rfl⟩
        have ht4 : Tn T3 1 w3 (markT T3 0 w3.heap.size) W4 := hW4 ▸ Tn.alloc9 Z3.out.lo.lt _
        have Z4 := Lib.hid (Z3.out.other ht4 (by decide))
        have P4 := Lib.hid (P3.out.tn ht4)
        have U4 : Hid (UsB W4 (markT T3 0 w3.heap.size) w3.heap.size l 0) := Lib.hid (hW4 ▸ UsB.start w3 T3 l)
        have HW4 := Lib.hid hW4
        rw [hW4]
        have hql : q.length = n2 := (lq_pages HQ.out).1.trans HLN.out.symm
        obtain ⟨gA, oA, rfl⟩ : ∃ gA oA, A2 = some ⟨gA, oA, none⟩ := by
          obtain ⟨g, off, e, _⟩ := P3.out.at (k := 0) (by omega)
          exact ⟨g, off, e⟩
        have HQL := Lib.hid hql
        clear hql ht4 hW4 hmk
        generalize w3.heap.size = gU at *
        go_loopw [13] (fun i wr => ∃ (k : Nat) (T' : Tg), k ≤ n2 ∧ i = .int .i64 (k : Int) ∧ Dz W wr T' 0 D AD k [lz 1000 (wsN s l k), lz 1000 []] ∧ PgT wr T' (some ⟨gA, oA, none⟩) n2 c2 q ∧ UsB wr T' gU l k) (fun i _ => n2 - (intOf i).toNat)
        case atStart => exact ⟨0, _, Nat.zero_le _, rfl, Z4.out, P4.out, U4.out⟩
        case round =>
          obtain ⟨k, T', hk, rfl, hz, hp, hu⟩ := hrel
          have Z := Lib.hid hz
          have P := Lib.hid hp
          have U := Lib.hid hu
          clear hz hp hu
          by_cases hlt : k < n2
          · skip
            have hqk : k < q.length := by rw [HQL.out]; exact hlt
            have HCK : Hid (∀ w5 T5, PgT w5 T5 (some ⟨gA, oA, none⟩) n2 c2 q → w5.cell? ⟨gA, oA + k, none⟩ = some (.slice (q[k]).a 128 (q[k]).c)) := Lib.hid (fun w5 T5 h => by
              obtain ⟨g', o', e, hc⟩ := h.at hqk
              injection e with e
              injection e with e1 e2 _
              subst e1 e2
              rw [(h.each _ (List.getElem_mem hqk)).2.1] at hc
              exact hc)
            obtain ⟨hp1, hp2, hp3⟩ := HPX.out k hlt
            obtain ⟨pn, hpn⟩ : ∃ pn : Nat, l.getD k 0 = (pn : Int) := ⟨(l.getD k 0).toNat, by omega⟩
            rw [hpn] at hp1 hp2 hp3
            have hkl : k < l.length := by rw [← HLN.out]; exact hlt
            have hyl := (lq_pages HQ.out).2 k hqk
            have HCA := Lib.hid hp3
            have hkI : (k : Int) < (n2 : Int) := by omega
            have hk0 : (0 : Int) ≤ (k : Int) := by omega
            have hpnI : (pn : Int) < 1000 := by omega
            have hpn0 : (0 : Int) ≤ (pn : Int) := by omega
            have HWR : Hid (∀ w5, Below wr.heap.size wr w5 → Calls Tryd.prog 16 #[.pointer (some ⟨D, 0, none⟩), .int .i64 0, .int .i64 (pn : Int), .slice (q[k]).a 128 (q[k]).c] w5 (DzEnd (.int .i64 0) W w5 T' 0 D AD (k + 1) [lz 1000 (wsN s l (k + 1)), lz 1000 []])) := Lib.hid (fun w5 b5 => by
              obtain ⟨hkq, hw⟩ := awake_step (r := 0) (m := 1000) (rs := [lz 1000 (wsN s l k), lz 1000 []]) (Z.out.below b5) (by omega) rfl (P.out.below b5) HQ.out HG.out.2.2 hkl (by omega)
              rw [hpn] at hw
              exact hw)
            have HUS : Hid (∀ w5 T5, UsB w5 T5 gU l k → ∃ cs, Has w5 gU 4 cs ∧ (∃ u, w5.cell? ⟨gU, pn, none⟩ = some u) ∧ w5.frozen? ⟨gU, pn, none⟩ = false ∧ UsB (w5.setCell ⟨gU, pn, none⟩ (.bool true)) T5 gU l (k + 1)) := Lib.hid (fun w5 T5 h => h.mark hkl hpn (by omega))
            generalize q[k] = y at HCK HWR
            have hSd : (fun w' : World => w'.cell? ⟨gA, oA + k, none⟩ = some (.slice y.a 128 y.c) ∧ w'.cell? ⟨ga, oa + k, none⟩ = some (.int .i64 (pn : Int))) wr.drew := ⟨HCK.out wr T' P.out, HCA.out wr Z.out.bel⟩
            clear hpn hp3 hqk hkl hyl
            go_wp2
            rename_i K hK
            refine wp_held (fun w' : World => w'.cell? ⟨gA, oA + k, none⟩ = some (.slice y.a 128 y.c) ∧ w'.cell? ⟨ga, oa + k, none⟩ = some (.int .i64 (pn : Int))) K hmx ?_ (fun _ _ h => h)
            refine wpAnyH_take (i := 0) (v := .pointer (some ⟨D, 0, none⟩)) rfl (by kernel_rfl) (by kernel_rfl) (by kernel_rfl) (fun _ _ _ h => h) (Or.inl ⟨by rfl, ?_⟩) hSd ?_
            · rintro w6 ⟨k1, k2⟩
              go_simp
            simp only [Act.put, List.setIfInBounds_toArray, List.set_cons_zero, List.set_cons_succ, List.getElem_toArray, List.getElem_cons_zero]
            refine wpAnyH_take (i := 1) (v := .slice (some ⟨ga, oa, none⟩) n2 c) rfl (by kernel_rfl) (by kernel_rfl) (by kernel_rfl) (fun _ _ _ h => h) (Or.inl ⟨by rfl, ?_⟩) hSd ?_
            · rintro w6 ⟨k1, k2⟩
              go_simp
            simp only [Act.put, List.setIfInBounds_toArray, List.set_cons_zero, List.set_cons_succ, List.getElem_toArray, List.getElem_cons_zero, List.getElem_cons_succ]
            refine wpAnyH_take (i := 2) (v := .int .i64 (k : Int)) rfl (by kernel_rfl) (by kernel_rfl) (by kernel_rfl) (fun _ _ _ h => h) (Or.inl ⟨by rfl, ?_⟩) hSd ?_
            · rintro w6 ⟨k1, k2⟩
              go_simp
            simp only [Act.put, List.setIfInBounds_toArray, List.set_cons_zero, List.set_cons_succ, List.getElem_toArray, List.getElem_cons_zero, List.getElem_cons_succ]
            refine wpAnyH_take (i := 3) (v := .pointer (some ⟨ga, oa + k, none⟩)) rfl (by kernel_rfl) (by kernel_rfl) (by kernel_rfl) (fun _ _ _ h => h) (Or.inl ⟨by rfl, ?_⟩) hSd ?_
            · rintro w6 ⟨k1, k2⟩
              go_simp
            simp only [Act.put, List.setIfInBounds_toArray, List.set_cons_zero, List.set_cons_succ, List.getElem_toArray, List.getElem_cons_zero, List.getElem_cons_succ]
            refine wpAnyH_take (i := 4) (v := .int .i64 (pn : Int)) rfl (by kernel_rfl) (by kernel_rfl) (by kernel_rfl) (fun _ _ _ h => h) (Or.inl ⟨by rfl, ?_⟩) hSd ?_
            · rintro w6 ⟨k1, k2⟩
              go_simp
            simp only [Act.put, List.setIfInBounds_toArray, List.set_cons_zero, List.set_cons_succ, List.getElem_toArray, List.getElem_cons_zero, List.getElem_cons_succ]
            refine wpAnyH_take (i := 5) (v := .slice (some ⟨gA, oA, none⟩) n2 c2) rfl (by kernel_rfl) (by kernel_rfl) (by kernel_rfl) (fun _ _ _ h => h) (Or.inl ⟨by rfl, ?_⟩) hSd ?_
            · rintro w6 ⟨k1, k2⟩
              go_simp
            simp only [Act.put, List.setIfInBounds_toArray, List.set_cons_zero, List.set_cons_succ, List.getElem_toArray, List.getElem_cons_zero, List.getElem_cons_succ]
            refine wpAnyH_take (i := 6) (v := .int .i64 (k : Int)) rfl (by kernel_rfl) (by kernel_rfl) (by kernel_rfl) (fun _ _ _ h => h) (Or.inl ⟨by rfl, ?_⟩) hSd ?_
            · rintro w6 ⟨k1, k2⟩
              go_simp
            simp only [Act.put, List.setIfInBounds_toArray, List.set_cons_zero, List.set_cons_succ, List.getElem_toArray, List.getElem_cons_zero, List.getElem_cons_succ]
            refine wpAnyH_take (i := 7) (v := .pointer (some ⟨gA, oA + k, none⟩)) rfl (by kernel_rfl) (by kernel_rfl) (by kernel_rfl) (fun _ _ _ h => h) (Or.inl ⟨by rfl, ?_⟩) hSd ?_
            · rintro w6 ⟨k1, k2⟩
              go_simp
            simp only [Act.put, List.setIfInBounds_toArray, List.set_cons_zero, List.set_cons_succ, List.getElem_toArray, List.getElem_cons_zero, List.getElem_cons_succ]
            refine wpAnyH_take (i := 8) (v := .slice y.a 128 y.c) rfl (by kernel_rfl) (by kernel_rfl) (by kernel_rfl) (fun _ _ _ h => h) (Or.inl ⟨by rfl, ?_⟩) hSd ?_
            · rintro w6 ⟨k1, k2⟩
              go_simp
            simp only [Act.put, List.setIfInBounds_toArray, List.set_cons_zero, List.set_cons_succ, List.getElem_toArray, List.getElem_cons_zero, List.getElem_cons_succ]
            refine wpAnyH_ready (rs := [9]) (by kernel_rfl) (by simp) ?_
            refine AllReadyH.cons rfl (fun K5 hK5 => ?_) AllReadyH.nil
            go_simp
            go_at_call 16
            refine (HWR.out _ (Below.refl _ _).drew).mono ?_
            rintro e5 w5 ⟨rfl, T5, z5, t5⟩
            have Z5 := Lib.hid z5
            have P5 := Lib.hid (P.out.drewL.tn t5)
            have U5 := Lib.hid (U.out.drew9.tn t5)
            have hS5 : w5.cell? ⟨gA, oA + k, none⟩ = some (.slice y.a 128 y.c) ∧ w5.cell? ⟨ga, oa + k, none⟩ = some (.int .i64 (pn : Int)) := ⟨HCK.out w5 T5 P5.out, HCA.out w5 Z5.out.bel⟩
            clear z5 t5
            refine hK5.out _ _ hS5 (fun _ => ?_)
            clear hK5 K5
            refine wpAnyH_done (by kernel_rfl) ?_ _
            refine hK _ _ ?_
            obtain ⟨csU, hhU, ⟨uU, hcU⟩, hfU, hU6⟩ := HUS.out w5 T5 U5.out
            have hca5 := hS5.2
            have htt := Tn.touch9 (d2 := 1) (k := 0) U5.out.tag Z5.out.lo.lt (only_store (only_refl w5 gU) pn (.bool true))
            have Z6 := Lib.hid (Z5.out.other htt (by decide))
            have P6 := Lib.hid (P5.out.tn htt)
            have U6 := Lib.hid hU6
            clear htt hU6 hhU hS5
            go_wp2
            go_roundw
            case rel => exact ⟨k + 1, T5, by omega, by go_num, Z6.out, P6.out, U6.out⟩
            case measure => simp [intOf]; omega
          · obtain rfl : k = n2 := by omega
            have UK := Lib.hid U.out
            have hrest : Dz W wr T' 0 D AD k [lz 1000 (wsN s l k), lz 1000 []] := Z.out
            obtain ⟨wz, hwz⟩ : ∃ wz : World, wz = wr := ⟨_, rfl⟩
            subst hwz
            have hq0 : 0 < q.length := by rw [HQL.out]; omega
            have HC0 : Hid (∀ w5 T5, PgT w5 T5 (some ⟨gA, oA, none⟩) k c2 q → w5.cell? ⟨gA, oA, none⟩ = some (.slice (q[0]).a 128 (q[0]).c)) := Lib.hid (fun w5 T5 h => by
              obtain ⟨g', o', e, hc⟩ := h.at hq0
              injection e with e
              injection e with e1 e2 _
              subst e1 e2
              rw [(h.each _ (List.getElem_mem hq0)).2.1] at hc
              exact hc)
            go_wp2
            go_loopw [14] (fun i wr => ∃ (j : Nat) (T' : Tg) (es : List Wr), j ≤ 143 ∧ i = .int .i64 ((7 * j : Nat) : Int) ∧ es.length ≤ j ∧ (∀ x ∈ es, x.1 ∉ l) ∧ Dz W wr T' 0 D AD (k + j) [lz 1000 (wsN s l k ++ es), lz 1000 []] ∧ PgT wr T' (some ⟨gA, oA, none⟩) k c2 q ∧ UsB wr T' gU l k) (fun i _ => 1001 - (intOf i).toNat)
            case atStart => exact ⟨0, T', [], by omega, rfl, by simp, (fun x hx => by cases hx), by rw [List.append_nil]; exact hrest, P.out, UK.out⟩
            case round =>
              obtain ⟨j, T2, es, hj, rfl, hel, hes, hz2, hp2, hu2⟩ := hrel
              have Z2 := Lib.hid hz2
              have P2' := Lib.hid hp2
              have U2 := Lib.hid hu2
              have HES := Lib.hid hes
              clear hz2 hp2 hu2 hes
              obtain ⟨pp, hpp⟩ : ∃ pp, 7 * j = pp := ⟨_, rfl⟩
              rw [hpp]
              by_cases hlt : pp < 1000
              · have hcp := U2.out.at (j := pp) hlt
                rw [HLN.out, List.take_length] at hcp
                have hc0 := HC0.out wr T2 P2'.out
                have hppI : (pp : Int) < 1000 := by omega
                have hpp0 : (0 : Int) ≤ (pp : Int) := by omega
                by_cases hm : (pp : Int) ∈ l
                · rw [decide_eq_true hm] at hcp
                  go_wp2
                  go_roundw
                  case rel => exact ⟨j + 1, T2, es, by omega, by go_num, by omega, HES.out, Z2.out.more (by omega), P2'.out, U2.out⟩
                  case measure => simp [intOf]; omega
                · rw [decide_eq_false hm] at hcp
                  have hy := P2'.out.each _ (List.getElem_mem hq0)
                  have HWR : Hid (Calls Tryd.prog 16 #[.pointer (some ⟨D, 0, none⟩), .int .i64 0, .int .i64 (pp : Int), .slice (q[0]).a 128 (q[0]).c] wr (DzEnd (.int .i64 0) W wr T2 0 D AD (k + j + 1) [lz 1000 (wsN s l k ++ es ++ [((pp : Int), (q[0]).l)]), lz 1000 []])) := Lib.hid (by
                    have := Write_p (k := 0) (n := 1000) (ws := wsN s l k ++ es) (p := (pp : Int)) Z2.out (by omega) rfl (by omega) (by omega) hy.2.1 hy.1 hy.2.2
                    rw [hy.2.1] at this
                    exact this)
                  generalize q[0] = y0 at hc0 HWR
                  have hes2 : ∀ x ∈ es ++ [((pp : Int), y0.l)], x.1 ∉ l := fun x hx => by
                    rcases List.mem_append.1 hx with hx | hx
                    · exact HES.out x hx
                    · rw [List.mem_singleton] at hx
                      subst hx
                      exact hm
                  have HE2 := Lib.hid hes2
                  clear hes2 hy hm
                  go_wp2_with (go_at_call 16; go_loud ((with_reducible refine HWR.out.mono ?_); rintro e5 w5 ⟨rfl, T5, z5, t5⟩; have Z5 := Lib.hid z5; have P5 := Lib.hid (P2'.out.tn t5); have U5 := Lib.hid (U2.out.tn t5); clear z5 t5))
                  go_roundw
                  case rel => exact ⟨j + 1, T5, es ++ [((pp : Int), y0.l)], by omega, by go_num, by simp; omega, HE2.out, by rw [← List.append_assoc]; exact Z5.out, P5.out, U5.out⟩
                  case measure => simp [intOf]; omega
              · have Z3' := Lib.hid Z2.out
                obtain ⟨p01, p02, p03⟩ := HPX.out 0 (by omega)
                have hc0a := p03 wr Z2.out.bel
                simp only [Nat.add_zero] at hc0a p03
                have HP0 := Lib.hid p03
                have hrd := rd_lz (rs := [lz 1000 (wsN s l k ++ es), lz 1000 []]) (k := 0) rfl HG.out.2.2 (fun x hx => by have := okP_mem HG.out.2.2 hx; omega) (fun j hj => by
                  rw [pgW_app _ _ _ (fun x hx e => HES.out x hx (by rw [e]; exact List.mem_of_getElem? (getD_some hj)))]
                  exact pgW_ws HG.out.2.2 k j (by rw [HLN.out]; exact Nat.le_refl _) (by rw [HLN.out]; exact hj))
                have hgr := getC_put HG.out hrd
                rw [HSLN.out] at hgr
                have hge := HGC.out wr T2 D AD _ _ Z2.out 0 (l.getD 0 0)
                have hgr2 : getC (fun p => (rdL [lz 1000 (wsN s l k ++ es), lz 1000 []] 0 p, rdE [lz 1000 (wsN s l k ++ es), lz 1000 []] 0 p)) (sb.size : Int) (l.getD 0 0) = (s, l, 0) := hgr
                rw [hgr2] at hge
                unfold GetEnd at hge
                simp only at hge
                rw [HSE.out] at hge
                have HGE := Lib.hid hge
                generalize hp0 : l.getD 0 0 = p0 at HGE hc0a HP0
                have HP00 := Lib.hid hp0
                obtain ⟨wy, hwy⟩ : ∃ wy : World, wy = wr := ⟨_, rfl⟩
                subst hwy
                clear hrd hgr hge hgr2 hp0 p03 p01 p02 hpp
                go_wp2_with (go_at_call 18; go_loud ((with_reducible refine HGE.out.mono ?_); rintro e w4 ⟨A4, n4, c4, rfl, _, b4⟩; have Z4' := Lib.hid (Z2.out.below b4); have P4' := Lib.hid (P2'.out.below b4); have U4' := Lib.hid (U2.out.below b4); clear b4))
                go_loopw [18] (fun i wr => ∃ (k1 : Nat) (T' : Tg) (vs : List Wr), k1 ≤ k ∧ i = .int .i64 (k1 : Int) ∧ (∀ j, j < k1 → j ≠ kk → pgW vs (l.getD j 0) = pageN s l j) ∧ pgW vs (l.getD kk 0) = zeros ∧ Dz W wr T' 0 D AD (k + j + k1) [lz 1000 (wsN s l k ++ es), lz 1000 vs] ∧ PgT wr T' (some ⟨gA, oA, none⟩) k c2 q ∧ UsB wr T' gU l k) (fun i _ => k - (intOf i).toNat)
                case atStart => exact ⟨0, T2, [], Nat.zero_le _, rfl, (fun j hj => absurd hj (by omega)), rfl, Z4'.out, P4'.out, U4'.out⟩
                case round =>
                  obtain ⟨k1, T', vs, hk1, rfl, hv1, hv2, hz, hp, hu⟩ := hrel
                  have Z := Lib.hid hz
                  have P := Lib.hid hp
                  have U := Lib.hid hu
                  have HV1 := Lib.hid hv1
                  have HV2 := Lib.hid hv2
                  clear hz hp hu hv1 hv2
                  by_cases hlt : k1 < k
                  · have hk1I : (k1 : Int) < (k : Int) := by omega
                    by_cases hkq : k1 = kk
                    · have hkqI : ((k1 : Int) != (kk : Int)) = false := by simp; omega
                      have HVN := Lib.hid (show ∀ j, j < k1 + 1 → j ≠ kk → pgW vs (l.getD j 0) = pageN s l j from fun j hj hne => HV1.out j (by omega) hne)
                      clear hkq
                      go_wp2
                      go_roundw
                      case rel => exact ⟨k1 + 1, T', vs, by omega, by go_num, HVN.out, HV2.out, Z.out.more (by omega), P.out, U.out⟩
                      case measure => simp [intOf]; omega
                    · have hkqI : ((k1 : Int) != (kk : Int)) = true := by simp; omega
                      have hqk : k1 < q.length := by rw [HQL.out]; exact hlt
                      have HCK : Hid (∀ w5 T5, PgT w5 T5 (some ⟨gA, oA, none⟩) k c2 q → w5.cell? ⟨gA, oA + k1, none⟩ = some (.slice (q[k1]).a 128 (q[k1]).c)) := Lib.hid (fun w5 T5 h => by
                        obtain ⟨g', o', e, hc⟩ := h.at hqk
                        injection e with e
                        injection e with e1 e2 _
                        subst e1 e2
                        rw [(h.each _ (List.getElem_mem hqk)).2.1] at hc
                        exact hc)
                      obtain ⟨hp1, hp2, hp3⟩ := HPX.out k1 hlt
                      obtain ⟨pn, hpn⟩ : ∃ pn : Nat, l.getD k1 0 = (pn : Int) := ⟨(l.getD k1 0).toNat, by omega⟩
                      rw [hpn] at hp1 hp2 hp3
                      have hkl : k1 < l.length := by rw [← HLN.out]; exact hlt
                      have hyl := (lq_pages HQ.out).2 k1 hqk
                      have HCA := Lib.hid hp3
                      have hk0 : (0 : Int) ≤ (k1 : Int) := by omega
                      have HWR : Hid (∀ w5, Below wr.heap.size wr w5 → Calls Tryd.prog 16 #[.pointer (some ⟨D, 0, none⟩), .int .i64 1, .int .i64 (pn : Int), .slice (q[k1]).a 128 (q[k1]).c] w5 (DzEnd (.int .i64 0) W w5 T' 0 D AD (k + j + k1 + 1) [lz 1000 (wsN s l k ++ es), lz 1000 (vs ++ [((pn : Int), pageN s l k1)])])) := Lib.hid (fun w5 b5 => by
                        have hy := (P.out.below b5).each _ (List.getElem_mem hqk)
                        have := Write_p (k := 1) (n := 1000) (ws := vs) (p := (pn : Int)) (Z.out.below b5) (by omega) rfl (by omega) (by omega) hy.2.1 hy.1 hy.2.2
                        rw [hy.2.1, hyl] at this
                        exact this)
                      have hvn : ∀ j, j < k1 + 1 → j ≠ kk → pgW (vs ++ [((pn : Int), pageN s l k1)]) (l.getD j 0) = pageN s l j := fun j hj hne => by
                        rw [pgW_snoc]
                        by_cases e : j = k1
                        · subst e
                          rw [if_pos hpn]
                        · rw [if_neg (by rw [← hpn]; exact okP_ne' HG.out.2.2 (by omega) hkl e)]
                          exact HV1.out j (by omega) hne
                      have hvz : pgW (vs ++ [((pn : Int), pageN s l k1)]) (l.getD kk 0) = zeros := by
                        rw [pgW_snoc, if_neg (by rw [← hpn]; exact okP_ne' HG.out.2.2 (by rw [← HLN.out]; exact hkk) hkl (fun e => hkq e.symm))]
                        exact HV2.out
                      have HVN := Lib.hid hvn
                      have HVZ := Lib.hid hvz
                      generalize q[k1] = y at HCK HWR
                      have hSd : (fun w' : World => w'.cell? ⟨gA, oA + k1, none⟩ = some (.slice y.a 128 y.c) ∧ w'.cell? ⟨ga, oa + k1, none⟩ = some (.int .i64 (pn : Int))) wr.drew := ⟨HCK.out wr T' P.out, HCA.out wr Z.out.bel⟩
                      clear hpn hp3 hqk hkl hyl hvn hvz
                      go_wp2
                      rename_i K hK
                      refine wp_heldHQ (fun w' : World => w'.cell? ⟨gA, oA + k1, none⟩ = some (.slice y.a 128 y.c) ∧ w'.cell? ⟨ga, oa + k1, none⟩ = some (.int .i64 (pn : Int))) hmx ?_
                      refine wpAnyH_take (i := 0) (v := .pointer (some ⟨D, 0, none⟩)) rfl (by kernel_rfl) (by kernel_rfl) (by kernel_rfl) (fun _ _ _ h => h) (Or.inl ⟨by rfl, ?_⟩) hSd ?_
                      · rintro w6 ⟨k1, k2⟩
                        go_simp
                      simp only [Act.put, List.setIfInBounds_toArray, List.set_cons_zero, List.set_cons_succ, List.getElem_toArray, List.getElem_cons_zero]
                      refine wpAnyH_take (i := 1) (v := .slice (some ⟨ga, oa, none⟩) k c) rfl (by kernel_rfl) (by kernel_rfl) (by kernel_rfl) (fun _ _ _ h => h) (Or.inl ⟨by rfl, ?_⟩) hSd ?_
                      · rintro w6 ⟨k1, k2⟩
                        go_simp
                      simp only [Act.put, List.setIfInBounds_toArray, List.set_cons_zero, List.set_cons_succ, List.getElem_toArray, List.getElem_cons_zero, List.getElem_cons_succ]
                      refine wpAnyH_take (i := 2) (v := .int .i64 (k1 : Int)) rfl (by kernel_rfl) (by kernel_rfl) (by kernel_rfl) (fun _ _ _ h => h) (Or.inl ⟨by rfl, ?_⟩) hSd ?_
                      · rintro w6 ⟨k1, k2⟩
                        go_simp
                      simp only [Act.put, List.setIfInBounds_toArray, List.set_cons_zero, List.set_cons_succ, List.getElem_toArray, List.getElem_cons_zero, List.getElem_cons_succ]
                      refine wpAnyH_take (i := 3) (v := .pointer (some ⟨ga, oa + k1, none⟩)) rfl (by kernel_rfl) (by kernel_rfl) (by kernel_rfl) (fun _ _ _ h => h) (Or.inl ⟨by rfl, ?_⟩) hSd ?_
                      · rintro w6 ⟨k1, k2⟩
                        go_simp
                      simp only [Act.put, List.setIfInBounds_toArray, List.set_cons_zero, List.set_cons_succ, List.getElem_toArray, List.getElem_cons_zero, List.getElem_cons_succ]
                      refine wpAnyH_take (i := 4) (v := .int .i64 (pn : Int)) rfl (by kernel_rfl) (by kernel_rfl) (by kernel_rfl) (fun _ _ _ h => h) (Or.inl ⟨by rfl, ?_⟩) hSd ?_
                      · rintro w6 ⟨k1, k2⟩
                        go_simp
                      simp only [Act.put, List.setIfInBounds_toArray, List.set_cons_zero, List.set_cons_succ, List.getElem_toArray, List.getElem_cons_zero, List.getElem_cons_succ]
                      refine wpAnyH_take (i := 5) (v := .slice (some ⟨gA, oA, none⟩) k c2) rfl (by kernel_rfl) (by kernel_rfl) (by kernel_rfl) (fun _ _ _ h => h) (Or.inl ⟨by rfl, ?_⟩) hSd ?_
                      · rintro w6 ⟨k1, k2⟩
                        go_simp
                      simp only [Act.put, List.setIfInBounds_toArray, List.set_cons_zero, List.set_cons_succ, List.getElem_toArray, List.getElem_cons_zero, List.getElem_cons_succ]
                      refine wpAnyH_take (i := 6) (v := .int .i64 (k1 : Int)) rfl (by kernel_rfl) (by kernel_rfl) (by kernel_rfl) (fun _ _ _ h => h) (Or.inl ⟨by rfl, ?_⟩) hSd ?_
                      · rintro w6 ⟨k1, k2⟩
                        go_simp
                      simp only [Act.put, List.setIfInBounds_toArray, List.set_cons_zero, List.set_cons_succ, List.getElem_toArray, List.getElem_cons_zero, List.getElem_cons_succ]
                      refine wpAnyH_take (i := 7) (v := .pointer (some ⟨gA, oA + k1, none⟩)) rfl (by kernel_rfl) (by kernel_rfl) (by kernel_rfl) (fun _ _ _ h => h) (Or.inl ⟨by rfl, ?_⟩) hSd ?_
                      · rintro w6 ⟨k1, k2⟩
                        go_simp
                      simp only [Act.put, List.setIfInBounds_toArray, List.set_cons_zero, List.set_cons_succ, List.getElem_toArray, List.getElem_cons_zero, List.getElem_cons_succ]
                      refine wpAnyH_take (i := 8) (v := .slice y.a 128 y.c) rfl (by kernel_rfl) (by kernel_rfl) (by kernel_rfl) (fun _ _ _ h => h) (Or.inl ⟨by rfl, ?_⟩) hSd ?_
                      · rintro w6 ⟨k1, k2⟩
                        go_simp
                      simp only [Act.put, List.setIfInBounds_toArray, List.set_cons_zero, List.set_cons_succ, List.getElem_toArray, List.getElem_cons_zero, List.getElem_cons_succ]
                      refine wpAnyH_ready (rs := [9]) (by kernel_rfl) (by simp) ?_
                      refine AllReadyH.cons rfl (fun K5 hK5 => ?_) AllReadyH.nil
                      go_simp
                      go_at_call 16
                      refine (HWR.out _ (Below.refl _ _).drew).mono ?_
                      rintro e5 w5 ⟨rfl, T5, z5, t5⟩
                      have Z5 := Lib.hid z5
                      have P5 := Lib.hid (P.out.drewL.tn t5)
                      have U5 := Lib.hid (U.out.drew9.tn t5)
                      have hS5 : w5.cell? ⟨gA, oA + k1, none⟩ = some (.slice y.a 128 y.c) ∧ w5.cell? ⟨ga, oa + k1, none⟩ = some (.int .i64 (pn : Int)) := ⟨HCK.out w5 T5 P5.out, HCA.out w5 Z5.out.bel⟩
                      clear z5 t5
                      refine hK5.out _ _ hS5 (fun _ => ?_)
                      clear hK5 K5
                      refine wpAnyH_done (by kernel_rfl) ?_ _
                      refine hK _ _ ?_
                      go_wp2
                      go_roundw
                      case rel => exact ⟨k1 + 1, T5, vs ++ [((pn : Int), pageN s l k1)], by omega, by go_num, HVN.out, HVZ.out, Z5.out, P5.out, U5.out⟩
                      case measure => simp [intOf]; omega
                  · skip
                    obtain rfl : k1 = k := by omega
                    have hl : (getC (fun p => (rdL [lz 1000 (wsN s l k1 ++ es), lz 1000 vs] 1 p, rdE [lz 1000 (wsN s l k1 ++ es), lz 1000 vs] 1 p)) (sb.size : Int) (l.getD 0 0)).2.2 = 12 := by
                      have hkl : kk < l.length := by rw [← HLN.out]; exact hkk
                      have := getC_lost (rd := fun p => (rdL [lz 1000 (wsN s l k1 ++ es), lz 1000 vs] 1 p, rdE [lz 1000 (wsN s l k1 ++ es), lz 1000 vs] 1 p)) HG.out kk hkl (fun j x hj hx => by
                        have hjl := (List.getElem?_eq_some_iff.1 hx).1
                        have e : l.getD j 0 = x := by rw [List.getD_eq_getElem?_getD, hx]; rfl
                        have hp := okP_pg HG.out.2.2 hx
                        have h3 := rdL_at (rs := [lz 1000 (wsN s l k1 ++ es), lz 1000 vs]) (k := 1) rfl (p := x) (by omega) (by omega)
                        have h4 := rdE_at (rs := [lz 1000 (wsN s l k1 ++ es), lz 1000 vs]) (k := 1) rfl (p := x) (by omega) (by omega)
                        rw [← e, HV1.out j (by omega) (by omega), e] at h3
                        exact Prod.ext h3 h4) zeros (by
                        have hp := okP_pg HG.out.2.2 (getD_some hkl)
                        have h3 := rdL_at (rs := [lz 1000 (wsN s l k1 ++ es), lz 1000 vs]) (k := 1) rfl (p := l.getD kk 0) (by omega) (by omega)
                        have h4 := rdE_at (rs := [lz 1000 (wsN s l k1 ++ es), lz 1000 vs]) (k := 1) rfl (p := l.getD kk 0) (by omega) (by omega)
                        rw [HV2.out] at h3
                        exact Prod.ext h3 h4) (unp_bad (by decide) zeros_bad)
                      rw [HSLN.out] at this
                      exact this
                    have hg9 := HGC.out wr T' D AD _ _ Z.out 1 (l.getD 0 0)
                    obtain ⟨⟨s9, l9, e9⟩, hr9⟩ : ∃ r, getC (fun p => (rdL [lz 1000 (wsN s l k1 ++ es), lz 1000 vs] 1 p, rdE [lz 1000 (wsN s l k1 ++ es), lz 1000 vs] 1 p)) (sb.size : Int) (l.getD 0 0) = r := ⟨_, rfl⟩
                    rw [hr9] at hl hg9
                    simp only at hl
                    subst hl
                    rw [HP00.out] at hg9
                    have HG9 := Lib.hid hg9
                    have hc0b := HP0.out wr Z.out.bel
                    have HB9 := Lib.hid Z.out.bel
                    obtain ⟨wx, hwx⟩ : ∃ wx : World, wx = wr := ⟨_, rfl⟩
                    subst hwx
                    clear hr9 hg9
                    go_wp2_with (go_at_call 18; go_loud ((with_reducible refine HG9.out.mono ?_); rintro e w9 ⟨A9, n9, c9, rfl, _, b9⟩; have B9 := Lib.hid (below_step HB9.out b9); clear b9))
                    go_ret
                    exact ⟨rfl, B9.out⟩
      · have hp : putN s l = ([], 1) := by unfold putN; rw [if_neg hg]
        rw [hp] at HPU
        clear hse hsl h ht hs hn hp hg
        go_enter Tryd.func7, Tryd.ntmps7
        go_wp2_with (first
          | (go_at_call 8; (with_reducible refine HAW.out.mono ?_); rintro e w1 ⟨rfl, b1⟩; have B1 := Lib.hid b1; clear b1)
          | (go_at_call 9; (with_reducible refine (HPU.out _ B1.out).mono ?_); rintro e w2 ⟨A2, n2, c2, q, rfl, hC, hq, _, b2, _⟩; have hn2 : n2 = 0 := (by have h1 := congrArg List.length hq; rw [lq_len, ← hC.len] at h1; exact h1); subst hn2; have B2 := Lib.hid (below_step B1.out b2); clear hC hq b2))
        go_ret
        exact ⟨rfl, B2.out⟩

end Go.Proofs.YtdoabcbembinjaaDoor
