import Derived.Test.YtoelojlabmconaaJPpe
import Derived.Laws.OwnMore
/- Of a claim's texts, joined: Ppf. No statement but in the last. -/
namespace Go.Proofs.Ytoelojlabmconaa
open Go.RowKit
set_option linter.unusedVariables false

theorem giveP_ne {p : Pd} {t : Nat} {l : List Int} (hl : l ≠ []) (h : ∀ x ∈ p.wait, x.1 ≠ t) : giveP p t l = ⟨p.hi, p.free, p.wait ++ [(t, srtZ l)]⟩ := by
  unfold giveP
  rw [if_neg hl]
  cases e : p.wait.getLast? with
  | none => rfl
  | some x =>
    show (if x.1 = t then _ else _) = _
    rw [if_neg (h x (List.mem_of_getLast? e))]
theorem getW_old {l : List (Nat × List Int)} {x : Nat × List Int} {i : Nat} (h : i < l.length) : (l ++ [x]).getD i w00 = l.getD i w00 := by rw [List.getD_eq_getElem?_getD, List.getD_eq_getElem?_getD, List.getElem?_append_left h]
theorem getW_new {l : List (Nat × List Int)} {x : Nat × List Int} {i : Nat} (h : i = l.length) : (l ++ [x]).getD i w00 = x := by subst h; rw [List.getD_eq_getElem?_getD, List.getElem?_append_right (Nat.le_refl _), Nat.sub_self]; rfl
theorem cellsW_both (l : List (Nat × List Int)) (x : Nat × List Int) (ss : List Sl13) (s : Sl13) : ∀ k, k ≤ ss.length → k ≤ l.length → cellsW (l ++ [x]) (ss ++ [s]) k = cellsW l ss k
  | 0, _, _ => rfl
  | k + 1, hk, hl => by
    unfold cellsW
    rw [cellsW_both l x ss s k (by omega) (by omega), getS_old (by omega), getW_old (by omega)]
theorem cellsW_end (l : List (Nat × List Int)) (x : Nat × List Int) (ss : List Sl13) (s : Sl13) {k : Nat} (hk : k = ss.length) (hl : k = l.length) : cellsW (l ++ [x]) (ss ++ [s]) (k + 1) = cellsW l ss k ++ [.int .u64 (x.1 : Int), .slice s.1 s.2.1 s.2.2] := by
  show cellsW (l ++ [x]) (ss ++ [s]) k ++ _ = _
  rw [cellsW_both l x ss s k (Nat.le_of_eq hk) (Nat.le_of_eq hl), getS_new hk, getW_new hl]
theorem lies_two13 (w : World) (u v : Value) (t : TypeId) : ∀ j y, ([u, v] : List Value)[j]? = some y → (w.alloc (.cells #[u, v] t)).cell? ((⟨w.heap.size, 0, none⟩ : Addr).add j) = some y := fun j y hj => by
  rw [add_plain, (Has.made w t #[u, v]).cell, Nat.zero_add]
  simpa using hj
theorem RowF.nil_ (w : World) (lo : Nat) : RowF w lo (none, 0, 0) [] := ⟨Row.empty, rfl, fun _ => rfl, Nat.le_refl _, Nat.zero_le _⟩
section
variable {w w' : World} {lo G : Nat} {A B : Option Addr} {n c m d : Nat} {p : Pd} {ss : List Sl13} {cs : Array Value}
theorem PoolF.wait1 {t gr cr : Nat} {s : Sl13} {pg : List Int} (h : PoolF w lo A n c B m d p ss) (ht : t < 2 ^ 64) (hf : RowF w' lo (A, n, c) p.free) (he : ∀ i, i < m → RowF w' lo (ss.getD i sl0) (p.wait.getD i w00).2) (r : RowF w' lo s pg)
    (ho : w'.ownsRow lo 56 2 (.slice (some ⟨gr, 0, none⟩) (m + 1) cr) (m + 1) (cellsW p.wait ss m ++ [.int .u64 (t : Int), .slice s.1 s.2.1 s.2.2])) : PoolF w' lo A n c (some ⟨gr, 0, none⟩) (m + 1) cr ⟨p.hi, p.free, p.wait ++ [(t, pg)]⟩ (ss ++ [s]) := by
  refine ⟨hf, ?_, ?_, ?_, fun i hi => ?_, fun x hx => ?_⟩
  · show m + 1 = (p.wait ++ [(t, pg)]).length
    rw [List.length_append, ← h.len]
    rfl
  · show (ss ++ [s]).length = (p.wait ++ [(t, pg)]).length
    rw [List.length_append, List.length_append, h.same]
    rfl
  · show w'.ownsRow lo 56 2 _ (m + 1) (cellsW (p.wait ++ [(t, pg)]) (ss ++ [s]) (m + 1))
    rw [cellsW_end p.wait (t, pg) ss s (h.len.trans h.same.symm) h.len]
    exact ho
  · show RowF w' lo ((ss ++ [s]).getD i sl0) ((p.wait ++ [(t, pg)]).getD i w00).2
    have h1 := h.len
    have h2 := h.same
    by_cases e : i = m
    · rw [getS_new (by omega), getW_new (by omega)]
      exact r
    · rw [getS_old (by omega), getW_old (by omega)]
      exact he i (by omega)
  · rcases List.mem_append.1 hx with h1 | h1
    · exact h.big x h1
    · obtain rfl : x = (t, pg) := by simpa using h1
      exact ht
theorem RowF.at {g i : Nat} {t : TypeId} {cur : Array Value} {m2 : Nat × Nat} {s : Sl13} {l : List Int} (h : RowF w lo s l) (hP : w.heap[g]? = some (.cells cur t m2)) (hne : 3 ≠ t) (u : Value) : RowF (w.setCell ⟨g, i, none⟩ u) lo s l :=
  ⟨h.row.keep_ (fun g2 cs _ hh => hh.away (p := ⟨g, i, none⟩) (fun e => by
    subst e
    unfold Has at hh
    rw [hP] at hh
    injection hh with hh
    injection hh with _ h2 _
    exact hne h2.symm) u), h.len, h.nil, h.room, h.most⟩
end
section
variable {w : World} {A B : Option Addr} {n c m d : Nat}
set_option maxRecDepth 100000 in
set_option maxHeartbeats 8000000 in
theorem oGive13_own (p : Pd) (h : Int) (t : Nat) (pg : List Int) (L : Option Addr) (nl cl : Nat) (ht : t < 2 ^ 64) (hlast : ∀ x ∈ p.wait, x.1 ≠ t) (hp : PoolA w A n c B m d p) (hl : RowZ w L nl cl pg) (hs : smallR p) (hn : nl ≤ 100000) :
    Calls Try.prog 20 #[.agg #[.int .i64 h, .slice A n c, .slice B m d], .int .u64 (t : Int), .slice L nl cl] w fun e w' => ∃ A' n' c' B' m' d' ss, e = .returned (.agg #[.int .i64 h, .slice A' n' c', .slice B' m' d']) ∧ PoolF w' w.heap.size A' n' c' B' m' d' (giveP p t pg) ss ∧ Below w.heap.size w w' := by
  have hmx : Try.prog.follows .mixedOrders = true := by kernel_rfl
  obtain ⟨j0, hj, jz0, jz1, jz2⟩ := info_parts wait_info13
  obtain ⟨W1, hW1⟩ : ∃ W1, (w.alloc (.cells #[.int .i64 h, .slice A n c, .slice B m d] 25)).alloc (.cells #[.int .i64 0, .slice none 0 0, .slice none 0 0] 25) = W1 := ⟨_, rfl⟩
  have bW1 : Below w.heap.size w W1 := hW1 ▸ ((Below.refl _ w).alloc (Nat.le_refl _) _).alloc (by simp) _
  have HX : Hid (Has W1 w.heap.size 25 #[.int .i64 h, .slice A n c, .slice B m d]) := Lib.hid (hW1 ▸ (Has.made w _ _).alloc _)
  have HZ : Hid (Has W1 (w.heap.size + 1) 25 #[.int .i64 0, .slice none 0 0, .slice none 0 0]) := Lib.hid (by
    have := Has.made (w.alloc (.cells #[.int .i64 h, .slice A n c, .slice B m d] 25)) 25 #[.int .i64 0, .slice none 0 0, .slice none 0 0]
    rw [hW1] at this
    simpa using this)
  have HSZ : Hid (w.heap.size ≤ W1.heap.size ∧ W1.heap.size = w.heap.size + 1 + 1) := Lib.hid ⟨bW1.size, by rw [← hW1]; simp⟩
  have HBW := Lib.hid bW1
  have hmm : m ≤ 1000 := by have h1 := hs.2.1; have := hp.wait.len; omega
  have HOW := Lib.hid (oOwn13_any p h (hp.below bW1) hs)
  have HPG := Lib.hid (hl.below bW1)
  have HNL := Lib.hid hl.len
  have HT := Lib.hid ht
  have HLA := Lib.hid hlast
  have z0 := HX.out.cell 0
  have z1 := HX.out.cell 1
  have z2 := HX.out.cell 2
  have HW1 := Lib.hid hW1
  clear hW1 bW1 hp hs hl ht hlast
  go_enter Try.func20, Try.ntmps20
  go_upto_region 2 with (go_at_call 27; (try rw [HW1.out]); (with_reducible refine HOW.out.mono ?_); rintro e w1 ⟨A1, c1, Bb, d1, ss, rfl, hf, hb⟩; have PF := Lib.hid hf; have B1 := Lib.hid hb; clear hf hb)
  obtain ⟨V1, hV1⟩ : ∃ x, w1.alloc (.cells #[.int .i64 h, .slice A1 n c1, .slice Bb m d1] 25) = x := ⟨_, rfl⟩
  rw [hV1]
  have bV1 : Below w1.heap.size w1 V1 := hV1 ▸ (Below.refl _ _).alloc (Nat.le_refl _) _
  have BV1 : Hid (Below W1.heap.size W1 V1) := Lib.hid (B1.out.trans (bV1.mono B1.out.size))
  have HG : Hid (Has V1 w1.heap.size 25 #[.int .i64 h, .slice A1 n c1, .slice Bb m d1]) := Lib.hid (hV1 ▸ Has.made _ _ _)
  have PV : Hid (PoolF V1 W1.heap.size A1 n c1 Bb m d1 p ss) := Lib.hid (PF.out.below bV1)
  have HWV : Hid (W1.heap.size ≤ w1.heap.size) := Lib.hid B1.out.size
  obtain ⟨G, hG⟩ : ∃ G, w1.heap.size = G := ⟨_, rfl⟩
  rw [hG] at HG HWV ⊢
  clear hV1 bV1 PF B1 hG
  have y0 := HG.out.cell 0
  have y1 := HG.out.cell 1
  have y2 := HG.out.cell 2
  by_cases hnl : nl = 0
  · subst hnl
    obtain rfl : pg = [] := List.length_eq_zero_iff.1 HNL.out.symm
    have HZV := Lib.hid (HZ.out.below BV1.out HZ.out.lt)
    have g0 := HZV.out.cell 0
    have g1 := HZV.out.cell 1
    have g2 := HZV.out.cell 2
    have f0 := HZV.out.free 0
    have f1 := HZV.out.free 1
    have f2 := HZV.out.free 2
    go_wp2
    have k3 := ((HZV.out.store 0 (.int .i64 h)).store 1 (.slice A1 n c1)).store 2 (.slice Bb m d1)
    have q0 := k3.cell 0
    have q1 := k3.cell 1
    have q2 := k3.cell 2
    refine ⟨rfl, .agg #[.int .i64 h, .slice A1 n c1, .slice Bb m d1], ?_, A1, n, c1, Bb, m, d1, ss, rfl, ?_, ?_⟩
    · simp at q0 q1 q2
      simp [results, Try.f20, go_sem, q0, q1, q2]
    · exact (PV.out.low HSZ.out.1).put3 HZV.out _ _ _
    · exact below_put3 (HBW.out.trans (BV1.out.mono HSZ.out.1)) (Nat.le_succ _) _ _ _
  · have hnl1 : ¬ (nl : Int) = 0 := by omega
    have HPNE : Hid (pg ≠ []) := Lib.hid (fun e => hnl (by rw [HNL.out, e]; rfl))
    have hrm := PV.out.room
    have hro := hrm.1
    have hwm : IntKind.i64.wrap ((m : Int) - 1) = (m : Int) - 1 := by rw [IntKind.wrap_i64]; omega
    have f1 := HG.out.free 2
    have HOV := Lib.hid PV.out.own
    clear hrm
    -- the last row that waits is of another version
    have HLS : Hid (0 < m → ∃ b tl, Bb = some ⟨b, 0, none⟩ ∧ tl ≠ t ∧ V1.cell? ⟨b, (m - 1) * 2, none⟩ = some (.int .u64 (tl : Int))) := Lib.hid (fun h0 => by
      obtain ⟨b, e, _, _, hc⟩ := PV.out.reads h0
      refine ⟨b, _, e, ?_, by have := (hc (m - 1) (by omega)).1; rw [Nat.zero_add] at this; exact this⟩
      have h1 := PV.out.len
      rw [getW_get (by omega)]
      exact HLA.out _ (List.getElem_mem _))
    have HVS : Hid (W1.heap.size ≤ V1.heap.size) := Lib.hid BV1.out.size
    by_cases hm0 : m = 0
    · have hlt : (m : Int) - 1 < 0 := by omega
      have hlt2 : (m : Int) < 1 := by omega
      have hw2 : IntKind.i64.wrap ((m : Int) - 1 + 1) = (m : Int) := by rw [IntKind.wrap_i64]; omega
      have HM0 := Lib.hid hm0
      clear hm0
      go_upto_region 8 with (at_builtin; (refine wpList_append_lies _ rfl _ _ 23 rfl W1.heap.size 56 j0 _ 2 32 Try.underlying23 hj jz0 jz1 jz2 rfl (by decide) _ m _ rfl (HOV.out.alloc _) ⟨V1.heap.size, 0, none⟩ 1 1 [.int .u64 (t : Int), .slice none 0 0] rfl rfl (lies_two13 _ _ _ _) (by intro u hu; simp at hu; rcases hu with rfl | rfl <;> rfl) (by decide) (by unfold maxLen; omega) (by omega) (Nat.le_trans HVS.out (by simp)) _ rfl ?_; intro gr cr w5 h7 h8 h9 h10; have O5 := Lib.hid h7; have G5 := Lib.hid h8; have HG5 := Lib.hid ((HG.out.alloc _).kept13 (HOV.out.alloc _) (by decide) h8); have y2 := HG5.out.cell 2; have e2 := HG5.out.free 2; clear h7 h8 h9 h10))
      obtain ⟨V, hV⟩ : ∃ x, w5.setCell ⟨G, 2, none⟩ (.slice (some ⟨gr, 0, none⟩) (m + 1) cr) = x := ⟨_, rfl⟩
      have PA := PV.out.below ((Below.refl V1.heap.size V1).alloc (Nat.le_refl _) (.cells #[.int .u64 (t : Int), .slice none 0 0] 56))
      have P5 := Lib.hid (PV.out.wait1 HT.out (PA.free.own PA.own (by decide) G5.out) (fun i hi => (PA.each i hi).own PA.own (by decide) G5.out) (RowF.nil_ w5 W1.heap.size) O5.out)
      have PVV := Lib.hid (hV ▸ P5.out.store HG5.out 2 (.slice (some ⟨gr, 0, none⟩) (m + 1) cr))
      have HGV : Hid (Has V G 25 #[.int .i64 h, .slice A1 n c1, .slice (some ⟨gr, 0, none⟩) (m + 1) cr]) := Lib.hid (hV ▸ HG5.out.store 2 (.slice (some ⟨gr, 0, none⟩) (m + 1) cr))
      have BV : Hid (Below W1.heap.size W1 V) := Lib.hid (hV ▸ ((BV1.out.alloc HVS.out _).grown G5.out (Nat.le_trans HVS.out (by simp)) (fun g e => (HOV.out.lt g e).1)).setCell (p := ⟨G, 2, none⟩) HWV.out _)
      rw [hV]
      clear hV PA
      have hrow := PVV.out.own
      have hcur : ∃ cur, V.heap[gr]? = some (.cells cur 56 (0, 0)) := by
        rcases hrow.2 with ⟨e, _⟩ | ⟨g, cap, cur, e, _, hc, _⟩
        · cases e
        · injection e with e
          injection e with e
          injection e with e
          subst e
          exact ⟨cur, hc⟩
      obtain ⟨cur, hcur⟩ := hcur
      have hm1 : m < (p.wait ++ [(t, ([] : List Int))]).length := by rw [List.length_append, ← PV.out.len]; simp
      have HCB : Hid (∀ w', Below V.heap.size V w' → (fun w' : World => w'.cell? ⟨G, 2, none⟩ = some (.slice (some ⟨gr, 0, none⟩) (m + 1) cr) ∧ w'.cell? ⟨gr, m * 2 + 1, none⟩ = some (.slice none 0 0) ∧ w'.frozen? ⟨gr, m * 2 + 1, none⟩ = false) w') := Lib.hid (fun w' b => by
        obtain ⟨b0, eb, _, hb0, hc0⟩ := PVV.out.reads (Nat.succ_pos _)
        injection eb with eb
        injection eb with eb
        subst eb
        have h1 := HGV.out.below b HGV.out.lt
        have h2 := (hc0 m (Nat.lt_succ_self _)).2
        rw [Nat.zero_add, getS_new (by rw [PV.out.same, ← PV.out.len])] at h2
        exact ⟨h1.cell 2, (b.cell (p := ⟨gr, m * 2 + 1, none⟩) hb0).trans h2, by unfold World.frozen?; simp only; rw [b.block gr hb0, hcur]; simp⟩)
      have HSO : Hid (∀ w20, (V.alloc (.cells #[.slice none 0 0, .slice L nl cl] 22)).drew = w20 → Calls Try.prog 25 #[.slice (some ⟨V.heap.size, 0, none⟩) 2 2] w20 (OwnZ (srtZ pg) w20)) := Lib.hid (fun w20 e => by
        have b0 : Below V.heap.size V w20 := e ▸ ((Below.refl _ V).alloc (Nat.le_refl _) _).drew
        have hH : Has w20 V.heap.size 22 #[.slice none 0 0, .slice L nl cl] := e ▸ (Has.made V _ _).drew
        have hR : RowsZ w20 (some ⟨V.heap.size, 0, none⟩) 2 2 [((none, 0, 0), []), ((L, nl, cl), pg)] := ⟨rfl, fun _ => ⟨V.heap.size, 0, rfl, fun j u hj => by
            rw [hH.cell, Nat.zero_add]
            simpa [hdrZ] using hj⟩, fun x hx => by
            rcases List.mem_cons.1 hx with rfl | hx
            · exact RowZ.none_ _
            · obtain rfl : x = ((L, nl, cl), pg) := by simpa using hx
              exact (HPG.out.below BV.out).below b0⟩
        have hfl : flatZ [((none, 0, 0), ([] : List Int)), ((L, nl, cl), pg)] = pg := by simp [flatZ]
        have := sorted13_any (some ⟨V.heap.size, 0, none⟩) 2 2 _ w20 hR (by rw [hfl, ← HNL.out]; omega) (by omega)
        rw [hfl] at this
        exact this)
      have HPL : Hid ((srtZ pg).length = nl) := Lib.hid (by rw [srtZ_len, HNL.out])
      have hSd : (fun w' : World => w'.cell? ⟨G, 2, none⟩ = some (.slice (some ⟨gr, 0, none⟩) (m + 1) cr) ∧ w'.cell? ⟨gr, m * 2 + 1, none⟩ = some (.slice none 0 0) ∧ w'.frozen? ⟨gr, m * 2 + 1, none⟩ = false) V.drew := HCB.out _ (Below.refl _ _).drew
      have HCUR := Lib.hid hcur
      have iM0 : (0 : Int) ≤ (m : Int) := by omega
      have iM1 : (m : Int) < (m : Int) + 1 := by omega
      clear hrow hcur hm1
      go_wp2
      rename_i K hK
      refine wp_heldK (fun w' : World => w'.cell? ⟨G, 2, none⟩ = some (.slice (some ⟨gr, 0, none⟩) (m + 1) cr) ∧ w'.cell? ⟨gr, m * 2 + 1, none⟩ = some (.slice none 0 0) ∧ w'.frozen? ⟨gr, m * 2 + 1, none⟩ = false) 14 K hmx ?_ (fun _ _ h => h)
      refine wpAnyK_pure (i := 0) (v := .pointer (some ⟨G, 2, none⟩)) rfl (by kernel_rfl) (by kernel_rfl) (by kernel_rfl) (by decide) (fun _ _ _ h => h) (Or.inl ⟨by rfl, ?_⟩) (.inr hSd) ?_
      · intro w6 _
        go_simp
      simp only [Act.put, List.setIfInBounds_toArray, List.set_cons_zero, List.set_cons_succ, List.getElem_toArray, List.getElem_cons_zero]
      refine wpAnyK_take (i := 1) (v := .slice (some ⟨gr, 0, none⟩) (m + 1) cr) rfl (by kernel_rfl) (by kernel_rfl) (by kernel_rfl) (by kernel_rfl) (by decide) (by kernel_rfl) (fun _ _ _ h => h) (Or.inl ⟨by rfl, ?_⟩) hSd ?_
      · rintro w6 ⟨k1, k2, k3⟩
        go_simp
      simp only [Act.put, List.setIfInBounds_toArray, List.set_cons_zero, List.set_cons_succ, List.getElem_toArray, List.getElem_cons_zero, List.getElem_cons_succ]
      refine wpAnyK_pure (i := 2) (v := .int .i64 (m : Int)) rfl (by kernel_rfl) (by kernel_rfl) (by kernel_rfl) (by decide) (fun _ _ _ h => h) (Or.inl ⟨by rfl, ?_⟩) (.inr hSd) ?_
      · intro w6 _
        go_simp
      simp only [Act.put, List.setIfInBounds_toArray, List.set_cons_zero, List.set_cons_succ, List.getElem_toArray, List.getElem_cons_zero, List.getElem_cons_succ]
      refine wpAnyK_pure (i := 3) (v := .pointer (some ⟨G, 2, none⟩)) rfl (by kernel_rfl) (by kernel_rfl) (by kernel_rfl) (by decide) (fun _ _ _ h => h) (Or.inl ⟨by rfl, ?_⟩) (.inr hSd) ?_
      · intro w6 _
        go_simp
      simp only [Act.put, List.setIfInBounds_toArray, List.set_cons_zero, List.set_cons_succ, List.getElem_toArray, List.getElem_cons_zero, List.getElem_cons_succ]
      refine wpAnyK_take (i := 4) (v := .slice (some ⟨gr, 0, none⟩) (m + 1) cr) rfl (by kernel_rfl) (by kernel_rfl) (by kernel_rfl) (by kernel_rfl) (by decide) (by kernel_rfl) (fun _ _ _ h => h) (Or.inl ⟨by rfl, ?_⟩) hSd ?_
      · rintro w6 ⟨k1, k2, k3⟩
        go_simp
      simp only [Act.put, List.setIfInBounds_toArray, List.set_cons_zero, List.set_cons_succ, List.getElem_toArray, List.getElem_cons_zero, List.getElem_cons_succ]
      refine wpAnyK_pure (i := 5) (v := .int .i64 (m : Int)) rfl (by kernel_rfl) (by kernel_rfl) (by kernel_rfl) (by decide) (fun _ _ _ h => h) (Or.inl ⟨by rfl, ?_⟩) (.inr hSd) ?_
      · intro w6 _
        go_simp
      simp only [Act.put, List.setIfInBounds_toArray, List.set_cons_zero, List.set_cons_succ, List.getElem_toArray, List.getElem_cons_zero, List.getElem_cons_succ]
      refine wpAnyK_pure (i := 6) (v := .pointer (some ⟨gr, m * 2, none⟩)) rfl (by kernel_rfl) (by kernel_rfl) (by kernel_rfl) (by decide) (fun _ _ _ h => h) (Or.inl ⟨by rfl, ?_⟩) (.inr hSd) ?_
      · intro w6 _
        go_simp
      simp only [Act.put, List.setIfInBounds_toArray, List.set_cons_zero, List.set_cons_succ, List.getElem_toArray, List.getElem_cons_zero, List.getElem_cons_succ]
      refine wpAnyK_pure (i := 7) (v := .pointer (some ⟨gr, m * 2 + 1, none⟩)) rfl (by kernel_rfl) (by kernel_rfl) (by kernel_rfl) (by decide) (fun _ _ _ h => h) (Or.inl ⟨by rfl, ?_⟩) (.inr hSd) ?_
      · intro w6 _
        go_simp
      simp only [Act.put, List.setIfInBounds_toArray, List.set_cons_zero, List.set_cons_succ, List.getElem_toArray, List.getElem_cons_zero, List.getElem_cons_succ]
      refine wpAnyK_take (i := 8) (v := .slice none 0 0) rfl (by kernel_rfl) (by kernel_rfl) (by kernel_rfl) (by kernel_rfl) (by decide) (by kernel_rfl) (fun _ _ _ h => h) (Or.inl ⟨by rfl, ?_⟩) hSd ?_
      · rintro w6 ⟨k1, k2, k3⟩
        go_simp
      simp only [Act.put, List.setIfInBounds_toArray, List.set_cons_zero, List.set_cons_succ, List.getElem_toArray, List.getElem_cons_zero, List.getElem_cons_succ]
      refine wpAnyK_pure (i := 9) (v := .slice L nl cl) rfl (by kernel_rfl) (by kernel_rfl) (by kernel_rfl) (by decide) (fun _ _ _ h => h) (Or.inl ⟨by rfl, ?_⟩) (.inr hSd) ?_
      · intro w6 _
        go_simp
      simp only [Act.put, List.setIfInBounds_toArray, List.set_cons_zero, List.set_cons_succ, List.getElem_toArray, List.getElem_cons_zero, List.getElem_cons_succ]
      refine wpAnyK_one (i := 10) (by kernel_rfl) rfl (fun K5 hK5 => ?_)
      go_simp
      obtain ⟨w20, hw20⟩ : ∃ x, (V.alloc (.cells #[.slice none 0 0, .slice L nl cl] 22)).drew = x := ⟨_, rfl⟩
      rw [hw20]
      have b20 : Below V.heap.size V w20 := hw20 ▸ ((Below.refl _ V).alloc (Nat.le_refl _) _).drew
      have h20 : (fun w' : World => w'.cell? ⟨G, 2, none⟩ = some (.slice (some ⟨gr, 0, none⟩) (m + 1) cr) ∧ w'.cell? ⟨gr, m * 2 + 1, none⟩ = some (.slice none 0 0) ∧ w'.frozen? ⟨gr, m * 2 + 1, none⟩ = false) w20 := HCB.out _ b20
      refine hK5.out _ _ (.inr h20) ?_
      clear hK5 K5
      refine wpAnyK_one (i := 11) (by kernel_rfl) rfl (fun K5 hK5 => ?_)
      go_simp
      go_at_call 25
      (with_reducible refine (HSO.out _ hw20).mono ?_)
      rintro e21 w21 ⟨A9, c9, rfl, o21, b21⟩
      rw [HPL.out] at o21
      try simp only [HPL.out]
      have b21' : Below V.heap.size V w21 := b20.trans (b21.mono b20.size)
      have h21 : (fun w' : World => w'.cell? ⟨G, 2, none⟩ = some (.slice (some ⟨gr, 0, none⟩) (m + 1) cr) ∧ w'.cell? ⟨gr, m * 2 + 1, none⟩ = some (.slice none 0 0) ∧ w'.frozen? ⟨gr, m * 2 + 1, none⟩ = false) w21 := HCB.out _ b21'
      refine hK5.out _ _ (.inr h21) ?_
      clear hK5 K5
      refine wpAnyK_pure (i := 12) (v := .pointer (some ⟨gr, m * 2, none⟩)) rfl (by kernel_rfl) (by kernel_rfl) (by kernel_rfl) (by decide) (fun _ _ _ h => h) (Or.inl ⟨by rfl, ?_⟩) (.inr h21) ?_
      · intro w6 _
        go_simp
      simp only [Act.put, List.setIfInBounds_toArray, List.set_cons_zero, List.set_cons_succ, List.getElem_toArray, List.getElem_cons_zero, List.getElem_cons_succ]
      refine wpAnyK_pure (i := 13) (v := .pointer (some ⟨gr, m * 2 + 1, none⟩)) rfl (by kernel_rfl) (by kernel_rfl) (by kernel_rfl) (by decide) (fun _ _ _ h => h) (Or.inl ⟨by rfl, ?_⟩) (.inr h21) ?_
      · intro w6 _
        go_simp
      simp only [Act.put, List.setIfInBounds_toArray, List.set_cons_zero, List.set_cons_succ, List.getElem_toArray, List.getElem_cons_zero, List.getElem_cons_succ]
      have q1 := h21.2.1
      have q2 := h21.2.2
      refine wpAnyK_one (i := 14) (by kernel_rfl) rfl (fun K5 hK5 => ?_)
      go_simp
      refine hK5.out _ _ (.inl (by kernel_rfl)) ?_
      clear hK5 K5
      refine wpAnyK_done (by kernel_rfl) ?_ _
      refine hK _ _ ?_
      have HCU : Hid (w21.heap[gr]? = some (.cells cur 56 (0, 0))) := Lib.hid ((b21'.block gr (Array.getElem?_eq_some_iff.1 HCUR.out).1).trans HCUR.out)
      have PU := Lib.hid (PVV.out.below b21')
      have HGU := Lib.hid ((HGV.out.below b21' HGV.out.lt).away (p := ⟨gr, m * 2 + 1, none⟩) (by intro e; have h1 := HGV.out; unfold Has at h1; rw [e] at h1; rw [HCUR.out] at h1; injection h1 with h1; injection h1 with _ h2 _; exact absurd h2 (by decide)) (.slice A9 nl c9))
      have HZU := Lib.hid (((HZ.out.below BV.out HZ.out.lt).below b21' (HZ.out.below BV.out HZ.out.lt).lt).away (p := ⟨gr, m * 2 + 1, none⟩) (by intro e; have h1 := HZ.out.below BV.out HZ.out.lt; unfold Has at h1; rw [e] at h1; rw [HCUR.out] at h1; injection h1 with h1; injection h1 with _ h2 _; exact absurd h2 (by decide)) (.slice A9 nl c9))
      have hst := (PU.out.own.stored (m * 2 + 1) (.slice A9 nl c9)).1
      have hss : (cellsW (p.wait ++ [(t, ([] : List Int))]) (ss ++ [(none, 0, 0)]) (m + 1)).set (m * 2 + 1) (.slice A9 nl c9) = cellsW p.wait ss m ++ [.int .u64 (t : Int), .slice A9 nl c9] := by
        rw [cellsW_end p.wait (t, []) ss (none, 0, 0) (PV.out.len.trans PV.out.same.symm) PV.out.len, List.set_append_right _ _ (by rw [cellsW_len]; omega), cellsW_len, show m * 2 + 1 - m * 2 = 1 by omega]
        rfl
      rw [hss] at hst
      have R21 : RowF w21 W1.heap.size (A9, nl, c9) (srtZ pg) := (RowF.of_own o21).low (Nat.le_trans BV.out.size b20.size)
      have PF9 := PV.out.wait1 (s := (A9, nl, c9)) HT.out (PU.out.free.at HCU.out (by decide) (.slice A9 nl c9)) (fun i hi => by
        have h1 := PU.out.each i (Nat.lt_succ_of_lt hi)
        have h2 := PV.out.len
        have h3 := PV.out.same
        have h4 : RowF w21 W1.heap.size (ss.getD i sl0) (p.wait.getD i w00).2 := by
          have h5 : RowF w21 W1.heap.size ((ss ++ [(none, 0, 0)]).getD i sl0) ((p.wait ++ [(t, ([] : List Int))]).getD i w00).2 := h1
          rw [getS_old (by omega), getW_old (by omega)] at h5
          exact h5
        exact h4.at HCU.out (by decide) (.slice A9 nl c9)) (R21.at HCU.out (by decide) (.slice A9 nl c9)) hst
      have BU : Hid (Below w.heap.size w (w21.setCell ⟨gr, m * 2 + 1, none⟩ (.slice A9 nl c9))) := Lib.hid ((HBW.out.trans ((BV.out.trans (b21'.mono BV.out.size)).mono HSZ.out.1)).setCell (p := ⟨gr, m * 2 + 1, none⟩) (Nat.le_trans HSZ.out.1 (by obtain ⟨b0, eb, hlo, _, _⟩ := PVV.out.reads (Nat.succ_pos _); injection eb with eb; injection eb with eb; subst eb; exact hlo)) _)
      have PF9 := Lib.hid PF9
      obtain ⟨U, hU⟩ : ∃ x, w21.setCell ⟨gr, m * 2 + 1, none⟩ (.slice A9 nl c9) = x := ⟨_, rfl⟩
      rw [hU] at PF9 HGU HZU BU ⊢
      clear hU hst hss R21 h20 h21 b20 b21 b21' o21 q1 q2 hSd
      have g0 := HZU.out.cell 0
      have g1 := HZU.out.cell 1
      have g2 := HZU.out.cell 2
      have f0 := HZU.out.free 0
      have f1' := HZU.out.free 1
      have f2 := HZU.out.free 2
      have d0 := HGU.out.cell 0
      have d1' := HGU.out.cell 1
      have d2 := HGU.out.cell 2
      go_wp2
      have k3 := ((HZU.out.store 0 (.int .i64 h)).store 1 (.slice A1 n c1)).store 2 (.slice (some ⟨gr, 0, none⟩) (m + 1) cr)
      have q0 := k3.cell 0
      have q1 := k3.cell 1
      have q2 := k3.cell 2
      refine ⟨rfl, .agg #[.int .i64 h, .slice A1 n c1, .slice (some ⟨gr, 0, none⟩) (m + 1) cr], ?_, A1, n, c1, some ⟨gr, 0, none⟩, m + 1, cr, ss ++ [(A9, nl, c9)], rfl, ?_, ?_⟩
      · simp at q0 q1 q2
        simp [results, Try.f20, go_sem, q0, q1, q2]
      · rw [giveP_ne HPNE.out HLA.out]
        exact (PF9.out.low HSZ.out.1).put3 HZU.out _ _ _
      · exact below_put3 BU.out (Nat.le_succ _) _ _ _
    · obtain ⟨j, hjm⟩ : ∃ j, m = j + 1 := ⟨m - 1, by omega⟩
      obtain ⟨b, tl, rfl, htl, hcl⟩ := HLS.out (by omega)
      have hj1 : (m : Int) - 1 = (j : Int) := by omega
      have hj2 : (j : Int) + 1 = (m : Int) := by omega
      rw [hj1] at hwm
      rw [show m - 1 = j by omega] at hcl
      have j0' : (0 : Int) ≤ (j : Int) := by omega
      have jm : (j : Int) < (m : Int) := by omega
      have jn : ¬ (j : Int) < 0 := by omega
      have htl2 : ¬ (tl : Int) = (t : Int) := by omega
      have HJM := Lib.hid hjm
      clear hm0 hjm
      go_upto_region 8 with (at_builtin; (refine wpList_append_lies _ rfl _ _ 23 rfl W1.heap.size 56 j0 _ 2 32 Try.underlying23 hj jz0 jz1 jz2 rfl (by decide) _ m _ rfl (HOV.out.alloc _) ⟨V1.heap.size, 0, none⟩ 1 1 [.int .u64 (t : Int), .slice none 0 0] rfl rfl (lies_two13 _ _ _ _) (by intro u hu; simp at hu; rcases hu with rfl | rfl <;> rfl) (by decide) (by unfold maxLen; omega) (by omega) (Nat.le_trans HVS.out (by simp)) _ rfl ?_; intro gr cr w5 h7 h8 h9 h10; have O5 := Lib.hid h7; have G5 := Lib.hid h8; have HG5 := Lib.hid ((HG.out.alloc _).kept13 (HOV.out.alloc _) (by decide) h8); have y2 := HG5.out.cell 2; have e2 := HG5.out.free 2; clear h7 h8 h9 h10))
      obtain ⟨V, hV⟩ : ∃ x, w5.setCell ⟨G, 2, none⟩ (.slice (some ⟨gr, 0, none⟩) (m + 1) cr) = x := ⟨_, rfl⟩
      have PA := PV.out.below ((Below.refl V1.heap.size V1).alloc (Nat.le_refl _) (.cells #[.int .u64 (t : Int), .slice none 0 0] 56))
      have P5 := Lib.hid (PV.out.wait1 HT.out (PA.free.own PA.own (by decide) G5.out) (fun i hi => (PA.each i hi).own PA.own (by decide) G5.out) (RowF.nil_ w5 W1.heap.size) O5.out)
      have PVV := Lib.hid (hV ▸ P5.out.store HG5.out 2 (.slice (some ⟨gr, 0, none⟩) (m + 1) cr))
      have HGV : Hid (Has V G 25 #[.int .i64 h, .slice A1 n c1, .slice (some ⟨gr, 0, none⟩) (m + 1) cr]) := Lib.hid (hV ▸ HG5.out.store 2 (.slice (some ⟨gr, 0, none⟩) (m + 1) cr))
      have BV : Hid (Below W1.heap.size W1 V) := Lib.hid (hV ▸ ((BV1.out.alloc HVS.out _).grown G5.out (Nat.le_trans HVS.out (by simp)) (fun g e => (HOV.out.lt g e).1)).setCell (p := ⟨G, 2, none⟩) HWV.out _)
      rw [hV]
      clear hV PA
      have hrow := PVV.out.own
      have hcur : ∃ cur, V.heap[gr]? = some (.cells cur 56 (0, 0)) := by
        rcases hrow.2 with ⟨e, _⟩ | ⟨g, cap, cur, e, _, hc, _⟩
        · cases e
        · injection e with e
          injection e with e
          injection e with e
          subst e
          exact ⟨cur, hc⟩
      obtain ⟨cur, hcur⟩ := hcur
      have hm1 : m < (p.wait ++ [(t, ([] : List Int))]).length := by rw [List.length_append, ← PV.out.len]; simp
      have HCB : Hid (∀ w', Below V.heap.size V w' → (fun w' : World => w'.cell? ⟨G, 2, none⟩ = some (.slice (some ⟨gr, 0, none⟩) (m + 1) cr) ∧ w'.cell? ⟨gr, m * 2 + 1, none⟩ = some (.slice none 0 0) ∧ w'.frozen? ⟨gr, m * 2 + 1, none⟩ = false) w') := Lib.hid (fun w' b => by
        obtain ⟨b0, eb, _, hb0, hc0⟩ := PVV.out.reads (Nat.succ_pos _)
        injection eb with eb
        injection eb with eb
        subst eb
        have h1 := HGV.out.below b HGV.out.lt
        have h2 := (hc0 m (Nat.lt_succ_self _)).2
        rw [Nat.zero_add, getS_new (by rw [PV.out.same, ← PV.out.len])] at h2
        exact ⟨h1.cell 2, (b.cell (p := ⟨gr, m * 2 + 1, none⟩) hb0).trans h2, by unfold World.frozen?; simp only; rw [b.block gr hb0, hcur]; simp⟩)
      have HSO : Hid (∀ w20, (V.alloc (.cells #[.slice none 0 0, .slice L nl cl] 22)).drew = w20 → Calls Try.prog 25 #[.slice (some ⟨V.heap.size, 0, none⟩) 2 2] w20 (OwnZ (srtZ pg) w20)) := Lib.hid (fun w20 e => by
        have b0 : Below V.heap.size V w20 := e ▸ ((Below.refl _ V).alloc (Nat.le_refl _) _).drew
        have hH : Has w20 V.heap.size 22 #[.slice none 0 0, .slice L nl cl] := e ▸ (Has.made V _ _).drew
        have hR : RowsZ w20 (some ⟨V.heap.size, 0, none⟩) 2 2 [((none, 0, 0), []), ((L, nl, cl), pg)] := ⟨rfl, fun _ => ⟨V.heap.size, 0, rfl, fun j u hj => by
            rw [hH.cell, Nat.zero_add]
            simpa [hdrZ] using hj⟩, fun x hx => by
            rcases List.mem_cons.1 hx with rfl | hx
            · exact RowZ.none_ _
            · obtain rfl : x = ((L, nl, cl), pg) := by simpa using hx
              exact (HPG.out.below BV.out).below b0⟩
        have hfl : flatZ [((none, 0, 0), ([] : List Int)), ((L, nl, cl), pg)] = pg := by simp [flatZ]
        have := sorted13_any (some ⟨V.heap.size, 0, none⟩) 2 2 _ w20 hR (by rw [hfl, ← HNL.out]; omega) (by omega)
        rw [hfl] at this
        exact this)
      have HPL : Hid ((srtZ pg).length = nl) := Lib.hid (by rw [srtZ_len, HNL.out])
      have hSd : (fun w' : World => w'.cell? ⟨G, 2, none⟩ = some (.slice (some ⟨gr, 0, none⟩) (m + 1) cr) ∧ w'.cell? ⟨gr, m * 2 + 1, none⟩ = some (.slice none 0 0) ∧ w'.frozen? ⟨gr, m * 2 + 1, none⟩ = false) V.drew := HCB.out _ (Below.refl _ _).drew
      have HCUR := Lib.hid hcur
      have iM0 : (0 : Int) ≤ (m : Int) := by omega
      have iM1 : (m : Int) < (m : Int) + 1 := by omega
      clear hrow hcur hm1
      go_wp2
      rename_i K hK
      refine wp_heldK (fun w' : World => w'.cell? ⟨G, 2, none⟩ = some (.slice (some ⟨gr, 0, none⟩) (m + 1) cr) ∧ w'.cell? ⟨gr, m * 2 + 1, none⟩ = some (.slice none 0 0) ∧ w'.frozen? ⟨gr, m * 2 + 1, none⟩ = false) 14 K hmx ?_ (fun _ _ h => h)
      refine wpAnyK_pure (i := 0) (v := .pointer (some ⟨G, 2, none⟩)) rfl (by kernel_rfl) (by kernel_rfl) (by kernel_rfl) (by decide) (fun _ _ _ h => h) (Or.inl ⟨by rfl, ?_⟩) (.inr hSd) ?_
      · intro w6 _
        go_simp
      simp only [Act.put, List.setIfInBounds_toArray, List.set_cons_zero, List.set_cons_succ, List.getElem_toArray, List.getElem_cons_zero]
      refine wpAnyK_take (i := 1) (v := .slice (some ⟨gr, 0, none⟩) (m + 1) cr) rfl (by kernel_rfl) (by kernel_rfl) (by kernel_rfl) (by kernel_rfl) (by decide) (by kernel_rfl) (fun _ _ _ h => h) (Or.inl ⟨by rfl, ?_⟩) hSd ?_
      · rintro w6 ⟨k1, k2, k3⟩
        go_simp
      simp only [Act.put, List.setIfInBounds_toArray, List.set_cons_zero, List.set_cons_succ, List.getElem_toArray, List.getElem_cons_zero, List.getElem_cons_succ]
      refine wpAnyK_pure (i := 2) (v := .int .i64 (m : Int)) rfl (by kernel_rfl) (by kernel_rfl) (by kernel_rfl) (by decide) (fun _ _ _ h => h) (Or.inl ⟨by rfl, ?_⟩) (.inr hSd) ?_
      · intro w6 _
        go_simp
      simp only [Act.put, List.setIfInBounds_toArray, List.set_cons_zero, List.set_cons_succ, List.getElem_toArray, List.getElem_cons_zero, List.getElem_cons_succ]
      refine wpAnyK_pure (i := 3) (v := .pointer (some ⟨G, 2, none⟩)) rfl (by kernel_rfl) (by kernel_rfl) (by kernel_rfl) (by decide) (fun _ _ _ h => h) (Or.inl ⟨by rfl, ?_⟩) (.inr hSd) ?_
      · intro w6 _
        go_simp
      simp only [Act.put, List.setIfInBounds_toArray, List.set_cons_zero, List.set_cons_succ, List.getElem_toArray, List.getElem_cons_zero, List.getElem_cons_succ]
      refine wpAnyK_take (i := 4) (v := .slice (some ⟨gr, 0, none⟩) (m + 1) cr) rfl (by kernel_rfl) (by kernel_rfl) (by kernel_rfl) (by kernel_rfl) (by decide) (by kernel_rfl) (fun _ _ _ h => h) (Or.inl ⟨by rfl, ?_⟩) hSd ?_
      · rintro w6 ⟨k1, k2, k3⟩
        go_simp
      simp only [Act.put, List.setIfInBounds_toArray, List.set_cons_zero, List.set_cons_succ, List.getElem_toArray, List.getElem_cons_zero, List.getElem_cons_succ]
      refine wpAnyK_pure (i := 5) (v := .int .i64 (m : Int)) rfl (by kernel_rfl) (by kernel_rfl) (by kernel_rfl) (by decide) (fun _ _ _ h => h) (Or.inl ⟨by rfl, ?_⟩) (.inr hSd) ?_
      · intro w6 _
        go_simp
      simp only [Act.put, List.setIfInBounds_toArray, List.set_cons_zero, List.set_cons_succ, List.getElem_toArray, List.getElem_cons_zero, List.getElem_cons_succ]
      refine wpAnyK_pure (i := 6) (v := .pointer (some ⟨gr, m * 2, none⟩)) rfl (by kernel_rfl) (by kernel_rfl) (by kernel_rfl) (by decide) (fun _ _ _ h => h) (Or.inl ⟨by rfl, ?_⟩) (.inr hSd) ?_
      · intro w6 _
        go_simp
      simp only [Act.put, List.setIfInBounds_toArray, List.set_cons_zero, List.set_cons_succ, List.getElem_toArray, List.getElem_cons_zero, List.getElem_cons_succ]
      refine wpAnyK_pure (i := 7) (v := .pointer (some ⟨gr, m * 2 + 1, none⟩)) rfl (by kernel_rfl) (by kernel_rfl) (by kernel_rfl) (by decide) (fun _ _ _ h => h) (Or.inl ⟨by rfl, ?_⟩) (.inr hSd) ?_
      · intro w6 _
        go_simp
      simp only [Act.put, List.setIfInBounds_toArray, List.set_cons_zero, List.set_cons_succ, List.getElem_toArray, List.getElem_cons_zero, List.getElem_cons_succ]
      refine wpAnyK_take (i := 8) (v := .slice none 0 0) rfl (by kernel_rfl) (by kernel_rfl) (by kernel_rfl) (by kernel_rfl) (by decide) (by kernel_rfl) (fun _ _ _ h => h) (Or.inl ⟨by rfl, ?_⟩) hSd ?_
      · rintro w6 ⟨k1, k2, k3⟩
        go_simp
      simp only [Act.put, List.setIfInBounds_toArray, List.set_cons_zero, List.set_cons_succ, List.getElem_toArray, List.getElem_cons_zero, List.getElem_cons_succ]
      refine wpAnyK_pure (i := 9) (v := .slice L nl cl) rfl (by kernel_rfl) (by kernel_rfl) (by kernel_rfl) (by decide) (fun _ _ _ h => h) (Or.inl ⟨by rfl, ?_⟩) (.inr hSd) ?_
      · intro w6 _
        go_simp
      simp only [Act.put, List.setIfInBounds_toArray, List.set_cons_zero, List.set_cons_succ, List.getElem_toArray, List.getElem_cons_zero, List.getElem_cons_succ]
      refine wpAnyK_one (i := 10) (by kernel_rfl) rfl (fun K5 hK5 => ?_)
      go_simp
      obtain ⟨w20, hw20⟩ : ∃ x, (V.alloc (.cells #[.slice none 0 0, .slice L nl cl] 22)).drew = x := ⟨_, rfl⟩
      rw [hw20]
      have b20 : Below V.heap.size V w20 := hw20 ▸ ((Below.refl _ V).alloc (Nat.le_refl _) _).drew
      have h20 : (fun w' : World => w'.cell? ⟨G, 2, none⟩ = some (.slice (some ⟨gr, 0, none⟩) (m + 1) cr) ∧ w'.cell? ⟨gr, m * 2 + 1, none⟩ = some (.slice none 0 0) ∧ w'.frozen? ⟨gr, m * 2 + 1, none⟩ = false) w20 := HCB.out _ b20
      refine hK5.out _ _ (.inr h20) ?_
      clear hK5 K5
      refine wpAnyK_one (i := 11) (by kernel_rfl) rfl (fun K5 hK5 => ?_)
      go_simp
      go_at_call 25
      (with_reducible refine (HSO.out _ hw20).mono ?_)
      rintro e21 w21 ⟨A9, c9, rfl, o21, b21⟩
      rw [HPL.out] at o21
      try simp only [HPL.out]
      have b21' : Below V.heap.size V w21 := b20.trans (b21.mono b20.size)
      have h21 : (fun w' : World => w'.cell? ⟨G, 2, none⟩ = some (.slice (some ⟨gr, 0, none⟩) (m + 1) cr) ∧ w'.cell? ⟨gr, m * 2 + 1, none⟩ = some (.slice none 0 0) ∧ w'.frozen? ⟨gr, m * 2 + 1, none⟩ = false) w21 := HCB.out _ b21'
      refine hK5.out _ _ (.inr h21) ?_
      clear hK5 K5
      refine wpAnyK_pure (i := 12) (v := .pointer (some ⟨gr, m * 2, none⟩)) rfl (by kernel_rfl) (by kernel_rfl) (by kernel_rfl) (by decide) (fun _ _ _ h => h) (Or.inl ⟨by rfl, ?_⟩) (.inr h21) ?_
      · intro w6 _
        go_simp
      simp only [Act.put, List.setIfInBounds_toArray, List.set_cons_zero, List.set_cons_succ, List.getElem_toArray, List.getElem_cons_zero, List.getElem_cons_succ]
      refine wpAnyK_pure (i := 13) (v := .pointer (some ⟨gr, m * 2 + 1, none⟩)) rfl (by kernel_rfl) (by kernel_rfl) (by kernel_rfl) (by decide) (fun _ _ _ h => h) (Or.inl ⟨by rfl, ?_⟩) (.inr h21) ?_
      · intro w6 _
        go_simp
      simp only [Act.put, List.setIfInBounds_toArray, List.set_cons_zero, List.set_cons_succ, List.getElem_toArray, List.getElem_cons_zero, List.getElem_cons_succ]
      have q1 := h21.2.1
      have q2 := h21.2.2
      refine wpAnyK_one (i := 14) (by kernel_rfl) rfl (fun K5 hK5 => ?_)
      go_simp
      refine hK5.out _ _ (.inl (by kernel_rfl)) ?_
      clear hK5 K5
      refine wpAnyK_done (by kernel_rfl) ?_ _
      refine hK _ _ ?_
      have HCU : Hid (w21.heap[gr]? = some (.cells cur 56 (0, 0))) := Lib.hid ((b21'.block gr (Array.getElem?_eq_some_iff.1 HCUR.out).1).trans HCUR.out)
      have PU := Lib.hid (PVV.out.below b21')
      have HGU := Lib.hid ((HGV.out.below b21' HGV.out.lt).away (p := ⟨gr, m * 2 + 1, none⟩) (by intro e; have h1 := HGV.out; unfold Has at h1; rw [e] at h1; rw [HCUR.out] at h1; injection h1 with h1; injection h1 with _ h2 _; exact absurd h2 (by decide)) (.slice A9 nl c9))
      have HZU := Lib.hid (((HZ.out.below BV.out HZ.out.lt).below b21' (HZ.out.below BV.out HZ.out.lt).lt).away (p := ⟨gr, m * 2 + 1, none⟩) (by intro e; have h1 := HZ.out.below BV.out HZ.out.lt; unfold Has at h1; rw [e] at h1; rw [HCUR.out] at h1; injection h1 with h1; injection h1 with _ h2 _; exact absurd h2 (by decide)) (.slice A9 nl c9))
      have hst := (PU.out.own.stored (m * 2 + 1) (.slice A9 nl c9)).1
      have hss : (cellsW (p.wait ++ [(t, ([] : List Int))]) (ss ++ [(none, 0, 0)]) (m + 1)).set (m * 2 + 1) (.slice A9 nl c9) = cellsW p.wait ss m ++ [.int .u64 (t : Int), .slice A9 nl c9] := by
        rw [cellsW_end p.wait (t, []) ss (none, 0, 0) (PV.out.len.trans PV.out.same.symm) PV.out.len, List.set_append_right _ _ (by rw [cellsW_len]; omega), cellsW_len, show m * 2 + 1 - m * 2 = 1 by omega]
        rfl
      rw [hss] at hst
      have R21 : RowF w21 W1.heap.size (A9, nl, c9) (srtZ pg) := (RowF.of_own o21).low (Nat.le_trans BV.out.size b20.size)
      have PF9 := PV.out.wait1 (s := (A9, nl, c9)) HT.out (PU.out.free.at HCU.out (by decide) (.slice A9 nl c9)) (fun i hi => by
        have h1 := PU.out.each i (Nat.lt_succ_of_lt hi)
        have h2 := PV.out.len
        have h3 := PV.out.same
        have h4 : RowF w21 W1.heap.size (ss.getD i sl0) (p.wait.getD i w00).2 := by
          have h5 : RowF w21 W1.heap.size ((ss ++ [(none, 0, 0)]).getD i sl0) ((p.wait ++ [(t, ([] : List Int))]).getD i w00).2 := h1
          rw [getS_old (by omega), getW_old (by omega)] at h5
          exact h5
        exact h4.at HCU.out (by decide) (.slice A9 nl c9)) (R21.at HCU.out (by decide) (.slice A9 nl c9)) hst
      have BU : Hid (Below w.heap.size w (w21.setCell ⟨gr, m * 2 + 1, none⟩ (.slice A9 nl c9))) := Lib.hid ((HBW.out.trans ((BV.out.trans (b21'.mono BV.out.size)).mono HSZ.out.1)).setCell (p := ⟨gr, m * 2 + 1, none⟩) (Nat.le_trans HSZ.out.1 (by obtain ⟨b0, eb, hlo, _, _⟩ := PVV.out.reads (Nat.succ_pos _); injection eb with eb; injection eb with eb; subst eb; exact hlo)) _)
      have PF9 := Lib.hid PF9
      obtain ⟨U, hU⟩ : ∃ x, w21.setCell ⟨gr, m * 2 + 1, none⟩ (.slice A9 nl c9) = x := ⟨_, rfl⟩
      rw [hU] at PF9 HGU HZU BU ⊢
      clear hU hst hss R21 h20 h21 b20 b21 b21' o21 q1 q2 hSd
      have g0 := HZU.out.cell 0
      have g1 := HZU.out.cell 1
      have g2 := HZU.out.cell 2
      have f0 := HZU.out.free 0
      have f1' := HZU.out.free 1
      have f2 := HZU.out.free 2
      have d0 := HGU.out.cell 0
      have d1' := HGU.out.cell 1
      have d2 := HGU.out.cell 2
      go_wp2
      have k3 := ((HZU.out.store 0 (.int .i64 h)).store 1 (.slice A1 n c1)).store 2 (.slice (some ⟨gr, 0, none⟩) (m + 1) cr)
      have q0 := k3.cell 0
      have q1 := k3.cell 1
      have q2 := k3.cell 2
      refine ⟨rfl, .agg #[.int .i64 h, .slice A1 n c1, .slice (some ⟨gr, 0, none⟩) (m + 1) cr], ?_, A1, n, c1, some ⟨gr, 0, none⟩, m + 1, cr, ss ++ [(A9, nl, c9)], rfl, ?_, ?_⟩
      · simp at q0 q1 q2
        simp [results, Try.f20, go_sem, q0, q1, q2]
      · rw [giveP_ne HPNE.out HLA.out]
        exact (PF9.out.low HSZ.out.1).put3 HZU.out _ _ _
      · exact below_put3 BU.out (Nat.le_succ _) _ _ _
end
end Go.Proofs.Ytoelojlabmconaa
