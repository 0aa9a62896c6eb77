import Derived.Test.YtnponjdnjkegmaaDoorJ18
/- Of a claim's texts, joined: NoPuts. No statement but in the last. -/
namespace Go.Proofs.YtnponjdnjkegmaaDoor
open Go.RowKit
set_option linter.unusedVariables false

theorem same_yes8 (A B : Option Addr) (n c m d : Nat) (l : List (List UInt8)) (w : World) (h : TxtA w A n l) (h' : TxtA w B m l) (hl : n ≤ 1000000) :
    Calls Tryd.prog 13 #[.slice A n c, .slice B m d] w (fun e w' => e = .returned (.bool true) ∧ Below w.heap.size w w') := by
  have := r7Same_any A B n c m d l l w h h' hl
  rw [show sameB l l = true from decide_eq_true rfl] at this
  exact this
theorem walkNoPuts_no (leaf : Bool) (A : Option Addr) (n c : Nat) (l : List En) (w : World) (ht : Tab w) (h : NodA w A n c l) (hs : smallN l = false) :
    Calls Tryd.prog 3 #[.agg #[.bool leaf, .slice A n c]] w fun e w' => e = .returned (.bool true) ∧ Below w.heap.size w w' := by
  obtain ⟨W, hW, hb, hx⟩ := box_law w leaf A n c
  have HAW := Lib.hid (awake08_any W (ht.below hb))
  have HSM := Lib.hid (fun w1 (hb1 : Below w.heap.size w w1) => small08_any leaf A n c l w1 (h.below hb1))
  rw [hs] at HSM
  have HB := Lib.hid hb
  have HX := Lib.hid hx
  clear ht h hs hb hx
  go_enter Tryd.func3, Tryd.ntmps3
  go_wp2_with (first
    | (go_at_call 8; (try rw [hW]); (with_reducible refine HAW.out.mono ?_); rintro e w0 ⟨rfl, h0⟩; have X0 := HX.out.below h0 HX.out.lt; have x0 := X0.cell 0; have x1 := X0.cell 1; have B0 := Lib.hid (below_step HB.out h0); clear h0 X0)
    | (go_at_call 9; (with_reducible refine (HSM.out _ B0.out).mono ?_); rintro e w1 ⟨rfl, h1⟩; have B1 := Lib.hid (below_step B0.out h1); clear h1))
  go_ret
  exact ⟨rfl, B1.out⟩

set_option maxRecDepth 100000 in
set_option maxHeartbeats 8000000 in
theorem walkNoPuts_yes (leaf : Bool) (A : Option Addr) (n c : Nat) (l : List En) (w : World) (ht : Tab w) (h : NodA w A n c l) (hs : smallN l = true) (hc : checkN leaf l) :
    Calls Tryd.prog 3 #[.agg #[.bool leaf, .slice A n c]] w fun e w' => e = .returned (.bool true) ∧ Below w.heap.size w w' := by
  have hmx : Tryd.prog.follows .mixedOrders = true := by kernel_rfl
  obtain ⟨W, hW, hb, hx⟩ := box_law w leaf A n c
  have hzn := zero_rnode
  have hf := small_fewN hs
  have hl40 := small_le hs
  have hn : n ≤ 40 := by rw [h.len]; exact hl40
  have HAW := Lib.hid (awake08_any W (ht.below hb))
  have HSM := Lib.hid (fun w1 (hb1 : Below w.heap.size w w1) => small08_any leaf A n c l w1 (h.below hb1))
  rw [hs] at HSM
  have HPL := Lib.hid (fun w1 (hb1 : Below w.heap.size w w1) => plain08_any leaf A n c l w1 (h.below hb1) (by omega))
  have HCE := Lib.hid (fun w1 (hb1 : Below w.heap.size w w1) => nCells_any leaf A n c l w1 (h.below hb1) (by omega) hf.wide)
  have HCK := Lib.hid (fun w1 (hb1 : Below w.heap.size w w1) => nCheck_any leaf A n c l w1 (h.below hb1) hf)
  have HRC := Lib.hid (fun A c w1 (h1 : NodA w1 A l.length c l) => r8Cells_any leaf A l.length c l w1 h1 hf)
  have HRK := Lib.hid (fun A c w1 (h1 : NodA w1 A l.length c l) => r8Check_any leaf A l.length c l w1 h1 hf)
  rw [decide_eq_true hc] at HCK HRK
  have HTX := Lib.hid (fun A n c q w1 (h1 : CellsA w1 A n c q) (hq : q.length ≤ 40) => texts_any A n c q w1 h1 (by omega))
  have HLE : Hid (∀ q, lq q = cellsE leaf l → q.length ≤ 40) := Lib.hid (fun q hq => by rw [← lq_len, hq, cellsE, List.length_map]; exact hl40)
  have HLC : Hid ((cellsE leaf l).length ≤ 40) := Lib.hid (by rw [cellsE, List.length_map]; exact hl40)
  have HP := Lib.hid (fun w1 (hb1 : Below w.heap.size w w1) => nPut_yes leaf A n c l w1 (ht.below hb1) (h.below hb1) hf hc)
  have HRP := Lib.hid (fun A c w1 (h1 : NodA w1 A l.length c l) => r8Put_yes leaf A l.length c l w1 h1 hf hc)
  have HPG := Lib.hid (cPage_len (kindN leaf) (cellsE leaf l) hc.2)
  unfold PackOk at HP
  unfold RPackEnd at HRP
  generalize cPage (kindN leaf) (cellsE leaf l) = pg at *
  have HB := Lib.hid hb
  have HX := Lib.hid hx
  clear ht h hs hb hx hf hc
  go_enter Tryd.func3, Tryd.ntmps3
  go_wp2_with (first
    | (go_at_call 8; (try rw [hW]); (with_reducible refine HAW.out.mono ?_); rintro e w0 ⟨rfl, h0⟩; have X0 := HX.out.below h0 HX.out.lt; have x0 := X0.cell 0; have x1 := X0.cell 1; have X0 := Lib.hid X0; have B0 := Lib.hid (below_step HB.out h0); clear h0)
    | (go_at_call 9; (with_reducible refine (HSM.out _ B0.out).mono ?_); rintro e w1 ⟨rfl, h1⟩; have X1 := X0.out.below h1 X0.out.lt; have y0 := X1.cell 0; have y1 := X1.cell 1; have X1 := Lib.hid X1; have B1 := Lib.hid (below_step B0.out h1); clear h1)
    | (go_at_call 10; (with_reducible refine (HPL.out _ B1.out).mono ?_); rintro e w2 ⟨A2, c2, rfl, d2, h2⟩; obtain ⟨V, hV⟩ : ∃ V, w2.alloc (.cells #[.bool leaf, .slice A2 l.length c2] 29) = V := ⟨_, rfl⟩; have BV : Below w2.heap.size w2 V := hV ▸ (Below.refl _ w2).alloc (Nat.le_refl _) _; have N2 := Lib.hid (show Has V w2.heap.size 29 #[.bool leaf, .slice A2 l.length c2] from hV ▸ Has.made w2 _ _); have D2 := Lib.hid (d2.below BV); have X2 := X1.out.below (below_step h2 BV) X1.out.lt; have z0 := X2.cell 0; have z1 := X2.cell 1; have X2 := Lib.hid X2; have B2 := Lib.hid (below_step B1.out (below_step h2 BV)); clear h2 d2 BV; subst hV)
    | (go_at_call 11; (with_reducible refine (HP.out _ B2.out).mono ?_); rintro e w3 ⟨A3, c3, rfl, g1, g2, r3, h3⟩; have R3 := Lib.hid r3.reads; have X3 := X2.out.below h3 X2.out.lt; have N3 := N2.out.below h3 N2.out.lt; have p0 := N3.cell 0; have p1 := N3.cell 1; have X3 := Lib.hid X3; have N3 := Lib.hid N3; have D3 := Lib.hid (D2.out.below h3); have B3 := Lib.hid (below_step B2.out h3); clear h3)
    | (go_at_call 12; (with_reducible refine (HRP.out _ _ _ D3.out).mono ?_); rintro e w4 ⟨rfl, h4⟩; have X4 := Lib.hid (X3.out.below h4 X3.out.lt); have N4 := Lib.hid (N3.out.below h4 N3.out.lt); have D4 := Lib.hid (D3.out.below h4); have B4 := Lib.hid (below_step B3.out h4); have R4 := Lib.hid (R3.out.keep_ h4); clear h4))
  have S4 : (fun w' : World => (Has w' w.heap.size 24 #[.bool leaf, .slice A n c] ∧ Has w' w2.heap.size 29 #[.bool leaf, .slice A2 l.length c2]) ∧ Reads w' A3 (pg.map byteV)) w4.drew := ⟨⟨X4.out, N4.out⟩, R4.out⟩
  rename_i K hK
  refine wp_held (fun w' : World => (Has w' w.heap.size 24 #[.bool leaf, .slice A n c] ∧ Has w' w2.heap.size 29 #[.bool leaf, .slice A2 l.length c2]) ∧ Reads w' A3 (pg.map byteV)) K hmx ?_ (fun _ _ h => h)
  refine wpAnyH_take (i := 0) (v := .agg #[.bool leaf, .slice A n c]) rfl (by kernel_rfl) (by kernel_rfl) (by kernel_rfl) (fun _ _ _ h => h) (Or.inl ⟨by rfl, ?_⟩) S4 ?_
  · intro w6 s1
    have d0 := s1.1.1.cell 0
    have d1 := s1.1.1.cell 1
    go_simp
  simp only [Act.put, List.setIfInBounds_toArray, List.set_cons_zero, List.set_cons_succ, List.getElem_toArray, List.getElem_cons_zero]
  refine wpAnyH_take (i := 3) (v := .agg #[.bool leaf, .slice A2 l.length c2]) rfl (by kernel_rfl) (by kernel_rfl) (by kernel_rfl) (fun _ _ _ h => h) (Or.inl ⟨by rfl, ?_⟩) S4 ?_
  · intro w6 s1
    have d0 := s1.1.2.cell 0
    have d1 := s1.1.2.cell 1
    go_simp
  simp only [Act.put, List.setIfInBounds_toArray, List.set_cons_zero, List.set_cons_succ, List.getElem_toArray, List.getElem_cons_zero, List.getElem_cons_succ]
  refine wpAnyH_ready (rs := [1]) (by kernel_rfl) (by simp) ?_
  refine AllReadyH.cons rfl (fun K5 hK5 => ?_) AllReadyH.nil
  go_simp
  go_at_call 15
  (with_reducible refine (HCE.out _ B4.out.drew).mono ?_)
  rintro e5 w5 ⟨A5, n5, c5, q5, rfl, k5, l5, b5⟩
  have G5 : Below w4.heap.size w4 w5 := (Below.refl _ w4).drew.trans b5
  have S5 : (fun w' : World => (Has w' w.heap.size 24 #[.bool leaf, .slice A n c] ∧ Has w' w2.heap.size 29 #[.bool leaf, .slice A2 l.length c2]) ∧ Reads w' A3 (pg.map byteV)) w5 := ⟨⟨X4.out.below G5 X4.out.lt, N4.out.below G5 N4.out.lt⟩, R4.out.keep_ G5⟩
  have L5 := HLE.out _ l5
  clear b5
  refine hK5.out _ _ S5 (fun _ => ?_)
  clear hK5 K5
  refine wpAnyH_ready (rs := [2]) (by kernel_rfl) (by simp) ?_
  refine AllReadyH.cons rfl (fun K5 hK5 => ?_) AllReadyH.nil
  go_simp
  go_at_call 14
  (with_reducible refine (HTX.out _ _ _ _ _ k5 L5).mono ?_)
  rintro e6 w6 ⟨A6, c6, rfl, t6, b6⟩
  have G6 := below_step G5 b6
  have S6 : (fun w' : World => (Has w' w.heap.size 24 #[.bool leaf, .slice A n c] ∧ Has w' w2.heap.size 29 #[.bool leaf, .slice A2 l.length c2]) ∧ Reads w' A3 (pg.map byteV)) w6 := ⟨⟨X4.out.below G6 X4.out.lt, N4.out.below G6 N4.out.lt⟩, R4.out.keep_ G6⟩
  clear b6
  refine hK5.out _ _ S6 (fun _ => ?_)
  clear hK5 K5
  refine wpAnyH_ready (rs := [4]) (by kernel_rfl) (by simp) ?_
  refine AllReadyH.cons rfl (fun K5 hK5 => ?_) AllReadyH.nil
  go_simp
  go_at_call 16
  (with_reducible refine (HRC.out _ _ _ (D4.out.below G6)).mono ?_)
  rintro e7 w7 ⟨A7, c7, rfl, t7, b7⟩
  have G7 := below_step G6 b7
  have S7 : (fun w' : World => (Has w' w.heap.size 24 #[.bool leaf, .slice A n c] ∧ Has w' w2.heap.size 29 #[.bool leaf, .slice A2 l.length c2]) ∧ Reads w' A3 (pg.map byteV)) w7 := ⟨⟨X4.out.below G7 X4.out.lt, N4.out.below G7 N4.out.lt⟩, R4.out.keep_ G7⟩
  have t67 := t6.below b7
  rw [l5] at t67
  clear b7
  refine hK5.out _ _ S7 (fun _ => ?_)
  clear hK5 K5
  refine wpAnyH_ready (rs := [5]) (by kernel_rfl) (by simp) ?_
  refine AllReadyH.cons rfl (fun K5 hK5 => ?_) AllReadyH.nil
  go_simp
  go_at_call 13
  (with_reducible refine (same_yes8 _ _ _ _ _ _ _ _ t67 t7 ?_).mono ?_)
  · have := HLC.out; omega
  rintro e8 w8 ⟨rfl, b8⟩
  have G8 := below_step G7 b8
  have S8 : (fun w' : World => (Has w' w.heap.size 24 #[.bool leaf, .slice A n c] ∧ Has w' w2.heap.size 29 #[.bool leaf, .slice A2 l.length c2]) ∧ Reads w' A3 (pg.map byteV)) w8 := ⟨⟨X4.out.below G8 X4.out.lt, N4.out.below G8 N4.out.lt⟩, R4.out.keep_ G8⟩
  clear b8
  refine hK5.out _ _ S8 (fun _ => ?_)
  clear hK5 K5
  refine wpAnyH_take (i := 6) (v := .bool true) rfl (by kernel_rfl) (by kernel_rfl) (by kernel_rfl) (fun _ _ _ h => h) (Or.inl ⟨by rfl, ?_⟩) S8 ?_
  · intro w6 s1
    go_simp
  simp only [Act.put, List.setIfInBounds_toArray, List.set_cons_zero, List.set_cons_succ, List.getElem_toArray, List.getElem_cons_zero, List.getElem_cons_succ]
  refine wpAnyH_take (i := 7) (v := .agg #[.bool leaf, .slice A n c]) rfl (by kernel_rfl) (by kernel_rfl) (by kernel_rfl) (fun _ _ _ h => h) (Or.inl ⟨by rfl, ?_⟩) S8 ?_
  · intro w6 s1
    have d0 := s1.1.1.cell 0
    have d1 := s1.1.1.cell 1
    go_simp
  simp only [Act.put, List.setIfInBounds_toArray, List.set_cons_zero, List.set_cons_succ, List.getElem_toArray, List.getElem_cons_zero, List.getElem_cons_succ]
  refine wpAnyH_take (i := 9) (v := .agg #[.bool leaf, .slice A2 l.length c2]) rfl (by kernel_rfl) (by kernel_rfl) (by kernel_rfl) (fun _ _ _ h => h) (Or.inl ⟨by rfl, ?_⟩) S8 ?_
  · intro w6 s1
    have d0 := s1.1.2.cell 0
    have d1 := s1.1.2.cell 1
    go_simp
  simp only [Act.put, List.setIfInBounds_toArray, List.set_cons_zero, List.set_cons_succ, List.getElem_toArray, List.getElem_cons_zero, List.getElem_cons_succ]
  refine wpAnyH_ready (rs := [8]) (by kernel_rfl) (by simp) ?_
  refine AllReadyH.cons rfl (fun K5 hK5 => ?_) AllReadyH.nil
  go_simp
  go_at_call 17
  (with_reducible refine (HCK.out _ (below_step B4.out G8)).mono ?_)
  rintro e9 w9 ⟨rfl, b9⟩
  have G9 := below_step G8 b9
  have S9 : (fun w' : World => (Has w' w.heap.size 24 #[.bool leaf, .slice A n c] ∧ Has w' w2.heap.size 29 #[.bool leaf, .slice A2 l.length c2]) ∧ Reads w' A3 (pg.map byteV)) w9 := ⟨⟨X4.out.below G9 X4.out.lt, N4.out.below G9 N4.out.lt⟩, R4.out.keep_ G9⟩
  clear b9
  refine hK5.out _ _ S9 (fun _ => ?_)
  clear hK5 K5
  refine wpAnyH_ready (rs := [10]) (by kernel_rfl) (by simp) ?_
  refine AllReadyH.cons rfl (fun K5 hK5 => ?_) AllReadyH.nil
  go_simp
  go_at_call 18
  (with_reducible refine (HRK.out _ _ _ (D4.out.below G9)).mono ?_)
  rintro e10 w10 ⟨rfl, b10⟩
  have G10 := below_step G9 b10
  have S10 : (fun w' : World => (Has w' w.heap.size 24 #[.bool leaf, .slice A n c] ∧ Has w' w2.heap.size 29 #[.bool leaf, .slice A2 l.length c2]) ∧ Reads w' A3 (pg.map byteV)) w10 := ⟨⟨X4.out.below G10 X4.out.lt, N4.out.below G10 N4.out.lt⟩, R4.out.keep_ G10⟩
  clear b10
  refine hK5.out _ _ S10 (fun _ => ?_)
  clear hK5 K5
  refine wpAnyH_take (i := 11) (v := .bool true) rfl (by kernel_rfl) (by kernel_rfl) (by kernel_rfl) (fun _ _ _ h => h) (Or.inl ⟨by rfl, ?_⟩) S10 ?_
  · intro w6 s1
    go_simp
  simp only [Act.put, List.setIfInBounds_toArray, List.set_cons_zero, List.set_cons_succ, List.getElem_toArray, List.getElem_cons_zero, List.getElem_cons_succ]
  refine wpAnyH_take (i := 12) (v := .bool true) rfl (by kernel_rfl) (by kernel_rfl) (by kernel_rfl) (fun _ _ _ h => h) (Or.inl ⟨by rfl, ?_⟩) S10 ?_
  · intro w6 s1
    go_simp
  simp only [Act.put, List.setIfInBounds_toArray, List.set_cons_zero, List.set_cons_succ, List.getElem_toArray, List.getElem_cons_zero, List.getElem_cons_succ]
  refine wpAnyH_take (i := 13) (v := .bool true) rfl (by kernel_rfl) (by kernel_rfl) (by kernel_rfl) (fun _ _ _ h => h) (Or.inl ⟨by rfl, ?_⟩) S10 ?_
  · intro w6 s1
    go_simp
  simp only [Act.put, List.setIfInBounds_toArray, List.set_cons_zero, List.set_cons_succ, List.getElem_toArray, List.getElem_cons_zero, List.getElem_cons_succ]
  refine wpAnyH_take (i := 14) (v := .slice A3 128 c3) rfl (by kernel_rfl) (by kernel_rfl) (by kernel_rfl) (fun _ _ _ h => h) (Or.inl ⟨by rfl, ?_⟩) S10 ?_
  · intro w6 s1
    go_simp
  simp only [Act.put, List.setIfInBounds_toArray, List.set_cons_zero, List.set_cons_succ, List.getElem_toArray, List.getElem_cons_zero, List.getElem_cons_succ]
  refine wpAnyH_take (i := 15) (v := .string ⟨pg.toArray⟩) rfl (by kernel_rfl) (by kernel_rfl) (by kernel_rfl) (fun _ _ _ h => h) (Or.inl ⟨by rfl, ?_⟩) S10 ?_
  · intro w6 s1
    have hst := run_string_of (P := Tryd.prog) w6 31 9 5 Tryd.underlying31 Tryd.underlying5 Tryd.underlying9 (cap := c3) HPG.out.symm s1.2
    go_simp
  simp only [Act.put, List.setIfInBounds_toArray, List.set_cons_zero, List.set_cons_succ, List.getElem_toArray, List.getElem_cons_zero, List.getElem_cons_succ]
  refine wpAnyH_take (i := 16) (v := .string ⟨pg.toArray⟩) rfl (by kernel_rfl) (by kernel_rfl) (by kernel_rfl) (fun _ _ _ h => h) (Or.inl ⟨by rfl, ?_⟩) S10 ?_
  · intro w6 s1
    go_simp
  simp only [Act.put, List.setIfInBounds_toArray, List.set_cons_zero, List.set_cons_succ, List.getElem_toArray, List.getElem_cons_zero, List.getElem_cons_succ]
  refine wpAnyH_take (i := 17) (v := .bool true) rfl (by kernel_rfl) (by kernel_rfl) (by kernel_rfl) (fun _ _ _ h => h) (Or.inl ⟨by rfl, ?_⟩) S10 ?_
  · intro w6 s1
    go_simp
  simp only [Act.put, List.setIfInBounds_toArray, List.set_cons_zero, List.set_cons_succ, List.getElem_toArray, List.getElem_cons_zero, List.getElem_cons_succ]
  refine wpAnyH_take (i := 18) (v := .bool true) rfl (by kernel_rfl) (by kernel_rfl) (by kernel_rfl) (fun _ _ _ h => h) (Or.inl ⟨by rfl, ?_⟩) S10 ?_
  · intro w6 s1
    go_simp
  simp only [Act.put, List.setIfInBounds_toArray, List.set_cons_zero, List.set_cons_succ, List.getElem_toArray, List.getElem_cons_zero, List.getElem_cons_succ]
  refine wpAnyH_take (i := 19) (v := .bool true) rfl (by kernel_rfl) (by kernel_rfl) (by kernel_rfl) (fun _ _ _ h => h) (Or.inl ⟨by rfl, ?_⟩) S10 ?_
  · intro w6 s1
    go_simp
  simp only [Act.put, List.setIfInBounds_toArray, List.set_cons_zero, List.set_cons_succ, List.getElem_toArray, List.getElem_cons_zero, List.getElem_cons_succ]
  refine wpAnyH_take (i := 20) (v := .int .i64 0) rfl (by kernel_rfl) (by kernel_rfl) (by kernel_rfl) (fun _ _ _ h => h) (Or.inl ⟨by rfl, ?_⟩) S10 ?_
  · intro w6 s1
    go_simp
  simp only [Act.put, List.setIfInBounds_toArray, List.set_cons_zero, List.set_cons_succ, List.getElem_toArray, List.getElem_cons_zero, List.getElem_cons_succ]
  refine wpAnyH_take (i := 21) (v := .int .i64 0) rfl (by kernel_rfl) (by kernel_rfl) (by kernel_rfl) (fun _ _ _ h => h) (Or.inl ⟨by rfl, ?_⟩) S10 ?_
  · intro w6 s1
    go_simp
  simp only [Act.put, List.setIfInBounds_toArray, List.set_cons_zero, List.set_cons_succ, List.getElem_toArray, List.getElem_cons_zero, List.getElem_cons_succ]
  refine wpAnyH_take (i := 22) (v := .bool true) rfl (by kernel_rfl) (by kernel_rfl) (by kernel_rfl) (fun _ _ _ h => h) (Or.inl ⟨by rfl, ?_⟩) S10 ?_
  · intro w6 s1
    go_simp
  simp only [Act.put, List.setIfInBounds_toArray, List.set_cons_zero, List.set_cons_succ, List.getElem_toArray, List.getElem_cons_zero, List.getElem_cons_succ]
  refine wpAnyH_take (i := 23) (v := .bool true) rfl (by kernel_rfl) (by kernel_rfl) (by kernel_rfl) (fun _ _ _ h => h) (Or.inl ⟨by rfl, ?_⟩) S10 ?_
  · intro w6 s1
    go_simp
  simp only [Act.put, List.setIfInBounds_toArray, List.set_cons_zero, List.set_cons_succ, List.getElem_toArray, List.getElem_cons_zero, List.getElem_cons_succ]
  refine wpAnyH_ready (rs := [24]) (by kernel_rfl) (by simp) ?_
  refine AllReadyH.cons rfl (fun K5 hK5 => ?_) AllReadyH.nil
  go_simp
  refine hK5.out _ _ S10 (fun _ => ?_)
  clear hK5 K5
  refine wpAnyH_done (by kernel_rfl) ?_ _
  refine hK _ _ ?_
  have BE := Lib.hid (below_step B4.out G10)
  clear S5 S6 S7 S8 S9 S10 G5 G6 G7 G8 G9 G10 t6 t7 t67 k5 l5
  go_wp2
  go_ret
  exact ⟨rfl, BE.out⟩

set_option maxRecDepth 100000 in
set_option maxHeartbeats 8000000 in
theorem walkNoPuts_bad (leaf : Bool) (A : Option Addr) (n c : Nat) (l : List En) (w : World) (ht : Tab w) (h : NodA w A n c l) (hs : smallN l = true) (hc : ¬ checkN leaf l) :
    Calls Tryd.prog 3 #[.agg #[.bool leaf, .slice A n c]] w fun e w' => e = .returned (.bool true) ∧ Below w.heap.size w w' := by
  have hmx : Tryd.prog.follows .mixedOrders = true := by kernel_rfl
  obtain ⟨W, hW, hb, hx⟩ := box_law w leaf A n c
  have hzn := zero_rnode
  have hf := small_fewN hs
  have hl40 := small_le hs
  have hn : n ≤ 40 := by rw [h.len]; exact hl40
  have HAW := Lib.hid (awake08_any W (ht.below hb))
  have HSM := Lib.hid (fun w1 (hb1 : Below w.heap.size w w1) => small08_any leaf A n c l w1 (h.below hb1))
  rw [hs] at HSM
  have HPL := Lib.hid (fun w1 (hb1 : Below w.heap.size w w1) => plain08_any leaf A n c l w1 (h.below hb1) (by omega))
  have HCE := Lib.hid (fun w1 (hb1 : Below w.heap.size w w1) => nCells_any leaf A n c l w1 (h.below hb1) (by omega) hf.wide)
  have HCK := Lib.hid (fun w1 (hb1 : Below w.heap.size w w1) => nCheck_any leaf A n c l w1 (h.below hb1) hf)
  have HRC := Lib.hid (fun A c w1 (h1 : NodA w1 A l.length c l) => r8Cells_any leaf A l.length c l w1 h1 hf)
  have HRK := Lib.hid (fun A c w1 (h1 : NodA w1 A l.length c l) => r8Check_any leaf A l.length c l w1 h1 hf)
  rw [decide_eq_false hc] at HCK HRK
  have HTX := Lib.hid (fun A n c q w1 (h1 : CellsA w1 A n c q) (hq : q.length ≤ 40) => texts_any A n c q w1 h1 (by omega))
  have HLE : Hid (∀ q, lq q = cellsE leaf l → q.length ≤ 40) := Lib.hid (fun q hq => by rw [← lq_len, hq, cellsE, List.length_map]; exact hl40)
  have HLC : Hid ((cellsE leaf l).length ≤ 40) := Lib.hid (by rw [cellsE, List.length_map]; exact hl40)
  have HP := Lib.hid (fun w1 (hb1 : Below w.heap.size w w1) => nPut_no leaf A n c l w1 (h.below hb1) hf hc)
  have HRP := Lib.hid (fun A c w1 (h1 : NodA w1 A l.length c l) => r8Put_no leaf A l.length c l w1 h1 hf hc)
  unfold PackNo at HP
  unfold RPackEnd at HRP
  have hst := fun (W : World) => run_string_of (P := Tryd.prog) W 31 9 5 Tryd.underlying31 Tryd.underlying5 Tryd.underlying9 (A := none) (n := 0) (cap := 0) (l := []) rfl Reads.empty
  have HB := Lib.hid hb
  have HX := Lib.hid hx
  clear ht h hs hb hx hf hc
  go_enter Tryd.func3, Tryd.ntmps3
  go_wp2_with (first
    | (go_at_call 8; (try rw [hW]); (with_reducible refine HAW.out.mono ?_); rintro e w0 ⟨rfl, h0⟩; have X0 := HX.out.below h0 HX.out.lt; have x0 := X0.cell 0; have x1 := X0.cell 1; have X0 := Lib.hid X0; have B0 := Lib.hid (below_step HB.out h0); clear h0)
    | (go_at_call 9; (with_reducible refine (HSM.out _ B0.out).mono ?_); rintro e w1 ⟨rfl, h1⟩; have X1 := X0.out.below h1 X0.out.lt; have y0 := X1.cell 0; have y1 := X1.cell 1; have X1 := Lib.hid X1; have B1 := Lib.hid (below_step B0.out h1); clear h1)
    | (go_at_call 10; (with_reducible refine (HPL.out _ B1.out).mono ?_); rintro e w2 ⟨A2, c2, rfl, d2, h2⟩; obtain ⟨V, hV⟩ : ∃ V, w2.alloc (.cells #[.bool leaf, .slice A2 l.length c2] 29) = V := ⟨_, rfl⟩; have BV : Below w2.heap.size w2 V := hV ▸ (Below.refl _ w2).alloc (Nat.le_refl _) _; have N2 := Lib.hid (show Has V w2.heap.size 29 #[.bool leaf, .slice A2 l.length c2] from hV ▸ Has.made w2 _ _); have D2 := Lib.hid (d2.below BV); have X2 := X1.out.below (below_step h2 BV) X1.out.lt; have z0 := X2.cell 0; have z1 := X2.cell 1; have X2 := Lib.hid X2; have B2 := Lib.hid (below_step B1.out (below_step h2 BV)); clear h2 d2 BV; subst hV)
    | (go_at_call 11; (with_reducible refine (HP.out _ B2.out).mono ?_); rintro e w3 ⟨rfl, h3⟩; have X3 := X2.out.below h3 X2.out.lt; have N3 := N2.out.below h3 N2.out.lt; have p0 := N3.cell 0; have p1 := N3.cell 1; have X3 := Lib.hid X3; have N3 := Lib.hid N3; have D3 := Lib.hid (D2.out.below h3); have B3 := Lib.hid (below_step B2.out h3); clear h3)
    | (go_at_call 12; (with_reducible refine (HRP.out _ _ _ D3.out).mono ?_); rintro e w4 ⟨rfl, h4⟩; have X4 := Lib.hid (X3.out.below h4 X3.out.lt); have N4 := Lib.hid (N3.out.below h4 N3.out.lt); have D4 := Lib.hid (D3.out.below h4); have B4 := Lib.hid (below_step B3.out h4); clear h4))
  have S4 : (fun w' : World => (Has w' w.heap.size 24 #[.bool leaf, .slice A n c] ∧ Has w' w2.heap.size 29 #[.bool leaf, .slice A2 l.length c2])) w4.drew := ⟨X4.out, N4.out⟩
  rename_i K hK
  refine wp_held (fun w' : World => (Has w' w.heap.size 24 #[.bool leaf, .slice A n c] ∧ Has w' w2.heap.size 29 #[.bool leaf, .slice A2 l.length c2])) K hmx ?_ (fun _ _ h => h)
  refine wpAnyH_take (i := 0) (v := .agg #[.bool leaf, .slice A n c]) rfl (by kernel_rfl) (by kernel_rfl) (by kernel_rfl) (fun _ _ _ h => h) (Or.inl ⟨by rfl, ?_⟩) S4 ?_
  · intro w6 s1
    have d0 := s1.1.cell 0
    have d1 := s1.1.cell 1
    go_simp
  simp only [Act.put, List.setIfInBounds_toArray, List.set_cons_zero, List.set_cons_succ, List.getElem_toArray, List.getElem_cons_zero]
  refine wpAnyH_take (i := 3) (v := .agg #[.bool leaf, .slice A2 l.length c2]) rfl (by kernel_rfl) (by kernel_rfl) (by kernel_rfl) (fun _ _ _ h => h) (Or.inl ⟨by rfl, ?_⟩) S4 ?_
  · intro w6 s1
    have d0 := s1.2.cell 0
    have d1 := s1.2.cell 1
    go_simp
  simp only [Act.put, List.setIfInBounds_toArray, List.set_cons_zero, List.set_cons_succ, List.getElem_toArray, List.getElem_cons_zero, List.getElem_cons_succ]
  refine wpAnyH_ready (rs := [1]) (by kernel_rfl) (by simp) ?_
  refine AllReadyH.cons rfl (fun K5 hK5 => ?_) AllReadyH.nil
  go_simp
  go_at_call 15
  (with_reducible refine (HCE.out _ B4.out.drew).mono ?_)
  rintro e5 w5 ⟨A5, n5, c5, q5, rfl, k5, l5, b5⟩
  have G5 : Below w4.heap.size w4 w5 := (Below.refl _ w4).drew.trans b5
  have S5 : (fun w' : World => (Has w' w.heap.size 24 #[.bool leaf, .slice A n c] ∧ Has w' w2.heap.size 29 #[.bool leaf, .slice A2 l.length c2])) w5 := ⟨X4.out.below G5 X4.out.lt, N4.out.below G5 N4.out.lt⟩
  have L5 := HLE.out _ l5
  clear b5
  refine hK5.out _ _ S5 (fun _ => ?_)
  clear hK5 K5
  refine wpAnyH_ready (rs := [2]) (by kernel_rfl) (by simp) ?_
  refine AllReadyH.cons rfl (fun K5 hK5 => ?_) AllReadyH.nil
  go_simp
  go_at_call 14
  (with_reducible refine (HTX.out _ _ _ _ _ k5 L5).mono ?_)
  rintro e6 w6 ⟨A6, c6, rfl, t6, b6⟩
  have G6 := below_step G5 b6
  have S6 : (fun w' : World => (Has w' w.heap.size 24 #[.bool leaf, .slice A n c] ∧ Has w' w2.heap.size 29 #[.bool leaf, .slice A2 l.length c2])) w6 := ⟨X4.out.below G6 X4.out.lt, N4.out.below G6 N4.out.lt⟩
  clear b6
  refine hK5.out _ _ S6 (fun _ => ?_)
  clear hK5 K5
  refine wpAnyH_ready (rs := [4]) (by kernel_rfl) (by simp) ?_
  refine AllReadyH.cons rfl (fun K5 hK5 => ?_) AllReadyH.nil
  go_simp
  go_at_call 16
  (with_reducible refine (HRC.out _ _ _ (D4.out.below G6)).mono ?_)
  rintro e7 w7 ⟨A7, c7, rfl, t7, b7⟩
  have G7 := below_step G6 b7
  have S7 : (fun w' : World => (Has w' w.heap.size 24 #[.bool leaf, .slice A n c] ∧ Has w' w2.heap.size 29 #[.bool leaf, .slice A2 l.length c2])) w7 := ⟨X4.out.below G7 X4.out.lt, N4.out.below G7 N4.out.lt⟩
  have t67 := t6.below b7
  rw [l5] at t67
  clear b7
  refine hK5.out _ _ S7 (fun _ => ?_)
  clear hK5 K5
  refine wpAnyH_ready (rs := [5]) (by kernel_rfl) (by simp) ?_
  refine AllReadyH.cons rfl (fun K5 hK5 => ?_) AllReadyH.nil
  go_simp
  go_at_call 13
  (with_reducible refine (same_yes8 _ _ _ _ _ _ _ _ t67 t7 ?_).mono ?_)
  · have := HLC.out; omega
  rintro e8 w8 ⟨rfl, b8⟩
  have G8 := below_step G7 b8
  have S8 : (fun w' : World => (Has w' w.heap.size 24 #[.bool leaf, .slice A n c] ∧ Has w' w2.heap.size 29 #[.bool leaf, .slice A2 l.length c2])) w8 := ⟨X4.out.below G8 X4.out.lt, N4.out.below G8 N4.out.lt⟩
  clear b8
  refine hK5.out _ _ S8 (fun _ => ?_)
  clear hK5 K5
  refine wpAnyH_take (i := 6) (v := .bool true) rfl (by kernel_rfl) (by kernel_rfl) (by kernel_rfl) (fun _ _ _ h => h) (Or.inl ⟨by rfl, ?_⟩) S8 ?_
  · intro w6 s1
    go_simp
  simp only [Act.put, List.setIfInBounds_toArray, List.set_cons_zero, List.set_cons_succ, List.getElem_toArray, List.getElem_cons_zero, List.getElem_cons_succ]
  refine wpAnyH_take (i := 7) (v := .agg #[.bool leaf, .slice A n c]) rfl (by kernel_rfl) (by kernel_rfl) (by kernel_rfl) (fun _ _ _ h => h) (Or.inl ⟨by rfl, ?_⟩) S8 ?_
  · intro w6 s1
    have d0 := s1.1.cell 0
    have d1 := s1.1.cell 1
    go_simp
  simp only [Act.put, List.setIfInBounds_toArray, List.set_cons_zero, List.set_cons_succ, List.getElem_toArray, List.getElem_cons_zero, List.getElem_cons_succ]
  refine wpAnyH_take (i := 9) (v := .agg #[.bool leaf, .slice A2 l.length c2]) rfl (by kernel_rfl) (by kernel_rfl) (by kernel_rfl) (fun _ _ _ h => h) (Or.inl ⟨by rfl, ?_⟩) S8 ?_
  · intro w6 s1
    have d0 := s1.2.cell 0
    have d1 := s1.2.cell 1
    go_simp
  simp only [Act.put, List.setIfInBounds_toArray, List.set_cons_zero, List.set_cons_succ, List.getElem_toArray, List.getElem_cons_zero, List.getElem_cons_succ]
  refine wpAnyH_ready (rs := [8]) (by kernel_rfl) (by simp) ?_
  refine AllReadyH.cons rfl (fun K5 hK5 => ?_) AllReadyH.nil
  go_simp
  go_at_call 17
  (with_reducible refine (HCK.out _ (below_step B4.out G8)).mono ?_)
  rintro e9 w9 ⟨rfl, b9⟩
  have G9 := below_step G8 b9
  have S9 : (fun w' : World => (Has w' w.heap.size 24 #[.bool leaf, .slice A n c] ∧ Has w' w2.heap.size 29 #[.bool leaf, .slice A2 l.length c2])) w9 := ⟨X4.out.below G9 X4.out.lt, N4.out.below G9 N4.out.lt⟩
  clear b9
  refine hK5.out _ _ S9 (fun _ => ?_)
  clear hK5 K5
  refine wpAnyH_ready (rs := [10]) (by kernel_rfl) (by simp) ?_
  refine AllReadyH.cons rfl (fun K5 hK5 => ?_) AllReadyH.nil
  go_simp
  go_at_call 18
  (with_reducible refine (HRK.out _ _ _ (D4.out.below G9)).mono ?_)
  rintro e10 w10 ⟨rfl, b10⟩
  have G10 := below_step G9 b10
  have S10 : (fun w' : World => (Has w' w.heap.size 24 #[.bool leaf, .slice A n c] ∧ Has w' w2.heap.size 29 #[.bool leaf, .slice A2 l.length c2])) w10 := ⟨X4.out.below G10 X4.out.lt, N4.out.below G10 N4.out.lt⟩
  clear b10
  refine hK5.out _ _ S10 (fun _ => ?_)
  clear hK5 K5
  refine wpAnyH_take (i := 11) (v := .bool true) rfl (by kernel_rfl) (by kernel_rfl) (by kernel_rfl) (fun _ _ _ h => h) (Or.inl ⟨by rfl, ?_⟩) S10 ?_
  · intro w6 s1
    go_simp
  simp only [Act.put, List.setIfInBounds_toArray, List.set_cons_zero, List.set_cons_succ, List.getElem_toArray, List.getElem_cons_zero, List.getElem_cons_succ]
  refine wpAnyH_take (i := 12) (v := .bool true) rfl (by kernel_rfl) (by kernel_rfl) (by kernel_rfl) (fun _ _ _ h => h) (Or.inl ⟨by rfl, ?_⟩) S10 ?_
  · intro w6 s1
    go_simp
  simp only [Act.put, List.setIfInBounds_toArray, List.set_cons_zero, List.set_cons_succ, List.getElem_toArray, List.getElem_cons_zero, List.getElem_cons_succ]
  refine wpAnyH_take (i := 13) (v := .bool true) rfl (by kernel_rfl) (by kernel_rfl) (by kernel_rfl) (fun _ _ _ h => h) (Or.inl ⟨by rfl, ?_⟩) S10 ?_
  · intro w6 s1
    go_simp
  simp only [Act.put, List.setIfInBounds_toArray, List.set_cons_zero, List.set_cons_succ, List.getElem_toArray, List.getElem_cons_zero, List.getElem_cons_succ]
  refine wpAnyH_take (i := 14) (v := .slice none 0 0) rfl (by kernel_rfl) (by kernel_rfl) (by kernel_rfl) (fun _ _ _ h => h) (Or.inl ⟨by rfl, ?_⟩) S10 ?_
  · intro w6 s1
    go_simp
  simp only [Act.put, List.setIfInBounds_toArray, List.set_cons_zero, List.set_cons_succ, List.getElem_toArray, List.getElem_cons_zero, List.getElem_cons_succ]
  refine wpAnyH_take (i := 15) (v := .string ⟨([] : List UInt8).toArray⟩) rfl (by kernel_rfl) (by kernel_rfl) (by kernel_rfl) (fun _ _ _ h => h) (Or.inl ⟨by rfl, ?_⟩) S10 ?_
  · intro w6 s1
    go_simp
  simp only [Act.put, List.setIfInBounds_toArray, List.set_cons_zero, List.set_cons_succ, List.getElem_toArray, List.getElem_cons_zero, List.getElem_cons_succ]
  refine wpAnyH_take (i := 16) (v := .string ⟨([] : List UInt8).toArray⟩) rfl (by kernel_rfl) (by kernel_rfl) (by kernel_rfl) (fun _ _ _ h => h) (Or.inl ⟨by rfl, ?_⟩) S10 ?_
  · intro w6 s1
    go_simp
  simp only [Act.put, List.setIfInBounds_toArray, List.set_cons_zero, List.set_cons_succ, List.getElem_toArray, List.getElem_cons_zero, List.getElem_cons_succ]
  refine wpAnyH_take (i := 17) (v := .bool true) rfl (by kernel_rfl) (by kernel_rfl) (by kernel_rfl) (fun _ _ _ h => h) (Or.inl ⟨by rfl, ?_⟩) S10 ?_
  · intro w6 s1
    go_simp
  simp only [Act.put, List.setIfInBounds_toArray, List.set_cons_zero, List.set_cons_succ, List.getElem_toArray, List.getElem_cons_zero, List.getElem_cons_succ]
  refine wpAnyH_take (i := 18) (v := .bool true) rfl (by kernel_rfl) (by kernel_rfl) (by kernel_rfl) (fun _ _ _ h => h) (Or.inl ⟨by rfl, ?_⟩) S10 ?_
  · intro w6 s1
    go_simp
  simp only [Act.put, List.setIfInBounds_toArray, List.set_cons_zero, List.set_cons_succ, List.getElem_toArray, List.getElem_cons_zero, List.getElem_cons_succ]
  refine wpAnyH_take (i := 19) (v := .bool true) rfl (by kernel_rfl) (by kernel_rfl) (by kernel_rfl) (fun _ _ _ h => h) (Or.inl ⟨by rfl, ?_⟩) S10 ?_
  · intro w6 s1
    go_simp
  simp only [Act.put, List.setIfInBounds_toArray, List.set_cons_zero, List.set_cons_succ, List.getElem_toArray, List.getElem_cons_zero, List.getElem_cons_succ]
  refine wpAnyH_take (i := 20) (v := .int .i64 1) rfl (by kernel_rfl) (by kernel_rfl) (by kernel_rfl) (fun _ _ _ h => h) (Or.inl ⟨by rfl, ?_⟩) S10 ?_
  · intro w6 s1
    go_simp
  simp only [Act.put, List.setIfInBounds_toArray, List.set_cons_zero, List.set_cons_succ, List.getElem_toArray, List.getElem_cons_zero, List.getElem_cons_succ]
  refine wpAnyH_take (i := 21) (v := .int .i64 1) rfl (by kernel_rfl) (by kernel_rfl) (by kernel_rfl) (fun _ _ _ h => h) (Or.inl ⟨by rfl, ?_⟩) S10 ?_
  · intro w6 s1
    go_simp
  simp only [Act.put, List.setIfInBounds_toArray, List.set_cons_zero, List.set_cons_succ, List.getElem_toArray, List.getElem_cons_zero, List.getElem_cons_succ]
  refine wpAnyH_take (i := 22) (v := .bool true) rfl (by kernel_rfl) (by kernel_rfl) (by kernel_rfl) (fun _ _ _ h => h) (Or.inl ⟨by rfl, ?_⟩) S10 ?_
  · intro w6 s1
    go_simp
  simp only [Act.put, List.setIfInBounds_toArray, List.set_cons_zero, List.set_cons_succ, List.getElem_toArray, List.getElem_cons_zero, List.getElem_cons_succ]
  refine wpAnyH_take (i := 23) (v := .bool true) rfl (by kernel_rfl) (by kernel_rfl) (by kernel_rfl) (fun _ _ _ h => h) (Or.inl ⟨by rfl, ?_⟩) S10 ?_
  · intro w6 s1
    go_simp
  simp only [Act.put, List.setIfInBounds_toArray, List.set_cons_zero, List.set_cons_succ, List.getElem_toArray, List.getElem_cons_zero, List.getElem_cons_succ]
  refine wpAnyH_ready (rs := [24]) (by kernel_rfl) (by simp) ?_
  refine AllReadyH.cons rfl (fun K5 hK5 => ?_) AllReadyH.nil
  go_simp
  refine hK5.out _ _ S10 (fun _ => ?_)
  clear hK5 K5
  refine wpAnyH_done (by kernel_rfl) ?_ _
  refine hK _ _ ?_
  have BE := Lib.hid (below_step B4.out G10)
  clear S5 S6 S7 S8 S9 S10 G5 G6 G7 G8 G9 G10 t6 t7 t67 k5 l5
  go_wp2
  go_ret
  exact ⟨rfl, BE.out⟩

theorem walkNoPuts (leaf : Bool) (A : Option Addr) (n c : Nat) (l : List En) (w : World) (ht : Tab w) (h : NodA w A n c l) :
    Calls Tryd.prog 3 #[.agg #[.bool leaf, .slice A n c]] w fun e w' => e = .returned (.bool true) ∧ Below w.heap.size w w' := by
  cases hs : smallN l
  · exact walkNoPuts_no leaf A n c l w ht h hs
  · by_cases hc : checkN leaf l
    · exact walkNoPuts_yes leaf A n c l w ht h hs hc
    · exact walkNoPuts_bad leaf A n c l w ht h hs hc

end Go.Proofs.YtnponjdnjkegmaaDoor
