import Derived.Test.YtnponjdnjkegmaaDoorJ18
/- Of a claim's texts, joined: NoBack. No statement but in the last. -/
namespace Go.Proofs.YtnponjdnjkegmaaDoor
open Go.RowKit
set_option linter.unusedVariables false

theorem NodA.take {w : World} {A : Option Addr} {n c : Nat} {l : List En} (h : NodA w A n c l) {k : Nat} (hk : k ≤ n) : NodA w A k c (l.take k) := by
  refine ⟨by rw [List.length_take]; have := h.len; omega, ?_, by have := h.room; omega, h.most, fun e he => h.strs e (List.mem_of_mem_take he)⟩
  rw [cellsN_take]
  exact h.reads.take _
theorem FewN.take {l : List En} (h : FewN l) (k : Nat) : FewN (l.take k) := ⟨by rw [List.length_take]; have := h.1; omega, fun e he => h.2 e (List.mem_of_mem_take he)⟩

theorem walkNoBack_no (leaf : Bool) (A : Option Addr) (n c : Nat) (l : List En) (w : World) (ht : Tab w) (h : NodA w A n c l) (hs : smallN l = false) :
    Calls Tryd.prog 5 #[.agg #[.bool leaf, .slice A n c]] w fun e w' => e = .returned (.bool true) ∧ Below w.heap.size w w' := by
  obtain ⟨W, hW, hb, hx⟩ := box_law w leaf A n c
  have HAW := Lib.hid (awake08_any W (ht.below hb))
  have HSM := Lib.hid (fun w1 (hb1 : Below w.heap.size w w1) => small08_any leaf A n c l w1 (h.below hb1))
  rw [hs] at HSM
  have HB := Lib.hid hb
  have HX := Lib.hid hx
  clear ht h hs hb hx
  go_enter Tryd.func5, Tryd.ntmps5
  go_wp2_with (first
    | (go_at_call 8; (try rw [hW]); (with_reducible refine HAW.out.mono ?_); rintro e w0 ⟨rfl, h0⟩; have X0 := HX.out.below h0 HX.out.lt; have x0 := X0.cell 0; have x1 := X0.cell 1; have B0 := Lib.hid (below_step HB.out h0); clear h0 X0)
    | (go_at_call 9; (with_reducible refine (HSM.out _ B0.out).mono ?_); rintro e w1 ⟨rfl, h1⟩; have B1 := Lib.hid (below_step B0.out h1); clear h1))
  go_ret
  exact ⟨rfl, B1.out⟩

set_option maxRecDepth 100000 in
set_option maxHeartbeats 8000000 in
theorem walkNoBack_bad (leaf : Bool) (A : Option Addr) (n c : Nat) (l : List En) (w : World) (ht : Tab w) (h : NodA w A n c l) (hs : smallN l = true) (hc : ¬ checkN leaf l) :
    Calls Tryd.prog 5 #[.agg #[.bool leaf, .slice A n c]] w fun e w' => e = .returned (.bool true) ∧ Below w.heap.size w w' := by
  have hmx : Tryd.prog.follows .mixedOrders = true := by kernel_rfl
  obtain ⟨W, hW, hb, hx⟩ := box_law w leaf A n c
  have hzn := zero_node
  have hf := small_fewN hs
  have hl40 := small_le hs
  have hn : n ≤ 40 := by rw [h.len]; exact hl40
  have HAW := Lib.hid (awake08_any W (ht.below hb))
  have HSM := Lib.hid (fun w1 (hb1 : Below w.heap.size w w1) => small08_any leaf A n c l w1 (h.below hb1))
  rw [hs] at HSM
  have HP := Lib.hid (fun w1 (hb1 : Below w.heap.size w w1) => nPut_no leaf A n c l w1 (h.below hb1) hf hc)
  unfold PackNo at HP
  have HCK := Lib.hid (fun w1 (hb1 : Below w.heap.size w w1) => nCheck_any leaf A n c l w1 (h.below hb1) hf)
  rw [decide_eq_false hc] at HCK
  have HB := Lib.hid hb
  have HX := Lib.hid hx
  clear ht h hs hb hx hf hc
  go_enter Tryd.func5, Tryd.ntmps5
  go_wp2_with (first
    | (go_at_call 8; (try rw [hW]); (with_reducible refine HAW.out.mono ?_); rintro e w0 ⟨rfl, h0⟩; have X0 := HX.out.below h0 HX.out.lt; have x0 := X0.cell 0; have x1 := X0.cell 1; have X0 := Lib.hid X0; have B0 := Lib.hid (below_step HB.out h0); clear h0)
    | (go_at_call 9; (with_reducible refine (HSM.out _ B0.out).mono ?_); rintro e w1 ⟨rfl, h1⟩; have X1 := X0.out.below h1 X0.out.lt; have y0 := X1.cell 0; have y1 := X1.cell 1; have X1 := Lib.hid X1; have B1 := Lib.hid (below_step B0.out h1); clear h1)
    | (go_at_call 11; (with_reducible refine (HP.out _ B1.out).mono ?_); rintro e w3 ⟨rfl, h3⟩; have X3 := X1.out.below h3 X1.out.lt; have z0 := X3.cell 0; have z1 := X3.cell 1; have B3 := Lib.hid (below_step B1.out h3); clear h3 X3)
    | (go_at_call 17; (with_reducible refine (HCK.out _ B3.out).mono ?_); rintro e w4 ⟨rfl, h4⟩; have B4 := Lib.hid (below_step B3.out h4); clear h4))
  go_ret
  exact ⟨rfl, B4.out⟩

set_option maxRecDepth 100000 in
set_option maxHeartbeats 8000000 in
theorem walkNoBack_true (A : Option Addr) (n c : Nat) (l : List En) (w : World) (ht : Tab w) (h : NodA w A n c l) (hs : smallN l = true) (hc : checkN true l) :
    Calls Tryd.prog 5 #[.agg #[.bool true, .slice A n c]] w fun e w' => e = .returned (.bool true) ∧ Below w.heap.size w w' := by
  have hmx : Tryd.prog.follows .mixedOrders = true := by kernel_rfl
  obtain ⟨W, hW, hb, hx⟩ := box_law w true A n c
  have hzn := zero_node
  have hf := small_fewN hs
  have hl40 := small_le hs
  have hn : n ≤ 40 := by rw [h.len]; exact hl40
  have HAW := Lib.hid (awake08_any W (ht.below hb))
  have HSM := Lib.hid (fun w1 (hb1 : Below w.heap.size w w1) => small08_any true A n c l w1 (h.below hb1))
  rw [hs] at HSM
  have HP : Hid (∀ w1, Below w.heap.size w w1 → Calls Tryd.prog 11 #[.agg #[.bool true, .slice A n c]] w1 (PackOk 1 (cellsE true l) w1)) := Lib.hid (fun w1 (hb1 : Below w.heap.size w w1) => nPut_yes true A n c l w1 (ht.below hb1) (h.below hb1) hf hc)
  unfold PackOk at HP
  have HPG := Lib.hid (cPage_len 1 (cellsE true l) hc.2)
  have hgp := getN_page hc
  rw [show kindN true = 1 from rfl] at hgp
  have HG := Lib.hid (fun A c w1 (hb1 : Below w.heap.size w w1) (ha : Arg w1 A 128 c (cPage 1 (cellsE true l))) => nGet_any A 128 c (cPage 1 (cellsE true l)) w1 (ht.below hb1) ha)
  rw [hgp] at HG
  unfold GetN at HG
  have hln : l.length = n := h.len.symm
  have HPQ := Lib.hid (fun A n c w1 (h1 : NodA w1 A n c l) => plain08_any true A n c l w1 h1 (by have := h1.len; omega))
  have HPL := Lib.hid (fun w1 (hb1 : Below w.heap.size w w1) => plain08_any true A n c l w1 (h.below hb1) (by omega))
  have HSY := Lib.hid (fun A B c d w1 (h1 : NodA w1 A l.length c l) (h2 : NodA w1 B l.length d l) => r8Same_yes true A B l.length c d l w1 h1 h2 (by omega))
  have hlt : 1 ≤ n := by have := hc.1.1; have e : leastN true = 1 := rfl; omega
  obtain ⟨m, hm⟩ : ∃ m, n = m + 1 := ⟨n - 1, by omega⟩
  have hck : decide (checkN true (l.take m)) = decide ((1 : Int) ≤ (m : Int)) := by
    have h1 := checkN_take hc m (by omega)
    have e : leastN true = 1 := rfl
    rw [e] at h1
    by_cases h2 : 1 ≤ m
    · rw [decide_eq_true (h1.2 h2), decide_eq_true (by omega)]
    · rw [decide_eq_false (fun hh => h2 (h1.1 hh)), decide_eq_false (by omega)]
  have HCK := Lib.hid (fun w1 (hb1 : Below w.heap.size w w1) => nCheck_any true A m c (l.take m) w1 ((h.below hb1).take (by omega)) (hf.take m))
  rw [hck] at HCK
  obtain ⟨g, off, hA, _⟩ := h.reads (by rw [cellsN_len]; omega)
  subst hA
  have hrm := h.room
  have hcm := h.most
  unfold maxLen at hcm
  have hmn : (n : Int) - 1 = (m : Int) := by omega
  have hmc : m ≤ c := by omega
  obtain ⟨bb, hbb⟩ : ∃ bb, decide ((1 : Int) ≤ (m : Int)) = bb := ⟨_, rfl⟩
  rw [hbb] at HCK
  have HB := Lib.hid hb
  have HX := Lib.hid hx
  generalize cPage 1 (cellsE true l) = pg at *
  have HM := Lib.hid hm
  clear ht h hs hb hx hf hc hgp hck hm hl40 hln
  go_enter Tryd.func5, Tryd.ntmps5
  go_wp2_with (first
    | (go_at_call 8; (try rw [hW]); (with_reducible refine HAW.out.mono ?_); rintro e w0 ⟨rfl, h0⟩; have X0 := HX.out.below h0 HX.out.lt; have x0 := X0.cell 0; have x1 := X0.cell 1; have X0 := Lib.hid X0; have B0 := Lib.hid (below_step HB.out h0); clear h0)
    | (go_at_call 9; (with_reducible refine (HSM.out _ B0.out).mono ?_); rintro e w1 ⟨rfl, h1⟩; have X1 := X0.out.below h1 X0.out.lt; have y0 := X1.cell 0; have y1 := X1.cell 1; have X1 := Lib.hid X1; have B1 := Lib.hid (below_step B0.out h1); clear h1)
    | (go_at_call 11; (with_reducible refine (HP.out _ B1.out).mono ?_); rintro e w3 ⟨A3, c3, rfl, g1, g2, r3, h3⟩; have R3 := Lib.hid (Arg.of_row r3 HPG.out.symm (by decide) g1 g2); have X3 := Lib.hid (X1.out.below h3 X1.out.lt); have B3 := Lib.hid (below_step B1.out h3); clear h3 r3)
    | (go_at_call 20; (with_reducible refine (HG.out _ _ _ B3.out R3.out).mono ?_); rintro e w4 ⟨A4, n4, c4, rfl, d4, h4⟩; obtain ⟨V, hV⟩ : ∃ V, w4.alloc (.cells #[.bool true, .slice A4 n4 c4] 24) = V := ⟨_, rfl⟩; have BV : Below w4.heap.size w4 V := hV ▸ (Below.refl _ w4).alloc (Nat.le_refl _) _; have N4 := Lib.hid (show Has V w4.heap.size 24 #[.bool true, .slice A4 n4 c4] from hV ▸ Has.made w4 _ _); have D4 := Lib.hid (d4.below BV); have X4 := Lib.hid (X3.out.below (below_step h4 BV) X3.out.lt); have B4 := Lib.hid (below_step B3.out (below_step h4 BV)); clear h4 d4 BV))
  try rw [hV]
  have S4 : (fun w' : World => Has w' w.heap.size 24 #[.bool true, .slice (some ⟨g, off, none⟩) n c] ∧ Has w' w4.heap.size 24 #[.bool true, .slice A4 n4 c4]) V.drew := ⟨X4.out, N4.out⟩
  rename_i K hK
  refine wp_held (fun w' : World => Has w' w.heap.size 24 #[.bool true, .slice (some ⟨g, off, none⟩) n c] ∧ Has w' w4.heap.size 24 #[.bool true, .slice A4 n4 c4]) K hmx ?_ (fun _ _ h => h)
  refine wpAnyH_take (i := 0) (v := .int .i64 0) rfl (by kernel_rfl) (by kernel_rfl) (by kernel_rfl) (fun _ _ _ h => h) (Or.inl ⟨by rfl, ?_⟩) S4 ?_
  · intro w6 s1
    go_simp
  simp only [Act.put, List.setIfInBounds_toArray, List.set_cons_zero, List.set_cons_succ, List.getElem_toArray, List.getElem_cons_zero]
  refine wpAnyH_take (i := 1) (v := .bool false) rfl (by kernel_rfl) (by kernel_rfl) (by kernel_rfl) (fun _ _ _ h => h) (Or.inl ⟨by rfl, ?_⟩) S4 ?_
  · intro w6 s1
    go_simp
  simp only [Act.put, List.setIfInBounds_toArray, List.set_cons_zero, List.set_cons_succ, List.getElem_toArray, List.getElem_cons_zero, List.getElem_cons_succ]
  refine wpAnyH_take (i := 2) (v := .bool false) rfl (by kernel_rfl) (by kernel_rfl) (by kernel_rfl) (fun _ _ _ h => h) (Or.inl ⟨by rfl, ?_⟩) S4 ?_
  · intro w6 s1
    go_simp
  simp only [Act.put, List.setIfInBounds_toArray, List.set_cons_zero, List.set_cons_succ, List.getElem_toArray, List.getElem_cons_zero, List.getElem_cons_succ]
  refine wpAnyH_take (i := 3) (v := .agg #[.bool true, .slice A4 n4 c4]) rfl (by kernel_rfl) (by kernel_rfl) (by kernel_rfl) (fun _ _ _ h => h) (Or.inl ⟨by rfl, ?_⟩) S4 ?_
  · intro w6 s1
    have d0 := s1.2.cell 0
    have d1 := s1.2.cell 1
    go_simp
  simp only [Act.put, List.setIfInBounds_toArray, List.set_cons_zero, List.set_cons_succ, List.getElem_toArray, List.getElem_cons_zero, List.getElem_cons_succ]
  refine wpAnyH_take (i := 5) (v := .agg #[.bool true, .slice (some ⟨g, off, none⟩) n c]) rfl (by kernel_rfl) (by kernel_rfl) (by kernel_rfl) (fun _ _ _ h => h) (Or.inl ⟨by rfl, ?_⟩) S4 ?_
  · intro w6 s1
    have d0 := s1.1.cell 0
    have d1 := s1.1.cell 1
    go_simp
  simp only [Act.put, List.setIfInBounds_toArray, List.set_cons_zero, List.set_cons_succ, List.getElem_toArray, List.getElem_cons_zero, List.getElem_cons_succ]
  refine wpAnyH_ready (rs := [4]) (by kernel_rfl) (by simp) ?_
  refine AllReadyH.cons rfl (fun K5 hK5 => ?_) AllReadyH.nil
  go_simp
  go_at_call 10
  (with_reducible refine (HPQ.out _ _ _ _ (D4.out.below (Below.refl _ _).drew)).mono ?_)
  rintro e5 w5 ⟨A5, c5, rfl, d5, b5⟩
  have G5 : Below V.heap.size V w5 := (Below.refl _ V).drew.trans b5
  have S5 : (fun w' : World => Has w' w.heap.size 24 #[.bool true, .slice (some ⟨g, off, none⟩) n c] ∧ Has w' w4.heap.size 24 #[.bool true, .slice A4 n4 c4]) w5 := ⟨X4.out.below G5 X4.out.lt, N4.out.below G5 N4.out.lt⟩
  clear b5
  refine hK5.out _ _ S5 (fun _ => ?_)
  clear hK5 K5
  refine wpAnyH_ready (rs := [6]) (by kernel_rfl) (by simp) ?_
  refine AllReadyH.cons rfl (fun K5 hK5 => ?_) AllReadyH.nil
  go_simp
  go_at_call 10
  (with_reducible refine (HPL.out _ (below_step B4.out G5)).mono ?_)
  rintro e6 w6 ⟨A6, c6, rfl, d6, b6⟩
  have d5 := d5.below b6
  have G6 := below_step G5 b6
  have S6 : (fun w' : World => Has w' w.heap.size 24 #[.bool true, .slice (some ⟨g, off, none⟩) n c] ∧ Has w' w4.heap.size 24 #[.bool true, .slice A4 n4 c4]) w6 := ⟨X4.out.below G6 X4.out.lt, N4.out.below G6 N4.out.lt⟩
  clear b6
  refine hK5.out _ _ S6 (fun _ => ?_)
  clear hK5 K5
  refine wpAnyH_ready (rs := [7]) (by kernel_rfl) (by simp) ?_
  refine AllReadyH.cons rfl (fun K5 hK5 => ?_) AllReadyH.nil
  go_simp
  go_at_call 22
  (with_reducible refine (HSY.out _ _ _ _ _ d5 d6).mono ?_)
  rintro e7 w7 ⟨rfl, b7⟩
  have G7 := below_step G6 b7
  have S7 : (fun w' : World => Has w' w.heap.size 24 #[.bool true, .slice (some ⟨g, off, none⟩) n c] ∧ Has w' w4.heap.size 24 #[.bool true, .slice A4 n4 c4]) w7 := ⟨X4.out.below G7 X4.out.lt, N4.out.below G7 N4.out.lt⟩
  clear b7
  refine hK5.out _ _ S7 (fun _ => ?_)
  clear hK5 K5
  refine wpAnyH_take (i := 8) (v := .bool false) rfl (by kernel_rfl) (by kernel_rfl) (by kernel_rfl) (fun _ _ _ h => h) (Or.inl ⟨by rfl, ?_⟩) S7 ?_
  · intro w6 s1
    go_simp
  simp only [Act.put, List.setIfInBounds_toArray, List.set_cons_zero, List.set_cons_succ, List.getElem_toArray, List.getElem_cons_zero, List.getElem_cons_succ]
  refine wpAnyH_ready (rs := [9]) (by kernel_rfl) (by simp) ?_
  refine AllReadyH.cons rfl (fun K5 hK5 => ?_) AllReadyH.nil
  go_simp
  refine hK5.out _ _ S7 (fun _ => ?_)
  clear hK5 K5
  refine wpAnyH_done (by kernel_rfl) ?_ _
  refine hK _ _ ?_
  have X7 := Lib.hid S7.1
  have B7 := Lib.hid (below_step B4.out G7)
  have x70 := S7.1.cell 0
  have x71 := S7.1.cell 1
  clear S5 S6 S7 G5 G6 G7 d5 d6
  go_wp2
  have S7 : (fun w' : World => Has w' w.heap.size 24 #[.bool true, .slice (some ⟨g, off, none⟩) n c]) w7.drew := X7.out
  rename_i K hK
  refine wp_held (fun w' : World => Has w' w.heap.size 24 #[.bool true, .slice (some ⟨g, off, none⟩) n c]) K hmx ?_ (fun _ _ h => h)
  refine wpAnyH_take (i := 0) (v := .pointer (some ⟨w.heap.size, 0, none⟩)) rfl (by kernel_rfl) (by kernel_rfl) (by kernel_rfl) (fun _ _ _ h => h) (Or.inl ⟨by rfl, ?_⟩) S7 ?_
  · intro w6 s1
    go_simp
  simp only [Act.put, List.setIfInBounds_toArray, List.set_cons_zero, List.set_cons_succ, List.getElem_toArray, List.getElem_cons_zero]
  refine wpAnyH_take (i := 1) (v := .bool true) rfl (by kernel_rfl) (by kernel_rfl) (by kernel_rfl) (fun _ _ _ h => h) (Or.inl ⟨by rfl, ?_⟩) S7 ?_
  · intro w6 s1
    have d0 := s1.cell 0
    go_simp
  simp only [Act.put, List.setIfInBounds_toArray, List.set_cons_zero, List.set_cons_succ, List.getElem_toArray, List.getElem_cons_zero, List.getElem_cons_succ]
  refine wpAnyH_take (i := 2) (v := .pointer (some ⟨w.heap.size, 1, none⟩)) rfl (by kernel_rfl) (by kernel_rfl) (by kernel_rfl) (fun _ _ _ h => h) (Or.inl ⟨by rfl, ?_⟩) S7 ?_
  · intro w6 s1
    go_simp
  simp only [Act.put, List.setIfInBounds_toArray, List.set_cons_zero, List.set_cons_succ, List.getElem_toArray, List.getElem_cons_zero, List.getElem_cons_succ]
  refine wpAnyH_take (i := 3) (v := .slice (some ⟨g, off, none⟩) n c) rfl (by kernel_rfl) (by kernel_rfl) (by kernel_rfl) (fun _ _ _ h => h) (Or.inl ⟨by rfl, ?_⟩) S7 ?_
  · intro w6 s1
    have d0 := s1.cell 1
    go_simp
  simp only [Act.put, List.setIfInBounds_toArray, List.set_cons_zero, List.set_cons_succ, List.getElem_toArray, List.getElem_cons_zero, List.getElem_cons_succ]
  refine wpAnyH_take (i := 4) (v := .int .i64 (m : Int)) rfl (by kernel_rfl) (by kernel_rfl) (by kernel_rfl) (fun _ _ _ h => h) (Or.inl ⟨by rfl, ?_⟩) S7 ?_
  · intro w6 s1
    go_simp
  simp only [Act.put, List.setIfInBounds_toArray, List.set_cons_zero, List.set_cons_succ, List.getElem_toArray, List.getElem_cons_zero, List.getElem_cons_succ]
  refine wpAnyH_take (i := 5) (v := .slice (some ⟨g, off, none⟩) m c) rfl (by kernel_rfl) (by kernel_rfl) (by kernel_rfl) (fun _ _ _ h => h) (Or.inl ⟨by rfl, ?_⟩) S7 ?_
  · intro w6 s1
    go_simp
  simp only [Act.put, List.setIfInBounds_toArray, List.set_cons_zero, List.set_cons_succ, List.getElem_toArray, List.getElem_cons_zero, List.getElem_cons_succ]
  refine wpAnyH_take (i := 6) (v := .agg #[.bool true, .slice (some ⟨g, off, none⟩) m c]) rfl (by kernel_rfl) (by kernel_rfl) (by kernel_rfl) (fun _ _ _ h => h) (Or.inl ⟨by rfl, ?_⟩) S7 ?_
  · intro w6 s1
    go_simp
  simp only [Act.put, List.setIfInBounds_toArray, List.set_cons_zero, List.set_cons_succ, List.getElem_toArray, List.getElem_cons_zero, List.getElem_cons_succ]
  refine wpAnyH_ready (rs := [7]) (by kernel_rfl) (by simp) ?_
  refine AllReadyH.cons rfl (fun K5 hK5 => ?_) AllReadyH.nil
  go_simp
  obtain ⟨w8, hw8⟩ : ∃ w8, (w7.alloc (.cells #[.bool false, .slice none 0 0] 24)).drew = w8 := ⟨_, rfl⟩
  try rw [hw8]
  have Z8 : Has w8 w7.heap.size 24 #[.bool false, .slice none 0 0] := hw8 ▸ (Has.made w7 _ _).drew
  have G8 : Below w7.heap.size w7 w8 := hw8 ▸ ((Below.refl _ w7).alloc (Nat.le_refl _) _).drew
  have S8 := X7.out.below G8 X7.out.lt
  refine hK5.out _ _ S8 (fun _ => ?_)
  clear hK5 K5
  refine wpAnyH_ready (rs := [8]) (by kernel_rfl) (by simp) ?_
  refine AllReadyH.cons rfl (fun K5 hK5 => ?_) AllReadyH.nil
  go_simp
  have e0 := Z8.cell 0
  have e1 := Z8.cell 1
  have f0 := Z8.free 0
  have f1 := Z8.free 1
  go_simp
  have Z9 := (Z8.store 0 (.bool true)).store 1 (.slice (some ⟨g, off, none⟩) m c)
  have G9 : Below w7.heap.size w7 ((w8.setCell ⟨w7.heap.size, 0, none⟩ (.bool true)).setCell ⟨w7.heap.size, 1, none⟩ (.slice (some ⟨g, off, none⟩) m c)) := (G8.setCell (p := ⟨w7.heap.size, 0, none⟩) (Nat.le_refl _) _).setCell (p := ⟨w7.heap.size, 1, none⟩) (Nat.le_refl _) _
  have S9 := X7.out.below G9 X7.out.lt
  refine hK5.out _ _ S9 (fun _ => ?_)
  clear hK5 K5
  refine wpAnyH_done (by kernel_rfl) ?_ _
  refine hK _ _ ?_
  have z90 := Z9.cell 0
  have z91 := Z9.cell 1
  have B9 := Lib.hid (below_step B7.out G9)
  simp at z90 z91
  generalize ((w8.setCell ⟨w7.heap.size, 0, none⟩ (.bool true)).setCell ⟨w7.heap.size, 1, none⟩ (.slice (some ⟨g, off, none⟩) m c)) = w9 at *
  clear S7 S8 S9 G8 G9 Z8 Z9 e0 e1 f0 f1
  go_wp2_with (go_at_call 17; (with_reducible refine (HCK.out _ B9.out).mono ?_); rintro e w10 ⟨rfl, h10⟩; have B10 := Lib.hid (below_step B9.out h10); clear h10)
  go_ret
  exact ⟨by first | rfl | exact ret_bool (by rw [hbb]; simp) | exact ret_bool (by simp), B10.out⟩

set_option maxRecDepth 100000 in
set_option maxHeartbeats 8000000 in
theorem walkNoBack_false (A : Option Addr) (n c : Nat) (l : List En) (w : World) (ht : Tab w) (h : NodA w A n c l) (hs : smallN l = true) (hc : checkN false l) :
    Calls Tryd.prog 5 #[.agg #[.bool false, .slice A n c]] w fun e w' => e = .returned (.bool true) ∧ Below w.heap.size w w' := by
  have hmx : Tryd.prog.follows .mixedOrders = true := by kernel_rfl
  obtain ⟨W, hW, hb, hx⟩ := box_law w false A n c
  have hzn := zero_node
  have hf := small_fewN hs
  have hl40 := small_le hs
  have hn : n ≤ 40 := by rw [h.len]; exact hl40
  have HAW := Lib.hid (awake08_any W (ht.below hb))
  have HSM := Lib.hid (fun w1 (hb1 : Below w.heap.size w w1) => small08_any false A n c l w1 (h.below hb1))
  rw [hs] at HSM
  have HP : Hid (∀ w1, Below w.heap.size w w1 → Calls Tryd.prog 11 #[.agg #[.bool false, .slice A n c]] w1 (PackOk 2 (cellsE false l) w1)) := Lib.hid (fun w1 (hb1 : Below w.heap.size w w1) => nPut_yes false A n c l w1 (ht.below hb1) (h.below hb1) hf hc)
  unfold PackOk at HP
  have HPG := Lib.hid (cPage_len 2 (cellsE false l) hc.2)
  have hgp := getN_page hc
  rw [show kindN false = 2 from rfl] at hgp
  have HG := Lib.hid (fun A c w1 (hb1 : Below w.heap.size w w1) (ha : Arg w1 A 128 c (cPage 2 (cellsE false l))) => nGet_any A 128 c (cPage 2 (cellsE false l)) w1 (ht.below hb1) ha)
  rw [hgp] at HG
  unfold GetN at HG
  have hln : l.length = n := h.len.symm
  have HPQ := Lib.hid (fun A n c w1 (h1 : NodA w1 A n c l) => plain08_any false A n c l w1 h1 (by have := h1.len; omega))
  have HPL := Lib.hid (fun w1 (hb1 : Below w.heap.size w w1) => plain08_any false A n c l w1 (h.below hb1) (by omega))
  have HSY := Lib.hid (fun A B c d w1 (h1 : NodA w1 A l.length c l) (h2 : NodA w1 B l.length d l) => r8Same_yes false A B l.length c d l w1 h1 h2 (by omega))
  have hlt : 2 ≤ n := by have := hc.1.1; have e : leastN false = 2 := rfl; omega
  obtain ⟨m, hm⟩ : ∃ m, n = m + 1 := ⟨n - 1, by omega⟩
  have hck : decide (checkN false (l.take m)) = decide ((2 : Int) ≤ (m : Int)) := by
    have h1 := checkN_take hc m (by omega)
    have e : leastN false = 2 := rfl
    rw [e] at h1
    by_cases h2 : 2 ≤ m
    · rw [decide_eq_true (h1.2 h2), decide_eq_true (by omega)]
    · rw [decide_eq_false (fun hh => h2 (h1.1 hh)), decide_eq_false (by omega)]
  have HCK := Lib.hid (fun w1 (hb1 : Below w.heap.size w w1) => nCheck_any false A m c (l.take m) w1 ((h.below hb1).take (by omega)) (hf.take m))
  rw [hck] at HCK
  obtain ⟨g, off, hA, _⟩ := h.reads (by rw [cellsN_len]; omega)
  subst hA
  have hrm := h.room
  have hcm := h.most
  unfold maxLen at hcm
  have hmn : (n : Int) - 1 = (m : Int) := by omega
  have hmc : m ≤ c := by omega
  obtain ⟨bb, hbb⟩ : ∃ bb, decide ((2 : Int) ≤ (m : Int)) = bb := ⟨_, rfl⟩
  rw [hbb] at HCK
  have HB := Lib.hid hb
  have HX := Lib.hid hx
  generalize cPage 2 (cellsE false l) = pg at *
  have HM := Lib.hid hm
  clear ht h hs hb hx hf hc hgp hck hm hl40 hln
  go_enter Tryd.func5, Tryd.ntmps5
  go_wp2_with (first
    | (go_at_call 8; (try rw [hW]); (with_reducible refine HAW.out.mono ?_); rintro e w0 ⟨rfl, h0⟩; have X0 := HX.out.below h0 HX.out.lt; have x0 := X0.cell 0; have x1 := X0.cell 1; have X0 := Lib.hid X0; have B0 := Lib.hid (below_step HB.out h0); clear h0)
    | (go_at_call 9; (with_reducible refine (HSM.out _ B0.out).mono ?_); rintro e w1 ⟨rfl, h1⟩; have X1 := X0.out.below h1 X0.out.lt; have y0 := X1.cell 0; have y1 := X1.cell 1; have X1 := Lib.hid X1; have B1 := Lib.hid (below_step B0.out h1); clear h1)
    | (go_at_call 11; (with_reducible refine (HP.out _ B1.out).mono ?_); rintro e w3 ⟨A3, c3, rfl, g1, g2, r3, h3⟩; have R3 := Lib.hid (Arg.of_row r3 HPG.out.symm (by decide) g1 g2); have X3 := Lib.hid (X1.out.below h3 X1.out.lt); have B3 := Lib.hid (below_step B1.out h3); clear h3 r3)
    | (go_at_call 20; (with_reducible refine (HG.out _ _ _ B3.out R3.out).mono ?_); rintro e w4 ⟨A4, n4, c4, rfl, d4, h4⟩; obtain ⟨V, hV⟩ : ∃ V, w4.alloc (.cells #[.bool false, .slice A4 n4 c4] 24) = V := ⟨_, rfl⟩; have BV : Below w4.heap.size w4 V := hV ▸ (Below.refl _ w4).alloc (Nat.le_refl _) _; have N4 := Lib.hid (show Has V w4.heap.size 24 #[.bool false, .slice A4 n4 c4] from hV ▸ Has.made w4 _ _); have D4 := Lib.hid (d4.below BV); have X4 := Lib.hid (X3.out.below (below_step h4 BV) X3.out.lt); have B4 := Lib.hid (below_step B3.out (below_step h4 BV)); clear h4 d4 BV))
  try rw [hV]
  have S4 : (fun w' : World => Has w' w.heap.size 24 #[.bool false, .slice (some ⟨g, off, none⟩) n c] ∧ Has w' w4.heap.size 24 #[.bool false, .slice A4 n4 c4]) V.drew := ⟨X4.out, N4.out⟩
  rename_i K hK
  refine wp_held (fun w' : World => Has w' w.heap.size 24 #[.bool false, .slice (some ⟨g, off, none⟩) n c] ∧ Has w' w4.heap.size 24 #[.bool false, .slice A4 n4 c4]) K hmx ?_ (fun _ _ h => h)
  refine wpAnyH_take (i := 0) (v := .int .i64 0) rfl (by kernel_rfl) (by kernel_rfl) (by kernel_rfl) (fun _ _ _ h => h) (Or.inl ⟨by rfl, ?_⟩) S4 ?_
  · intro w6 s1
    go_simp
  simp only [Act.put, List.setIfInBounds_toArray, List.set_cons_zero, List.set_cons_succ, List.getElem_toArray, List.getElem_cons_zero]
  refine wpAnyH_take (i := 1) (v := .bool false) rfl (by kernel_rfl) (by kernel_rfl) (by kernel_rfl) (fun _ _ _ h => h) (Or.inl ⟨by rfl, ?_⟩) S4 ?_
  · intro w6 s1
    go_simp
  simp only [Act.put, List.setIfInBounds_toArray, List.set_cons_zero, List.set_cons_succ, List.getElem_toArray, List.getElem_cons_zero, List.getElem_cons_succ]
  refine wpAnyH_take (i := 2) (v := .bool false) rfl (by kernel_rfl) (by kernel_rfl) (by kernel_rfl) (fun _ _ _ h => h) (Or.inl ⟨by rfl, ?_⟩) S4 ?_
  · intro w6 s1
    go_simp
  simp only [Act.put, List.setIfInBounds_toArray, List.set_cons_zero, List.set_cons_succ, List.getElem_toArray, List.getElem_cons_zero, List.getElem_cons_succ]
  refine wpAnyH_take (i := 3) (v := .agg #[.bool false, .slice A4 n4 c4]) rfl (by kernel_rfl) (by kernel_rfl) (by kernel_rfl) (fun _ _ _ h => h) (Or.inl ⟨by rfl, ?_⟩) S4 ?_
  · intro w6 s1
    have d0 := s1.2.cell 0
    have d1 := s1.2.cell 1
    go_simp
  simp only [Act.put, List.setIfInBounds_toArray, List.set_cons_zero, List.set_cons_succ, List.getElem_toArray, List.getElem_cons_zero, List.getElem_cons_succ]
  refine wpAnyH_take (i := 5) (v := .agg #[.bool false, .slice (some ⟨g, off, none⟩) n c]) rfl (by kernel_rfl) (by kernel_rfl) (by kernel_rfl) (fun _ _ _ h => h) (Or.inl ⟨by rfl, ?_⟩) S4 ?_
  · intro w6 s1
    have d0 := s1.1.cell 0
    have d1 := s1.1.cell 1
    go_simp
  simp only [Act.put, List.setIfInBounds_toArray, List.set_cons_zero, List.set_cons_succ, List.getElem_toArray, List.getElem_cons_zero, List.getElem_cons_succ]
  refine wpAnyH_ready (rs := [4]) (by kernel_rfl) (by simp) ?_
  refine AllReadyH.cons rfl (fun K5 hK5 => ?_) AllReadyH.nil
  go_simp
  go_at_call 10
  (with_reducible refine (HPQ.out _ _ _ _ (D4.out.below (Below.refl _ _).drew)).mono ?_)
  rintro e5 w5 ⟨A5, c5, rfl, d5, b5⟩
  have G5 : Below V.heap.size V w5 := (Below.refl _ V).drew.trans b5
  have S5 : (fun w' : World => Has w' w.heap.size 24 #[.bool false, .slice (some ⟨g, off, none⟩) n c] ∧ Has w' w4.heap.size 24 #[.bool false, .slice A4 n4 c4]) w5 := ⟨X4.out.below G5 X4.out.lt, N4.out.below G5 N4.out.lt⟩
  clear b5
  refine hK5.out _ _ S5 (fun _ => ?_)
  clear hK5 K5
  refine wpAnyH_ready (rs := [6]) (by kernel_rfl) (by simp) ?_
  refine AllReadyH.cons rfl (fun K5 hK5 => ?_) AllReadyH.nil
  go_simp
  go_at_call 10
  (with_reducible refine (HPL.out _ (below_step B4.out G5)).mono ?_)
  rintro e6 w6 ⟨A6, c6, rfl, d6, b6⟩
  have d5 := d5.below b6
  have G6 := below_step G5 b6
  have S6 : (fun w' : World => Has w' w.heap.size 24 #[.bool false, .slice (some ⟨g, off, none⟩) n c] ∧ Has w' w4.heap.size 24 #[.bool false, .slice A4 n4 c4]) w6 := ⟨X4.out.below G6 X4.out.lt, N4.out.below G6 N4.out.lt⟩
  clear b6
  refine hK5.out _ _ S6 (fun _ => ?_)
  clear hK5 K5
  refine wpAnyH_ready (rs := [7]) (by kernel_rfl) (by simp) ?_
  refine AllReadyH.cons rfl (fun K5 hK5 => ?_) AllReadyH.nil
  go_simp
  go_at_call 22
  (with_reducible refine (HSY.out _ _ _ _ _ d5 d6).mono ?_)
  rintro e7 w7 ⟨rfl, b7⟩
  have G7 := below_step G6 b7
  have S7 : (fun w' : World => Has w' w.heap.size 24 #[.bool false, .slice (some ⟨g, off, none⟩) n c] ∧ Has w' w4.heap.size 24 #[.bool false, .slice A4 n4 c4]) w7 := ⟨X4.out.below G7 X4.out.lt, N4.out.below G7 N4.out.lt⟩
  clear b7
  refine hK5.out _ _ S7 (fun _ => ?_)
  clear hK5 K5
  refine wpAnyH_take (i := 8) (v := .bool false) rfl (by kernel_rfl) (by kernel_rfl) (by kernel_rfl) (fun _ _ _ h => h) (Or.inl ⟨by rfl, ?_⟩) S7 ?_
  · intro w6 s1
    go_simp
  simp only [Act.put, List.setIfInBounds_toArray, List.set_cons_zero, List.set_cons_succ, List.getElem_toArray, List.getElem_cons_zero, List.getElem_cons_succ]
  refine wpAnyH_ready (rs := [9]) (by kernel_rfl) (by simp) ?_
  refine AllReadyH.cons rfl (fun K5 hK5 => ?_) AllReadyH.nil
  go_simp
  refine hK5.out _ _ S7 (fun _ => ?_)
  clear hK5 K5
  refine wpAnyH_done (by kernel_rfl) ?_ _
  refine hK _ _ ?_
  have X7 := Lib.hid S7.1
  have B7 := Lib.hid (below_step B4.out G7)
  have x70 := S7.1.cell 0
  have x71 := S7.1.cell 1
  clear S5 S6 S7 G5 G6 G7 d5 d6
  go_wp2
  have S7 : (fun w' : World => Has w' w.heap.size 24 #[.bool false, .slice (some ⟨g, off, none⟩) n c]) w7.drew := X7.out
  rename_i K hK
  refine wp_held (fun w' : World => Has w' w.heap.size 24 #[.bool false, .slice (some ⟨g, off, none⟩) n c]) K hmx ?_ (fun _ _ h => h)
  refine wpAnyH_take (i := 0) (v := .pointer (some ⟨w.heap.size, 0, none⟩)) rfl (by kernel_rfl) (by kernel_rfl) (by kernel_rfl) (fun _ _ _ h => h) (Or.inl ⟨by rfl, ?_⟩) S7 ?_
  · intro w6 s1
    go_simp
  simp only [Act.put, List.setIfInBounds_toArray, List.set_cons_zero, List.set_cons_succ, List.getElem_toArray, List.getElem_cons_zero]
  refine wpAnyH_take (i := 1) (v := .bool false) rfl (by kernel_rfl) (by kernel_rfl) (by kernel_rfl) (fun _ _ _ h => h) (Or.inl ⟨by rfl, ?_⟩) S7 ?_
  · intro w6 s1
    have d0 := s1.cell 0
    go_simp
  simp only [Act.put, List.setIfInBounds_toArray, List.set_cons_zero, List.set_cons_succ, List.getElem_toArray, List.getElem_cons_zero, List.getElem_cons_succ]
  refine wpAnyH_take (i := 2) (v := .pointer (some ⟨w.heap.size, 1, none⟩)) rfl (by kernel_rfl) (by kernel_rfl) (by kernel_rfl) (fun _ _ _ h => h) (Or.inl ⟨by rfl, ?_⟩) S7 ?_
  · intro w6 s1
    go_simp
  simp only [Act.put, List.setIfInBounds_toArray, List.set_cons_zero, List.set_cons_succ, List.getElem_toArray, List.getElem_cons_zero, List.getElem_cons_succ]
  refine wpAnyH_take (i := 3) (v := .slice (some ⟨g, off, none⟩) n c) rfl (by kernel_rfl) (by kernel_rfl) (by kernel_rfl) (fun _ _ _ h => h) (Or.inl ⟨by rfl, ?_⟩) S7 ?_
  · intro w6 s1
    have d0 := s1.cell 1
    go_simp
  simp only [Act.put, List.setIfInBounds_toArray, List.set_cons_zero, List.set_cons_succ, List.getElem_toArray, List.getElem_cons_zero, List.getElem_cons_succ]
  refine wpAnyH_take (i := 4) (v := .int .i64 (m : Int)) rfl (by kernel_rfl) (by kernel_rfl) (by kernel_rfl) (fun _ _ _ h => h) (Or.inl ⟨by rfl, ?_⟩) S7 ?_
  · intro w6 s1
    go_simp
  simp only [Act.put, List.setIfInBounds_toArray, List.set_cons_zero, List.set_cons_succ, List.getElem_toArray, List.getElem_cons_zero, List.getElem_cons_succ]
  refine wpAnyH_take (i := 5) (v := .slice (some ⟨g, off, none⟩) m c) rfl (by kernel_rfl) (by kernel_rfl) (by kernel_rfl) (fun _ _ _ h => h) (Or.inl ⟨by rfl, ?_⟩) S7 ?_
  · intro w6 s1
    go_simp
  simp only [Act.put, List.setIfInBounds_toArray, List.set_cons_zero, List.set_cons_succ, List.getElem_toArray, List.getElem_cons_zero, List.getElem_cons_succ]
  refine wpAnyH_take (i := 6) (v := .agg #[.bool false, .slice (some ⟨g, off, none⟩) m c]) rfl (by kernel_rfl) (by kernel_rfl) (by kernel_rfl) (fun _ _ _ h => h) (Or.inl ⟨by rfl, ?_⟩) S7 ?_
  · intro w6 s1
    go_simp
  simp only [Act.put, List.setIfInBounds_toArray, List.set_cons_zero, List.set_cons_succ, List.getElem_toArray, List.getElem_cons_zero, List.getElem_cons_succ]
  refine wpAnyH_ready (rs := [7]) (by kernel_rfl) (by simp) ?_
  refine AllReadyH.cons rfl (fun K5 hK5 => ?_) AllReadyH.nil
  go_simp
  obtain ⟨w8, hw8⟩ : ∃ w8, (w7.alloc (.cells #[.bool false, .slice none 0 0] 24)).drew = w8 := ⟨_, rfl⟩
  try rw [hw8]
  have Z8 : Has w8 w7.heap.size 24 #[.bool false, .slice none 0 0] := hw8 ▸ (Has.made w7 _ _).drew
  have G8 : Below w7.heap.size w7 w8 := hw8 ▸ ((Below.refl _ w7).alloc (Nat.le_refl _) _).drew
  have S8 := X7.out.below G8 X7.out.lt
  refine hK5.out _ _ S8 (fun _ => ?_)
  clear hK5 K5
  refine wpAnyH_ready (rs := [8]) (by kernel_rfl) (by simp) ?_
  refine AllReadyH.cons rfl (fun K5 hK5 => ?_) AllReadyH.nil
  go_simp
  have e0 := Z8.cell 0
  have e1 := Z8.cell 1
  have f0 := Z8.free 0
  have f1 := Z8.free 1
  go_simp
  have Z9 := (Z8.store 0 (.bool false)).store 1 (.slice (some ⟨g, off, none⟩) m c)
  have G9 : Below w7.heap.size w7 ((w8.setCell ⟨w7.heap.size, 0, none⟩ (.bool false)).setCell ⟨w7.heap.size, 1, none⟩ (.slice (some ⟨g, off, none⟩) m c)) := (G8.setCell (p := ⟨w7.heap.size, 0, none⟩) (Nat.le_refl _) _).setCell (p := ⟨w7.heap.size, 1, none⟩) (Nat.le_refl _) _
  have S9 := X7.out.below G9 X7.out.lt
  refine hK5.out _ _ S9 (fun _ => ?_)
  clear hK5 K5
  refine wpAnyH_done (by kernel_rfl) ?_ _
  refine hK _ _ ?_
  have z90 := Z9.cell 0
  have z91 := Z9.cell 1
  have B9 := Lib.hid (below_step B7.out G9)
  simp at z90 z91
  generalize ((w8.setCell ⟨w7.heap.size, 0, none⟩ (.bool false)).setCell ⟨w7.heap.size, 1, none⟩ (.slice (some ⟨g, off, none⟩) m c)) = w9 at *
  clear S7 S8 S9 G8 G9 Z8 Z9 e0 e1 f0 f1
  go_wp2_with (go_at_call 17; (with_reducible refine (HCK.out _ B9.out).mono ?_); rintro e w10 ⟨rfl, h10⟩; have B10 := Lib.hid (below_step B9.out h10); clear h10)
  go_ret
  exact ⟨by first | rfl | exact ret_bool (by rw [hbb]; simp) | exact ret_bool (by simp), B10.out⟩

theorem walkNoBack (leaf : Bool) (A : Option Addr) (n c : Nat) (l : List En) (w : World) (ht : Tab w) (h : NodA w A n c l) :
    Calls Tryd.prog 5 #[.agg #[.bool leaf, .slice A n c]] w fun e w' => e = .returned (.bool true) ∧ Below w.heap.size w w' := by
  cases hs : smallN l
  · exact walkNoBack_no leaf A n c l w ht h hs
  · by_cases hc : checkN leaf l
    · cases leaf
      · exact walkNoBack_false A n c l w ht h hs hc
      · exact walkNoBack_true A n c l w ht h hs hc
    · exact walkNoBack_bad leaf A n c l w ht h hs hc

end Go.Proofs.YtnponjdnjkegmaaDoor
