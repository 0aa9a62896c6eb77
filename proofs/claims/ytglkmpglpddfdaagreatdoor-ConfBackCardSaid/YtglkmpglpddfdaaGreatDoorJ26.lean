import Derived.Test.YtglkmpglpddfdaaGreatDoorJ25
import Derived.Deep.AppendLies
/- Of a claim's texts, joined: Cplg Cprl. No statement but in the last. -/
section
namespace Go.Proofs.YtglkmpglpddfdaaGreatDoor
open Go.RowKit
set_option linter.unusedVariables false
theorem wrap_pow (N : Nat) (h : N < 64) : IntKind.u64.wrap (2 ^ N) = 2 ^ N := by
  have h1 : (2 : Int) ^ N < 2 ^ 64 := by
    have := Nat.pow_lt_pow_right (a := 2) (by omega) h
    exact_mod_cast this
  have h0 : (0 : Int) ≤ 2 ^ N := by
    have := Nat.zero_le (2 ^ N)
    exact_mod_cast this
  simp only [IntKind.wrap, IntKind.signed, IntKind.bits]
  exact Int.emod_eq_of_lt h0 h1
theorem cell_only {w w' : World} {P : Nat} {p : Addr} {v : Value} (hc : w.cell? p = some v) (h : w.grownBy w' (some P)) (hne : p.block ≠ P) : w'.cell? p = some v := by
  have hp := World.block_lt_of_cell? w _ hc
  rw [← hc]
  unfold World.cell?
  rw [h.block p.block hp (fun e => hne (by injection e))]
theorem strClone_any (s : ByteArray) (w : World) (hs : s.size ≤ 281474976710656) : Calls Tryz.prog 118 #[.string s] w fun e w' => e = .returned (.string s) ∧ Below w.heap.size w w' := by
  have H := Lib.hid (fun w1 => Tryz.stringslite_Clone s w1 hs)
  go_enter Tryz.func118, Tryz.ntmps118
  go_wp2_with (go_at_call 140; (with_reducible refine (H.out _).mono ?_); rintro e w1 ⟨rfl, h1⟩; have B1 := Lib.hid h1; clear h1)
  go_ret
  exact ⟨rfl, B1.out⟩
set_option maxRecDepth 100000 in
set_option maxHeartbeats 8000000 in
theorem label_good {base P ln en : Nat} {c : Cf} {x y : We} {l : List We} (w : World) (h : PK w base P c ln (x :: y :: l) en) (hb : base ≤ w.heap.size) (hbg : ∀ w', Below base w w' → Base5 w') (hsz : x.1.length ≤ 1000000) (hsz2 : y.1.length ≤ 1000000) (hup : c.up.length ≤ 64) (hqu : c.quotas.length ≤ 64) (hx : newB c x.1 = true) (hy : ¬ quotaN y.1 < 0) :
    Calls Tryz.prog 80 #[.pointer (some ⟨P, 0, none⟩)] w fun e w' => e = .returned (.tuple #[]) ∧ PK w' base P ⟨c.names ++ [x.1], c.up ++ [2 ^ c.names.length], c.quotas ++ [quotaN y.1], c.grants⟩ ln l y.2.2 ∧ Below base w w' := by
  have HT := Lib.hid (take_cons w h hb)
  have hPw : P < w.heap.size := by obtain ⟨_, _, _, _, _, _, _, hP, _⟩ := h; exact hP.lt
  obtain ⟨t, a, b⟩ := x
  simp only at hsz hx
  have HB0 := Lib.hid (fun (w1 : World) (h1 : Below base w w1) {w2 : World} (h2 : Below w1.heap.size w1 w2) => hbg w2 (below_more h1 hb h2))
  have HNm := Lib.hid (fun w1 (h1 : Base5 w1) => coName_any t w1 h1 (by omega))
  unfold newB at hx
  rw [Bool.and_eq_true, Bool.and_eq_true] at hx
  obtain ⟨hv1, hv2, hv3⟩ := hx
  rw [hv1] at HNm
  have hv2' : findN c.names t < 0 := by simpa using hv2
  have hv3' : c.names.length < 64 := by simpa using hv3
  have d2 : decide (0 ≤ findN c.names t) = false := by simp; omega
  have d3 : ((c.names.length : Int) == 64) = false := by simp; omega
  have HF := Lib.hid (fun w1 (h1 : PK w1 base P c ln (y :: l) b) => find_any t a b w1 h1 (by omega))
  have HT2 := Lib.hid (fun w1 (h1 : PK w1 base P c ln (y :: l) b) hb1 => take_cons w1 h1 hb1)
  obtain ⟨t2, a2, b2⟩ := y
  simp only at hsz2 hy ⊢
  have HQ := Lib.hid (fun w1 (h1 : Base5 w1) => quotaOf_any t2 w1 h1 (by omega))
  have HCl := Lib.hid (fun w1 => strClone_any ⟨t.toArray⟩ w1 (by rw [size_list]; omega))
  have e1 : (if quotaN t2 < 0 then 0 else quotaN t2) = quotaN t2 := if_neg hy
  have e2 : decide (0 ≤ quotaN t2) = true := by simp; omega
  have hgW : Hid (∀ w1 : World, w.grownBy w1 (some P) → w.heap.size ≤ w1.heap.size) := Lib.hid (fun w1 h => h.size)
  obtain ⟨k0, hk0, kz0, kz1, kz2⟩ := info_parts strinfo5
  obtain ⟨m0, hm0, mz0, mz1, mz2⟩ := info_parts u64info5
  obtain ⟨i0, hi0, iz0, iz1, iz2⟩ := info_parts intinfo5
  have hmx : Tryz.prog.follows .mixedOrders = true := by kernel_rfl
  have hsh := wrap_pow c.names.length hv3'
  unfold QuotaEnd at HQ
  rw [e1, e2] at HQ
  clear h hbg hv1 hv2 hv3 e1 e2 hy
  generalize findN c.names t = z at HF d2 hv2'
  generalize quotaN t2 = qv at HQ ⊢
  clear hv2'
  go_enter Tryz.func80, Tryz.ntmps80
  go_wp2_with (first | (go_at_call 79; (with_reducible refine (HT2.out _ P3.out (Nat.le_trans hb B3.out.size)).mono ?_); rintro e w4 ⟨rfl, h4, h5, hg4⟩; have B4 := Lib.hid (B3.out.trans h5); have bA4 := Lib.hid ((Below.refl w4.heap.size w4).alloc (Nat.le_refl _) (.cells #[.string ⟨t2.toArray⟩, .int .i64 (a2 : Int), .int .i64 (b2 : Int)] 119)); have P4 := Lib.hid (h4.below bA4.out); have G4 := Lib.hid hg4; have Q4 := Lib.hid (cell_only Q3.out hg4 (by have := B1.out.size; have := hgW.out _ B1g.out; show w1.heap.size ≠ P; omega)); clear h4 h5 hg4) | (go_at_call 79; (with_reducible refine HT.out.mono ?_); rintro e w1 ⟨rfl, h1, h2, hg1⟩; have B1 := Lib.hid h2; have B1g := Lib.hid hg1; have bA := Lib.hid ((Below.refl w1.heap.size w1).alloc (Nat.le_refl _) (.cells #[.string ⟨t.toArray⟩, .int .i64 (a : Int), .int .i64 (b : Int)] 119)); have P1 := Lib.hid (h1.below bA.out); obtain ⟨nA, nn, nk, c0, hT0⟩ := pk_names P1.out; have hnn := hT0.len; subst hnn; clear hT0 h1 h2 hg1) | (go_at_call 10; (with_reducible refine (HNm.out _ (HB0.out _ B1.out bA.out)).mono ?_); rintro e w2 ⟨rfl, h2⟩; have hc := box_word h2; have P2 := Lib.hid (P1.out.below h2); have c4 := pk_line P2.out; have B2 := Lib.hid (below_more B1.out hb (below_step bA.out h2)); obtain ⟨q0, q1, q2⟩ := hc; clear h2) | (go_at_call 116; (with_reducible refine (HF.out _ P2.out).mono ?_); rintro e w3 ⟨rfl, h3⟩; have P3 := Lib.hid (P2.out.below h3); clear c4; have c4 := pk_line P3.out; have B3 := Lib.hid (below_more B2.out hb h3); have q1 := cell_below q1 h3; have Q3 := Lib.hid (cell_below q0 h3); clear h3) | (go_at_call 117; (with_reducible refine (HQ.out _ (HB0.out _ B4.out bA4.out)).mono ?_); rintro e w5 ⟨rfl, h5⟩; have hc5 := box_word h5; have P5 := Lib.hid (P4.out.below h5); clear c4; have c4 := pk_line P5.out; have B5 := Lib.hid (below_more B4.out hb (below_step bA4.out h5)); obtain ⟨r0, r1, r2⟩ := hc5; have Q5 := Lib.hid (cell_below (cell_below Q4.out bA4.out) h5); clear h5))
  obtain ⟨vn, vu, vq, vg, A, n, k, hx5⟩ := P5.out
  obtain ⟨nA2, nk2, rfl⟩ := own_sl hx5.2.2.1
  obtain ⟨uA, uk, rfl⟩ := own_sl hx5.2.2.2.1
  obtain ⟨qA, qk, rfl⟩ := own_sl hx5.2.2.2.2.1
  have hx := Lib.hid hx5
  have hC : (fun w' : World => w'.cell? ⟨P, 0, none⟩ = some (.slice nA2 c.names.length nk2) ∧ w'.cell? ⟨w1.heap.size, 0, none⟩ = some (.string ⟨t.toArray⟩)) w5.drew := ⟨by show w5.cell? _ = _; rw [hx5.1.cell]; simp, Q5.out⟩
  have HL6 : Hid (c.names.length ≤ 64 ∧ c.up.length ≤ 64 ∧ c.quotas.length ≤ 64) := Lib.hid (by omega)
  have l1 := HL6.out.1
  have l2 := HL6.out.2.1
  have l3 := HL6.out.2.2
  clear hx5 q0 q1 q2 r0 r1 r2 c4 c0
  rename_i K hK
  refine wp_heldK (fun w' : World => w'.cell? ⟨P, 0, none⟩ = some (.slice nA2 c.names.length nk2) ∧ w'.cell? ⟨w1.heap.size, 0, none⟩ = some (.string ⟨t.toArray⟩)) 10 K hmx ?_ (fun _ _ h => h)
  refine wpAnyK_pure (i := 0) (v := .pointer (some ⟨P, 0, none⟩)) rfl (by kernel_rfl) (by kernel_rfl) (by kernel_rfl) (by decide) (fun _ _ _ h => h) (Or.inl ⟨by rfl, ?_⟩) (.inr hC) ?_
  · intro w6 _
    go_simp
  simp only [Act.put, List.setIfInBounds_toArray, List.set_cons_zero, List.set_cons_succ, List.getElem_toArray, List.getElem_cons_zero]
  refine wpAnyK_pure (i := 1) (v := .pointer (some ⟨P, 0, none⟩)) rfl (by kernel_rfl) (by kernel_rfl) (by kernel_rfl) (by decide) (fun _ _ _ h => h) (Or.inl ⟨by rfl, ?_⟩) (.inr hC) ?_
  · intro w6 _
    go_simp
  simp only [Act.put, List.setIfInBounds_toArray, List.set_cons_zero, List.set_cons_succ, List.getElem_toArray, List.getElem_cons_zero, List.getElem_cons_succ]
  refine wpAnyK_pure (i := 2) (v := .pointer (some ⟨P, 0, none⟩)) rfl (by kernel_rfl) (by kernel_rfl) (by kernel_rfl) (by decide) (fun _ _ _ h => h) (Or.inl ⟨by rfl, ?_⟩) (.inr hC) ?_
  · intro w6 _
    go_simp
  simp only [Act.put, List.setIfInBounds_toArray, List.set_cons_zero, List.set_cons_succ, List.getElem_toArray, List.getElem_cons_zero, List.getElem_cons_succ]
  refine wpAnyK_pure (i := 3) (v := .pointer (some ⟨P, 0, none⟩)) rfl (by kernel_rfl) (by kernel_rfl) (by kernel_rfl) (by decide) (fun _ _ _ h => h) (Or.inl ⟨by rfl, ?_⟩) (.inr hC) ?_
  · intro w6 _
    go_simp
  simp only [Act.put, List.setIfInBounds_toArray, List.set_cons_zero, List.set_cons_succ, List.getElem_toArray, List.getElem_cons_zero, List.getElem_cons_succ]
  refine wpAnyK_pure (i := 4) (v := .pointer (some ⟨P, 0, none⟩)) rfl (by kernel_rfl) (by kernel_rfl) (by kernel_rfl) (by decide) (fun _ _ _ h => h) (Or.inl ⟨by rfl, ?_⟩) (.inr hC) ?_
  · intro w6 _
    go_simp
  simp only [Act.put, List.setIfInBounds_toArray, List.set_cons_zero, List.set_cons_succ, List.getElem_toArray, List.getElem_cons_zero, List.getElem_cons_succ]
  refine wpAnyK_take (i := 5) (v := .slice nA2 c.names.length nk2) rfl (by kernel_rfl) (by kernel_rfl) (by kernel_rfl) (by kernel_rfl) (by decide) (by kernel_rfl) (fun _ _ _ h => h) (Or.inl ⟨by rfl, ?_⟩) hC ?_
  · rintro w6 ⟨c1, c2⟩
    go_simp
  simp only [Act.put, List.setIfInBounds_toArray, List.set_cons_zero, List.set_cons_succ, List.getElem_toArray, List.getElem_cons_zero, List.getElem_cons_succ]
  refine wpAnyK_pure (i := 6) (v := .pointer (some ⟨w1.heap.size, 0, none⟩)) rfl (by kernel_rfl) (by kernel_rfl) (by kernel_rfl) (by decide) (fun _ _ _ h => h) (Or.inl ⟨by rfl, ?_⟩) (.inr hC) ?_
  · intro w6 _
    go_simp
  simp only [Act.put, List.setIfInBounds_toArray, List.set_cons_zero, List.set_cons_succ, List.getElem_toArray, List.getElem_cons_zero, List.getElem_cons_succ]
  refine wpAnyK_one (i := 7) (by kernel_rfl) rfl (fun K5 hK5 => ?_)
  go_simp
  have cw := hC.2
  refine hK5.out _ _ (.inr hC) ?_
  clear hK5 K5
  refine wpAnyK_one (i := 8) (by kernel_rfl) rfl (fun K5 hK5 => ?_)
  go_simp
  go_at_call 118
  refine (HCl.out _).mono ?_
  rintro e w6 ⟨rfl, h6⟩
  have X6 := Lib.hid ((hx.out.below (Below.refl _ _).drew).below h6)
  have B6 := Lib.hid (below_more (B5.out.drew) hb h6)
  have hC6 : (fun w' : World => w'.cell? ⟨P, 0, none⟩ = some (.slice nA2 c.names.length nk2) ∧ w'.cell? ⟨w1.heap.size, 0, none⟩ = some (.string ⟨t.toArray⟩)) w6 := ⟨by rw [X6.out.1.cell]; simp, cell_below (w := w5.drew) hC.2 h6⟩
  clear h6
  refine hK5.out _ _ (.inr hC6) ?_
  clear hK5 K5
  refine wpAnyK_one (i := 9) (by kernel_rfl) rfl (fun K5 hK5 => ?_)
  go_simp
  have X7 := Lib.hid (X6.out.below ((Below.refl _ w6).alloc (Nat.le_refl _) (.cells #[.string ⟨t.toArray⟩] 9)))
  have B7 := Lib.hid (B6.out.alloc (Nat.le_trans hb B6.out.size) (.cells #[.string ⟨t.toArray⟩] 9))
  have hC7 : (fun w' : World => w'.cell? ⟨P, 0, none⟩ = some (.slice nA2 c.names.length nk2) ∧ w'.cell? ⟨w1.heap.size, 0, none⟩ = some (.string ⟨t.toArray⟩)) (w6.alloc (.cells #[.string ⟨t.toArray⟩] 9)) := ⟨by rw [X7.out.1.cell]; simp, cell_below hC6.2 ((Below.refl _ w6).alloc (Nat.le_refl _) _)⟩
  refine hK5.out _ _ (.inr hC7) ?_
  clear hK5 K5
  refine wpAnyK_one (i := 10) (by kernel_rfl) rfl (fun K5 hK5 => ?_)
  refine step_append_lies _ rfl (.tmp 52) (.tmp 56) 23 rfl base 9 k0 (.string ⟨#[]⟩) 1 16 Tryz.underlying23 hk0 kz0 kz1 kz2 rfl (by decide) (.slice nA2 c.names.length nk2) c.names.length _ rfl X7.out.2.2.1 ⟨w6.heap.size, 0, none⟩ 1 1 [strV t] rfl rfl (cells1_new5 w6 _ _) (by intro u hu; simp at hu; subst hu; rfl) (by omega) (by unfold maxLen; omega) (by omega) (by have := Nat.le_trans hb B6.out.size; show base ≤ (w6.alloc (.cells #[.string ⟨t.toArray⟩] 9)).heap.size; simp; omega) _ rfl ?_
  intro gn capn wnn h7 h8 h9 h10
  have h8' : (w6.alloc (.cells #[.string ⟨t.toArray⟩] 9)).grownBy wnn (Value.ownBlock (.slice nA2 c.names.length nk2)) := h8
  have An := PKx.app0 X7.out h7 h8'
  have Fn := Lib.hid (And.intro An.1 ((below_own5 B7.out h8' X7.out.2.2.1 (by have := Nat.le_trans hb B6.out.size; simp; omega)).setCell (p := ⟨P, 0, none⟩) An.1.2.1 (.slice (some ⟨gn, 0, none⟩) (c.names.length + 1) capn)))
  have cn : wnn.cell? ⟨P, 0, none⟩ = some (.slice nA2 c.names.length nk2) := by rw [An.2.cell]; simp
  have fn := An.2.free 0
  clear h7 h8 h8' h9 h10 An
  refine hK5.out _ _ (.inl (by kernel_rfl)) ?_
  clear hK5 K5
  simp only [Act.put, List.setIfInBounds_toArray, List.set_cons_zero, List.set_cons_succ, List.getElem_toArray, List.getElem_cons_zero, List.getElem_cons_succ]
  refine wpAnyK_pure (i := 11) (v := .pointer (some ⟨P, 0, none⟩)) rfl (by kernel_rfl) (by kernel_rfl) (by kernel_rfl) (by decide) (fun _ _ _ h => h) (Or.inl ⟨by rfl, ?_⟩) (.inl (by kernel_rfl)) ?_
  · intro w6 _
    go_simp
  simp only [Act.put, List.setIfInBounds_toArray, List.set_cons_zero, List.set_cons_succ, List.getElem_toArray, List.getElem_cons_zero, List.getElem_cons_succ]
  refine wpAnyK_pure (i := 12) (v := .pointer (some ⟨P, 0, none⟩)) rfl (by kernel_rfl) (by kernel_rfl) (by kernel_rfl) (by decide) (fun _ _ _ h => h) (Or.inl ⟨by rfl, ?_⟩) (.inl (by kernel_rfl)) ?_
  · intro w6 _
    go_simp
  simp only [Act.put, List.setIfInBounds_toArray, List.set_cons_zero, List.set_cons_succ, List.getElem_toArray, List.getElem_cons_zero, List.getElem_cons_succ]
  refine wpAnyK_pure (i := 13) (v := .pointer (some ⟨P, 0, none⟩)) rfl (by kernel_rfl) (by kernel_rfl) (by kernel_rfl) (by decide) (fun _ _ _ h => h) (Or.inl ⟨by rfl, ?_⟩) (.inl (by kernel_rfl)) ?_
  · intro w6 _
    go_simp
  simp only [Act.put, List.setIfInBounds_toArray, List.set_cons_zero, List.set_cons_succ, List.getElem_toArray, List.getElem_cons_zero, List.getElem_cons_succ]
  refine wpAnyK_one (i := 14) (by kernel_rfl) rfl (fun K5 hK5 => ?_)
  go_simp
  refine hK5.out _ _ (.inl (by kernel_rfl)) ?_
  clear hK5 K5
  refine wpAnyK_done (by kernel_rfl) ?_ _
  refine hK _ _ ?_
  clear hK K
  have Xn := Lib.hid Fn.out.1
  have Bn := Lib.hid Fn.out.2
  have Qn : Hid (base ≤ (wnn.setCell ⟨P, 0, none⟩ (.slice (some ⟨gn, 0, none⟩) (c.names.length + 1) capn)).heap.size) := Lib.hid (Nat.le_trans hb Bn.out.size)
  clear Fn cn fn hC hC6 hC7 X7 B7 X6 B6
  have hD : (fun w' : World => w'.cell? ⟨P, 1, none⟩ = some (.slice uA c.up.length uk)) (wnn.setCell ⟨P, 0, none⟩ (.slice (some ⟨gn, 0, none⟩) (c.names.length + 1) capn)).drew := by show (wnn.setCell ⟨P, 0, none⟩ (.slice (some ⟨gn, 0, none⟩) (c.names.length + 1) capn)).cell? _ = _; rw [Xn.out.1.cell]; simp
  go_wp2
  rename_i K hK
  refine wp_heldK (fun w' : World => w'.cell? ⟨P, 1, none⟩ = some (.slice uA c.up.length uk)) 9 K hmx ?_ (fun _ _ h => h)
  refine wpAnyK_pure (i := 0) (v := .pointer (some ⟨P, 0, none⟩)) rfl (by kernel_rfl) (by kernel_rfl) (by kernel_rfl) (by decide) (fun _ _ _ h => h) (Or.inl ⟨by rfl, ?_⟩) (.inr hD) ?_
  · intro w6 _
    go_simp
  simp only [Act.put, List.setIfInBounds_toArray, List.set_cons_zero, List.set_cons_succ, List.getElem_toArray, List.getElem_cons_zero]
  refine wpAnyK_pure (i := 1) (v := .pointer (some ⟨P, 0, none⟩)) rfl (by kernel_rfl) (by kernel_rfl) (by kernel_rfl) (by decide) (fun _ _ _ h => h) (Or.inl ⟨by rfl, ?_⟩) (.inr hD) ?_
  · intro w6 _
    go_simp
  simp only [Act.put, List.setIfInBounds_toArray, List.set_cons_zero, List.set_cons_succ, List.getElem_toArray, List.getElem_cons_zero, List.getElem_cons_succ]
  refine wpAnyK_pure (i := 2) (v := .pointer (some ⟨P, 0, none⟩)) rfl (by kernel_rfl) (by kernel_rfl) (by kernel_rfl) (by decide) (fun _ _ _ h => h) (Or.inl ⟨by rfl, ?_⟩) (.inr hD) ?_
  · intro w6 _
    go_simp
  simp only [Act.put, List.setIfInBounds_toArray, List.set_cons_zero, List.set_cons_succ, List.getElem_toArray, List.getElem_cons_zero, List.getElem_cons_succ]
  refine wpAnyK_pure (i := 3) (v := .pointer (some ⟨P, 0, none⟩)) rfl (by kernel_rfl) (by kernel_rfl) (by kernel_rfl) (by decide) (fun _ _ _ h => h) (Or.inl ⟨by rfl, ?_⟩) (.inr hD) ?_
  · intro w6 _
    go_simp
  simp only [Act.put, List.setIfInBounds_toArray, List.set_cons_zero, List.set_cons_succ, List.getElem_toArray, List.getElem_cons_zero, List.getElem_cons_succ]
  refine wpAnyK_pure (i := 4) (v := .pointer (some ⟨P, 1, none⟩)) rfl (by kernel_rfl) (by kernel_rfl) (by kernel_rfl) (by decide) (fun _ _ _ h => h) (Or.inl ⟨by rfl, ?_⟩) (.inr hD) ?_
  · intro w6 _
    go_simp
  simp only [Act.put, List.setIfInBounds_toArray, List.set_cons_zero, List.set_cons_succ, List.getElem_toArray, List.getElem_cons_zero, List.getElem_cons_succ]
  refine wpAnyK_take (i := 5) (v := .slice uA c.up.length uk) rfl (by kernel_rfl) (by kernel_rfl) (by kernel_rfl) (by kernel_rfl) (by decide) (by kernel_rfl) (fun _ _ _ h => h) (Or.inl ⟨by rfl, ?_⟩) hD ?_
  · rintro w6 c1
    go_simp
  simp only [Act.put, List.setIfInBounds_toArray, List.set_cons_zero, List.set_cons_succ, List.getElem_toArray, List.getElem_cons_zero, List.getElem_cons_succ]
  refine wpAnyK_pure (i := 6) (v := .int .i64 (c.names.length : Int)) rfl (by kernel_rfl) (by kernel_rfl) (by kernel_rfl) (by decide) (fun _ _ _ h => h) (Or.inl ⟨by rfl, ?_⟩) (.inr hD) ?_
  · intro w6 _
    go_simp
  simp only [Act.put, List.setIfInBounds_toArray, List.set_cons_zero, List.set_cons_succ, List.getElem_toArray, List.getElem_cons_zero, List.getElem_cons_succ]
  refine wpAnyK_pure (i := 7) (v := .int .u64 ((2 ^ c.names.length : Nat) : Int)) rfl (by kernel_rfl) (by kernel_rfl) (by kernel_rfl) (by decide) (fun _ _ _ h => h) (Or.inl ⟨by rfl, ?_⟩) (.inr hD) ?_
  · intro w6 _
    go_simp
  simp only [Act.put, List.setIfInBounds_toArray, List.set_cons_zero, List.set_cons_succ, List.getElem_toArray, List.getElem_cons_zero, List.getElem_cons_succ]
  refine wpAnyK_one (i := 8) (by kernel_rfl) rfl (fun K5 hK5 => ?_)
  go_simp
  have Y7 := Lib.hid ((Xn.out.below (Below.refl _ _).drew).below ((Below.refl _ (wnn.setCell ⟨P, 0, none⟩ (.slice (some ⟨gn, 0, none⟩) (c.names.length + 1) capn)).drew).alloc (Nat.le_refl _) (.cells #[.int .u64 ((2 ^ c.names.length : Nat) : Int)] 37)))
  have C7 := Lib.hid ((Bn.out.drew).alloc Qn.out (.cells #[.int .u64 ((2 ^ c.names.length : Nat) : Int)] 37))
  have hD7 : (fun w' : World => w'.cell? ⟨P, 1, none⟩ = some (.slice uA c.up.length uk)) ((wnn.setCell ⟨P, 0, none⟩ (.slice (some ⟨gn, 0, none⟩) (c.names.length + 1) capn)).drew.alloc (.cells #[.int .u64 ((2 ^ c.names.length : Nat) : Int)] 37)) := by show ((wnn.setCell ⟨P, 0, none⟩ (.slice (some ⟨gn, 0, none⟩) (c.names.length + 1) capn)).drew.alloc _).cell? _ = _; rw [Y7.out.1.cell]; simp
  refine hK5.out _ _ (.inr hD7) ?_
  clear hK5 K5
  refine wpAnyK_one (i := 9) (by kernel_rfl) rfl (fun K5 hK5 => ?_)
  have hsw : (wnn.setCell ⟨P, 0, none⟩ (.slice (some ⟨gn, 0, none⟩) (c.names.length + 1) capn)).drew.heap.size = wnn.heap.size := by simp
  have hcl := cells1_new5 (wnn.setCell ⟨P, 0, none⟩ (.slice (some ⟨gn, 0, none⟩) (c.names.length + 1) capn)).drew (u64V (2 ^ c.names.length)) 37
  rw [hsw] at hcl
  refine step_append_lies _ rfl (.tmp 66) (.tmp 69) 24 rfl base 37 m0 (.int .u64 0) 1 8 Tryz.underlying24 hm0 mz0 mz1 mz2 rfl (by decide) (.slice uA c.up.length uk) c.up.length _ rfl Y7.out.2.2.2.1 ⟨wnn.heap.size, 0, none⟩ 1 1 [u64V (2 ^ c.names.length)] rfl rfl hcl (by intro u hu; simp at hu; subst hu; rfl) (by omega) (by unfold maxLen; omega) (by omega) (by have := Qn.out; show base ≤ ((wnn.setCell ⟨P, 0, none⟩ (.slice (some ⟨gn, 0, none⟩) (c.names.length + 1) capn)).drew.alloc (.cells #[.int .u64 ((2 ^ c.names.length : Nat) : Int)] 37)).heap.size; simp at this ⊢; omega) _ rfl ?_
  intro gu capu wuu h7 h8 h9 h10
  have h8' : ((wnn.setCell ⟨P, 0, none⟩ (.slice (some ⟨gn, 0, none⟩) (c.names.length + 1) capn)).drew.alloc (.cells #[.int .u64 ((2 ^ c.names.length : Nat) : Int)] 37)).grownBy wuu (Value.ownBlock (.slice uA c.up.length uk)) := h8
  have An := PKx.app1 Y7.out h7 h8'
  have Fu := Lib.hid (And.intro An.1 ((below_own5 C7.out h8' Y7.out.2.2.2.1 (by have := Qn.out; simp at this ⊢; omega)).setCell (p := ⟨P, 1, none⟩) An.1.2.1 (.slice (some ⟨gu, 0, none⟩) (c.up.length + 1) capu)))
  have cu : wuu.cell? ⟨P, 1, none⟩ = some (.slice uA c.up.length uk) := by rw [An.2.cell]; simp
  have fu := An.2.free 1
  clear h7 h8 h8' h9 h10 An
  refine hK5.out _ _ (.inl (by kernel_rfl)) ?_
  clear hK5 K5
  simp only [Act.put, List.setIfInBounds_toArray, List.set_cons_zero, List.set_cons_succ, List.getElem_toArray, List.getElem_cons_zero, List.getElem_cons_succ]
  refine wpAnyK_pure (i := 10) (v := .pointer (some ⟨P, 0, none⟩)) rfl (by kernel_rfl) (by kernel_rfl) (by kernel_rfl) (by decide) (fun _ _ _ h => h) (Or.inl ⟨by rfl, ?_⟩) (.inl (by kernel_rfl)) ?_
  · intro w6 _
    go_simp
  simp only [Act.put, List.setIfInBounds_toArray, List.set_cons_zero, List.set_cons_succ, List.getElem_toArray, List.getElem_cons_zero, List.getElem_cons_succ]
  refine wpAnyK_pure (i := 11) (v := .pointer (some ⟨P, 0, none⟩)) rfl (by kernel_rfl) (by kernel_rfl) (by kernel_rfl) (by decide) (fun _ _ _ h => h) (Or.inl ⟨by rfl, ?_⟩) (.inl (by kernel_rfl)) ?_
  · intro w6 _
    go_simp
  simp only [Act.put, List.setIfInBounds_toArray, List.set_cons_zero, List.set_cons_succ, List.getElem_toArray, List.getElem_cons_zero, List.getElem_cons_succ]
  refine wpAnyK_pure (i := 12) (v := .pointer (some ⟨P, 1, none⟩)) rfl (by kernel_rfl) (by kernel_rfl) (by kernel_rfl) (by decide) (fun _ _ _ h => h) (Or.inl ⟨by rfl, ?_⟩) (.inl (by kernel_rfl)) ?_
  · intro w6 _
    go_simp
  simp only [Act.put, List.setIfInBounds_toArray, List.set_cons_zero, List.set_cons_succ, List.getElem_toArray, List.getElem_cons_zero, List.getElem_cons_succ]
  refine wpAnyK_one (i := 13) (by kernel_rfl) rfl (fun K5 hK5 => ?_)
  go_simp
  refine hK5.out _ _ (.inl (by kernel_rfl)) ?_
  clear hK5 K5
  refine wpAnyK_done (by kernel_rfl) ?_ _
  refine hK _ _ ?_
  clear hK K
  have Xu := Lib.hid Fu.out.1
  have Bu := Lib.hid Fu.out.2
  have Qu : Hid (base ≤ (wuu.setCell ⟨P, 1, none⟩ (.slice (some ⟨gu, 0, none⟩) (c.up.length + 1) capu)).heap.size) := Lib.hid (Nat.le_trans hb Bu.out.size)
  clear Fu hD hD7 Y7 C7 Xn Bn Qn
  have s0 : (wuu.setCell ⟨P, 1, none⟩ (.slice (some ⟨gu, 0, none⟩) (c.up.length + 1) capu)).cell? ⟨P, 2, none⟩ = some (.slice qA c.quotas.length qk) := by rw [Xu.out.1.cell]; simp
  have f2 : (wuu.setCell ⟨P, 1, none⟩ (.slice (some ⟨gu, 0, none⟩) (c.up.length + 1) capu)).frozen? ⟨P, 2, none⟩ = false := Xu.out.1.free 2
  obtain ⟨WU, hWU⟩ : ∃ WU, (wuu.setCell ⟨P, 1, none⟩ (.slice (some ⟨gu, 0, none⟩) (c.up.length + 1) capu)) = WU := ⟨_, rfl⟩
  have Xv := Lib.hid (hWU ▸ Xu.out)
  have Bv := Lib.hid (hWU ▸ Bu.out)
  have Qv := Lib.hid (hWU ▸ Qu.out)
  rw [hWU] at s0 f2
  clear Xu Bu Qu cu fu
  go_wp2_with (at_builtin; (try rw [hWU]); refine wpList_append_own _ rfl _ _ 25 rfl base 3 i0 (.int .i64 0) 1 8 Tryz.underlying25 hi0 iz0 iz1 iz2 rfl (by decide) _ c.quotas.length _ rfl (Xv.out.below ((Below.refl _ WU).alloc (Nat.le_refl _) (.cells #[.int .i64 qv] 3))).2.2.2.2.1 ⟨WU.heap.size, 0, none⟩ 1 1 [.int .i64 qv] rfl rfl (cells1_new5 WU _ _) (by intro u hu; simp at hu; subst hu; rfl) (by unfold maxLen; omega) (by omega) (by have := Qv.out; simp; omega) ?_; intro v7 w7 h7 h8 h9; obtain ⟨vA, vc, hv7⟩ := own_sl h7; subst hv7; have An := PKx.app2 (Xv.out.below ((Below.refl _ WU).alloc (Nat.le_refl _) (.cells #[.int .i64 qv] 3))) h7 h8; have H9 := Lib.hid (below_own5 (Bv.out.alloc Qv.out (.cells #[.int .i64 qv] 3)) h8 (Xv.out.below ((Below.refl _ WU).alloc (Nat.le_refl _) (.cells #[.int .i64 qv] 3))).2.2.2.2.1 (by have := Qv.out; simp; omega)); have AX := Lib.hid An.1; have cq : w7.cell? ⟨P, 2, none⟩ = some (.slice qA c.quotas.length qk) := (by rw [An.2.cell]; simp); have fq := An.2.free 2; clear h7 h8 h9 An)
  refine bodyPost_end (results_none rfl _ _ _) rfl ?_
  exact ⟨rfl, ⟨_, _, _, _, _, _, _, AX.out⟩, H9.out.setCell (p := ⟨P, 2, none⟩) AX.out.2.1 _⟩

end Go.Proofs.YtglkmpglpddfdaaGreatDoor
end

section
namespace Go.Proofs.YtglkmpglpddfdaaGreatDoor
open Go.RowKit
set_option linter.unusedVariables false

theorem pk_left {w : World} {base P ln en : Nat} {c : Cf} {l : List We} (h : PK w base P c ln l en) : ∃ A n k, w.cell? ⟨P, 5, none⟩ = some (.slice A n k) ∧ n = l.length ∧ ∀ x r, l = x :: r → ∃ g off, A = some ⟨g, off, none⟩ ∧ w.cell? ⟨g, off + 1, none⟩ = some (.int .i64 (x.2.1 : Int)) := by
  obtain ⟨vn, vu, vq, vg, A, n, k, hP, _, _, _, _, _, hE⟩ := h
  refine ⟨A, n, k, by rw [hP.cell]; simp, hE.len, ?_⟩
  rintro x r rfl
  obtain ⟨g, off, cs, rfl, _, hg, hc⟩ := hE.row (by rw [cellsE_len]; simp)
  exact ⟨g, off, rfl, by rw [hg.cell]; exact hc 1 _ (by simp [cellsE, wE])⟩
def lblT : List UInt8 := [108, 97, 98, 101, 108]
def undT : List UInt8 := [117, 110, 100, 101, 114]
def grnT : List UInt8 := [103, 114, 97, 110, 116]
def DoneEnd (base P ln : Nat) (c : Cf) (w : World) (e : Ending) (w' : World) : Prop := e = .returned (.tuple #[]) ∧ (∃ en, PK w' base P c ln [] en) ∧ Below base w w'
set_option maxRecDepth 100000 in
set_option maxHeartbeats 4000000 in
theorem line_other {base P ln en : Nat} {c : Cf} {x0 : We} {l : List We} (w : World) (h : PK w base P c ln (x0 :: l) en) (hb : base ≤ w.heap.size) (hbg : ∀ w', Below base w w' → Base5 w') (hn : c.names.length ≤ 64) (h1 : x0.1 ≠ lblT) (h2 : x0.1 ≠ undT) (h3 : x0.1 ≠ grnT) :
    Calls Tryz.prog 48 #[.pointer (some ⟨P, 0, none⟩)] w (FailEnd ln x0.2.1 base w) := by
  have HT := Lib.hid (take_cons w h hb)
  obtain ⟨t, a, b⟩ := x0
  simp only at h1 h2 h3
  have e1 : (t == [108, 97, 98, 101, 108]) = false := by simpa [lblT] using h1
  have e2 : (t == [117, 110, 100, 101, 114]) = false := by simpa [undT] using h2
  have e3 : (t == [103, 114, 97, 110, 116]) = false := by simpa [grnT] using h3
  clear h1 h2 h3
  clear h hbg
  go_enter Tryz.func48, Tryz.ntmps48
  go_wp2_with (first | (go_at_call 79; (with_reducible refine HT.out.mono ?_); rintro e w1 ⟨rfl, h1, h2, hg1⟩; have B1 := Lib.hid (h2.alloc (Nat.le_trans hb h2.size) (.cells #[.string ⟨t.toArray⟩, .int .i64 (a : Int), .int .i64 (b : Int)] 119)); have P1 := Lib.hid (h1.below ((Below.refl _ w1).alloc (Nat.le_refl _) (.cells #[.string ⟨t.toArray⟩, .int .i64 (a : Int), .int .i64 (b : Int)] 119))); have S1 := Lib.hid (Nat.le_trans hb B1.out.size); have c4 := pk_line P1.out; clear h1 h2 hg1) | (go_at_call 82; (with_reducible refine (fail_any P ln _ _ c4).mono ?_); rintro e w2 ⟨rfl, h1⟩; have B2 := Lib.hid (B1.out.trans (h1.mono S1.out)); clear h1))
  exact ⟨rfl, rfl, B2.out⟩
set_option maxRecDepth 100000 in
set_option maxHeartbeats 4000000 in
theorem line_l_nil {base P ln en : Nat} {c : Cf} {x0 : We} (w : World) (h : PK w base P c ln (x0 :: []) en) (hb : base ≤ w.heap.size) (hbg : ∀ w', Below base w w' → Base5 w') (hn : c.names.length ≤ 64) (hk : x0.1 = lblT) :
    Calls Tryz.prog 48 #[.pointer (some ⟨P, 0, none⟩)] w (FailEnd ln x0.2.2 base w) := by
  have HT := Lib.hid (take_cons w h hb)
  obtain ⟨t, a, b⟩ := x0
  simp only at hk
  subst hk
  unfold lblT at HT
  have HL := Lib.hid (fun w1 h1 h2 => label_nil (base := base) (P := P) (ln := ln) (en := b) (c := c) w1 h1 h2)
  clear h hbg
  go_enter Tryz.func48, Tryz.ntmps48
  go_wp2_with (first | (go_at_call 79; (with_reducible refine HT.out.mono ?_); rintro e w1 ⟨rfl, h1, h2, hg1⟩; have B1 := Lib.hid (h2.alloc (Nat.le_trans hb h2.size) (.cells #[.string ⟨([108, 97, 98, 101, 108] : List UInt8).toArray⟩, .int .i64 (a : Int), .int .i64 (b : Int)] 119)); have P1 := Lib.hid (h1.below ((Below.refl _ w1).alloc (Nat.le_refl _) (.cells #[.string ⟨([108, 97, 98, 101, 108] : List UInt8).toArray⟩, .int .i64 (a : Int), .int .i64 (b : Int)] 119))); have S1 := Lib.hid (Nat.le_trans hb B1.out.size); have c4 := pk_line P1.out; clear h1 h2 hg1) | (go_at_call 80; (with_reducible refine (HL.out _ P1.out S1.out).mono ?_); rintro e w2 ⟨rfl, h1⟩; have B2 := Lib.hid (B1.out.trans h1); clear h1))
  exact ⟨rfl, rfl, B2.out⟩
set_option maxRecDepth 100000 in
set_option maxHeartbeats 4000000 in
theorem line_l_bad {base P ln en : Nat} {c : Cf} {x0 x : We} {l : List We} (w : World) (h : PK w base P c ln (x0 :: x :: l) en) (hb : base ≤ w.heap.size) (hbg : ∀ w', Below base w w' → Base5 w') (hn : c.names.length ≤ 64) (hk : x0.1 = lblT) (hs : x.1.length ≤ 1000000) (hx : newB c x.1 = false) :
    Calls Tryz.prog 48 #[.pointer (some ⟨P, 0, none⟩)] w (FailEnd ln x.2.1 base w) := by
  have HT := Lib.hid (take_cons w h hb)
  obtain ⟨t, a, b⟩ := x0
  simp only at hk
  subst hk
  unfold lblT at HT
  have HBG := Lib.hid (fun (w1 : World) (h1 : Below base w w1) => fun w2 (h2 : Below base w1 w2) => hbg w2 (h1.trans h2))
  have HL := Lib.hid (fun w1 (h1 : PK w1 base P c ln (x :: l) b) h2 (h3 : Below base w w1) => label_bad w1 (hbg _ h3) h1 h2 (HBG.out _ h3) hn hs hx)
  clear h hbg
  go_enter Tryz.func48, Tryz.ntmps48
  go_wp2_with (first | (go_at_call 79; (with_reducible refine HT.out.mono ?_); rintro e w1 ⟨rfl, h1, h2, hg1⟩; have B1 := Lib.hid (h2.alloc (Nat.le_trans hb h2.size) (.cells #[.string ⟨([108, 97, 98, 101, 108] : List UInt8).toArray⟩, .int .i64 (a : Int), .int .i64 (b : Int)] 119)); have P1 := Lib.hid (h1.below ((Below.refl _ w1).alloc (Nat.le_refl _) (.cells #[.string ⟨([108, 97, 98, 101, 108] : List UInt8).toArray⟩, .int .i64 (a : Int), .int .i64 (b : Int)] 119))); have S1 := Lib.hid (Nat.le_trans hb B1.out.size); have c4 := pk_line P1.out; clear h1 h2 hg1) | (go_at_call 80; (with_reducible refine (HL.out _ P1.out S1.out B1.out).mono ?_); rintro e w2 ⟨rfl, h1⟩; have B2 := Lib.hid (B1.out.trans h1); clear h1))
  exact ⟨rfl, rfl, B2.out⟩
set_option maxRecDepth 100000 in
set_option maxHeartbeats 4000000 in
theorem line_l_short {base P ln en : Nat} {c : Cf} {x0 x : We} (w : World) (h : PK w base P c ln (x0 :: [x]) en) (hb : base ≤ w.heap.size) (hbg : ∀ w', Below base w w' → Base5 w') (hn : c.names.length ≤ 64) (hk : x0.1 = lblT) (hs : x.1.length ≤ 1000000) (hx : newB c x.1 = true) :
    Calls Tryz.prog 48 #[.pointer (some ⟨P, 0, none⟩)] w (FailEnd ln x.2.2 base w) := by
  have HT := Lib.hid (take_cons w h hb)
  obtain ⟨t, a, b⟩ := x0
  simp only at hk
  subst hk
  unfold lblT at HT
  have HBG := Lib.hid (fun (w1 : World) (h1 : Below base w w1) => fun w2 (h2 : Below base w1 w2) => hbg w2 (h1.trans h2))
  have HL := Lib.hid (fun w1 (h1 : PK w1 base P c ln [x] b) h2 (h3 : Below base w w1) => label_short w1 h1 h2 (HBG.out _ h3) hs hx)
  clear h hbg
  go_enter Tryz.func48, Tryz.ntmps48
  go_wp2_with (first | (go_at_call 79; (with_reducible refine HT.out.mono ?_); rintro e w1 ⟨rfl, h1, h2, hg1⟩; have B1 := Lib.hid (h2.alloc (Nat.le_trans hb h2.size) (.cells #[.string ⟨([108, 97, 98, 101, 108] : List UInt8).toArray⟩, .int .i64 (a : Int), .int .i64 (b : Int)] 119)); have P1 := Lib.hid (h1.below ((Below.refl _ w1).alloc (Nat.le_refl _) (.cells #[.string ⟨([108, 97, 98, 101, 108] : List UInt8).toArray⟩, .int .i64 (a : Int), .int .i64 (b : Int)] 119))); have S1 := Lib.hid (Nat.le_trans hb B1.out.size); have c4 := pk_line P1.out; clear h1 h2 hg1) | (go_at_call 80; (with_reducible refine (HL.out _ P1.out S1.out B1.out).mono ?_); rintro e w2 ⟨rfl, h1⟩; have B2 := Lib.hid (B1.out.trans h1); clear h1))
  exact ⟨rfl, rfl, B2.out⟩
set_option maxRecDepth 100000 in
set_option maxHeartbeats 4000000 in
theorem line_l_quota {base P ln en : Nat} {c : Cf} {x0 x y : We} {l : List We} (w : World) (h : PK w base P c ln (x0 :: x :: y :: l) en) (hb : base ≤ w.heap.size) (hbg : ∀ w', Below base w w' → Base5 w') (hn : c.names.length ≤ 64) (hk : x0.1 = lblT) (hs : x.1.length ≤ 1000000) (hs2 : y.1.length ≤ 1000000) (hx : newB c x.1 = true) (hy : quotaN y.1 < 0) :
    Calls Tryz.prog 48 #[.pointer (some ⟨P, 0, none⟩)] w (FailEnd ln y.2.1 base w) := by
  have HT := Lib.hid (take_cons w h hb)
  obtain ⟨t, a, b⟩ := x0
  simp only at hk
  subst hk
  unfold lblT at HT
  have HBG := Lib.hid (fun (w1 : World) (h1 : Below base w w1) => fun w2 (h2 : Below base w1 w2) => hbg w2 (h1.trans h2))
  have HL := Lib.hid (fun w1 (h1 : PK w1 base P c ln (x :: y :: l) b) h2 (h3 : Below base w w1) => label_quota w1 h1 h2 (HBG.out _ h3) hs hs2 hx hy)
  clear h hbg
  go_enter Tryz.func48, Tryz.ntmps48
  go_wp2_with (first | (go_at_call 79; (with_reducible refine HT.out.mono ?_); rintro e w1 ⟨rfl, h1, h2, hg1⟩; have B1 := Lib.hid (h2.alloc (Nat.le_trans hb h2.size) (.cells #[.string ⟨([108, 97, 98, 101, 108] : List UInt8).toArray⟩, .int .i64 (a : Int), .int .i64 (b : Int)] 119)); have P1 := Lib.hid (h1.below ((Below.refl _ w1).alloc (Nat.le_refl _) (.cells #[.string ⟨([108, 97, 98, 101, 108] : List UInt8).toArray⟩, .int .i64 (a : Int), .int .i64 (b : Int)] 119))); have S1 := Lib.hid (Nat.le_trans hb B1.out.size); have c4 := pk_line P1.out; clear h1 h2 hg1) | (go_at_call 80; (with_reducible refine (HL.out _ P1.out S1.out B1.out).mono ?_); rintro e w2 ⟨rfl, h1⟩; have B2 := Lib.hid (B1.out.trans h1); clear h1))
  exact ⟨rfl, rfl, B2.out⟩
set_option maxRecDepth 100000 in
set_option maxHeartbeats 4000000 in
theorem line_l_more {base P ln en : Nat} {c : Cf} {x0 x y z : We} {l : List We} (w : World) (h : PK w base P c ln (x0 :: x :: y :: z :: l) en) (hb : base ≤ w.heap.size) (hbg : ∀ w', Below base w w' → Base5 w') (hn : c.names.length ≤ 64) (hk : x0.1 = lblT) (hs : x.1.length ≤ 1000000) (hs2 : y.1.length ≤ 1000000) (hup : c.up.length ≤ 64) (hqu : c.quotas.length ≤ 64) (hx : newB c x.1 = true) (hy : ¬ quotaN y.1 < 0) :
    Calls Tryz.prog 48 #[.pointer (some ⟨P, 0, none⟩)] w (FailEnd ln z.2.1 base w) := by
  have HT := Lib.hid (take_cons w h hb)
  obtain ⟨t, a, b⟩ := x0
  simp only at hk
  subst hk
  unfold lblT at HT
  have HBG := Lib.hid (fun (w1 : World) (h1 : Below base w w1) => fun w2 (h2 : Below base w1 w2) => hbg w2 (h1.trans h2))
  have HL := Lib.hid (fun w1 (h1 : PK w1 base P c ln (x :: y :: z :: l) b) h2 (h3 : Below base w w1) => label_good w1 h1 h2 (HBG.out _ h3) hs hs2 hup hqu hx hy)
  clear h hbg
  go_enter Tryz.func48, Tryz.ntmps48
  go_wp2_with (first | (go_at_call 79; (with_reducible refine HT.out.mono ?_); rintro e w1 ⟨rfl, h1, h2, hg1⟩; have B1 := Lib.hid (h2.alloc (Nat.le_trans hb h2.size) (.cells #[.string ⟨([108, 97, 98, 101, 108] : List UInt8).toArray⟩, .int .i64 (a : Int), .int .i64 (b : Int)] 119)); have P1 := Lib.hid (h1.below ((Below.refl _ w1).alloc (Nat.le_refl _) (.cells #[.string ⟨([108, 97, 98, 101, 108] : List UInt8).toArray⟩, .int .i64 (a : Int), .int .i64 (b : Int)] 119))); have S1 := Lib.hid (Nat.le_trans hb B1.out.size); have c4 := pk_line P1.out; clear h1 h2 hg1) | (go_at_call 80; (with_reducible refine (HL.out _ P1.out S1.out B1.out).mono ?_); rintro e w2 ⟨rfl, h1, h2⟩; have B2 := Lib.hid (B1.out.trans h2); have P2 := Lib.hid h1; have S2 := Lib.hid (Nat.le_trans hb B2.out.size); clear c4; have c4 := pk_line h1; obtain ⟨A5, n5, k5, c5, hn5, hx5⟩ := pk_left h1; subst hn5; obtain ⟨g5, o5, rfl, g51⟩ := hx5 _ _ rfl; clear h1 h2) | (go_at_call 82; (with_reducible refine (fail_any P ln _ _ c4).mono ?_); rintro e w3 ⟨rfl, h1⟩; have B3 := Lib.hid (B2.out.trans (h1.mono S2.out)); clear h1))
  exact ⟨rfl, rfl, B3.out⟩
set_option maxRecDepth 100000 in
set_option maxHeartbeats 4000000 in
theorem line_l_good {base P ln en : Nat} {c : Cf} {x0 x y : We} (w : World) (h : PK w base P c ln (x0 :: x :: [y]) en) (hb : base ≤ w.heap.size) (hbg : ∀ w', Below base w w' → Base5 w') (hn : c.names.length ≤ 64) (hk : x0.1 = lblT) (hs : x.1.length ≤ 1000000) (hs2 : y.1.length ≤ 1000000) (hup : c.up.length ≤ 64) (hqu : c.quotas.length ≤ 64) (hx : newB c x.1 = true) (hy : ¬ quotaN y.1 < 0) :
    Calls Tryz.prog 48 #[.pointer (some ⟨P, 0, none⟩)] w (DoneEnd base P ln ⟨c.names ++ [x.1], c.up ++ [2 ^ c.names.length], c.quotas ++ [quotaN y.1], c.grants⟩ w) := by
  have HT := Lib.hid (take_cons w h hb)
  obtain ⟨t, a, b⟩ := x0
  simp only at hk
  subst hk
  unfold lblT at HT
  have HBG := Lib.hid (fun (w1 : World) (h1 : Below base w w1) => fun w2 (h2 : Below base w1 w2) => hbg w2 (h1.trans h2))
  have HL := Lib.hid (fun w1 (h1 : PK w1 base P c ln (x :: y :: []) b) h2 (h3 : Below base w w1) => label_good w1 h1 h2 (HBG.out _ h3) hs hs2 hup hqu hx hy)
  clear h hbg
  go_enter Tryz.func48, Tryz.ntmps48
  go_wp2_with (first | (go_at_call 79; (with_reducible refine HT.out.mono ?_); rintro e w1 ⟨rfl, h1, h2, hg1⟩; have B1 := Lib.hid (h2.alloc (Nat.le_trans hb h2.size) (.cells #[.string ⟨([108, 97, 98, 101, 108] : List UInt8).toArray⟩, .int .i64 (a : Int), .int .i64 (b : Int)] 119)); have P1 := Lib.hid (h1.below ((Below.refl _ w1).alloc (Nat.le_refl _) (.cells #[.string ⟨([108, 97, 98, 101, 108] : List UInt8).toArray⟩, .int .i64 (a : Int), .int .i64 (b : Int)] 119))); have S1 := Lib.hid (Nat.le_trans hb B1.out.size); have c4 := pk_line P1.out; clear h1 h2 hg1) | (go_at_call 80; (with_reducible refine (HL.out _ P1.out S1.out B1.out).mono ?_); rintro e w2 ⟨rfl, h1, h2⟩; have B2 := Lib.hid (B1.out.trans h2); have P2 := Lib.hid h1; have S2 := Lib.hid (Nat.le_trans hb B2.out.size); clear c4; have c4 := pk_line h1; obtain ⟨A5, n5, k5, c5, hn5, hx5⟩ := pk_left h1; subst hn5; clear hx5; clear h1 h2))
  refine bodyPost_end (results_none rfl _ _ _) rfl ?_
  exact ⟨rfl, ⟨_, P2.out⟩, B2.out⟩

end Go.Proofs.YtglkmpglpddfdaaGreatDoor
end
