import Derived.Test.YtclaiigelgbpdaaJTrj
import Derived.Test.YtclaiigelgbpdaaJ03
/- Of a claim's texts, joined: Trl Tpa. No statement but in the last. -/
section
namespace Go.Proofs.Ytclaiigelgbpdaa
open Go.RowKit
set_option linter.unusedVariables false

inductive TopB : Tr → Prop where
  | leaf (p : Int) (l : List Lf) (h : BndN 50 (.leaf p l)) : TopB (.leaf p l)
  | branch (p : Int) (l : List (List UInt8 × Tr)) (h : BndN 50 (.branch p l)) (hk : ∀ x, l = [x] → TopB x.2) : TopB (.branch p l)
theorem TopB.bnd {t : Tr} (h : TopB t) : BndN 50 t := by cases h <;> assumption
theorem top_at {t : Tr} (h : ∀ p x, t ≠ .branch p [x]) : topT t = if atZ (sizesT t) = 0 then t else mendT 0 [([], t)] 0 := by
  cases t with
  | leaf p l => rw [topT]
  | branch p l =>
    match l, h with
    | [], _ => rw [topT] <;> simp
    | [x], h => exact absurd rfl (h p x)
    | x :: y :: l, _ => rw [topT] <;> simp
theorem top_one (p : Int) (x : List UInt8 × Tr) : topT (.branch p [x]) = topT x.2 := by rw [topT]
theorem even_one (x : List UInt8 × Tr) : evenT [x] := fun i j hi hj => by
  have h1 : i = 0 := by simpa using hi
  have h2 : j = 0 := by simpa using hj
  rw [h1, h2]
set_option maxRecDepth 100000 in
set_option maxHeartbeats 4000000 in
theorem r15Top_base (F : Nat → Prop) (v : NV) (t : Tr) (w : World) (h : RepN F w v t) (hb : BndN 50 t) (ht : ∀ p x, t ≠ .branch p [x]) : Calls Try.prog 24 #[nvV v] w (NodeE F (topT t) w) := by
  rw [top_at ht]
  obtain ⟨hp, hlf, es, hr, hc⟩ := repN_iff.1 h
  obtain ⟨p, lf, A, n, c⟩ := v
  simp only at hp hlf hr
  have hlen := hr.len4
  have hbc := bndC_of (hb.mono (by omega)) hc
  have hg : lf = true ∨ (lf = false ∧ n ≠ 1) := by
    cases t with
    | leaf q l => exact .inl hlf
    | branch q l =>
      refine .inr ⟨hlf, fun e => ?_⟩
      have hl : l.length = 1 := by rw [← (show Both (CellT F w) es l from hc).1, ← hlen]; exact e
      obtain ⟨x, rfl⟩ := List.length_eq_one_iff.1 hl
      exact ht q x rfl
  have hsum : es.map (szC lf) = sizesT t := by rw [hlf]; exact sizes_cells hc
  have hold := h.old
  unfold nvV
  simp only
  obtain ⟨W, hW⟩ : ∃ W, (w.alloc (.cells #[.int .i64 p, .bool lf, .slice A n c] 33)).alloc (.cells #[.int .i64 0, .bool false, .slice none 0 0] 33) = W := ⟨_, rfl⟩
  have hB0 : Below w.heap.size w W := hW ▸ ((Below.refl _ w).alloc (Nat.le_refl _) _).alloc (by simp) _
  have hX1 : Has W w.heap.size 33 #[.int .i64 p, .bool lf, .slice A n c] := hW ▸ (Has.made w 33 _).alloc _
  have hX2 : Has W (w.heap.size + 1) 33 #[.int .i64 0, .bool false, .slice none 0 0] := hW ▸ (by have := Has.made (w.alloc (.cells #[.int .i64 p, .bool lf, .slice A n c] 33)) 33 #[.int .i64 0, .bool false, .slice none 0 0]; simpa using this)
  have HSZ := Lib.hid (r15Sizes_es F ⟨p, lf, A, n, c⟩ es W (hr.below hB0) hbc)
  unfold nvV at HSZ
  simp only at HSZ
  rw [hsum, ← hlen] at HSZ
  have HAT := Lib.hid (fun A c w1 h1 => r14At_any (sizesT t) A n c w1 h1 (hsum ▸ sizes_siz hbc))
  obtain ⟨P1, hP1⟩ : ∃ P, w.heap.size = P := ⟨_, rfl⟩
  obtain ⟨P2, hP2⟩ : ∃ P, P1 + 1 = P := ⟨_, rfl⟩
  rw [hP1] at hX1
  rw [hP1, hP2] at hX2
  have HX1 := Lib.hid hX1
  have HX2 := Lib.hid hX2
  have HB0 := Lib.hid hB0
  have HOLD := Lib.hid hold
  have x10 := hX1.cell 0
  have x11 := hX1.cell 1
  have x12 := hX1.cell 2
  obtain ⟨at_, hat⟩ : ∃ a, atZ (sizesT t) = a := ⟨_, rfl⟩
  rw [hat] at HAT ⊢
  have hord : P1 < P2 ∧ w.heap.size = P1 := ⟨by omega, hP1⟩
  have HORD := Lib.hid hord
  generalize sizesT t = st at *
  have HBB := Lib.hid hb
  clear h hb ht hp hlf hr hc hlen hbc hsum hold hX1 hX2 hB0 hat hord
  have hn1 : lf = true ∨ (lf = false ∧ ¬ (n : Int) = 1) := hg.imp id (fun h => ⟨h.1, by omega⟩)
  clear hg
  by_cases hz : at_ = 0
  · subst hz
    rw [if_pos rfl]
    rcases hn1 with rfl | ⟨rfl, hn1⟩
    · skip
      go_enter Try.func24, Try.ntmps24
      go_wp2_with (first
        | (go_at_call 41; (with_reducible refine HSZ.out.mono ?_); rintro r7 w7 ⟨A7, c7, rfl, h7, b7⟩; have z1 := HX1.out.below b7 HX1.out.lt; have z2 := HX2.out.below b7 HX2.out.lt; have y10 := z1.cell 0; have y11 := z1.cell 1; have y12 := z1.cell 2; have y20 := z2.cell 0; have y21 := z2.cell 1; have y22 := z2.cell 2; have f20 := z2.free 0; have f21 := z2.free 1; have f22 := z2.free 2; have Z2 := Lib.hid z2; have B7 := Lib.hid b7; clear z1 z2 b7)
        | (go_at_call 40; (with_reducible refine (HAT.out _ _ _ h7).mono ?_); rintro r8 w8 ⟨rfl, rfl⟩))
      have XE := Z2.out.setN (.int .i64 p) (.bool true) (.slice A n c)
      have e0 := XE.cell 0
      have e1 := XE.cell 1
      have e2 := XE.cell 2
      unfold stN at e0 e1 e2
      simp at e0 e1 e2
      have ord := HORD.out
      have hbs := HB0.out.size
      have hb7 := B7.out.size
      refine ⟨rfl, .agg #[.int .i64 p, .bool true, .slice A n c], ?_, ⟨p, true, A, n, c⟩, rfl, ?_, ?_⟩
      · simp [results, Try.f24, go_sem, e0, e1, e2]
      · exact RepN.move (fun q hq hl => ⟨.inl hq.1, (heap_setN _ P2 _ _ _ q (by have := hq.2; omega)).trans ((below_step HB0.out B7.out).block q hl)⟩) HOLD.out
      · exact below_setN (below_step HB0.out B7.out) (by omega) _ _ _
    · skip
      go_enter Try.func24, Try.ntmps24
      go_wp2_with (first
        | (go_at_call 41; (with_reducible refine HSZ.out.mono ?_); rintro r7 w7 ⟨A7, c7, rfl, h7, b7⟩; have z1 := HX1.out.below b7 HX1.out.lt; have z2 := HX2.out.below b7 HX2.out.lt; have y10 := z1.cell 0; have y11 := z1.cell 1; have y12 := z1.cell 2; have y20 := z2.cell 0; have y21 := z2.cell 1; have y22 := z2.cell 2; have f20 := z2.free 0; have f21 := z2.free 1; have f22 := z2.free 2; have Z2 := Lib.hid z2; have B7 := Lib.hid b7; clear z1 z2 b7)
        | (go_at_call 40; (with_reducible refine (HAT.out _ _ _ h7).mono ?_); rintro r8 w8 ⟨rfl, rfl⟩))
      have XE := Z2.out.setN (.int .i64 p) (.bool false) (.slice A n c)
      have e0 := XE.cell 0
      have e1 := XE.cell 1
      have e2 := XE.cell 2
      unfold stN at e0 e1 e2
      simp at e0 e1 e2
      have ord := HORD.out
      have hbs := HB0.out.size
      have hb7 := B7.out.size
      refine ⟨rfl, .agg #[.int .i64 p, .bool false, .slice A n c], ?_, ⟨p, false, A, n, c⟩, rfl, ?_, ?_⟩
      · simp [results, Try.f24, go_sem, e0, e1, e2]
      · exact RepN.move (fun q hq hl => ⟨.inl hq.1, (heap_setN _ P2 _ _ _ q (by have := hq.2; omega)).trans ((below_step HB0.out B7.out).block q hl)⟩) HOLD.out
      · exact below_setN (below_step HB0.out B7.out) (by omega) _ _ _
  · rw [if_neg hz]
    have hz2 : ((at_ : Int) == 0) = false := by simpa using hz
    clear hz
    rcases hn1 with rfl | ⟨rfl, hn1⟩
    · skip
      go_enter Try.func24, Try.ntmps24
      go_wp2_with (first
        | (go_at_call 41; (with_reducible refine HSZ.out.mono ?_); rintro r7 w7 ⟨A7, c7, rfl, h7, b7⟩; have z1 := HX1.out.below b7 HX1.out.lt; have z2 := HX2.out.below b7 HX2.out.lt; have y10 := z1.cell 0; have y11 := z1.cell 1; have y12 := z1.cell 2; have y20 := z2.cell 0; have y21 := z2.cell 1; have y22 := z2.cell 2; have f20 := z2.free 0; have f21 := z2.free 1; have f22 := z2.free 2; have Z2 := Lib.hid z2; have B7 := Lib.hid b7; clear z1 z2 b7; have hmd : Hid (Calls Try.prog 26 #[.agg #[.int .i64 0, .bool false, .slice (some ⟨w7.heap.size + 1, 0, none⟩) 1 1], .int .i64 0] ((w7.alloc (.cells #[.int .i64 p, .bool true, .slice A n c] 33)).alloc (.cells #[.string ⟨#[]⟩, .string ⟨#[]⟩, .slice none 0 0, .slice (some ⟨w7.heap.size, 0, none⟩) 1 1] 53)) (NodeE (fun q => (F q ∧ q < w.heap.size) ∨ P2 < q) (mendT 0 [([], t)] 0) ((w7.alloc (.cells #[.int .i64 p, .bool true, .slice A n c] 33)).alloc (.cells #[.string ⟨#[]⟩, .string ⟨#[]⟩, .slice none 0 0, .slice (some ⟨w7.heap.size, 0, none⟩) 1 1] 53)))) := Lib.hid (by have ord := HORD.out; have h2l := HX2.out.lt; have hb7 := B7.out.size; have bw7 := below_step HB0.out B7.out; have bV1 : Below w7.heap.size w7 (w7.alloc (.cells #[.int .i64 p, .bool true, .slice A n c] 33)) := (Below.refl _ w7).alloc (Nat.le_refl _) _; have bV2 : Below (w7.alloc (.cells #[.int .i64 p, .bool true, .slice A n c] 33)).heap.size (w7.alloc (.cells #[.int .i64 p, .bool true, .slice A n c] 33)) ((w7.alloc (.cells #[.int .i64 p, .bool true, .slice A n c] 33)).alloc (.cells #[.string ⟨#[]⟩, .string ⟨#[]⟩, .slice none 0 0, .slice (some ⟨w7.heap.size, 0, none⟩) 1 1] 53)) := (Below.refl _ (w7.alloc (.cells #[.int .i64 p, .bool true, .slice A n c] 33))).alloc (Nat.le_refl _) _; have m1 := RwF.made (fun q => P2 < q) w7 33 (nvL ⟨p, true, A, n, c⟩) 1 3 rfl (by decide) (show P2 < w7.heap.size by omega); have m2 := RwF.made (fun q => P2 < q) (w7.alloc (.cells #[.int .i64 p, .bool true, .slice A n c] 33)) 53 (flatC [(⟨[], [], none, 0, 0, some ⟨w7.heap.size, 0, none⟩, 1, 1⟩ : CE)]) 1 4 rfl (by decide) (show P2 < (w7.alloc (.cells #[.int .i64 p, .bool true, .slice A n c] 33)).heap.size by simp; omega); have hmo : ∀ q, (F q ∧ q < w.heap.size) → q < w.heap.size → ((F q ∧ q < w.heap.size) ∨ P2 < q) ∧ ((w7.alloc (.cells #[.int .i64 p, .bool true, .slice A n c] 33)).alloc (.cells #[.string ⟨#[]⟩, .string ⟨#[]⟩, .slice none 0 0, .slice (some ⟨w7.heap.size, 0, none⟩) 1 1] 53)).heap[q]? = w.heap[q]? := (fun q hq _ => ⟨.inl hq, by rw [bV2.block q (by have := bV1.size; have := hq.2; have := bw7.size; omega), bV1.block q (by have := hq.2; have := bw7.size; omega), bw7.block q hq.2]⟩); have hrk := RepN.move (w' := ((w7.alloc (.cells #[.int .i64 p, .bool true, .slice A n c] 33)).alloc (.cells #[.string ⟨#[]⟩, .string ⟨#[]⟩, .slice none 0 0, .slice (some ⟨w7.heap.size, 0, none⟩) 1 1] 53))) (G := fun q => (F q ∧ q < w.heap.size) ∨ P2 < q) hmo HOLD.out; have hrep : RepN (fun q => (F q ∧ q < w.heap.size) ∨ P2 < q) ((w7.alloc (.cells #[.int .i64 p, .bool true, .slice A n c] 33)).alloc (.cells #[.string ⟨#[]⟩, .string ⟨#[]⟩, .slice none 0 0, .slice (some ⟨w7.heap.size, 0, none⟩) 1 1] 53)) ⟨0, false, some ⟨w7.heap.size + 1, 0, none⟩, 1, 1⟩ (.branch 0 [([], t)]) := repN_branch.2 ⟨rfl, rfl, [(⟨[], [], none, 0, 0, some ⟨w7.heap.size, 0, none⟩, 1, 1⟩ : CE)], (by have := m2.mono (G := fun q => (F q ∧ q < w.heap.size) ∨ P2 < q) (fun q hq => .inr hq); simpa [flatC, ceV] using this), Both.one ⟨⟨p, true, A, n, c⟩, ⟨⟨rfl, rfl, rfl, rfl, rfl⟩, rfl, (m1.below bV2).mono (fun q hq => .inr hq)⟩, hrk⟩⟩; have := r15Mend_any _ ⟨0, false, some ⟨w7.heap.size + 1, 0, none⟩, 1, 1⟩ 0 [([], t)] 0 ((w7.alloc (.cells #[.int .i64 p, .bool true, .slice A n c] 33)).alloc (.cells #[.string ⟨#[]⟩, .string ⟨#[]⟩, .slice none 0 0, .slice (some ⟨w7.heap.size, 0, none⟩) 1 1] 53)) hrep (by simp) (by simp) (by intro x hx; rw [List.mem_singleton] at hx; subst hx; exact HBB.out) (by intro x hx; rw [List.mem_singleton] at hx; subst hx; simp) (even_one _); exact this))
        | (go_at_call 40; (with_reducible refine (HAT.out _ _ _ h7).mono ?_); rintro r8 w8 ⟨rfl, rfl⟩)
        | (go_at_call 26; (with_reducible refine hmd.out.mono ?_); rintro r9 w9 ⟨v9, rfl, m9, b9⟩; obtain ⟨p9, lf9, A9, n9, c9⟩ := v9; unfold nvV; simp only; have b79 : Below w7.heap.size w7 w9 := below_step (below_alloc' (below_alloc' (Below.refl _ w7) _) _) b9; have zz := Z2.out.below b79 Z2.out.lt; have s20 := zz.cell 0; have s21 := zz.cell 1; have s22 := zz.cell 2; have s23 := zz.free 0; have s24 := zz.free 1; have s25 := zz.free 2; have ZZ := Lib.hid zz; have M9 := Lib.hid m9; have B9 := Lib.hid (below_step (below_step HB0.out B7.out) b79); clear zz m9 b9 b79))
      have XE := ZZ.out.setN (.int .i64 p9) (.bool lf9) (.slice A9 n9 c9)
      have e0 := XE.cell 0
      have e1 := XE.cell 1
      have e2 := XE.cell 2
      unfold stN at e0 e1 e2
      simp at e0 e1 e2
      have ord := HORD.out
      have hbs := HB0.out.size
      have h2l := HX2.out.lt
      have hb7 := B7.out.size
      refine ⟨rfl, .agg #[.int .i64 p9, .bool lf9, .slice A9 n9 c9], ?_, ⟨p9, lf9, A9, n9, c9⟩, rfl, ?_, ?_⟩
      · simp [results, Try.f24, go_sem, e0, e1, e2]
      · refine RepN.move (fun q hq hl => ⟨?_, heap_setN _ P2 _ _ _ q ?_⟩) M9.out
        · rcases hq with (hq | hq) | hq
          · exact .inl hq.1
          · exact .inr (by omega)
          · exact .inr (by simp at hq; omega)
        · rcases hq with (hq | hq) | hq
          · have := hq.2; omega
          · omega
          · simp at hq; omega
      · exact below_setN B9.out (by omega) _ _ _
    · skip
      go_enter Try.func24, Try.ntmps24
      go_wp2_with (first
        | (go_at_call 41; (with_reducible refine HSZ.out.mono ?_); rintro r7 w7 ⟨A7, c7, rfl, h7, b7⟩; have z1 := HX1.out.below b7 HX1.out.lt; have z2 := HX2.out.below b7 HX2.out.lt; have y10 := z1.cell 0; have y11 := z1.cell 1; have y12 := z1.cell 2; have y20 := z2.cell 0; have y21 := z2.cell 1; have y22 := z2.cell 2; have f20 := z2.free 0; have f21 := z2.free 1; have f22 := z2.free 2; have Z2 := Lib.hid z2; have B7 := Lib.hid b7; clear z1 z2 b7; have hmd : Hid (Calls Try.prog 26 #[.agg #[.int .i64 0, .bool false, .slice (some ⟨w7.heap.size + 1, 0, none⟩) 1 1], .int .i64 0] ((w7.alloc (.cells #[.int .i64 p, .bool false, .slice A n c] 33)).alloc (.cells #[.string ⟨#[]⟩, .string ⟨#[]⟩, .slice none 0 0, .slice (some ⟨w7.heap.size, 0, none⟩) 1 1] 53)) (NodeE (fun q => (F q ∧ q < w.heap.size) ∨ P2 < q) (mendT 0 [([], t)] 0) ((w7.alloc (.cells #[.int .i64 p, .bool false, .slice A n c] 33)).alloc (.cells #[.string ⟨#[]⟩, .string ⟨#[]⟩, .slice none 0 0, .slice (some ⟨w7.heap.size, 0, none⟩) 1 1] 53)))) := Lib.hid (by have ord := HORD.out; have h2l := HX2.out.lt; have hb7 := B7.out.size; have bw7 := below_step HB0.out B7.out; have bV1 : Below w7.heap.size w7 (w7.alloc (.cells #[.int .i64 p, .bool false, .slice A n c] 33)) := (Below.refl _ w7).alloc (Nat.le_refl _) _; have bV2 : Below (w7.alloc (.cells #[.int .i64 p, .bool false, .slice A n c] 33)).heap.size (w7.alloc (.cells #[.int .i64 p, .bool false, .slice A n c] 33)) ((w7.alloc (.cells #[.int .i64 p, .bool false, .slice A n c] 33)).alloc (.cells #[.string ⟨#[]⟩, .string ⟨#[]⟩, .slice none 0 0, .slice (some ⟨w7.heap.size, 0, none⟩) 1 1] 53)) := (Below.refl _ (w7.alloc (.cells #[.int .i64 p, .bool false, .slice A n c] 33))).alloc (Nat.le_refl _) _; have m1 := RwF.made (fun q => P2 < q) w7 33 (nvL ⟨p, false, A, n, c⟩) 1 3 rfl (by decide) (show P2 < w7.heap.size by omega); have m2 := RwF.made (fun q => P2 < q) (w7.alloc (.cells #[.int .i64 p, .bool false, .slice A n c] 33)) 53 (flatC [(⟨[], [], none, 0, 0, some ⟨w7.heap.size, 0, none⟩, 1, 1⟩ : CE)]) 1 4 rfl (by decide) (show P2 < (w7.alloc (.cells #[.int .i64 p, .bool false, .slice A n c] 33)).heap.size by simp; omega); have hmo : ∀ q, (F q ∧ q < w.heap.size) → q < w.heap.size → ((F q ∧ q < w.heap.size) ∨ P2 < q) ∧ ((w7.alloc (.cells #[.int .i64 p, .bool false, .slice A n c] 33)).alloc (.cells #[.string ⟨#[]⟩, .string ⟨#[]⟩, .slice none 0 0, .slice (some ⟨w7.heap.size, 0, none⟩) 1 1] 53)).heap[q]? = w.heap[q]? := (fun q hq _ => ⟨.inl hq, by rw [bV2.block q (by have := bV1.size; have := hq.2; have := bw7.size; omega), bV1.block q (by have := hq.2; have := bw7.size; omega), bw7.block q hq.2]⟩); have hrk := RepN.move (w' := ((w7.alloc (.cells #[.int .i64 p, .bool false, .slice A n c] 33)).alloc (.cells #[.string ⟨#[]⟩, .string ⟨#[]⟩, .slice none 0 0, .slice (some ⟨w7.heap.size, 0, none⟩) 1 1] 53))) (G := fun q => (F q ∧ q < w.heap.size) ∨ P2 < q) hmo HOLD.out; have hrep : RepN (fun q => (F q ∧ q < w.heap.size) ∨ P2 < q) ((w7.alloc (.cells #[.int .i64 p, .bool false, .slice A n c] 33)).alloc (.cells #[.string ⟨#[]⟩, .string ⟨#[]⟩, .slice none 0 0, .slice (some ⟨w7.heap.size, 0, none⟩) 1 1] 53)) ⟨0, false, some ⟨w7.heap.size + 1, 0, none⟩, 1, 1⟩ (.branch 0 [([], t)]) := repN_branch.2 ⟨rfl, rfl, [(⟨[], [], none, 0, 0, some ⟨w7.heap.size, 0, none⟩, 1, 1⟩ : CE)], (by have := m2.mono (G := fun q => (F q ∧ q < w.heap.size) ∨ P2 < q) (fun q hq => .inr hq); simpa [flatC, ceV] using this), Both.one ⟨⟨p, false, A, n, c⟩, ⟨⟨rfl, rfl, rfl, rfl, rfl⟩, rfl, (m1.below bV2).mono (fun q hq => .inr hq)⟩, hrk⟩⟩; have := r15Mend_any _ ⟨0, false, some ⟨w7.heap.size + 1, 0, none⟩, 1, 1⟩ 0 [([], t)] 0 ((w7.alloc (.cells #[.int .i64 p, .bool false, .slice A n c] 33)).alloc (.cells #[.string ⟨#[]⟩, .string ⟨#[]⟩, .slice none 0 0, .slice (some ⟨w7.heap.size, 0, none⟩) 1 1] 53)) hrep (by simp) (by simp) (by intro x hx; rw [List.mem_singleton] at hx; subst hx; exact HBB.out) (by intro x hx; rw [List.mem_singleton] at hx; subst hx; simp) (even_one _); exact this))
        | (go_at_call 40; (with_reducible refine (HAT.out _ _ _ h7).mono ?_); rintro r8 w8 ⟨rfl, rfl⟩)
        | (go_at_call 26; (with_reducible refine hmd.out.mono ?_); rintro r9 w9 ⟨v9, rfl, m9, b9⟩; obtain ⟨p9, lf9, A9, n9, c9⟩ := v9; unfold nvV; simp only; have b79 : Below w7.heap.size w7 w9 := below_step (below_alloc' (below_alloc' (Below.refl _ w7) _) _) b9; have zz := Z2.out.below b79 Z2.out.lt; have s20 := zz.cell 0; have s21 := zz.cell 1; have s22 := zz.cell 2; have s23 := zz.free 0; have s24 := zz.free 1; have s25 := zz.free 2; have ZZ := Lib.hid zz; have M9 := Lib.hid m9; have B9 := Lib.hid (below_step (below_step HB0.out B7.out) b79); clear zz m9 b9 b79))
      have XE := ZZ.out.setN (.int .i64 p9) (.bool lf9) (.slice A9 n9 c9)
      have e0 := XE.cell 0
      have e1 := XE.cell 1
      have e2 := XE.cell 2
      unfold stN at e0 e1 e2
      simp at e0 e1 e2
      have ord := HORD.out
      have hbs := HB0.out.size
      have h2l := HX2.out.lt
      have hb7 := B7.out.size
      refine ⟨rfl, .agg #[.int .i64 p9, .bool lf9, .slice A9 n9 c9], ?_, ⟨p9, lf9, A9, n9, c9⟩, rfl, ?_, ?_⟩
      · simp [results, Try.f24, go_sem, e0, e1, e2]
      · refine RepN.move (fun q hq hl => ⟨?_, heap_setN _ P2 _ _ _ q ?_⟩) M9.out
        · rcases hq with (hq | hq) | hq
          · exact .inl hq.1
          · exact .inr (by omega)
          · exact .inr (by simp at hq; omega)
        · rcases hq with (hq | hq) | hq
          · have := hq.2; omega
          · omega
          · simp at hq; omega
      · exact below_setN B9.out (by omega) _ _ _
end Go.Proofs.Ytclaiigelgbpdaa
end

section
namespace Go.Proofs.Ytclaiigelgbpdaa
open Go.RowKit
set_option linter.unusedVariables false

set_option maxRecDepth 100000 in
set_option maxHeartbeats 4000000 in
theorem r15Top_any : ∀ (t : Tr) (F : Nat → Prop) (v : NV) (w : World), RepN F w v t → TopB t → Calls Try.prog 24 #[nvV v] w (NodeE F (topT t) w) := by
  intro t
  induction t using Tr.ind with
  | hl p l => exact fun F v w h hb => r15Top_base F v _ w h hb.bnd (fun q x e => by cases e)
  | hb p l ih =>
    intro F v w h hb
    by_cases h1 : ∃ x, l = [x]
    case neg => exact r15Top_base F v _ w h hb.bnd (fun q x e => h1 ⟨x, by injection e⟩)
    obtain ⟨x, rfl⟩ := h1
    rw [top_one]
    have hbk : TopB x.2 := by
      cases hb with
      | branch p l h hk => exact hk x rfl
    obtain ⟨es, e, vk, ek, hp, hlf, hr, hbo, he, hen, hkr, hek, hkk, hck, hkl, hrep⟩ := kid_at h (k := 0) (by simp)
    have hx0 : kidT [x] 0 = x := rfl
    rw [hx0] at hrep
    obtain ⟨p', lf, A, n, c⟩ := v
    simp only at hp hlf hr
    subst hp hlf
    have hlen : n = 1 := by rw [hr.len4]; exact hbo.1
    subst hlen
    obtain ⟨g, off, kg, koff, hKC⟩ := kidC_of hr he hen hkr
    obtain rfl := hKC.row
    obtain ⟨p2, lf2, A2, n2, c2⟩ := vk
    have hold := hrep.old
    unfold nvV
    simp only
    obtain ⟨W, hW⟩ : ∃ W, (w.alloc (.cells #[.int .i64 p', .bool false, .slice (some ⟨g, off, none⟩) 1 c] 33)).alloc (.cells #[.int .i64 0, .bool false, .slice none 0 0] 33) = W := ⟨_, rfl⟩
    have hB0 : Below w.heap.size w W := hW ▸ ((Below.refl _ w).alloc (Nat.le_refl _) _).alloc (by simp) _
    have hX1 : Has W w.heap.size 33 #[.int .i64 p', .bool false, .slice (some ⟨g, off, none⟩) 1 c] := hW ▸ (Has.made w 33 _).alloc _
    have hX2 : Has W (w.heap.size + 1) 33 #[.int .i64 0, .bool false, .slice none 0 0] := hW ▸ (by have := Has.made (w.alloc (.cells #[.int .i64 p', .bool false, .slice (some ⟨g, off, none⟩) 1 c] 33)) 33 #[.int .i64 0, .bool false, .slice none 0 0]; simpa using this)
    have HTP := Lib.hid (ih x (by simp) (fun g => F g ∧ g < w.heap.size) ⟨p2, lf2, A2, n2, c2⟩ W (hold.stay hB0) hbk)
    unfold nvV at HTP
    simp only at HTP
    have kc := hKC.below hB0 (Nat.le_refl _)
    have q3 := kc.kid
    have q0 := kc.k0
    have q1 := kc.k1
    have q2 := kc.k2
    simp only [Nat.zero_mul, Nat.add_zero] at q3 q0 q1 q2
    obtain ⟨P1, hP1⟩ : ∃ P, w.heap.size = P := ⟨_, rfl⟩
    obtain ⟨P2, hP2⟩ : ∃ P, P1 + 1 = P := ⟨_, rfl⟩
    rw [hP1] at hX1
    rw [hP1, hP2] at hX2
    have HX2 := Lib.hid hX2
    have HB0 := Lib.hid hB0
    have x10 := hX1.cell 0
    have x11 := hX1.cell 1
    have x12 := hX1.cell 2
    have HORD : Hid (P1 < P2 ∧ w.heap.size = P1) := Lib.hid ⟨by omega, hP1⟩
    generalize topT x.2 = tt at *
    clear h hb hbk hrep hck hkk hkr hbo hr hek hkl he hen hold hx0 kc hX1 hX2 hB0 ih
    go_enter Try.func24, Try.ntmps24
    go_wp2_with (go_at_call 24; (with_reducible refine HTP.out.mono ?_); rintro r9 w9 ⟨v9, rfl, m9, b9⟩; obtain ⟨p9, lf9, A9, n9, c9⟩ := v9; unfold nvV; simp only; have zz := HX2.out.below b9 HX2.out.lt; have s20 := zz.cell 0; have s21 := zz.cell 1; have s22 := zz.cell 2; have s23 := zz.free 0; have s24 := zz.free 1; have s25 := zz.free 2; have ZZ := Lib.hid zz; have M9 := Lib.hid m9; have B9 := Lib.hid b9; clear zz m9 b9)
    have XE := ZZ.out.setN (.int .i64 p9) (.bool lf9) (.slice A9 n9 c9)
    have e0 := XE.cell 0
    have e1 := XE.cell 1
    have e2 := XE.cell 2
    unfold stN at e0 e1 e2
    simp at e0 e1 e2
    have ord := HORD.out
    have hbs := HB0.out.size
    have h2l := HX2.out.lt
    refine ⟨rfl, .agg #[.int .i64 p9, .bool lf9, .slice A9 n9 c9], ?_, ⟨p9, lf9, A9, n9, c9⟩, rfl, ?_, ?_⟩
    · simp [results, Try.f24, go_sem, e0, e1, e2]
    · refine RepN.move (fun q hq hl => ⟨?_, heap_setN _ P2 _ _ _ q ?_⟩) M9.out
      · rcases hq with hq | hq
        · exact .inl hq.1
        · exact .inr (by omega)
      · rcases hq with hq | hq
        · have := hq.2; omega
        · omega
    · exact below_setN (below_step HB0.out B9.out) (by omega) _ _ _

/-! Put, its mathematics. -/
theorem putL_low (c : Lf) : ∀ (n : Nat) (l : List Lf), (∀ i x, i < n → l[i]? = some x → Op.bytesLess x.k c.k = true) → n ≤ l.length → putL c l = l.take n ++ putL c (l.drop n)
  | 0, l, _, _ => by simp
  | n + 1, l, h, hn => by
    cases l with
    | nil => simp at hn
    | cons x l =>
      have h0 := h 0 x (by omega) rfl
      rw [putL, if_pos h0, List.take_succ_cons, List.drop_succ_cons, List.cons_append, ← putL_low c n l (fun i y hi hy => h (i + 1) y (by omega) (by simpa using hy)) (by simpa using hn)]
theorem putL_end (c : Lf) {l : List Lf} (h : ∀ i x, i < l.length → l[i]? = some x → Op.bytesLess x.k c.k = true) : putL c l = l ++ [c] := by
  rw [putL_low c l.length l h (Nat.le_refl _), List.take_length, List.drop_length]
  rfl
theorem putL_at (c : Lf) {l : List Lf} {n : Nat} {x : Lf} (h : ∀ i x, i < n → l[i]? = some x → Op.bytesLess x.k c.k = true) (hx : l[n]? = some x) (hlt : Op.bytesLess x.k c.k = false) :
    putL c l = if x.k = c.k then l.take n ++ ([c] ++ l.drop (n + 1)) else l.take n ++ ([c] ++ l.drop n) := by
  have hn := (List.getElem?_eq_some_iff.1 hx).1
  rw [putL_low c n l h (by omega)]
  have hd : l.drop n = x :: l.drop (n + 1) := by
    have := (List.getElem?_eq_some_iff.1 hx).2
    rw [← this]
    exact List.drop_eq_getElem_cons hn
  rw [hd, putL, if_neg (by rw [hlt]; decide)]
  split <;> simp
end Go.Proofs.Ytclaiigelgbpdaa
end
