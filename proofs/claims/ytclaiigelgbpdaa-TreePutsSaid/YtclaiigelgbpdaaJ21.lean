import Derived.Test.YtclaiigelgbpdaaJ15
/- Of a claim's texts, joined: Tpb Tpc Tpd. No statement but in the last. -/
section
namespace Go.Proofs.Ytclaiigelgbpdaa
open Go.RowKit
set_option linter.unusedVariables false

inductive PutB (c : Lf) : Tr → Prop where
  | leaf (p : Int) (l : List Lf) (h : l.length ≤ 100) : PutB c (.leaf p l)
  | branch (p : Int) (l : List (List UInt8 × Tr)) (h0 : l ≠ []) (h1 : l.length ≤ 100) (h2 : ∀ x ∈ l, x.1.length ≤ 500 ∧ BndN 50 x.2) (h3 : evenT l) (h4 : PutB c (kidT l (wayT l c.k)).2) (h5 : BndN 50 (putT c (kidT l (wayT l c.k)).2)) : PutB c (.branch p l)
theorem leaf_end {F : Nat → Prop} {w w' : World} {P : Nat} {A' : Option Addr} {m c' : Nat} {es : List CE} {l : List Lf} {v0 v1 v2 : Value} (hr : RwF (fun q => P < q) w' A' m c' 4 (flatC es)) (hb : Below w.heap.size w w') (hP : w.heap.size ≤ P) (hes : Both (CellL (fun q => F q ∧ q < w.heap.size) w) es l) :
    RepN (Fw F w.heap.size) (stN w' P v0 v1 v2) ⟨0, true, A', m, c'⟩ (.leaf 0 l) :=
  repN_leaf.2 ⟨rfl, rfl, es, hr.move (fun q hq hl => ⟨.inr (by omega), heap_setN w' P _ _ _ q (by omega)⟩), hes.mono fun x y _ _ h => h.move (fun q hq hl => ⟨.inl hq.1, (heap_setN w' P _ _ _ q (by have := hq.2; omega)).trans (hb.block q hl)⟩)⟩
theorem cell_new (F : Nat → Prop) (w : World) (c : Lf) (h : c.pg = []) : CellL F w ⟨c.k, c.d, none, 0, 0, none, 0, 0⟩ c := ⟨⟨rfl, rfl⟩, by rw [h]; exact RwF.none_ _ _ _, rfl, rfl, rfl⟩
set_option maxRecDepth 100000 in
set_option maxHeartbeats 8000000 in
theorem r15put_leaf (F : Nat → Prop) (c : Lf) (v : NV) (p : Int) (l : List Lf) (w : World) (h : RepN F w v (.leaf p l)) (hb : l.length ≤ 100) (hpg : c.pg = []) :
    Calls Try.prog 34 #[nvV v, .string ⟨c.k.toArray⟩, .string ⟨c.d.toArray⟩] w (NodeE F (.leaf 0 (putL c l)) w) := by
  obtain ⟨hp, hlf, es, hr, hbo⟩ := repN_leaf.1 h.old
  obtain ⟨p', lf, A, n, cc⟩ := v
  simp only at hp hlf hr
  subst hp hlf
  have hlen := hr.len4
  have hln : n = l.length := by rw [hlen, hbo.1]
  have hnb : n ≤ 100 := by omega
  unfold nvV
  simp only
  obtain ⟨W, hW⟩ : ∃ W, (w.alloc (.cells #[.int .i64 p', .bool true, .slice A n cc] 33)).alloc (.cells #[.int .i64 0, .bool false, .slice none 0 0] 33) = W := ⟨_, rfl⟩
  have hB0 : Below w.heap.size w W := hW ▸ ((Below.refl _ w).alloc (Nat.le_refl _) _).alloc (by simp) _
  have hX3 : Has W w.heap.size 33 #[.int .i64 p', .bool true, .slice A n cc] := hW ▸ (Has.made w 33 _).alloc _
  have hX6 : Has W (w.heap.size + 1) 33 #[.int .i64 0, .bool false, .slice none 0 0] := hW ▸ (by have := Has.made (w.alloc (.cells #[.int .i64 p', .bool true, .slice A n cc] 33)) 33 #[.int .i64 0, .bool false, .slice none 0 0]; simpa using this)
  obtain ⟨sk, hsk⟩ : ∃ s : ByteArray, (⟨c.k.toArray⟩ : ByteArray) = s := ⟨_, rfl⟩
  obtain ⟨sv, hsv⟩ : ∃ s : ByteArray, (⟨c.d.toArray⟩ : ByteArray) = s := ⟨_, rfl⟩
  have hskl : sk.toList = c.k := by rw [← hsk]; exact Go.ByteArray.toList_mk _
  obtain ⟨W9, hW9⟩ : ∃ W9, W.alloc (.cells #[.string sk, .string sv, .slice none 0 0, .slice none 0 0] 53) = W9 := ⟨_, rfl⟩
  have hB9 : Below W.heap.size W W9 := hW9 ▸ (Below.refl _ W).alloc (Nat.le_refl _) _
  have hX9 : Has W9 W.heap.size 53 #[.string sk, .string sv, .slice none 0 0, .slice none 0 0] := hW9 ▸ Has.made W 53 _
  obtain ⟨P3, hP3⟩ : ∃ P, w.heap.size = P := ⟨_, rfl⟩
  obtain ⟨P6, hP6⟩ : ∃ P, P3 + 1 = P := ⟨_, rfl⟩
  obtain ⟨P9, hP9⟩ : ∃ P, W.heap.size = P := ⟨_, rfl⟩
  rw [hP3] at hX3
  rw [hP3, hP6] at hX6
  rw [hP9] at hX9
  have hX3b := hX3.below hB9 hX3.lt
  have hX6b := hX6.below hB9 hX6.lt
  have HX6 := Lib.hid hX6b
  have HX3 := Lib.hid hX3b
  have HX9 := Lib.hid hX9
  have x30 := hX3.cell 0
  have x31 := hX3.cell 1
  have x32 := hX3.cell 2
  have y32 := hX3b.cell 2
  have y90 := hX9.cell 0
  have y91 := hX9.cell 1
  have y92 := hX9.cell 2
  have y93 := hX9.cell 3
  have z60 := hX6b.cell 0
  have z61 := hX6b.cell 1
  have z62 := hX6b.cell 2
  have z63 := hX6b.free 0
  have z64 := hX6b.free 1
  have z65 := hX6b.free 2
  have HBW := Lib.hid (below_step hB0 hB9)
  have HR := Lib.hid (hr.below (below_step hB0 hB9))
  have HB := Lib.hid hbo
  have HN := Lib.hid hlen
  have HNL := Lib.hid hln
  have HORD : Hid (w.heap.size = P3 ∧ P3 < P6 ∧ P6 < W9.heap.size ∧ P9 < W9.heap.size ∧ P6 < P9) := Lib.hid ⟨hP3, by omega, hX6b.lt, hX9.lt, by have := hX6.lt; omega⟩
  have hroom := hr.room
  have hmost := hr.most
  have hmost2 : cc ≤ 9223372036854775807 := by unfold maxLen at hmost; omega
  obtain ⟨ti, hi, hz0, hz1, hz2t⟩ := info_parts c15info
  have HCN : Hid (∀ F w, CellL F w (⟨c.k, c.d, none, 0, 0, none, 0, 0⟩ : CE) c) := Lib.hid (fun F w => cell_new F w c hpg)
  have HFL : Hid (flatC [(⟨c.k, c.d, none, 0, 0, none, 0, 0⟩ : CE)] = [.string sk, .string sv, .slice none 0 0, .slice none 0 0]) := Lib.hid (by simp [flatC, ceV, hsk, hsv])
  rw [hsk, hsv]
  have HSK := Lib.hid hsk
  have HW9 := Lib.hid hW9
  have HP6 := Lib.hid hP6
  have HP9 := Lib.hid hP9
  have HP3 := Lib.hid hP3
  clear h hb hr hbo hlen hln hB0 hX3 hX6 hB9 hX9 hX3b hX6b hsk hsv hpg hP6 hP9 hW9
  go_enter Try.func34, Try.ntmps34
  go_wp2
  rw [HW9.out]
  try rw [HP3.out]
  rw [HP6.out, HP9.out]
  go_loop [10] (fun i => ∃ k : Nat, i = .int .i64 (k : Int) ∧ k ≤ n ∧ ∀ j x, j < k → l[j]? = some x → Op.bytesLess x.k c.k = true) (fun i => n - (intOf i).toNat)
  case atStart => exact ⟨0, rfl, Nat.zero_le _, fun j x h => absurd h (Nat.not_lt_zero _)⟩
  case round =>
    obtain ⟨k, rfl, hk, hlow⟩ := hrel
    have HLOW := Lib.hid hlow
    clear hlow
    have i0 : (0 : Int) ≤ (k : Int) := by omega
    have ikn : (k : Int) ≤ (n : Int) := by omega
    have ikc : (k : Int) ≤ (cc : Int) := by omega
    by_cases hlt : k < n
    · obtain ⟨e, he⟩ : ∃ e, es[k]? = some e := ⟨_, List.getElem?_eq_getElem (by rw [← HN.out]; exact hlt)⟩
      obtain ⟨x, hx⟩ : ∃ x, l[k]? = some x := ⟨_, List.getElem?_eq_getElem (by rw [← HNL.out]; exact hlt)⟩
      obtain ⟨⟨hek, _⟩, _⟩ := HB.out.2 k e x he hx
      obtain ⟨g, off, rfl, _, c0, _, _, _⟩ := HR.out.at4 he
      obtain ⟨se, hse⟩ : ∃ s : ByteArray, (⟨e.k.toArray⟩ : ByteArray) = s := ⟨_, rfl⟩
      have hsel : se.toList = x.k := by rw [← hse, Go.ByteArray.toList_mk, hek]
      rw [hse] at c0
      have i1 : (k : Int) < (n : Int) := by omega
      have HX := Lib.hid hx
      clear he hx hek hse
      obtain ⟨b0, hb0⟩ : ∃ b, Op.bytesLess x.k c.k = b := ⟨_, rfl⟩
      have hb1 : Op.bytesLess se.toList sk.toList = b0 := by rw [hsel, hskl]; exact hb0
      have HB0 := Lib.hid hb0
      cases b0
      · obtain ⟨b2, hb2⟩ : ∃ b, (x.k == c.k) = b := ⟨_, rfl⟩
        have hb3 : (se.toList == sk.toList) = b2 := by rw [hsel, hskl]; exact hb2
        have HB2 := Lib.hid hb2
        clear hb0 hb2 hsel hskl
        cases b2
        · have hna : ¬ cc = k := by omega
          have HPL : Hid (putL c l = l.take k ++ ([c] ++ l.drop k)) := Lib.hid ((putL_at c HLOW.out HX.out HB0.out).trans (if_neg (by have := HB2.out; simpa using this)))
          have HFR := Lib.hid (HR.out.front (k := k) (by omega))
          rw [← flatC_take] at HFR
          have HBK : Hid (∀ w', Below (P9 + 1) W9 w' → RwF (fun q => F q ∧ q < w.heap.size) w' (some ⟨g, off + k * 4, none⟩) (n - k) (cc - k) 4 (flatC (es.drop k))) := Lib.hid (fun w' hb => by
            have := HR.out.back (k := k) (by omega)
            rw [if_neg hna, show Option.map (fun x : Addr => x.add (k * 4)) (some ⟨g, off, none⟩) = some ⟨g, off + k * 4, none⟩ from by simp [add_plain], ← flatC_drop] at this
            exact this.move (fun q hq hl => ⟨hq, hb.block q (by have := hq.2; have := HORD.out; omega)⟩))
          go_wp2_with (first
            | (at_builtin; refine wpList_append_rw rfl _ _ 31 rfl (P9 + 1) 53 ti _ 4 80 Try.underlying31 hi hz0 hz1 hz2t rfl (by decide) _ 0 [] rfl (World.ownsRow_nil _ _ _ _) _ k _ _ rfl (HFR.out) (one_cells _) (by unfold maxLen; omega) (by omega) (by have := HORD.out; omega) ?_; intro v12 w12 p12 q12; rw [Nat.zero_add, List.nil_append] at p12; have b12 : Below W9.heap.size W9 w12 := below_own14 (Below.refl _ _) q12 (World.ownsRow_nil _ W9.heap.size 53 4) (Nat.le_refl _); have o12 := HX9.out.below b12 HX9.out.lt; have r90 := o12.cell 0; have r91 := o12.cell 1; have r92 := o12.cell 2; have r93 := o12.cell 3; have HO12 := Lib.hid p12; have B12 := Lib.hid b12; clear b12 o12 p12 q12)
            | (at_builtin; refine wpList_append_rw rfl _ _ 31 rfl (P9 + 1) 53 ti _ 4 80 Try.underlying31 hi hz0 hz1 hz2t rfl (by decide) _ k _ rfl (HO12.out.alloc _) _ 1 1 (flatC [(⟨c.k, c.d, none, 0, 0, none, 0, 0⟩ : CE)]) rfl (F := fun _ => True) ?_ (one_cells _) (by unfold maxLen; omega) (by omega) ?_ ?_; (have hmk := RwF.made (fun _ => True) w12 53 (flatC [(⟨c.k, c.d, none, 0, 0, none, 0, 0⟩ : CE)]) 1 4 rfl (by decide) trivial; rw [HFL.out] at hmk ⊢; simpa using hmk); (have := HORD.out; have := B12.out.size; simp; omega); intro v13 w13 p13 q13; have b13 : Below (P9 + 1) W9 w13 := below_own14 (((B12.out.mono (by have := HORD.out; omega)).alloc (by have := HORD.out; have := B12.out.size; omega) _)) q13 (HO12.out.alloc _) (by have := HORD.out; have := B12.out.size; simp; omega); have o32 := HX3.out.below b13 (by have := HORD.out; omega); have u32 := o32.cell 2; have HO13 := Lib.hid p13; have B13 := Lib.hid b13; clear b13 o32 p13 q13)
            | (at_builtin; refine wpList_append_rw rfl _ _ 31 rfl (P9 + 1) 53 ti _ 4 80 Try.underlying31 hi hz0 hz1 hz2t rfl (by decide) _ (k + 1) _ rfl HO13.out _ (n - k) _ _ rfl (HBK.out _ B13.out) (one_cells _) (by unfold maxLen; omega) (by omega) (by have := HORD.out; have := B13.out.size; omega) ?_; intro v14 w14 p14 q14; have b14 : Below (P9 + 1) W9 w14 := below_own14 B13.out q14 HO13.out (by have := HORD.out; have := B13.out.size; omega); obtain ⟨A14, c14, rfl, r14⟩ := RwF.own p14; have o6 := HX6.out.below b14 (by have := HORD.out; omega); have t60 := o6.cell 0; have t61 := o6.cell 1; have t62 := o6.cell 2; have t63 := o6.free 0; have t64 := o6.free 1; have t65 := o6.free 2; have HO6 := Lib.hid o6; have B14 := Lib.hid b14; have R14 := Lib.hid r14; clear o6 b14 p14 q14 r14))
          have XE := HO6.out.setN (.int .i64 0) (.bool true) (.slice A14 (k + 1 + (n - k)) c14)
          have e0 := XE.cell 0
          have e1 := XE.cell 1
          have e2 := XE.cell 2
          unfold stN at e0 e1 e2
          simp at e0 e1 e2
          have ord := HORD.out
          have hcl : flatC (es.take k) ++ flatC [(⟨c.k, c.d, none, 0, 0, none, 0, 0⟩ : CE)] ++ flatC (es.drop k) = flatC (es.take k ++ ([(⟨c.k, c.d, none, 0, 0, none, 0, 0⟩ : CE)] ++ es.drop k)) := by rw [flatC_app, flatC_app, List.append_assoc]
          have hr14 := R14.out
          rw [hcl] at hr14
          have hbo := HB.out
          refine ⟨rfl, .agg #[.int .i64 0, .bool true, .slice A14 (k + 1 + (n - k)) c14], ?_, ⟨0, true, A14, k + 1 + (n - k), c14⟩, rfl, ?_, ?_⟩
          · simp [results, Try.f34, go_sem, e0, e1, e2]
          · rw [HPL.out]
            exact leaf_end (hr14.mono (fun q hq => by omega)) (HBW.out.trans (B14.out.mono (by omega))) (by omega) ((hbo.take k).app ((Both.one (HCN.out _ _)).app (hbo.drop k)))
          · exact below_setN (HBW.out.trans (B14.out.mono (by omega))) (by omega) _ _ _
        · have HPL : Hid (putL c l = l.take k ++ ([c] ++ l.drop (k + 1))) := Lib.hid ((putL_at c HLOW.out HX.out HB0.out).trans (if_pos (by have := HB2.out; simpa using this)))
          have HM1 : Hid (RwF (fun _ => True) (W9.alloc (.cells #[.string sk, .string sv, .slice none 0 0, .slice none 0 0] 53)) (some ⟨W9.heap.size, 0, none⟩) 1 1 4 (flatC [(⟨c.k, c.d, none, 0, 0, none, 0, 0⟩ : CE)])) := Lib.hid (by
            have hmk := RwF.made (fun _ => True) W9 53 (flatC [(⟨c.k, c.d, none, 0, 0, none, 0, 0⟩ : CE)]) 1 4 rfl (by decide) trivial
            rw [HFL.out] at hmk ⊢
            simpa using hmk)
          go_wp2_with (go_at_call 46; (with_reducible refine (r15with_es (fun q => F q ∧ q < w.heap.size) (fun _ => True) es [(⟨c.k, c.d, none, 0, 0, none, 0, 0⟩ : CE)] _ _ n cc 1 1 k (W9.alloc (.cells #[.string sk, .string sv, .slice none 0 0, .slice none 0 0] 53)) (HR.out.below ((Below.refl _ W9).alloc (Nat.le_refl _) _)) HM1.out hlt (by omega) (by omega)).mono ?_); rintro r14 w14 ⟨A14, c14, rfl, q14, b14⟩; have hln : (es.take k ++ ([(⟨c.k, c.d, none, 0, 0, none, 0, 0⟩ : CE)] ++ es.drop (k + 1))).length = n := (by rw [List.length_append, List.length_append, List.length_take, List.length_drop, ← HN.out]; simp; omega); rw [hln] at q14 ⊢; have bb : Below W9.heap.size W9 w14 := below_step ((Below.refl _ W9).alloc (Nat.le_refl _) _) b14; have o6 := HX6.out.below bb HX6.out.lt; have t60 := o6.cell 0; have t61 := o6.cell 1; have t62 := o6.cell 2; have t63 := o6.free 0; have t64 := o6.free 1; have t65 := o6.free 2; have HO6 := Lib.hid o6; have B14 := Lib.hid bb; have R14 := Lib.hid q14; clear o6 bb b14 q14)
          have XE := HO6.out.setN (.int .i64 0) (.bool true) (.slice A14 n c14)
          have e0 := XE.cell 0
          have e1 := XE.cell 1
          have e2 := XE.cell 2
          unfold stN at e0 e1 e2
          simp at e0 e1 e2
          have ord := HORD.out
          have hbo := HB.out
          refine ⟨rfl, .agg #[.int .i64 0, .bool true, .slice A14 n c14], ?_, ⟨0, true, A14, n, c14⟩, rfl, ?_, ?_⟩
          · simp [results, Try.f34, go_sem, e0, e1, e2]
          · rw [HPL.out]
            exact leaf_end (R14.out.mono (fun q hq => by simp at hq; omega)) (below_step HBW.out B14.out) (by omega) ((hbo.take k).app ((Both.one (HCN.out _ _)).app (hbo.drop (k + 1))))
          · exact below_setN (below_step HBW.out B14.out) (by omega) _ _ _
      · clear hb0 hsel hskl
        go_wp2
        go_round
        case rel => exact ⟨k + 1, by go_num, by omega, fun j y hj hy => by
          rcases Nat.lt_or_ge j k with h | h
          · exact HLOW.out j y h hy
          · have : j = k := by omega
            subst this
            rw [HX.out] at hy
            cases hy
            exact HB0.out⟩
        case measure => simp [intOf]; omega
    · have hkn : ¬ k < n := hlt
      have i1 : ¬ (k : Int) < (n : Int) := by omega
      clear hskl
      obtain ⟨AL, hAL⟩ : ∃ a : Option Addr, (if cc = k then A else Option.map (fun x => x.add (k * 4)) A) = a := ⟨_, rfl⟩
      have hdn : l.drop k = [] := List.drop_eq_nil_of_le (by rw [← HNL.out]; omega)
      have HPL : Hid (putL c l = l.take k ++ ([c] ++ l.drop k)) := Lib.hid (by rw [hdn, List.append_nil, List.take_of_length_le (by rw [← HNL.out]; omega)]; exact putL_end c (fun i x hi hx => HLOW.out i x (by have := HNL.out; omega) hx))
      clear hdn
      have HFR := Lib.hid (HR.out.front (k := k) (by omega))
      rw [← flatC_take] at HFR
      have HBK : Hid (∀ w', Below (P9 + 1) W9 w' → RwF (fun q => F q ∧ q < w.heap.size) w' AL (n - k) (cc - k) 4 (flatC (es.drop k))) := Lib.hid (fun w' hb => by
        have := HR.out.back (k := k) (by omega)
        rw [hAL, ← flatC_drop] at this
        exact this.move (fun q hq hl => ⟨hq, hb.block q (by have := hq.2; have := HORD.out; omega)⟩))
      go_wp2_with (first
        | (at_builtin; refine wpList_append_rw rfl _ _ 31 rfl (P9 + 1) 53 ti _ 4 80 Try.underlying31 hi hz0 hz1 hz2t rfl (by decide) _ 0 [] rfl (World.ownsRow_nil _ _ _ _) _ k _ _ rfl (HFR.out) (one_cells _) (by unfold maxLen; omega) (by omega) (by have := HORD.out; omega) ?_; intro v12 w12 p12 q12; rw [Nat.zero_add, List.nil_append] at p12; have b12 : Below W9.heap.size W9 w12 := below_own14 (Below.refl _ _) q12 (World.ownsRow_nil _ W9.heap.size 53 4) (Nat.le_refl _); have o12 := HX9.out.below b12 HX9.out.lt; have r90 := o12.cell 0; have r91 := o12.cell 1; have r92 := o12.cell 2; have r93 := o12.cell 3; have HO12 := Lib.hid p12; have B12 := Lib.hid b12; clear b12 o12 p12 q12)
        | (at_builtin; refine wpList_append_rw rfl _ _ 31 rfl (P9 + 1) 53 ti _ 4 80 Try.underlying31 hi hz0 hz1 hz2t rfl (by decide) _ k _ rfl (HO12.out.alloc _) _ 1 1 (flatC [(⟨c.k, c.d, none, 0, 0, none, 0, 0⟩ : CE)]) rfl (F := fun _ => True) ?_ (one_cells _) (by unfold maxLen; omega) (by omega) ?_ ?_; (have hmk := RwF.made (fun _ => True) w12 53 (flatC [(⟨c.k, c.d, none, 0, 0, none, 0, 0⟩ : CE)]) 1 4 rfl (by decide) trivial; rw [HFL.out] at hmk ⊢; simpa using hmk); (have := HORD.out; have := B12.out.size; simp; omega); intro v13 w13 p13 q13; have b13 : Below (P9 + 1) W9 w13 := below_own14 (((B12.out.mono (by have := HORD.out; omega)).alloc (by have := HORD.out; have := B12.out.size; omega) _)) q13 (HO12.out.alloc _) (by have := HORD.out; have := B12.out.size; simp; omega); have o32 := HX3.out.below b13 (by have := HORD.out; omega); have u32 := o32.cell 2; have HO13 := Lib.hid p13; have B13 := Lib.hid b13; clear b13 o32 p13 q13)
        | (at_builtin; refine wpList_append_rw rfl _ _ 31 rfl (P9 + 1) 53 ti _ 4 80 Try.underlying31 hi hz0 hz1 hz2t rfl (by decide) _ (k + 1) _ rfl HO13.out _ (n - k) _ _ rfl (HBK.out _ B13.out) (one_cells _) (by unfold maxLen; omega) (by omega) (by have := HORD.out; have := B13.out.size; omega) ?_; intro v14 w14 p14 q14; have b14 : Below (P9 + 1) W9 w14 := below_own14 B13.out q14 HO13.out (by have := HORD.out; have := B13.out.size; omega); obtain ⟨A14, c14, rfl, r14⟩ := RwF.own p14; have o6 := HX6.out.below b14 (by have := HORD.out; omega); have t60 := o6.cell 0; have t61 := o6.cell 1; have t62 := o6.cell 2; have t63 := o6.free 0; have t64 := o6.free 1; have t65 := o6.free 2; have HO6 := Lib.hid o6; have B14 := Lib.hid b14; have R14 := Lib.hid r14; clear o6 b14 p14 q14 r14))
      have XE := HO6.out.setN (.int .i64 0) (.bool true) (.slice A14 (k + 1 + (n - k)) c14)
      have e0 := XE.cell 0
      have e1 := XE.cell 1
      have e2 := XE.cell 2
      unfold stN at e0 e1 e2
      simp at e0 e1 e2
      have ord := HORD.out
      have hcl : flatC (es.take k) ++ flatC [(⟨c.k, c.d, none, 0, 0, none, 0, 0⟩ : CE)] ++ flatC (es.drop k) = flatC (es.take k ++ ([(⟨c.k, c.d, none, 0, 0, none, 0, 0⟩ : CE)] ++ es.drop k)) := by rw [flatC_app, flatC_app, List.append_assoc]
      have hr14 := R14.out
      rw [hcl] at hr14
      have hbo := HB.out
      refine ⟨rfl, .agg #[.int .i64 0, .bool true, .slice A14 (k + 1 + (n - k)) c14], ?_, ⟨0, true, A14, k + 1 + (n - k), c14⟩, rfl, ?_, ?_⟩
      · simp [results, Try.f34, go_sem, e0, e1, e2]
      · rw [HPL.out]
        exact leaf_end (hr14.mono (fun q hq => by omega)) (HBW.out.trans (B14.out.mono (by omega))) (by omega) ((hbo.take k).app ((Both.one (HCN.out _ _)).app (hbo.drop k)))
      · exact below_setN (HBW.out.trans (B14.out.mono (by omega))) (by omega) _ _ _
end Go.Proofs.Ytclaiigelgbpdaa
end

section
namespace Go.Proofs.Ytclaiigelgbpdaa
open Go.RowKit
set_option linter.unusedVariables false

set_option maxRecDepth 100000 in
set_option maxHeartbeats 8000000 in
theorem r15put_any (c : Lf) (hpg : c.pg = []) : ∀ (t : Tr) (F : Nat → Prop) (v : NV) (w : World), RepN F w v t → PutB c t → Calls Try.prog 34 #[nvV v, .string ⟨c.k.toArray⟩, .string ⟨c.d.toArray⟩] w (NodeE F (putT c t) w) := by
  intro t
  induction t using Tr.ind with
  | hl p l =>
    intro F v w h hb
    rw [putT]
    exact r15put_leaf F c v p l w h (by cases hb; assumption) hpg
  | hb p l ih =>
    intro F v w h hb
    obtain ⟨hl0, hl1, hl2, hev, hpk, hbp⟩ : l ≠ [] ∧ l.length ≤ 100 ∧ (∀ x ∈ l, x.1.length ≤ 500 ∧ BndN 50 x.2) ∧ evenT l ∧ PutB c (kidT l (wayT l c.k)).2 ∧ BndN 50 (putT c (kidT l (wayT l c.k)).2) := by
      cases hb with
      | branch p l h0 h1 h2 h3 h4 h5 => exact ⟨h0, h1, h2, h3, h4, h5⟩
    rw [putT_branch c p hl0]
    have hwl := wayT_lt c.k hl0
    obtain ⟨k, hkw⟩ : ∃ k, wayT l c.k = k := ⟨_, rfl⟩
    rw [hkw] at hwl hpk hbp ⊢
    obtain ⟨es, e, vk, ek, hp, hlf, hr, hbo, he, hen, hkr, hek, hkk, hck, hkl, hrep⟩ := kid_at h.old hwl
    obtain ⟨p', lf, A, n, cc⟩ := v
    simp only at hp hlf hr
    subst hp hlf
    have hlen : n = l.length := by rw [hr.len4]; exact hbo.1
    have hwc : wayC es c.k (es.length - 1) = k := by rw [way_cells hbo _ _ (by rw [hbo.1]; omega), hbo.1]; exact hkw
    obtain ⟨g, off, kg, koff, hKC⟩ := kidC_of hr he hen hkr
    obtain rfl := hKC.row
    obtain ⟨p2, lf2, A2, n2, c2⟩ := vk
    obtain ⟨tk, htk⟩ : ∃ t, putT c (kidT l k).2 = t := ⟨_, rfl⟩
    have hkind : kindT tk = kindT (kidT l k).2 := by rw [← htk]; exact kind_put c _
    have hpu := fun (w' : World) (hb' : Below w.heap.size w w') => ih _ (kid_mem hwl) (fun g => F g ∧ g < w.heap.size) ⟨p2, lf2, A2, n2, c2⟩ w' (hrep.stay hb') hpk
    rw [htk] at hpu hbp ⊢
    unfold nvV at hpu ⊢
    simp only at hpu ⊢
    have HQ : Hid ((l.set k ((kidT l k).1, tk)).length ≤ 150 ∧ k < (l.set k ((kidT l k).1, tk)).length ∧ (∀ x ∈ l.set k ((kidT l k).1, tk), BndN 50 x.2) ∧ (∀ x ∈ l.set k ((kidT l k).1, tk), x.1.length ≤ 500) ∧ evenT (l.set k ((kidT l k).1, tk))) := Lib.hid (by
      refine ⟨by rw [List.length_set]; omega, by rw [List.length_set]; exact hwl, fun x hx => ?_, fun x hx => ?_, even_set hev hwl hkind⟩
      · rcases List.mem_or_eq_of_mem_set hx with hx | rfl
        · exact (hl2 x hx).2
        · exact hbp
      · rcases List.mem_or_eq_of_mem_set hx with hx | rfl
        · exact (hl2 x hx).1
        · exact (hl2 _ (kid_mem hwl)).1)
    obtain ⟨W, hW⟩ : ∃ W, (w.alloc (.cells #[.int .i64 p', .bool false, .slice (some ⟨g, off, none⟩) n cc] 33)).alloc (.cells #[.int .i64 0, .bool false, .slice none 0 0] 33) = W := ⟨_, rfl⟩
    have hB0 : Below w.heap.size w W := hW ▸ ((Below.refl _ w).alloc (Nat.le_refl _) _).alloc (by simp) _
    have hX3 : Has W w.heap.size 33 #[.int .i64 p', .bool false, .slice (some ⟨g, off, none⟩) n cc] := hW ▸ (Has.made w 33 _).alloc _
    have hX6 : Has W (w.heap.size + 1) 33 #[.int .i64 0, .bool false, .slice none 0 0] := hW ▸ (by have := Has.made (w.alloc (.cells #[.int .i64 p', .bool false, .slice (some ⟨g, off, none⟩) n cc] 33)) 33 #[.int .i64 0, .bool false, .slice none 0 0]; simpa using this)
    obtain ⟨sk, hsk⟩ : ∃ s : ByteArray, (⟨c.k.toArray⟩ : ByteArray) = s := ⟨_, rfl⟩
    obtain ⟨sv, hsv⟩ : ∃ s : ByteArray, (⟨c.d.toArray⟩ : ByteArray) = s := ⟨_, rfl⟩
    obtain ⟨ske, hske⟩ : ∃ s : ByteArray, (⟨e.k.toArray⟩ : ByteArray) = s := ⟨_, rfl⟩
    have hwy := r15Way_es (fun g => F g ∧ g < w.heap.size) ⟨p', false, some ⟨g, off, none⟩, n, cc⟩ es c.k W (hr.below hB0) (by rw [hbo.1]; exact hl1)
    rw [hwc, hsk] at hwy
    unfold nvV at hwy
    simp only at hwy
    have HWY := Lib.hid hwy
    rw [hsk, hsv] at hpu ⊢
    have HPU := Lib.hid hpu
    obtain ⟨P3, hP3⟩ : ∃ P, w.heap.size = P := ⟨_, rfl⟩
    obtain ⟨P6, hP6⟩ : ∃ P, P3 + 1 = P := ⟨_, rfl⟩
    rw [hP3] at hX3
    rw [hP3, hP6] at hX6
    have HX3 := Lib.hid hX3
    have HX6 := Lib.hid hX6
    have HB0 := Lib.hid hB0
    have HKC := Lib.hid hKC
    have HES := Lib.hid (show RwF (fun g => F g ∧ g < w.heap.size) w (some ⟨g, off, none⟩) n cc 4 (flatC es) from hr)
    have HBO := Lib.hid hbo
    have HEK := Lib.hid hek
    have HLN : Hid (∀ cm : CE, (es.take k ++ ([cm] ++ es.drop (k + 1))).length = n) := Lib.hid (fun cm => by
      rw [List.length_append, List.length_append, List.length_take, List.length_drop, hbo.1]
      simp only [List.length_cons, List.length_nil]
      omega)
    have HORD : Hid (w.heap.size = P3 ∧ P3 < P6) := Lib.hid ⟨hP3, by omega⟩
    have x30 := hX3.cell 0
    have x31 := hX3.cell 1
    have x32 := hX3.cell 2
    have i0 : (0 : Int) ≤ (k : Int) := by omega
    have i1 : (k : Int) < (n : Int) := by omega
    have hkn : k < n := by omega
    have hn100 : n ≤ 100 := by omega
    have HTK := Lib.hid hbp
    have HNL := Lib.hid hlen
    have hmx : Try.prog.follows .mixedOrders = true := by kernel_rfl
    clear h hb hl0 hl1 hl2 hev hpk hbp hwl hr hbo he hen hkr hek hkk hck hkl hrep hlen hwc hKC htk hkind hpu hwy hsk hsv hX3 hX6 hB0 ih hkw hpg
    go_enter Try.func34, Try.ntmps34
    go_wp2_with (first
      | (go_at_call 28; (with_reducible refine HWY.out.mono ?_); rintro r7 w7 ⟨rfl, b7⟩; have z3 := HX3.out.below b7 HX3.out.lt; have y30 := z3.cell 0; have y31 := z3.cell 1; have y32 := z3.cell 2; have B7 := Lib.hid (below_step HB0.out b7); have kc := HKC.out.below B7.out (Nat.le_refl _); have qk := kc.key; have q3 := kc.kid; have q0 := kc.k0; have q1 := kc.k1; have q2 := kc.k2; have Z3 := Lib.hid z3; have Z6 := Lib.hid (HX6.out.below b7 HX6.out.lt); clear z3 kc b7)
      | (go_at_call 34; (with_reducible refine (HPU.out _ B7.out).mono ?_); rintro r8 w8 ⟨v8, rfl, m8, b8⟩; obtain ⟨p8, lf8, A8, n8, c8⟩ := v8; unfold nvV; simp only; have M8a := Lib.hid m8; have B8 := Lib.hid b8; clear m8 b8))
    obtain ⟨w8b, hw8⟩ : ∃ W, w8.alloc (.cells #[.int .i64 p8, .bool lf8, .slice A8 n8 c8] 33) = W := ⟨_, rfl⟩
    obtain ⟨P8, hP8⟩ : ∃ P, w8.heap.size = P := ⟨_, rfl⟩
    rw [hw8, hP8]
    have h88 : Below w8.heap.size w8 w8b := hw8 ▸ (Below.refl _ w8).alloc (Nat.le_refl _) _
    have h8x : Has w8b P8 33 #[.int .i64 p8, .bool lf8, .slice A8 n8 c8] := hP8 ▸ hw8 ▸ Has.made w8 33 _
    have h6 : Has w8b P6 33 #[.int .i64 0, .bool false, .slice none 0 0] := (Z6.out.below B8.out Z6.out.lt).below h88 (by have := B8.out.size; have := Z6.out.lt; omega)
    have h3 : Has w8b P3 33 #[.int .i64 p', .bool false, .slice (some ⟨g, off, none⟩) n cc] := (Z3.out.below B8.out Z3.out.lt).below h88 (by have := B8.out.size; have := Z3.out.lt; omega)
    have h7s := Z6.out.lt
    have h8s := B8.out.size
    have HBW8 := Lib.hid (below_step (below_step B7.out B8.out) h88)
    have M8 := Lib.hid ((M8a.out.stay h88).mono (G := fun q => (F q ∧ q < w.heap.size) ∨ P6 < q) (fun q hq => hq.elim .inl (fun h => .inr (by omega))))
    have h86 : P6 < P8 := by omega
    have kc := HKC.out.below HBW8.out (Nat.le_refl _)
    have qk8 := kc.key
    rw [hske] at qk8
    have hglt : g < w.heap.size := World.block_lt_of_cell? w _ HKC.out.key
    have H6 := Lib.hid h6
    have HXL : Hid (∀ w' : World, w8b.grownBy w' (some P6) → w'.cell? ⟨P3, 2, none⟩ = some (.slice (some ⟨g, off, none⟩) n cc)) := Lib.hid (fun w' hb => (h3.grown hb (by intro e; injection e with e; have := HORD.out; omega)).cell 2)
    have HX8 : Hid (∀ w' : World, w8b.grownBy w' (some P6) → w'.cell? ⟨P8, 0, none⟩ = some (.int .i64 p8) ∧ w'.cell? ⟨P8, 1, none⟩ = some (.bool lf8) ∧ w'.cell? ⟨P8, 2, none⟩ = some (.slice A8 n8 c8)) := Lib.hid (fun w' hb => have z := h8x.grown hb (by intro e; injection e with e; omega); ⟨z.cell 0, z.cell 1, z.cell 2⟩)
    have HKY : Hid (∀ w' : World, w8b.grownBy w' (some P6) → w'.cell? ⟨g, off + k * 4, none⟩ = some (.string ske)) := Lib.hid (fun w' hb => (cell_same (p := ⟨g, off + k * 4, none⟩) (hb.block g (by have := HBW8.out.size; omega) (fun e => by injection e with e; have := HORD.out; omega))).trans qk8)
    clear hw8 h88 h8x h6 h3 h7s h8s h86 kc qk8 hP8 M8a B7 B8 Z3 Z6 y30 y31 y32 qk q3 q0 q1 q2
    clear w8
    obtain ⟨w8, hw8⟩ : ∃ W : World, W = w8b := ⟨_, rfl⟩
    subst hw8
    have hS0 : w8.grownBy w8.drew (some P6) := ⟨rfl, rfl, rfl, Nat.le_refl _, fun _ _ _ => rfl⟩
    have hT0 : Below w8.heap.size w8 w8.drew := (Below.refl _ w8).drew
    go_wp2
    first | (rename_i K hK; refine wp_held (fun w' : World => w8.grownBy w' (some P6)) K hmx ?_ (fun _ _ h => h)) | (rename_i K hK hz; refine wp_held (fun w' : World => w8.grownBy w' (some P6)) K hmx ?_ (fun _ _ h => h))
    obtain ⟨Wd, hWd⟩ : ∃ W, w8.drew = W := ⟨_, rfl⟩
    rw [hWd] at hS0 hT0 ⊢
    have hwd : w8.heap.size = Wd.heap.size := by rw [← hWd]; rfl
    have HWD := Lib.hid hwd
    clear hwd hWd
    refine wpAnyH_take (i := 0) (v := .pointer (some ⟨P3, 2, none⟩)) (lit rfl) (by kernel_rfl) (by kernel_rfl) (by kernel_rfl) (fun _ _ _ h => h) (Or.inl ⟨by rfl, ?_⟩) hS0 ?_
    · rintro w6 hb6
      go_simp
    simp only [Act.put, List.setIfInBounds_toArray, List.set_cons_zero, List.set_cons_succ]
    refine wpAnyH_take (i := 1) (v := .slice (some ⟨g, off, none⟩) n cc) (lit rfl) (by kernel_rfl) (by kernel_rfl) (by kernel_rfl) (fun _ _ _ h => h) (Or.inl ⟨by rfl, ?_⟩) hS0 ?_
    · rintro w6 hb6
      have y6 := HXL.out w6 hb6
      go_simp
    simp only [Act.put, List.setIfInBounds_toArray, List.set_cons_zero, List.set_cons_succ]
    refine wpAnyH_take (i := 2) (v := .int .i64 (k : Int)) (lit rfl) (by kernel_rfl) (by kernel_rfl) (by kernel_rfl) (fun _ _ _ h => h) (Or.inl ⟨by rfl, ?_⟩) hS0 ?_
    · rintro w6 hb6
      go_simp
    simp only [Act.put, List.setIfInBounds_toArray, List.set_cons_zero, List.set_cons_succ]
    refine wpAnyH_take (i := 3) (v := .pointer (some ⟨P3, 2, none⟩)) (lit rfl) (by kernel_rfl) (by kernel_rfl) (by kernel_rfl) (fun _ _ _ h => h) (Or.inl ⟨by rfl, ?_⟩) hS0 ?_
    · rintro w6 hb6
      go_simp
    simp only [Act.put, List.setIfInBounds_toArray, List.set_cons_zero, List.set_cons_succ]
    refine wpAnyH_take (i := 4) (v := .slice (some ⟨g, off, none⟩) n cc) (lit rfl) (by kernel_rfl) (by kernel_rfl) (by kernel_rfl) (fun _ _ _ h => h) (Or.inl ⟨by rfl, ?_⟩) hS0 ?_
    · rintro w6 hb6
      have y6 := HXL.out w6 hb6
      go_simp
    simp only [Act.put, List.setIfInBounds_toArray, List.set_cons_zero, List.set_cons_succ]
    refine wpAnyH_take (i := 5) (v := .int .i64 (k : Int)) (lit rfl) (by kernel_rfl) (by kernel_rfl) (by kernel_rfl) (fun _ _ _ h => h) (Or.inl ⟨by rfl, ?_⟩) hS0 ?_
    · rintro w6 hb6
      go_simp
    simp only [Act.put, List.setIfInBounds_toArray, List.set_cons_zero, List.set_cons_succ]
    refine wpAnyH_take (i := 6) (v := .pointer (some ⟨g, off + k * 4, none⟩)) (lit rfl) (by kernel_rfl) (by kernel_rfl) (by kernel_rfl) (fun _ _ _ h => h) (Or.inl ⟨by rfl, ?_⟩) hS0 ?_
    · rintro w6 hb6
      go_simp
    simp only [Act.put, List.setIfInBounds_toArray, List.set_cons_zero, List.set_cons_succ]
    refine wpAnyH_take (i := 7) (v := .pointer (some ⟨g, off + k * 4, none⟩)) (lit rfl) (by kernel_rfl) (by kernel_rfl) (by kernel_rfl) (fun _ _ _ h => h) (Or.inl ⟨by rfl, ?_⟩) hS0 ?_
    · rintro w6 hb6
      go_simp
    simp only [Act.put, List.setIfInBounds_toArray, List.set_cons_zero, List.set_cons_succ]
    refine wpAnyH_take (i := 8) (v := .string ske) (lit rfl) (by kernel_rfl) (by kernel_rfl) (by kernel_rfl) (fun _ _ _ h => h) (Or.inl ⟨by rfl, ?_⟩) hS0 ?_
    · rintro w6 hb6
      have y6 := HKY.out w6 hb6
      go_simp
    simp only [Act.put, List.setIfInBounds_toArray, List.set_cons_zero, List.set_cons_succ]
    refine wpAnyH_take (i := 9) (v := .agg #[.int .i64 p8, .bool lf8, .slice A8 n8 c8]) (lit rfl) (by kernel_rfl) (by kernel_rfl) (by kernel_rfl) (fun _ _ _ h => h) (Or.inl ⟨by rfl, ?_⟩) hS0 ?_
    · rintro w6 hb6
      obtain ⟨y60, y61, y62⟩ := HX8.out w6 hb6
      go_simp
    simp only [Act.put, List.setIfInBounds_toArray, List.set_cons_zero, List.set_cons_succ]
    refine wpAnyH_take (i := 15) (v := .int .i64 (k : Int)) (lit rfl) (by kernel_rfl) (by kernel_rfl) (by kernel_rfl) (fun _ _ _ h => h) (Or.inl ⟨by rfl, ?_⟩) hS0 ?_
    · rintro w6 hb6
      go_simp
    simp only [Act.put, List.setIfInBounds_toArray, List.set_cons_zero, List.set_cons_succ]
    refine wpAnyH_ready (rs := [10]) (by kernel_rfl) (by simp) ?_
    refine AllReadyH.cons (lit rfl) (fun K5 hK5 => ?_) AllReadyH.nil
    refine step_open rfl ?_
    go_simp
    obtain ⟨V1, hV1⟩ : ∃ W, Wd.alloc (.cells #[.int .i64 p8, .bool lf8, .slice A8 n8 c8] 33) = W := ⟨_, rfl⟩
    have m1 := RwF.made (fun q => q = Wd.heap.size) Wd 33 (nvL ⟨p8, lf8, A8, n8, c8⟩) 1 3 rfl (by decide) rfl
    have M1 := Lib.hid (hV1 ▸ m1 : RwF _ V1 _ _ _ _ _)
    have hT1 : Below w8.heap.size w8 V1 := hV1 ▸ below_alloc' hT0 _
    have hS1 : w8.grownBy V1 (some P6) := only_of_below hT1 (Nat.le_refl _)
    try rw [hV1]
    obtain ⟨GX, hGX⟩ : ∃ G, Wd.heap.size = G := ⟨_, rfl⟩
    try rw [hGX]
    rw [hGX] at M1
    clear m1
    refine hK5.out _ _ hS1 (fun _ => ?_)
    clear hK5 K5
    refine wpAnyH_take (i := 11) (v := .agg #[.string ske, .string ⟨#[]⟩, .slice none 0 0, .slice (some ⟨GX, 0, none⟩) 1 1]) (lit rfl) (by kernel_rfl) (by kernel_rfl) (by kernel_rfl) (fun _ _ _ h => h) (Or.inl ⟨by rfl, ?_⟩) hS1 ?_
    · rintro w6 hb6
      go_simp
    simp only [Act.put, List.setIfInBounds_toArray, List.set_cons_zero, List.set_cons_succ]
    refine wpAnyH_ready (rs := [12]) (by kernel_rfl) (by simp) ?_
    refine AllReadyH.cons (lit rfl) (fun K5 hK5 => ?_) AllReadyH.nil
    refine step_open rfl ?_
    go_simp
    obtain ⟨V2, hV2⟩ : ∃ W, V1.alloc (.cells #[.string ske, .string ⟨#[]⟩, .slice none 0 0, .slice (some ⟨GX, 0, none⟩) 1 1] 53) = W := ⟨_, rfl⟩
    have m2 := RwF.made (fun q => q = V1.heap.size) V1 53 (flatC [(⟨e.k, [], none, 0, 0, some ⟨GX, 0, none⟩, 1, 1⟩ : CE)]) 1 4 rfl (by decide) rfl
    rw [show (flatC [(⟨e.k, [], none, 0, 0, some ⟨GX, 0, none⟩, 1, 1⟩ : CE)]).toArray = #[.string ske, .string ⟨#[]⟩, .slice none 0 0, .slice (some ⟨GX, 0, none⟩) 1 1] from by simp [flatC, ceV, hske]] at m2
    have M2 := Lib.hid (hV2 ▸ m2 : RwF _ V2 _ _ _ _ _)
    have hb12 : Below V1.heap.size V1 V2 := hV2 ▸ (Below.refl _ V1).alloc (Nat.le_refl _) _
    have hT2 : Below w8.heap.size w8 V2 := below_step hT1 hb12
    have hS2 : w8.grownBy V2 (some P6) := only_of_below hT2 (Nat.le_refl _)
    try rw [hV2]
    clear m2
    refine hK5.out _ _ hS2 (fun _ => ?_)
    clear hK5 K5
    refine wpAnyH_ready (rs := [13]) (by kernel_rfl) (by simp) ?_
    refine AllReadyH.cons (lit rfl) (fun K5 hK5 => ?_) AllReadyH.nil
    refine step_open rfl ?_
    go_simp
    go_at_call 46
    (with_reducible refine (r15with_es (fun q => F q ∧ q < w.heap.size) _ es [(⟨e.k, [], none, 0, 0, some ⟨GX, 0, none⟩, 1, 1⟩ : CE)] _ _ n cc 1 1 k V2 (HES.out.below (below_step HBW8.out hT2)) M2.out hkn (by omega) (by omega)).mono ?_)
    rintro r17 w17 ⟨A17, c17, rfl, r17, b17⟩
    have hln : (es.take k ++ ([(⟨e.k, [], none, 0, 0, some ⟨GX, 0, none⟩, 1, 1⟩ : CE)] ++ es.drop (k + 1))).length = n := HLN.out _
    rw [hln] at r17 ⊢
    have hT4 : Below w8.heap.size w8 w17 := below_step hT2 b17
    have hS4 : w8.grownBy w17 (some P6) := only_of_below hT4 (Nat.le_refl _)
    have ord := HORD.out
    have hw8 := HBW8.out.size
    have ht2 := hT2.size
    have ht1 := hT1.size
    have ht4 := hT4.size
    have h6l := H6.out.lt
    have hwd := HWD.out
    have hgxl : GX < V1.heap.size := by
      obtain ⟨gx, ox, hx1, hx2, hx3⟩ := M1.out.reads (by simp [nvL])
      have h1 : gx < V1.heap.size := World.block_lt_of_cell? V1 _ (hx3 0 _ rfl)
      have h2 : gx = GX := hx2
      omega
    have hmo : ∀ q, (F q ∧ q < w.heap.size) → q < w.heap.size → ((F q ∧ q < w.heap.size) ∨ P6 < q) ∧ w17.heap[q]? = w.heap[q]? := fun q hq _ => ⟨.inl hq, by rw [hT4.block q (by omega), HBW8.out.block q hq.2]⟩
    have hcm : CellT (fun q => (F q ∧ q < w.heap.size) ∨ P6 < q) w17 (⟨e.k, [], none, 0, 0, some ⟨GX, 0, none⟩, 1, 1⟩ : CE) ((kidT l k).1, tk) := ⟨⟨p8, lf8, A8, n8, c8⟩, ⟨⟨HEK.out, rfl, rfl, rfl, rfl⟩, rfl, (M1.out.below (below_step hb12 b17)).mono (fun q hq => .inr (by have h9 : q = GX := hq; omega))⟩, (M8.out.stay hT4).mono (fun q hq => hq.elim .inl (fun h => .inr (by omega)))⟩
    have hrep : RepN (fun q => (F q ∧ q < w.heap.size) ∨ P6 < q) w17 ⟨0, false, A17, n, c17⟩ (.branch 0 (l.set k ((kidT l k).1, tk))) := by
      rw [set_parts (by have := HNL.out; omega)]
      have ha : Both (CellT (fun q => (F q ∧ q < w.heap.size) ∨ P6 < q) w17) es l := HBO.out.mono fun x y _ _ h => h.move (fun q hq hl => hmo q hq hl)
      exact repN_branch.2 ⟨rfl, rfl, _, r17.mono (fun q hq => .inr (by omega)), (ha.take k).app ((Both.one hcm).app (ha.drop (k + 1)))⟩
    have hmd := (r15Mend_any _ ⟨0, false, A17, n, c17⟩ 0 (l.set k ((kidT l k).1, tk)) k w17 hrep HQ.out.1 HQ.out.2.1 HQ.out.2.2.1 HQ.out.2.2.2.1 HQ.out.2.2.2.2)
    unfold nvV at hmd
    simp only at hmd
    have HMD := Lib.hid hmd
    clear hmd hrep hcm hmo
    refine hK5.out _ _ hS4 (fun _ => ?_)
    clear hK5 K5
    refine wpAnyH_take (i := 14) (v := .agg #[.int .i64 0, .bool false, .slice A17 n c17]) (lit rfl) (by kernel_rfl) (by kernel_rfl) (by kernel_rfl) (fun _ _ _ h => h) (Or.inl ⟨by rfl, ?_⟩) hS4 ?_
    · rintro w6 hb6
      go_simp
    simp only [Act.put, List.setIfInBounds_toArray, List.set_cons_zero, List.set_cons_succ]
    refine wpAnyH_ready (rs := [16]) (by kernel_rfl) (by simp) ?_
    refine AllReadyH.cons (lit rfl) (fun K5 hK5 => ?_) AllReadyH.nil
    refine step_open rfl ?_
    go_simp
    go_at_call 26
    (with_reducible refine HMD.out.mono ?_)
    rintro r18 w18 ⟨v18, rfl, m18, b18⟩
    obtain ⟨p18, lf18, A18, n18, c18⟩ := v18
    unfold nvV
    simp only
    have hT5 : Below w8.heap.size w8 w18 := below_step hT4 b18
    have hS5 : w8.grownBy w18 (some P6) := only_of_below hT5 (Nat.le_refl _)
    have Z6 := H6.out.below hT5 H6.out.lt
    have z0 := Z6.cell 0
    have z1 := Z6.cell 1
    have z2 := Z6.cell 2
    have z3 := Z6.free 0
    have z4 := Z6.free 1
    have z5 := Z6.free 2
    refine hK5.out _ _ hS5 (fun _ => ?_)
    clear hK5 K5
    refine wpAnyH_ready (rs := [17]) (by kernel_rfl) (by simp) ?_
    refine AllReadyH.cons (lit rfl) (fun K5 hK5 => ?_) AllReadyH.nil
    refine step_open rfl ?_
    go_simp
    have hS6 : w8.grownBy (stN w18 P6 (.int .i64 p18) (.bool lf18) (.slice A18 n18 c18)) (some P6) := only_store (only_store (only_store hS5 0 _) 1 _) 2 _
    unfold stN at hS6
    refine hK5.out _ _ hS6 (fun _ => ?_)
    clear hK5 K5
    refine wpAnyH_done (by kernel_rfl) ?_ _
    refine hK _ _ ?_
    go_wp2
    have XE := Z6.setN (.int .i64 p18) (.bool lf18) (.slice A18 n18 c18)
    have e0 := XE.cell 0
    have e1 := XE.cell 1
    have e2 := XE.cell 2
    unfold stN at e0 e1 e2
    simp at e0 e1 e2
    refine ⟨rfl, .agg #[.int .i64 p18, .bool lf18, .slice A18 n18 c18], ?_, ⟨p18, lf18, A18, n18, c18⟩, rfl, ?_, ?_⟩
    · simp [results, Try.f34, go_sem, e0, e1, e2]
    · refine RepN.move (fun q hq hl => ⟨?_, heap_setN _ P6 _ _ _ q ?_⟩) m18
      · rcases hq with (hq | hq) | hq
        · exact .inl hq.1
        · exact .inr (by omega)
        · exact .inr (by omega)
      · rcases hq with (hq | hq) | hq
        · have := hq.2; omega
        · omega
        · omega
    · exact below_setN (below_step HBW8.out hT5) (by omega) _ _ _
end Go.Proofs.Ytclaiigelgbpdaa
end

section
namespace Go.Proofs.Ytclaiigelgbpdaa
open Go.RowKit
set_option linter.unusedVariables false

theorem r15Empty_any (F : Nat → Prop) (w : World) : Calls Try.prog 11 #[] w (NodeE F (.leaf 0 []) w) := by
  go_enter Try.func11, Try.ntmps11
  go_wp2
  refine ⟨rfl, .agg #[.int .i64 0, .bool true, .slice none 0 0], ?_, ⟨0, true, none, 0, 0⟩, rfl, repN_leaf.2 ⟨rfl, rfl, [], RwF.none_ _ _ _, Both.nil⟩, (Below.refl _ w).alloc (Nat.le_refl _) _⟩
  simp [results, Try.f11, go_sem]
set_option maxRecDepth 100000 in
set_option maxHeartbeats 4000000 in
theorem r15Put_any (c : Lf) (hpg : c.pg = []) (t : Tr) (F : Nat → Prop) (v : NV) (w : World) (h : RepN F w v t) (hb : PutB c t) (ht : TopB (putT c t)) :
    Calls Try.prog 14 #[nvV v, .string ⟨c.k.toArray⟩, .string ⟨c.d.toArray⟩] w (NodeE F (putTop c t) w) := by
  unfold putTop
  obtain ⟨p, lf, A, n, cc⟩ := v
  unfold nvV
  simp only
  obtain ⟨W, hW⟩ : ∃ W, (w.alloc (.cells #[.int .i64 p, .bool lf, .slice A n cc] 33)).alloc (.cells #[.int .i64 0, .bool false, .slice none 0 0] 33) = W := ⟨_, rfl⟩
  have hB0 : Below w.heap.size w W := hW ▸ ((Below.refl _ w).alloc (Nat.le_refl _) _).alloc (by simp) _
  have hX3 : Has W w.heap.size 33 #[.int .i64 p, .bool lf, .slice A n cc] := hW ▸ (Has.made w 33 _).alloc _
  have hX6 : Has W (w.heap.size + 1) 33 #[.int .i64 0, .bool false, .slice none 0 0] := hW ▸ (by have := Has.made (w.alloc (.cells #[.int .i64 p, .bool lf, .slice A n cc] 33)) 33 #[.int .i64 0, .bool false, .slice none 0 0]; simpa using this)
  have hpu := r15put_any c hpg t (fun g => F g ∧ g < w.heap.size) ⟨p, lf, A, n, cc⟩ W (h.old.stay hB0) hb
  unfold nvV at hpu
  simp only at hpu
  have HPU := Lib.hid hpu
  have HTP := Lib.hid (fun (G : Nat → Prop) (v : NV) (w' : World) (hr : RepN G w' v (putT c t)) => r15Top_any (putT c t) G v w' hr ht)
  generalize putT c t = tp at *
  generalize topT tp = tt at *
  obtain ⟨P3, hP3⟩ : ∃ P, w.heap.size = P := ⟨_, rfl⟩
  obtain ⟨P6, hP6⟩ : ∃ P, P3 + 1 = P := ⟨_, rfl⟩
  rw [hP3] at hX3
  rw [hP3, hP6] at hX6
  have HX6 := Lib.hid hX6
  have HB0 := Lib.hid hB0
  have x30 := hX3.cell 0
  have x31 := hX3.cell 1
  have x32 := hX3.cell 2
  have HORD : Hid (w.heap.size = P3 ∧ P3 < P6) := Lib.hid ⟨hP3, by omega⟩
  obtain ⟨sk, hsk⟩ : ∃ s : ByteArray, (⟨c.k.toArray⟩ : ByteArray) = s := ⟨_, rfl⟩
  obtain ⟨sv, hsv⟩ : ∃ s : ByteArray, (⟨c.d.toArray⟩ : ByteArray) = s := ⟨_, rfl⟩
  rw [hsk, hsv] at HPU ⊢
  clear h hb ht hX3 hX6 hB0 hpu hsk hsv hpg
  go_enter Try.func14, Try.ntmps14
  go_wp2_with (first
    | (go_at_call 34; (with_reducible refine HPU.out.mono ?_); rintro r8 w8 ⟨v8, rfl, m8, b8⟩; have htp := HTP.out _ v8 w8 m8; obtain ⟨p8, lf8, A8, n8, c8⟩ := v8; unfold nvV at htp ⊢; simp only at htp ⊢; have HTP2 := Lib.hid htp; have B8 := Lib.hid b8; clear htp m8 b8)
    | (go_at_call 24; (with_reducible refine HTP2.out.mono ?_); rintro r9 w9 ⟨v9, rfl, m9, b9⟩; obtain ⟨p9, lf9, A9, n9, c9⟩ := v9; unfold nvV; simp only; have Z := (HX6.out.below B8.out HX6.out.lt).below b9 (by have := HX6.out.lt; have := B8.out.size; omega); have z0 := Z.cell 0; have z1 := Z.cell 1; have z2 := Z.cell 2; have z3 := Z.free 0; have z4 := Z.free 1; have z5 := Z.free 2; have ZZ := Lib.hid Z; have M9 := Lib.hid m9; have B9 := Lib.hid b9; clear Z m9 b9))
  have XE := ZZ.out.setN (.int .i64 p9) (.bool lf9) (.slice A9 n9 c9)
  have e0 := XE.cell 0
  have e1 := XE.cell 1
  have e2 := XE.cell 2
  unfold stN at e0 e1 e2
  simp at e0 e1 e2
  have ord := HORD.out
  have h6l := HX6.out.lt
  have hb0 := HB0.out.size
  have hb8 := B8.out.size
  refine ⟨rfl, .agg #[.int .i64 p9, .bool lf9, .slice A9 n9 c9], ?_, ⟨p9, lf9, A9, n9, c9⟩, rfl, ?_, ?_⟩
  · simp [results, Try.f14, go_sem, e0, e1, e2]
  · refine RepN.move (fun q hq hl => ⟨?_, heap_setN _ P6 _ _ _ q ?_⟩) M9.out
    · rcases hq with (hq | hq) | hq
      · exact .inl hq.1
      · exact .inr (by omega)
      · exact .inr (by omega)
    · rcases hq with (hq | hq) | hq
      · have := hq.2; omega
      · omega
      · omega
  · exact below_setN (below_step (below_step HB0.out B8.out) B9.out) (by omega) _ _ _
end Go.Proofs.Ytclaiigelgbpdaa
end
