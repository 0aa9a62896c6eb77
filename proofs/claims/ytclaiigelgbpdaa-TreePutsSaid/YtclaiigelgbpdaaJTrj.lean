import Derived.Test.YtclaiigelgbpdaaJ08
/- Of a claim's texts, joined: Trj. No statement but in the last. -/
namespace Go.Proofs.Ytclaiigelgbpdaa
open Go.RowKit
set_option linter.unusedVariables false

def NodeE (F : Nat → Prop) (t : Tr) (w : World) (e : Ending) (w' : World) : Prop := ∃ v, e = .returned (nvV v) ∧ RepN (Fw F w.heap.size) w' v t ∧ Below w.heap.size w w'
theorem Fw.low {F : Nat → Prop} {B C : Nat} (h : B ≤ C) : ∀ g, Fw F C g → Fw F B g := fun g hg => hg.imp id (fun h2 => Nat.le_trans h h2)
theorem join_bnd {ta tb : Tr} {kb : List UInt8} (hk : kindT ta = kindT tb) (hA : BndN 50 ta) (hB : BndN 50 tb) (hK : kb.length ≤ 500) :
    kindT (joinT kb ta tb) = kindT ta ∧ pageT (joinT kb ta tb) = 0 ∧ BndN 100 (joinT kb ta tb) := by
  cases ta with
  | leaf p a =>
    cases tb with
    | leaf q b =>
      refine ⟨rfl, rfl, ?_, ?_⟩
      · rw [List.length_append]
        have := hA.1
        have := hB.1
        omega
      · intro x hx
        rcases List.mem_append.1 hx with hx | hx
        · exact hA.2 x hx
        · exact hB.2 x hx
    | branch q b => cases hk
  | branch p a =>
    cases tb with
    | leaf q b => cases hk
    | branch q b =>
      refine ⟨rfl, rfl, ?_, ?_⟩
      · rw [List.length_append]
        have h1 := hA.1
        have h2 := hB.1
        have h3 : (keyed kb b).length = b.length := by cases b <;> rfl
        omega
      · intro x hx
        rcases List.mem_append.1 hx with hx | hx
        · exact hA.2 x hx
        · cases b with
          | nil => cases hx
          | cons y b =>
            rcases List.mem_cons.1 hx with rfl | hx
            · exact hK
            · exact hB.2 x (List.mem_cons_of_mem _ hx)
structure MdS (w : World) (bs P2 P4 P5 P9 P10 : Nat) (c2 c4 c5 c9 : Array Value) (lfa : Bool) (rows : List CE) (wr : World) : Prop where
  bel : Below w.heap.size w wr
  h2 : Has wr P2 33 c2
  h4 : Has wr P4 33 c4
  h5 : Has wr P5 33 c5
  h9 : Has wr P9 33 c9
  row : ∃ Ax cx, wr.ownsRow bs 53 4 (.slice Ax rows.length cx) rows.length (flatC rows) ∧ Has wr P10 33 #[.int .i64 0, .bool lfa, .slice Ax rows.length cx] ∧ rows.length ≤ cx ∧ cx ≤ maxLen
theorem MdS.alloc {w wr : World} {bs P2 P4 P5 P9 P10 : Nat} {c2 c4 c5 c9 : Array Value} {lfa : Bool} {rows : List CE} (h : MdS w bs P2 P4 P5 P9 P10 c2 c4 c5 c9 lfa rows wr) (o : Obj) : MdS w bs P2 P4 P5 P9 P10 c2 c4 c5 c9 lfa rows (wr.alloc o) := by
  obtain ⟨Ax, cx, h1, h2, h3, h4⟩ := h.row
  exact ⟨h.bel.alloc h.bel.size o, h.h2.alloc o, h.h4.alloc o, h.h5.alloc o, h.h9.alloc o, Ax, cx, h1.alloc o, h2.alloc o, h3, h4⟩
theorem MdS.app {w wr w' : World} {bs P2 P4 P5 P9 P10 : Nat} {c2 c4 c5 c9 : Array Value} {lfa : Bool} {rows more : List CE} {Ax : Option Addr} {cx m : Nat} {v' : Value} (h : MdS w bs P2 P4 P5 P9 P10 c2 c4 c5 c9 lfa rows wr) (ho : wr.ownsRow bs 53 4 (.slice Ax rows.length cx) rows.length (flatC rows))
    (h10 : Has wr P10 33 #[.int .i64 0, .bool lfa, .slice Ax rows.length cx]) (hp : w'.ownsRow bs 53 4 v' m (flatC rows ++ flatC more)) (hm : m = rows.length + more.length) (hq : wr.grownBy w' (Value.slice Ax rows.length cx).ownBlock) (hbs : w.heap.size ≤ bs)
    (n2 : P2 ≠ P10) (n4 : P4 ≠ P10) (n5 : P5 ≠ P10) (n9 : P9 ≠ P10) (hPb : w.heap.size ≤ P10) :
    ∃ A' c', v' = .slice A' m c' ∧ Has w' P10 33 #[.int .i64 0, .bool lfa, .slice Ax rows.length cx] ∧ MdS w bs P2 P4 P5 P9 P10 c2 c4 c5 c9 lfa (rows ++ more) (w'.setCell ⟨P10, 2, none⟩ (.slice A' m c')) := by
  obtain ⟨A', c', rfl, hc1, hc2⟩ := slice15 hp
  have k10 := kept15 h10 ho (by decide) hq
  have hl : (rows ++ more).length = m := by rw [List.length_append, hm]
  refine ⟨A', c', rfl, k10, ?_⟩
  refine ⟨(h.bel.grown hq h.bel.size (fun k hk => Nat.le_trans hbs (ho.lt k hk).1)).setCell (p := ⟨P10, 2, none⟩) hPb _, (kept15 h.h2 ho (by decide) hq).away (p := ⟨P10, 2, none⟩) n2 _, (kept15 h.h4 ho (by decide) hq).away (p := ⟨P10, 2, none⟩) n4 _,
    (kept15 h.h5 ho (by decide) hq).away (p := ⟨P10, 2, none⟩) n5 _, (kept15 h.h9 ho (by decide) hq).away (p := ⟨P10, 2, none⟩) n9 _, A', c', ?_, ?_, ?_, hc2⟩
  · rw [hl, flatC_app]
    exact ownCell15 hp k10 (by decide) 2 _
  · rw [hl]
    have := k10.store 2 (.slice A' m c')
    simpa using this
  · rw [hl]
    exact hc1
set_option maxRecDepth 100000 in
set_option maxHeartbeats 4000000 in
theorem r15Mend_any (F : Nat → Prop) (v : NV) (p : Int) (l : List (List UInt8 × Tr)) (k : Nat) (w : World) (h : RepN F w v (.branch p l)) (hn : l.length ≤ 150) (hk : k < l.length) (hb : ∀ x ∈ l, BndN 50 x.2) (hkey : ∀ x ∈ l, x.1.length ≤ 500) (hev : evenT l) :
    Calls Try.prog 26 #[nvV v, .int .i64 (k : Int)] w (NodeE F (mendT p l k) w) := by
  obtain ⟨es, e, vk, ek, hp, hlf, hr, hbo, he, hen, hkr, hek, hkk, hck, hkl, hrep⟩ := kid_at h hk
  have hbk := hb _ (kid_mem hk)
  obtain ⟨p', lf, A, n, c⟩ := v
  simp only at hp hlf hr
  subst hp hlf
  have hlen : n = l.length := by rw [hr.len4]; exact hbo.1
  have hold := h.old
  unfold nvV
  simp only
  obtain ⟨W, hW⟩ : ∃ W, (w.alloc (.cells #[.int .i64 p', .bool false, .slice A n c] 33)).alloc (.cells #[.int .i64 0, .bool false, .slice none 0 0] 33) = W := ⟨_, rfl⟩
  have hB0 : Below w.heap.size w W := hW ▸ ((Below.refl _ w).alloc (Nat.le_refl _) _).alloc (by simp) _
  have hX2 : Has W w.heap.size 33 #[.int .i64 p', .bool false, .slice A n c] := hW ▸ (Has.made w 33 _).alloc _
  have hX4 : Has W (w.heap.size + 1) 33 #[.int .i64 0, .bool false, .slice none 0 0] := hW ▸ (by have := Has.made (w.alloc (.cells #[.int .i64 p', .bool false, .slice A n c] 33)) 33 #[.int .i64 0, .bool false, .slice none 0 0]; simpa using this)
  have HPT := Lib.hid (r15parted_any (fun g => F g ∧ g < w.heap.size) ⟨p', false, A, n, c⟩ p' l k W (hold.stay hB0) (by omega) hk (hbk.mono (by omega)))
  unfold nvV at HPT
  simp only at HPT
  obtain ⟨P2, hP2⟩ : ∃ P, w.heap.size = P := ⟨_, rfl⟩
  obtain ⟨P4, hP4⟩ : ∃ P, P2 + 1 = P := ⟨_, rfl⟩
  rw [hP2] at hX2
  rw [hP2, hP4] at hX4
  have HX2 := Lib.hid hX2
  have HX4 := Lib.hid hX4
  have HB0 := Lib.hid hB0
  have x20 := hX2.cell 0
  have x21 := hX2.cell 1
  have x22 := hX2.cell 2
  have hPl : P2 < P4 := by omega
  by_cases hz : atT l k = 0
  case neg =>
    have HM : Hid (mendT p' l k = .branch 0 (splitT l k (atT l k))) := Lib.hid (by unfold mendT; rw [if_pos hz])
    have HPT2 : Hid (Calls Try.prog 43 #[.agg #[.int .i64 p', .bool false, .slice A n c], .int .i64 (k : Int)] W fun r w' => Below W.heap.size W w' ∧ ∃ v' : NV, r = .returned (.tuple #[.agg #[.int .i64 v'.p, .bool v'.lf, .slice v'.A v'.n v'.c], .bool true]) ∧ RepN (Fw (fun g => F g ∧ g < w.heap.size) W.heap.size) w' v' (mendT p' l k)) := Lib.hid (HPT.out.mono (by
      rintro r w' ⟨h1, h2 | h2⟩
      · exact absurd h2.1 hz
      · obtain ⟨_, v', rfl, hv⟩ := h2
        exact ⟨h1, v', rfl, by rw [HM.out]; exact hv⟩))
    generalize mendT p' l k = tm at *
    clear HPT hz hX2 hX4 hB0 hold hrep hck hkk hkr hbo hr hlen hek hkl he hen hb hkey hev hbk h HM
    go_enter Try.func26, Try.ntmps26
    go_wp2_with (first
      | (go_at_call 43; (with_reducible refine HPT2.out.mono ?_); rintro r5 w5 ⟨b5, v5, rfl, m5⟩; obtain ⟨p5, lf5, A5, n5, c5⟩ := v5; simp only; have y5 := Has.made w5 33 #[.int .i64 p5, .bool lf5, .slice A5 n5 c5]; have y50 := y5.cell 0; have y51 := y5.cell 1; have y52 := y5.cell 2; have z4 := (HX4.out.below b5 HX4.out.lt).alloc (.cells #[.int .i64 p5, .bool lf5, .slice A5 n5 c5] 33); have g0 := z4.free 0; have g1 := z4.free 1; have g2 := z4.free 2; have z40 := z4.cell 0; have z41 := z4.cell 1; have z42 := z4.cell 2; have Z4 := Lib.hid z4; have B5 := Lib.hid b5; have M5 := Lib.hid m5; clear z4 y5 b5 m5))
    have XE := Z4.out.setN (.int .i64 p5) (.bool lf5) (.slice A5 n5 c5)
    have e0 := XE.cell 0
    have e1 := XE.cell 1
    have e2 := XE.cell 2
    unfold stN at e0 e1 e2
    simp at e0 e1 e2
    have hw := HB0.out.size
    have hl4 := HX4.out.lt
    refine ⟨rfl, .agg #[.int .i64 p5, .bool lf5, .slice A5 n5 c5], ?_, ⟨p5, lf5, A5, n5, c5⟩, rfl, ?_, ?_⟩
    · simp [results, Try.f26, go_sem, e0, e1, e2]
    · refine RepN.move (F := Fw (fun g => F g ∧ g < w.heap.size) W.heap.size) (fun g hg hl => ⟨?_, ?_⟩) M5.out
      · rcases hg with hg | hg
        · exact .inl hg.1
        · exact .inr (by omega)
      · refine (heap_setN _ P4 _ _ _ g ?_).trans (Below.heap_alloc _ _ _ hl)
        rcases hg with hg | hg <;> omega
    · exact below_setN ((below_step (hP2 ▸ HB0.out) B5.out).alloc (by have := B5.out.size; omega) _) (by omega) _ _ _
  case pos =>
    obtain ⟨g, off, kg, koff, hKC⟩ := kidC_of hr he hen hkr
    obtain rfl := hKC.row
    obtain ⟨p2, lf2, A2, n2, c2⟩ := vk
    have hsum : sumZ (ek.map (szC lf2)) = sumZ (sizesT (kidT l k).2) := by rw [show lf2 = kindT (kidT l k).2 from hkl, sizes_cells hck]
    have hbc := bndC_of (hbk.mono (by omega)) hck
    have HPT2 : Hid (Calls Try.prog 43 #[.agg #[.int .i64 p', .bool false, .slice (some ⟨g, off, none⟩) n c], .int .i64 (k : Int)] W fun r w' => Below W.heap.size W w' ∧ r = .returned (.tuple #[.agg #[.int .i64 p', .bool false, .slice (some ⟨g, off, none⟩) n c], .bool false])) := Lib.hid (HPT.out.mono (by
      rintro r w' ⟨h1, h2 | h2⟩
      · exact ⟨h1, h2.2⟩
      · exact absurd hz h2.1))
    have HSZ : Hid (∀ w', Below w.heap.size w w' → Calls Try.prog 41 #[.agg #[.int .i64 p2, .bool lf2, .slice A2 n2 c2]] w' fun e w'' => ∃ A c, e = .returned (.slice A ek.length c) ∧ RowZ w'' A ek.length c (ek.map (szC lf2)) ∧ Below w'.heap.size w' w'') := Lib.hid (fun w' hb => r15Sizes_es F ⟨p2, lf2, A2, n2, c2⟩ ek w' (hkk.below hb) hbc)
    have HLW : Hid (∀ A c w', RowZ w' A ek.length c (ek.map (szC lf2)) → Calls Try.prog 44 #[.slice A ek.length c] w' fun e w'' => e = .returned (.bool (decide (sumZ (sizesT (kidT l k).2) < 30))) ∧ w' = w'') := Lib.hid (fun A c w' h1 => by rw [← hsum]; exact r14Low_any _ A _ c w' h1 (sizes_siz hbc))
    have HKC := Lib.hid hKC
    obtain ⟨m, hm⟩ : ∃ m, ek.length = m := ⟨_, rfl⟩
    obtain ⟨zs, hzs⟩ : ∃ z, ek.map (szC lf2) = z := ⟨_, rfl⟩
    rw [hm, hzs] at HSZ HLW
    obtain ⟨sm, hsm⟩ : ∃ s, sumZ (sizesT (kidT l k).2) = s := ⟨_, rfl⟩
    rw [hsm] at HLW
    have i0 : (0 : Int) ≤ (k : Int) := by omega
    have i1 : (k : Int) < (n : Int) := by omega
    have HN := Lib.hid hlen
    have hkn : k < n := by omega
    by_cases hs : 30 ≤ sm
    · have HM : Hid (mendT p' l k = .branch p' l) := Lib.hid (by unfold mendT; rw [if_neg (by omega), if_pos (.inl (by omega))])
      have HOLD := Lib.hid hold
      have hs2 : ¬ sm < 30 := by omega
      clear HPT hz hX2 hX4 hB0 hrep hck hkk hkr hbo hr hlen hek hkl he hen hb hkey hev hbk h hm hzs hsm hsum hbc hKC hold
      go_enter Try.func26, Try.ntmps26
      go_wp2_with (first
        | (go_at_call 43; (with_reducible refine HPT2.out.mono ?_); rintro r5 w5 ⟨b5, rfl⟩; have BW5 : Hid (Below w.heap.size w (w5.alloc (.cells #[.int .i64 p', .bool false, .slice (some ⟨g, off, none⟩) n c] 33))) := Lib.hid ((below_step (hP2 ▸ HB0.out) b5).alloc (by have := b5.size; have := HB0.out.size; omega) _); have y2 := (HX2.out.below b5 HX2.out.lt).alloc (.cells #[.int .i64 p', .bool false, .slice (some ⟨g, off, none⟩) n c] 33); have z4 := (HX4.out.below b5 HX4.out.lt).alloc (.cells #[.int .i64 p', .bool false, .slice (some ⟨g, off, none⟩) n c] 33); have Z4 := Lib.hid z4; have x20 := y2.cell 0; have x21 := y2.cell 1; have x22 := y2.cell 2; have Y2 := Lib.hid y2; have kc5 := HKC.out.below BW5.out (Nat.le_refl _); have qk := kc5.key; have q3 := kc5.kid; have q0 := kc5.k0; have q1 := kc5.k1; have q2 := kc5.k2;  clear z4 y2 kc5 b5)
        | (go_at_call 41; (with_reducible refine (HSZ.out _ BW5.out).mono ?_); rintro r6 w6 ⟨A6, c6, rfl, h6, b6⟩; have B6 := Lib.hid (below_step BW5.out b6); have z6 := Z4.out.below b6 Z4.out.lt; have g0 := z6.free 0; have g1 := z6.free 1; have g2 := z6.free 2; have z40 := z6.cell 0; have z41 := z6.cell 1; have z42 := z6.cell 2; have Z6 := Lib.hid z6; have x6 := Y2.out.below b6 Y2.out.lt; have y20 := x6.cell 0; have y21 := x6.cell 1; have y22 := x6.cell 2; have X6 := Lib.hid x6;  clear z6 x6 b6)
        | (go_at_call 44; (with_reducible refine (HLW.out _ _ _ h6).mono ?_); rintro r7 w7 ⟨rfl, rfl⟩))
      have XE := Z6.out.setN (.int .i64 p') (.bool false) (.slice (some ⟨g, off, none⟩) n c)
      have e0 := XE.cell 0
      have e1 := XE.cell 1
      have e2 := XE.cell 2
      unfold stN at e0 e1 e2
      simp at e0 e1 e2
      refine ⟨rfl, .agg #[.int .i64 p', .bool false, .slice (some ⟨g, off, none⟩) n c], ?_, ⟨p', false, some ⟨g, off, none⟩, n, c⟩, rfl, ?_, ?_⟩
      · simp [results, Try.f26, go_sem, e0, e1, e2]
      · rw [HM.out]
        exact RepN.move (fun q hq hl => ⟨.inl hq.1, (heap_setN _ P4 _ _ _ q (by have := hq.2; omega)).trans (B6.out.block q hl)⟩) HOLD.out
      · exact below_setN B6.out (by omega) _ _ _
    by_cases hn2 : n < 2
    · have HM : Hid (mendT p' l k = .branch p' l) := Lib.hid (by unfold mendT; rw [if_neg (by omega), if_pos (.inr (by omega))])
      have HOLD := Lib.hid hold
      have hs2 : sm < 30 := by omega
      have hn3 : (n : Int) < 2 := by omega
      clear HPT hz hX2 hX4 hB0 hrep hck hkk hkr hbo hr hlen hek hkl he hen hb hkey hev hbk h hm hzs hsm hsum hbc hKC hold
      go_enter Try.func26, Try.ntmps26
      go_wp2_with (first
        | (go_at_call 43; (with_reducible refine HPT2.out.mono ?_); rintro r5 w5 ⟨b5, rfl⟩; have BW5 : Hid (Below w.heap.size w (w5.alloc (.cells #[.int .i64 p', .bool false, .slice (some ⟨g, off, none⟩) n c] 33))) := Lib.hid ((below_step (hP2 ▸ HB0.out) b5).alloc (by have := b5.size; have := HB0.out.size; omega) _); have y2 := (HX2.out.below b5 HX2.out.lt).alloc (.cells #[.int .i64 p', .bool false, .slice (some ⟨g, off, none⟩) n c] 33); have z4 := (HX4.out.below b5 HX4.out.lt).alloc (.cells #[.int .i64 p', .bool false, .slice (some ⟨g, off, none⟩) n c] 33); have Z4 := Lib.hid z4; have x20 := y2.cell 0; have x21 := y2.cell 1; have x22 := y2.cell 2; have Y2 := Lib.hid y2; have kc5 := HKC.out.below BW5.out (Nat.le_refl _); have qk := kc5.key; have q3 := kc5.kid; have q0 := kc5.k0; have q1 := kc5.k1; have q2 := kc5.k2;  clear z4 y2 kc5 b5)
        | (go_at_call 41; (with_reducible refine (HSZ.out _ BW5.out).mono ?_); rintro r6 w6 ⟨A6, c6, rfl, h6, b6⟩; have B6 := Lib.hid (below_step BW5.out b6); have z6 := Z4.out.below b6 Z4.out.lt; have g0 := z6.free 0; have g1 := z6.free 1; have g2 := z6.free 2; have z40 := z6.cell 0; have z41 := z6.cell 1; have z42 := z6.cell 2; have Z6 := Lib.hid z6; have x6 := Y2.out.below b6 Y2.out.lt; have y20 := x6.cell 0; have y21 := x6.cell 1; have y22 := x6.cell 2; have X6 := Lib.hid x6;  clear z6 x6 b6)
        | (go_at_call 44; (with_reducible refine (HLW.out _ _ _ h6).mono ?_); rintro r7 w7 ⟨rfl, rfl⟩))
      have XE := Z6.out.setN (.int .i64 p') (.bool false) (.slice (some ⟨g, off, none⟩) n c)
      have e0 := XE.cell 0
      have e1 := XE.cell 1
      have e2 := XE.cell 2
      unfold stN at e0 e1 e2
      simp at e0 e1 e2
      refine ⟨rfl, .agg #[.int .i64 p', .bool false, .slice (some ⟨g, off, none⟩) n c], ?_, ⟨p', false, some ⟨g, off, none⟩, n, c⟩, rfl, ?_, ?_⟩
      · simp [results, Try.f26, go_sem, e0, e1, e2]
      · rw [HM.out]
        exact RepN.move (fun q hq hl => ⟨.inl hq.1, (heap_setN _ P4 _ _ _ q (by have := hq.2; omega)).trans (B6.out.block q hl)⟩) HOLD.out
      · exact below_setN B6.out (by omega) _ _ _
    have hs2 : sm < 30 := by omega
    have hn3 : ¬ (n : Int) < 2 := by omega
    have hn4 : 2 ≤ l.length := by omega
    have hn150 : n ≤ 150 := by omega
    -- which two
    obtain ⟨j, hj⟩ : ∃ j, firstT l k = j := ⟨_, rfl⟩
    have hjc : (k + 1 < n ∧ j = k) ∨ (¬ k + 1 < n ∧ j + 1 = k) := by
      unfold firstT at hj
      split at hj <;> omega
    have hj1 : j + 1 < n := by omega
    have HM : Hid (mendT p' l k = .branch 0 (partT (mergeT l j) j)) := Lib.hid (by unfold mendT; rw [if_neg (by omega), if_neg (by omega), hj])
    obtain ⟨ea, hea, va, ⟨⟨hka, _⟩, hena, hkra⟩, hrepa⟩ := hbo.at_ (kid_some (l := l) (k := j) (by omega))
    obtain ⟨eb, heb, vb, ⟨⟨hkb, _⟩, henb, hkrb⟩, hrepb⟩ := hbo.at_ (kid_some (l := l) (k := j + 1) (by omega))
    obtain ⟨qa1, qa2, eka, qa3, qa4⟩ := repN_iff.1 hrepa
    obtain ⟨qb1, qb2, ekb, qb3, qb4⟩ := repN_iff.1 hrepb
    obtain ⟨ga', oa', kga, koa, hKA⟩ := kidC_of hr hea hena hkra
    obtain ⟨gb', ob', kgb, kob, hKB⟩ := kidC_of hr heb henb hkrb
    have ra := hKA.row
    have rb := hKB.row
    injection ra with ra
    injection ra with e1 e2 _
    subst e1 e2
    injection rb with rb
    injection rb with e1 e2 _
    subst e1 e2
    obtain ⟨pa, lfa, Aa, na, ca⟩ := va
    obtain ⟨pb, lfb, Ab, nb, cb⟩ := vb
    simp only at qa2 qa3 qb2 qb3
    have hba := bndN_cells (hb _ (kid_mem (l := l) (k := j) (by omega))) qa4
    have hbb := bndN_cells (hb _ (kid_mem (l := l) (k := j + 1) (by omega))) qb4
    have hna : na = eka.length := qa3.len4
    have hnb : nb = ekb.length := qb3.len4
    have hna5 : na ≤ 50 := by rw [hna]; exact hba.1
    have hnb5 : nb ≤ 50 := by rw [hnb]; exact hbb.1
    have hlab : lfa = lfb := by rw [qa2, qb2]; exact hev j (j + 1) (by omega) (by omega)
    obtain ⟨yb, hyb⟩ : ∃ y, (if lfb = true then ekb else keyE eb.k ekb) = y := ⟨_, rfl⟩
    have hyl : yb.length = nb := by
      rw [← hyb, hnb]
      split
      · rfl
      · cases ekb <;> rfl
    -- what the two are, put together
    have HJ : Hid (∀ (G : Nat → Prop) (w' : World), (∀ q, (F q ∧ q < w.heap.size) → G q ∧ w'.heap[q]? = w.heap[q]?) → cellsR G w' (eka ++ yb) (joinT (kidT l (j + 1)).1 (kidT l j).2 (kidT l (j + 1)).2)) := Lib.hid (fun G w' hm => by
      have ha := qa4.move (G := G) (w' := w') (fun q hq hl => hm q ⟨hq, hl⟩)
      have hb := qb4.move (G := G) (w' := w') (fun q hq hl => hm q ⟨hq, hl⟩)
      rw [← hyb, ← hkb]
      have hkk : kindT (kidT l j).2 = kindT (kidT l (j + 1)).2 := by rw [← qa2, ← qb2]; exact hlab
      rw [qb2] at *
      revert ha hb hkk
      generalize (kidT l j).2 = ta
      generalize (kidT l (j + 1)).2 = tb
      intro ha hb hkk
      cases ta <;> cases tb
      · exact Both.app ha hb
      · cases hkk
      · cases hkk
      · exact Both.app ha (keyE_both hb _))
    have HJK : Hid (kindT (joinT (kidT l (j + 1)).1 (kidT l j).2 (kidT l (j + 1)).2) = lfa ∧ pageT (joinT (kidT l (j + 1)).1 (kidT l j).2 (kidT l (j + 1)).2) = 0 ∧ BndN 100 (joinT (kidT l (j + 1)).1 (kidT l j).2 (kidT l (j + 1)).2)) := Lib.hid (by
      have hkk : kindT (kidT l j).2 = kindT (kidT l (j + 1)).2 := by rw [← qa2, ← qb2]; exact hlab
      have hA := hb _ (kid_mem (l := l) (k := j) (by omega))
      have hB := hb _ (kid_mem (l := l) (k := j + 1) (by omega))
      have hK := hkey _ (kid_mem (l := l) (k := j + 1) (by omega))
      rw [qa2]
      revert hkk hA hB hK
      generalize (kidT l j).2 = ta
      generalize (kidT l (j + 1)).2 = tb
      generalize (kidT l (j + 1)).1 = kb
      intro hkk hA hB hK
      exact join_bnd hkk hA hB hK)
    -- the row in which they stand for the two
    have HMR : Hid (∀ (G : Nat → Prop) (w' : World) (cm : CE), (∀ q, (F q ∧ q < w.heap.size) → G q ∧ w'.heap[q]? = w.heap[q]?) → CellT G w' cm ((kidT l j).1, joinT (kidT l (j + 1)).1 (kidT l j).2 (kidT l (j + 1)).2) → Both (CellT G w') (es.take j ++ ([cm] ++ es.drop (j + 2))) (mergeT l j)) := Lib.hid (fun G w' cm hm hc => by
      have ha : Both (CellT G w') es l := hbo.mono fun x y _ _ h => h.move (fun q hq hl => hm q ⟨hq, hl⟩)
      unfold mergeT
      rw [List.append_assoc]
      exact (ha.take j).app ((Both.one hc).app (ha.drop (j + 2))))
    have HTD : Hid ((es.take (j + 1) ++ ([] ++ es.drop (j + 1 + 1))).take j = es.take j ∧ (es.take (j + 1) ++ ([] ++ es.drop (j + 1 + 1))).drop (j + 1) = es.drop (j + 2) ∧ (es.take (j + 1) ++ ([] ++ es.drop (j + 1 + 1))).length = n - 1) := Lib.hid (by
      have hel : es.length = n := by rw [hbo.1, hlen]
      rw [List.nil_append]
      refine ⟨?_, ?_, ?_⟩
      · rw [List.take_append_of_le_length (by rw [List.length_take]; omega), List.take_take, Nat.min_eq_left (by omega)]
      · rw [List.drop_append_of_le_length (by rw [List.length_take]; omega), List.drop_eq_nil_of_le (by rw [List.length_take]; omega), List.nil_append]
      · rw [List.length_append, List.length_take, List.length_drop]; omega)
    have HES := Lib.hid (show RwF F w (some ⟨g, off, none⟩) n c 4 (flatC es) from hr)
    have HRA : Hid (∀ w', Below w.heap.size w w' → RwF F w' Aa na ca 4 (flatC eka)) := Lib.hid (fun w' hb => qa3.below hb)
    have HRB : Hid (∀ w', Below w.heap.size w w' → RwF F w' Ab nb cb 4 (flatC ekb)) := Lib.hid (fun w' hb => qb3.below hb)
    have HKA := Lib.hid hKA
    have HKB := Lib.hid hKB
    have HYB := Lib.hid hyb
    have HYL := Lib.hid hyl
    have HNA := Lib.hid hna
    have HNB5 := Lib.hid hnb
    have HEA := Lib.hid hka
    have HML : Hid ((mergeT l j).length ≤ 200 ∧ j < (mergeT l j).length ∧ kidT (mergeT l j) j = ((kidT l j).1, joinT (kidT l (j + 1)).1 (kidT l j).2 (kidT l (j + 1)).2)) := Lib.hid (by
      have h1 := merge_len (l := l) (j := j) (by omega)
      refine ⟨by omega, by omega, ?_⟩
      unfold mergeT
      rw [kidT, List.getD_eq_getElem?_getD, List.append_assoc, List.getElem?_append_right (by rw [List.length_take]; omega), List.length_take, Nat.min_eq_left (by omega), Nat.sub_self]
      rfl)
    have HNG : Hid (∀ w', Calls Try.prog 45 #[.int .i64 (n : Int), .int .i64 (k : Int)] w' fun e w'' => e = .returned (.int .i64 (if (k : Int) + 1 < (n : Int) then (k : Int) + 1 else (k : Int) - 1)) ∧ w' = w'') := Lib.hid (fun w' => r14Neigh_any n k w' ⟨by omega, by omega⟩ ⟨by omega, by omega⟩)
    clear HPT hz hX2 hX4 hB0 hrep hck hkk hkr hbo hr hlen hek hkl he hen hb hkey hev hbk h hm hzs hsm hsum hbc hKC hold hrepa hrepb qa3 qb3 qa4 qb4 hkra hkrb hea heb hena henb hba hbb hyb hyl hna hnb hka hkb hKA hKB qa1 qb1 qa2 qb2 hlab hj hn4 hn2 hs
    have i2 : (0 : Int) ≤ (j : Int) := by omega
    have i3 : (j : Int) < (n : Int) := by omega
    have i4 : (j : Int) + 1 < (n : Int) := by omega
    have i5 : (0 : Int) ≤ (j : Int) + 1 := by omega
    obtain ⟨ti, hi, hz0, hz1, hz2t⟩ := info_parts c15info
    have hmx : Try.prog.follows .mixedOrders = true := by kernel_rfl
    rcases hjc with hjc | hjc
    · obtain ⟨hj0, rfl⟩ := hjc
      have HJV : Hid ((if (j : Int) + 1 < (n : Int) then (j : Int) + 1 else (j : Int) - 1) = (j : Int) + 1) := Lib.hid (if_pos (by omega))
      have hlt : ¬ (j : Int) + 1 < (j : Int) := by omega
      go_enter Try.func26, Try.ntmps26
      go_wp2_with (first
        | (go_at_call 43; (with_reducible refine HPT2.out.mono ?_); rintro r5 w5 ⟨b5, rfl⟩; have BW5 : Hid (Below w.heap.size w (w5.alloc (.cells #[.int .i64 p', .bool false, .slice (some ⟨g, off, none⟩) n c] 33))) := Lib.hid ((below_step (hP2 ▸ HB0.out) b5).alloc (by have := b5.size; have := HB0.out.size; omega) _); have y2 := (HX2.out.below b5 HX2.out.lt).alloc (.cells #[.int .i64 p', .bool false, .slice (some ⟨g, off, none⟩) n c] 33); have z4 := (HX4.out.below b5 HX4.out.lt).alloc (.cells #[.int .i64 p', .bool false, .slice (some ⟨g, off, none⟩) n c] 33); have Z4 := Lib.hid z4; have x20 := y2.cell 0; have x21 := y2.cell 1; have x22 := y2.cell 2; have Y2 := Lib.hid y2; have kc5 := HKC.out.below BW5.out (Nat.le_refl _); have qk := kc5.key; have q3 := kc5.kid; have q0 := kc5.k0; have q1 := kc5.k1; have q2 := kc5.k2; have HP5 : Hid (W.heap.size ≤ w5.heap.size) := Lib.hid b5.size; have y5 := Has.made w5 33 #[.int .i64 p', .bool false, .slice (some ⟨g, off, none⟩) n c]; have Y5 := Lib.hid y5; clear y5;  clear z4 y2 kc5 b5)
        | (go_at_call 41; (with_reducible refine (HSZ.out _ BW5.out).mono ?_); rintro r6 w6 ⟨A6, c6, rfl, h6, b6⟩; have B6 := Lib.hid (below_step BW5.out b6); have z6 := Z4.out.below b6 Z4.out.lt; have g0 := z6.free 0; have g1 := z6.free 1; have g2 := z6.free 2; have z40 := z6.cell 0; have z41 := z6.cell 1; have z42 := z6.cell 2; have Z6 := Lib.hid z6; have x6 := Y2.out.below b6 Y2.out.lt; have y20 := x6.cell 0; have y21 := x6.cell 1; have y22 := x6.cell 2; have X6 := Lib.hid x6; have x5 := Y5.out.below b6 Y5.out.lt; have X5 := Lib.hid x5; clear x5;  clear z6 x6 b6)
        | (go_at_call 44; (with_reducible refine (HLW.out _ _ _ h6).mono ?_); rintro r7 w7 ⟨rfl, rfl⟩)
        | (go_at_call 45; (with_reducible refine (HNG.out _).mono ?_); rintro r8 w8 ⟨rfl, rfl⟩; (try rw [HJV.out]); have ka6 := HKA.out.below B6.out (Nat.le_refl _); have ak := ka6.key; have a3 := ka6.kid; have a0 := ka6.k0; have a1 := ka6.k1; have a2 := ka6.k2; have x28 := (X6.out.alloc (.cells #[.int .i64 pa, .bool lfa, .slice Aa na ca] 33)).cell 2; have kb8 := HKB.out.below (w' := (w6.alloc (.cells #[.int .i64 pa, .bool lfa, .slice Aa na ca] 33))) (B6.out.alloc B6.out.size _) (Nat.le_refl _); have bk := kb8.key; have b3 := kb8.kid; have b0 := kb8.k0; have b1 := kb8.k1; have b2 := kb8.k2; have z81 := ((Has.made w6 33 #[.int .i64 pa, .bool lfa, .slice Aa na ca]).alloc (.cells #[.int .i64 pb, .bool lfb, .slice Ab nb cb] 33)).cell 1; have z82 := (((Has.made w6 33 #[.int .i64 pa, .bool lfa, .slice Aa na ca]).alloc (.cells #[.int .i64 pb, .bool lfb, .slice Ab nb cb] 33)).alloc (.cells #[.int .i64 0, .bool lfa, .slice none 0 0] 33)).cell 2; have zt : Has (((w6.alloc (.cells #[.int .i64 pa, .bool lfa, .slice Aa na ca] 33)).alloc (.cells #[.int .i64 pb, .bool lfb, .slice Ab nb cb] 33)).alloc (.cells #[.int .i64 0, .bool lfa, .slice none 0 0] 33)) (w6.heap.size + 1 + 1) 33 #[.int .i64 0, .bool lfa, .slice none 0 0] := (by have := Has.made ((w6.alloc (.cells #[.int .i64 pa, .bool lfa, .slice Aa na ca] 33)).alloc (.cells #[.int .i64 pb, .bool lfb, .slice Ab nb cb] 33)) 33 #[.int .i64 0, .bool lfa, .slice none 0 0]; simpa using this); have zt2 := zt.cell 2; have h9 : Has (((w6.alloc (.cells #[.int .i64 pa, .bool lfa, .slice Aa na ca] 33)).alloc (.cells #[.int .i64 pb, .bool lfb, .slice Ab nb cb] 33)).alloc (.cells #[.int .i64 0, .bool lfa, .slice none 0 0] 33)) (w6.heap.size + 1) 33 #[.int .i64 pb, .bool lfb, .slice Ab nb cb] := (by have := (Has.made (w6.alloc (.cells #[.int .i64 pa, .bool lfa, .slice Aa na ca] 33)) 33 #[.int .i64 pb, .bool lfb, .slice Ab nb cb]).alloc (.cells #[.int .i64 0, .bool lfa, .slice none 0 0] 33); simpa using this); have bw10 : Below w.heap.size w (((w6.alloc (.cells #[.int .i64 pa, .bool lfa, .slice Aa na ca] 33)).alloc (.cells #[.int .i64 pb, .bool lfb, .slice Ab nb cb] 33)).alloc (.cells #[.int .i64 0, .bool lfa, .slice none 0 0] 33)) := ((B6.out.alloc B6.out.size _).alloc (by have := B6.out.size; simp; omega) _).alloc (by have := B6.out.size; simp; omega) _; have ms : MdS w (w5.heap.size + 1) P2 P4 w5.heap.size (w6.heap.size + 1) (w6.heap.size + 1 + 1) #[.int .i64 p', .bool false, .slice (some ⟨g, off, none⟩) n c] #[.int .i64 0, .bool false, .slice none 0 0] #[.int .i64 p', .bool false, .slice (some ⟨g, off, none⟩) n c] #[.int .i64 pb, .bool lfb, .slice Ab nb cb] lfa [] (((w6.alloc (.cells #[.int .i64 pa, .bool lfa, .slice Aa na ca] 33)).alloc (.cells #[.int .i64 pb, .bool lfb, .slice Ab nb cb] 33)).alloc (.cells #[.int .i64 0, .bool lfa, .slice none 0 0] 33)) := ⟨bw10, ((X6.out.alloc _).alloc _).alloc _, ((Z6.out.alloc _).alloc _).alloc _, ((X5.out.alloc _).alloc _).alloc _, h9, none, 0, World.ownsRow_nil _ _ _ _, zt, Nat.le_refl _, Nat.zero_le _⟩; have MS := Lib.hid ms; have ZT := Lib.hid zt; clear zt h9 ms ka6 kb8)
        | (at_builtin; refine wpList_append_rw rfl _ _ 31 rfl (w5.heap.size + 1) 53 ti _ 4 80 Try.underlying31 hi hz0 hz1 hz2t rfl (by decide) _ 0 [] rfl (World.ownsRow_nil _ _ _ _) _ na _ _ rfl (HRA.out _ MS.out.bel) (one_cells _) (by unfold maxLen; omega) (by omega) (by have := X5.out.lt; simp; omega) ?_; intro v12 w12 p12 q12; obtain ⟨A12, c12, rfl, k12, m12⟩ := MS.out.app (m := na) (more := eka) (v' := v12) (w' := w12) (World.ownsRow_nil _ _ _ _) ZT.out (by simpa [flatC] using p12) (by simpa using HNA.out) q12 (by have := HB0.out.size; have := HP5.out; omega) (by have := X6.out.lt; omega) (by have := Z6.out.lt; omega) (by have := X5.out.lt; omega) (by omega) (by have := B6.out.size; omega); have t10 := k12.cell 2; have f10 := k12.free 2; (try rw [Nat.zero_add]); have M12 := Lib.hid m12; clear m12 p12 q12))
      obtain ⟨P5, hP5⟩ : ∃ P, w5.heap.size = P := ⟨_, rfl⟩
      obtain ⟨P9, hP9⟩ : ∃ P, w6.heap.size + 1 = P := ⟨_, rfl⟩
      obtain ⟨P10, hP10⟩ : ∃ P, P9 + 1 = P := ⟨_, rfl⟩
      have HORD : Hid (P2 < P4 ∧ P4 < P5 ∧ P5 < P9 ∧ P9 < P10 ∧ w.heap.size = P2) := Lib.hid ⟨hPl, by have := HP5.out; have := HX4.out.lt; omega, by have := X5.out.lt; omega, by omega, hP2⟩
      have ms := M12.out
      rw [hP9, hP10, hP5, List.nil_append] at ms
      rw [hP9, hP10, hP5]
      obtain ⟨W12, hW12⟩ : ∃ W, w12.setCell ⟨P10, 2, none⟩ (.slice A12 na c12) = W := ⟨_, rfl⟩
      rw [hW12] at ms ⊢
      clear hW12 M12 MS ZT k12 t10 f10 X5 X6 Y5 Y2 Z4 Z6 BW5 B6 HSZ HLW HPT2 hW HX2 HX4 HB0 hP5 hP9 hP10 hPl HP5 HKC
      go_loopw [11] (fun v wr => ∃ i : Nat, v = .int .i64 (i : Int) ∧ i ≤ nb ∧ MdS w (P5 + 1) P2 P4 P5 P9 P10 #[.int .i64 p', .bool false, .slice (some ⟨g, off, none⟩) n c] #[.int .i64 0, .bool false, .slice none 0 0] #[.int .i64 p', .bool false, .slice (some ⟨g, off, none⟩) n c] #[.int .i64 pb, .bool lfb, .slice Ab nb cb] lfa (eka ++ yb.take i) wr) (fun v _ => nb - (intOf v).toNat)
      case atStart => exact ⟨0, rfl, Nat.zero_le _, by rw [List.take_zero, List.append_nil]; exact ms⟩
      case round =>
          obtain ⟨i, rfl, hib, hms⟩ := hrel
          have HMSr := Lib.hid hms
          have y92 := hms.h9.cell 2
          have y91 := hms.h9.cell 1
          have y22 := hms.h2.cell 2
          obtain ⟨Ax, cx, ho, ht, hcx, hcm⟩ := hms.row
          obtain ⟨mm, hmm⟩ : ∃ m, (eka ++ yb.take i).length = m := ⟨_, rfl⟩
          have HMML := Lib.hid hmm
          have hmb : mm ≤ 100 := by rw [← hmm, List.length_append, List.length_take, ← HNA.out, HYL.out]; omega
          have HT := Lib.hid ht
          rw [hmm] at ho ht
          have kb := HKB.out.below hms.bel (Nat.le_refl _)
          have kbk := kb.key
          by_cases hlt : i < nb
          · obtain ⟨e2, he2⟩ : ∃ e2, ekb[i]? = some e2 := ⟨_, List.getElem?_eq_getElem (by rw [← HNB5.out]; exact hlt)⟩
            obtain ⟨g3, o3, hA3, _, f0, f1, f2, f3⟩ := (HRB.out _ hms.bel).at4 he2
            obtain rfl := hA3
            have hi0 : (0 : Int) ≤ (i : Int) := by omega
            have hi1 : (i : Int) < (nb : Int) := by omega
            obtain ⟨sx, hsx⟩ : ∃ s : ByteArray, (⟨e2.k.toArray⟩ : ByteArray) = s := ⟨_, rfl⟩
            obtain ⟨sd, hsd⟩ : ∃ s : ByteArray, (⟨e2.d.toArray⟩ : ByteArray) = s := ⟨_, rfl⟩
            obtain ⟨skb, hskb⟩ : ∃ s : ByteArray, (⟨eb.k.toArray⟩ : ByteArray) = s := ⟨_, rfl⟩
            rw [hsx] at f0
            rw [hsd] at f1
            rw [hskb] at kbk
            have HE2 := Lib.hid he2
            have y91a := (HMSr.out.h9.alloc (.cells #[.string sx, .string sd, .slice e2.pa e2.pn e2.pc, .slice e2.ka e2.kn e2.kc] 53)).cell 1
            have y22a := (HMSr.out.h2.alloc (.cells #[.string sx, .string sd, .slice e2.pa e2.pn e2.pc, .slice e2.ka e2.kn e2.kc] 53)).cell 2
            have kbka := cell_below kbk ((Below.refl _ wr).alloc (Nat.le_refl _) (.cells #[.string sx, .string sd, .slice e2.pa e2.pn e2.pc, .slice e2.ka e2.kn e2.kc] 53))
            clear hmm he2 kb ht hms
            by_cases hfirst : i = 0 ∧ lfb = false
            · obtain ⟨hi00, hlf0⟩ := hfirst
              subst hlf0
              have hz00 : ((i : Int) == 0) = true := by simp [hi00]
              have hyi : yb[i]? = some { e2 with k := eb.k } := by
                have h1 : keyE eb.k ekb = yb := HYB.out
                have h2 := HE2.out
                subst hi00
                rw [← h1]
                cases ekb with
                | nil => cases h2
                | cons y t => rw [List.getElem?_cons_zero] at h2; cases h2; rfl
              clear hi00
              have HYEV : Hid (flatC [({ e2 with k := eb.k } : CE)] = [.string skb, .string sd, .slice e2.pa e2.pn e2.pc, .slice e2.ka e2.kn e2.kc]) := Lib.hid (by simp [flatC, ceV, hskb, hsd])
              have HYT : Hid (yb.take (i + 1) = yb.take i ++ [({ e2 with k := eb.k } : CE)]) := Lib.hid (by rw [List.take_add_one, show yb[i]? = some ({ e2 with k := eb.k } : CE) from hyi]; rfl)
              have HMS2 := Lib.hid ((HMSr.out.alloc (.cells #[.string skb, .string sd, .slice e2.pa e2.pn e2.pc, .slice e2.ka e2.kn e2.kc] 53)).alloc (.cells #[.string skb, .string sd, .slice e2.pa e2.pn e2.pc, .slice e2.ka e2.kn e2.kc] 53))
              have HO : Hid (((wr.alloc (.cells #[.string skb, .string sd, .slice e2.pa e2.pn e2.pc, .slice e2.ka e2.kn e2.kc] 53)).alloc (.cells #[.string skb, .string sd, .slice e2.pa e2.pn e2.pc, .slice e2.ka e2.kn e2.kc] 53)).ownsRow (P5 + 1) 53 4 (.slice Ax mm cx) mm (flatC (eka ++ yb.take i))) := Lib.hid ((ho.alloc _).alloc _)
              have HT2 : Hid (Has ((wr.alloc (.cells #[.string skb, .string sd, .slice e2.pa e2.pn e2.pc, .slice e2.ka e2.kn e2.kc] 53)).alloc (.cells #[.string skb, .string sd, .slice e2.pa e2.pn e2.pc, .slice e2.ka e2.kn e2.kc] 53)) P10 33 #[.int .i64 0, .bool lfa, .slice Ax (eka ++ yb.take i).length cx]) := Lib.hid ((HT.out.alloc _).alloc _)
              have q102 := (HT.out.alloc (.cells #[.string skb, .string sd, .slice e2.pa e2.pn e2.pc, .slice e2.ka e2.kn e2.kc] 53)).cell 2
              rw [HMML.out] at q102
              clear ho
              go_wp2_with (at_builtin; refine wpList_append_rw rfl _ _ 31 rfl (P5 + 1) 53 ti _ 4 80 Try.underlying31 hi hz0 hz1 hz2t rfl (by decide) _ mm _ rfl (HO.out) _ 1 1 [.string skb, .string sd, .slice e2.pa e2.pn e2.pc, .slice e2.ka e2.kn e2.kc] rfl (F := fun _ => True) ?_ ?_ (by unfold maxLen; omega) (by omega) ?_ ?_; (have hmk := RwF.made (fun _ => True) (wr.alloc (.cells #[.string skb, .string sd, .slice e2.pa e2.pn e2.pc, .slice e2.ka e2.kn e2.kc] 53)) 53 [.string skb, .string sd, .slice e2.pa e2.pn e2.pc, .slice e2.ka e2.kn e2.kc] 1 4 rfl (by decide) trivial; simpa using hmk); (intro u hu; simp at hu; rcases hu with rfl | rfl | rfl | rfl <;> rfl); (have := HORD.out; have := HMSr.out.h5.lt; simp; omega); intro v13 w13 p13 q13; obtain ⟨A13, c13, rfl, k13, m13⟩ := (HMS2.out).app (m := mm + 1) (more := [({ e2 with k := eb.k } : CE)]) (v' := v13) (w' := w13) (by rw [HMML.out]; exact HO.out) HT2.out (by rw [HYEV.out]; exact p13) (by rw [← HMML.out]; rfl) (by rw [HMML.out]; exact q13) (by have := HORD.out; omega) (by have := HORD.out; omega) (by have := HORD.out; omega) (by have := HORD.out; omega) (by have := HORD.out; omega) (by have := HORD.out; omega); have u10 := k13.cell 2; rw [HMML.out] at u10; have v10 := k13.free 2; have M13 := Lib.hid m13; clear m13 p13 q13)
              go_roundw
              case rel => exact ⟨i + 1, by go_num, by omega, by rw [HYT.out, ← List.append_assoc]; exact M13.out⟩
              case measure => simp [intOf]; omega
            · have hyi : yb[i]? = some e2 := by
                have h1 := HYB.out
                have h2 := HE2.out
                rw [← h1]
                cases lfb
                · have hi2 : i ≠ 0 := fun e => hfirst ⟨e, rfl⟩
                  rw [if_neg (by decide)]
                  cases ekb with
                  | nil => cases h2
                  | cons y t =>
                    cases i with
                    | zero => exact absurd rfl hi2
                    | succ i => rw [List.getElem?_cons_succ] at h2; rw [keyE, List.getElem?_cons_succ]; exact h2
                · rw [if_pos rfl]
                  exact h2
              cases hq0 : ((i : Int) == 0)
              · clear hfirst
                have HYEV : Hid (flatC [e2] = [.string sx, .string sd, .slice e2.pa e2.pn e2.pc, .slice e2.ka e2.kn e2.kc]) := Lib.hid (by simp [flatC, ceV, hsx, hsd])
                have HYT : Hid (yb.take (i + 1) = yb.take i ++ [e2]) := Lib.hid (by rw [List.take_add_one, show yb[i]? = some e2 from hyi]; rfl)
                have HMS2 := Lib.hid ((HMSr.out.alloc (.cells #[.string sx, .string sd, .slice e2.pa e2.pn e2.pc, .slice e2.ka e2.kn e2.kc] 53)).alloc (.cells #[.string sx, .string sd, .slice e2.pa e2.pn e2.pc, .slice e2.ka e2.kn e2.kc] 53))
                have HO : Hid (((wr.alloc (.cells #[.string sx, .string sd, .slice e2.pa e2.pn e2.pc, .slice e2.ka e2.kn e2.kc] 53)).alloc (.cells #[.string sx, .string sd, .slice e2.pa e2.pn e2.pc, .slice e2.ka e2.kn e2.kc] 53)).ownsRow (P5 + 1) 53 4 (.slice Ax mm cx) mm (flatC (eka ++ yb.take i))) := Lib.hid ((ho.alloc _).alloc _)
                have HT2 : Hid (Has ((wr.alloc (.cells #[.string sx, .string sd, .slice e2.pa e2.pn e2.pc, .slice e2.ka e2.kn e2.kc] 53)).alloc (.cells #[.string sx, .string sd, .slice e2.pa e2.pn e2.pc, .slice e2.ka e2.kn e2.kc] 53)) P10 33 #[.int .i64 0, .bool lfa, .slice Ax (eka ++ yb.take i).length cx]) := Lib.hid ((HT.out.alloc _).alloc _)
                have q102 := (HT.out.alloc (.cells #[.string sx, .string sd, .slice e2.pa e2.pn e2.pc, .slice e2.ka e2.kn e2.kc] 53)).cell 2
                rw [HMML.out] at q102
                clear ho
                go_wp2_with (at_builtin; refine wpList_append_rw rfl _ _ 31 rfl (P5 + 1) 53 ti _ 4 80 Try.underlying31 hi hz0 hz1 hz2t rfl (by decide) _ mm _ rfl (HO.out) _ 1 1 [.string sx, .string sd, .slice e2.pa e2.pn e2.pc, .slice e2.ka e2.kn e2.kc] rfl (F := fun _ => True) ?_ ?_ (by unfold maxLen; omega) (by omega) ?_ ?_; (have hmk := RwF.made (fun _ => True) (wr.alloc (.cells #[.string sx, .string sd, .slice e2.pa e2.pn e2.pc, .slice e2.ka e2.kn e2.kc] 53)) 53 [.string sx, .string sd, .slice e2.pa e2.pn e2.pc, .slice e2.ka e2.kn e2.kc] 1 4 rfl (by decide) trivial; simpa using hmk); (intro u hu; simp at hu; rcases hu with rfl | rfl | rfl | rfl <;> rfl); (have := HORD.out; have := HMSr.out.h5.lt; simp; omega); intro v13 w13 p13 q13; obtain ⟨A13, c13, rfl, k13, m13⟩ := (HMS2.out).app (m := mm + 1) (more := [e2]) (v' := v13) (w' := w13) (by rw [HMML.out]; exact HO.out) HT2.out (by rw [HYEV.out]; exact p13) (by rw [← HMML.out]; rfl) (by rw [HMML.out]; exact q13) (by have := HORD.out; omega) (by have := HORD.out; omega) (by have := HORD.out; omega) (by have := HORD.out; omega) (by have := HORD.out; omega) (by have := HORD.out; omega); have u10 := k13.cell 2; rw [HMML.out] at u10; have v10 := k13.free 2; have M13 := Lib.hid m13; clear m13 p13 q13)
                go_roundw
                case rel => exact ⟨i + 1, by go_num, by omega, by rw [HYT.out, ← List.append_assoc]; exact M13.out⟩
                case measure => simp [intOf]; omega
              · have hlft : lfb = true := by
                  cases lfb
                  · exact absurd ⟨by simpa using hq0, rfl⟩ hfirst
                  · rfl
                subst hlft
                clear hfirst
                have HYEV : Hid (flatC [e2] = [.string sx, .string sd, .slice e2.pa e2.pn e2.pc, .slice e2.ka e2.kn e2.kc]) := Lib.hid (by simp [flatC, ceV, hsx, hsd])
                have HYT : Hid (yb.take (i + 1) = yb.take i ++ [e2]) := Lib.hid (by rw [List.take_add_one, show yb[i]? = some e2 from hyi]; rfl)
                have HMS2 := Lib.hid ((HMSr.out.alloc (.cells #[.string sx, .string sd, .slice e2.pa e2.pn e2.pc, .slice e2.ka e2.kn e2.kc] 53)).alloc (.cells #[.string sx, .string sd, .slice e2.pa e2.pn e2.pc, .slice e2.ka e2.kn e2.kc] 53))
                have HO : Hid (((wr.alloc (.cells #[.string sx, .string sd, .slice e2.pa e2.pn e2.pc, .slice e2.ka e2.kn e2.kc] 53)).alloc (.cells #[.string sx, .string sd, .slice e2.pa e2.pn e2.pc, .slice e2.ka e2.kn e2.kc] 53)).ownsRow (P5 + 1) 53 4 (.slice Ax mm cx) mm (flatC (eka ++ yb.take i))) := Lib.hid ((ho.alloc _).alloc _)
                have HT2 : Hid (Has ((wr.alloc (.cells #[.string sx, .string sd, .slice e2.pa e2.pn e2.pc, .slice e2.ka e2.kn e2.kc] 53)).alloc (.cells #[.string sx, .string sd, .slice e2.pa e2.pn e2.pc, .slice e2.ka e2.kn e2.kc] 53)) P10 33 #[.int .i64 0, .bool lfa, .slice Ax (eka ++ yb.take i).length cx]) := Lib.hid ((HT.out.alloc _).alloc _)
                have q102 := (HT.out.alloc (.cells #[.string sx, .string sd, .slice e2.pa e2.pn e2.pc, .slice e2.ka e2.kn e2.kc] 53)).cell 2
                rw [HMML.out] at q102
                clear ho
                go_wp2_with (at_builtin; refine wpList_append_rw rfl _ _ 31 rfl (P5 + 1) 53 ti _ 4 80 Try.underlying31 hi hz0 hz1 hz2t rfl (by decide) _ mm _ rfl (HO.out) _ 1 1 [.string sx, .string sd, .slice e2.pa e2.pn e2.pc, .slice e2.ka e2.kn e2.kc] rfl (F := fun _ => True) ?_ ?_ (by unfold maxLen; omega) (by omega) ?_ ?_; (have hmk := RwF.made (fun _ => True) (wr.alloc (.cells #[.string sx, .string sd, .slice e2.pa e2.pn e2.pc, .slice e2.ka e2.kn e2.kc] 53)) 53 [.string sx, .string sd, .slice e2.pa e2.pn e2.pc, .slice e2.ka e2.kn e2.kc] 1 4 rfl (by decide) trivial; simpa using hmk); (intro u hu; simp at hu; rcases hu with rfl | rfl | rfl | rfl <;> rfl); (have := HORD.out; have := HMSr.out.h5.lt; simp; omega); intro v13 w13 p13 q13; obtain ⟨A13, c13, rfl, k13, m13⟩ := (HMS2.out).app (m := mm + 1) (more := [e2]) (v' := v13) (w' := w13) (by rw [HMML.out]; exact HO.out) HT2.out (by rw [HYEV.out]; exact p13) (by rw [← HMML.out]; rfl) (by rw [HMML.out]; exact q13) (by have := HORD.out; omega) (by have := HORD.out; omega) (by have := HORD.out; omega) (by have := HORD.out; omega) (by have := HORD.out; omega) (by have := HORD.out; omega); have u10 := k13.cell 2; rw [HMML.out] at u10; have v10 := k13.free 2; have M13 := Lib.hid m13; clear m13 p13 q13)
                go_roundw
                case rel => exact ⟨i + 1, by go_num, by omega, by rw [HYT.out, ← List.append_assoc]; exact M13.out⟩
                case measure => simp [intOf]; omega
          · obtain rfl : i = nb := by omega
            have htk : yb.take i = yb := List.take_of_length_le (by rw [HYL.out]; exact Nat.le_refl _)
            rw [htk] at hmm ho hms HMML HT
            have hi1 : ¬ (i : Int) < (i : Int) := by omega
            have HWI : Hid (Calls Try.prog 46 #[.slice (some ⟨g, off, none⟩) n c, .int .i64 ((j : Int) + 1), .slice none 0 0] wr (CellsE (es.take (j + 1) ++ ([] ++ es.drop (j + 1 + 1))) wr)) := Lib.hid (by
              have := r15with_es F (fun _ => True) es [] (some ⟨g, off, none⟩) none n c 0 0 (j + 1) wr (HES.out.below hms.bel) (RwF.none_ _ _ _) (by omega) (by omega) (by omega)
              rw [show ((j + 1 : Nat) : Int) = (j : Int) + 1 by omega] at this
              exact this)
            have HBO := Lib.hid ho
            obtain ⟨Ay, cy, hsl, hrowb⟩ := RwF.own ho
            injection hsl with e1 _ e3
            subst e1 e3
            obtain ⟨mb, hmb2⟩ : ∃ x, mm = x := ⟨_, rfl⟩
            rw [hmb2] at hrowb ho HBO HMML hmb
            have HRW := Lib.hid hrowb
            have H10 : Hid (Has wr P10 33 #[.int .i64 0, .bool lfa, .slice Ax mb cx]) := Lib.hid (by have := HT.out; rw [HMML.out] at this; exact this)
            have HMS := Lib.hid hms
            obtain ⟨ska, hska⟩ : ∃ s : ByteArray, (⟨ea.k.toArray⟩ : ByteArray) = s := ⟨_, rfl⟩
            have HLN : Hid (∀ cm : CE, (es.take j ++ ([cm] ++ es.drop (j + 2))).length = n - 1) := Lib.hid (fun cm => by
              have h1 := HTD.out.2.2
              rw [List.nil_append, List.length_append, List.length_take, List.length_drop] at h1
              have h2 := HES.out.len4
              rw [List.length_append, List.length_append, List.length_take, List.length_drop]
              simp only [List.length_cons, List.length_nil]
              omega)
            clear hmm hmb2 ho hrowb htk HT kb
            go_wp2_with (go_at_call 46; (with_reducible refine HWI.out.mono ?_); rintro r20 w20 ⟨A20, c20, rfl, r20, b20⟩; rw [HTD.out.2.2] at r20 ⊢; have R20 := Lib.hid r20; have B20 := Lib.hid b20; clear r20 b20)
            have H2 := Lib.hid (HMS.out.h2.below B20.out HMS.out.h2.lt)
            have H4 := Lib.hid (HMS.out.h4.below B20.out HMS.out.h4.lt)
            have H5 := Lib.hid (HMS.out.h5.below B20.out HMS.out.h5.lt)
            have H10b := Lib.hid (H10.out.below B20.out H10.out.lt)
            have BW20 := Lib.hid (below_step HMS.out.bel B20.out)
            have HRW20 := Lib.hid (HRW.out.below B20.out)
            have ka20 := HKA.out.below BW20.out (Nat.le_refl _)
            have HXL : Hid (∀ w' : World, w20.grownBy w' (some P5) → w'.cell? ⟨P2, 2, none⟩ = some (.slice (some ⟨g, off, none⟩) n c)) := Lib.hid (fun w' hb => (H2.out.grown hb (by intro e; injection e with e; have := HORD.out; omega)).cell 2)
            have HX10 : Hid (∀ w' : World, w20.grownBy w' (some P5) → w'.cell? ⟨P10, 0, none⟩ = some (.int .i64 0) ∧ w'.cell? ⟨P10, 1, none⟩ = some (.bool lfa) ∧ w'.cell? ⟨P10, 2, none⟩ = some (.slice Ax mb cx)) := Lib.hid (fun w' hb => have z := H10b.out.grown hb (by intro e; injection e with e; have := HORD.out; omega); ⟨z.cell 0, z.cell 1, z.cell 2⟩)
            have hglt : g < w.heap.size := World.block_lt_of_cell? w _ HKA.out.key
            have hk20 := ka20.key
            rw [hska] at hk20
            have HKY : Hid (∀ w' : World, w20.grownBy w' (some P5) → w'.cell? ⟨g, off + j * 4, none⟩ = some (.string ska)) := Lib.hid (fun w' hb => (cell_same (p := ⟨g, off + j * 4, none⟩) (hb.block g (by have := BW20.out.size; omega) (fun e => by injection e with e; have := HORD.out; omega))).trans hk20)
            have hS0 : w20.grownBy w20.drew (some P5) := ⟨rfl, rfl, rfl, Nat.le_refl _, fun _ _ _ => rfl⟩
            have hT0 : Below w20.heap.size w20 w20.drew := (Below.refl _ w20).drew
            have hn1 : j < n - 1 := by omega
            clear ka20 hk20 y92 y91 y22 kbk
            go_wp2
            first | (rename_i K hK; refine wp_held (fun w' : World => w20.grownBy w' (some P5)) K hmx ?_ (fun _ _ h => h)) | (rename_i K hK hz; refine wp_held (fun w' : World => w20.grownBy w' (some P5)) K hmx ?_ (fun _ _ h => h))
            obtain ⟨Wd, hWd⟩ : ∃ W, w20.drew = W := ⟨_, rfl⟩
            rw [hWd] at hS0 hT0 ⊢
            have hwd : w20.heap.size = Wd.heap.size := by rw [← hWd]; rfl
            have HWD := Lib.hid hwd
            clear hwd hWd
            refine wpAnyH_take (i := 0) (v := .slice A20 (n - 1) c20) (lit rfl) (by kernel_rfl) (by kernel_rfl) (by kernel_rfl) (fun _ _ _ h => h) (Or.inl ⟨by rfl, ?_⟩) hS0 ?_
            · rintro w6 hb6
              go_simp
            simp only [Act.put, List.setIfInBounds_toArray, List.set_cons_zero, List.set_cons_succ]
            refine wpAnyH_take (i := 1) (v := .int .i64 (j : Int)) (lit rfl) (by kernel_rfl) (by kernel_rfl) (by kernel_rfl) (fun _ _ _ h => h) (Or.inl ⟨by rfl, ?_⟩) hS0 ?_
            · rintro w6 hb6
              go_simp
            simp only [Act.put, List.setIfInBounds_toArray, List.set_cons_zero, List.set_cons_succ]
            refine wpAnyH_take (i := 2) (v := .pointer (some ⟨P2, 2, none⟩)) (lit rfl) (by kernel_rfl) (by kernel_rfl) (by kernel_rfl) (fun _ _ _ h => h) (Or.inl ⟨by rfl, ?_⟩) hS0 ?_
            · rintro w6 hb6
              go_simp
            simp only [Act.put, List.setIfInBounds_toArray, List.set_cons_zero, List.set_cons_succ]
            refine wpAnyH_take (i := 3) (v := .slice (some ⟨g, off, none⟩) n c) (lit rfl) (by kernel_rfl) (by kernel_rfl) (by kernel_rfl) (fun _ _ _ h => h) (Or.inl ⟨by rfl, ?_⟩) hS0 ?_
            · rintro w6 hb6
              have y6 := HXL.out w6 hb6
              go_simp
            simp only [Act.put, List.setIfInBounds_toArray, List.set_cons_zero, List.set_cons_succ]
            refine wpAnyH_take (i := 4) (v := .int .i64 (j : Int)) (lit rfl) (by kernel_rfl) (by kernel_rfl) (by kernel_rfl) (fun _ _ _ h => h) (Or.inl ⟨by rfl, ?_⟩) hS0 ?_
            · rintro w6 hb6
              go_simp
            simp only [Act.put, List.setIfInBounds_toArray, List.set_cons_zero, List.set_cons_succ]
            refine wpAnyH_take (i := 5) (v := .pointer (some ⟨g, off + j * 4, none⟩)) (lit rfl) (by kernel_rfl) (by kernel_rfl) (by kernel_rfl) (fun _ _ _ h => h) (Or.inl ⟨by rfl, ?_⟩) hS0 ?_
            · rintro w6 hb6
              go_simp
            simp only [Act.put, List.setIfInBounds_toArray, List.set_cons_zero, List.set_cons_succ]
            refine wpAnyH_take (i := 6) (v := .pointer (some ⟨g, off + j * 4, none⟩)) (lit rfl) (by kernel_rfl) (by kernel_rfl) (by kernel_rfl) (fun _ _ _ h => h) (Or.inl ⟨by rfl, ?_⟩) hS0 ?_
            · rintro w6 hb6
              go_simp
            simp only [Act.put, List.setIfInBounds_toArray, List.set_cons_zero, List.set_cons_succ]
            refine wpAnyH_take (i := 7) (v := .string ska) (lit rfl) (by kernel_rfl) (by kernel_rfl) (by kernel_rfl) (fun _ _ _ h => h) (Or.inl ⟨by rfl, ?_⟩) hS0 ?_
            · rintro w6 hb6
              have y6 := HKY.out w6 hb6
              go_simp
            simp only [Act.put, List.setIfInBounds_toArray, List.set_cons_zero, List.set_cons_succ]
            refine wpAnyH_take (i := 8) (v := .agg #[.int .i64 0, .bool lfa, .slice Ax mb cx]) (lit rfl) (by kernel_rfl) (by kernel_rfl) (by kernel_rfl) (fun _ _ _ h => h) (Or.inl ⟨by rfl, ?_⟩) hS0 ?_
            · rintro w6 hb6
              obtain ⟨y60, y61, y62⟩ := HX10.out w6 hb6
              go_simp
            simp only [Act.put, List.setIfInBounds_toArray, List.set_cons_zero, List.set_cons_succ]
            refine wpAnyH_ready (rs := [9]) (by kernel_rfl) (by simp) ?_
            refine AllReadyH.cons (lit rfl) (fun K5 hK5 => ?_) AllReadyH.nil
            refine step_open rfl ?_
            go_simp
            obtain ⟨V1, hV1⟩ : ∃ W, Wd.alloc (.cells #[.int .i64 0, .bool lfa, .slice Ax mb cx] 33) = W := ⟨_, rfl⟩
            have m1 := RwF.made (fun q => q = Wd.heap.size) Wd 33 (nvL ⟨0, lfa, Ax, mb, cx⟩) 1 3 rfl (by decide) rfl
            have M1 := Lib.hid (hV1 ▸ m1 : RwF _ V1 _ _ _ _ _)
            have hT1 : Below w20.heap.size w20 V1 := hV1 ▸ below_alloc' hT0 _
            have hS1 : w20.grownBy V1 (some P5) := only_of_below hT1 (Nat.le_refl _)
            try rw [hV1]
            obtain ⟨GX, hGX⟩ : ∃ G, Wd.heap.size = G := ⟨_, rfl⟩
            try rw [hGX]
            rw [hGX] at M1
            clear m1
            refine hK5.out _ _ hS1 (fun _ => ?_)
            clear hK5 K5
            refine wpAnyH_take (i := 10) (v := .agg #[.string ska, .string ⟨#[]⟩, .slice none 0 0, .slice (some ⟨GX, 0, none⟩) 1 1]) (lit rfl) (by kernel_rfl) (by kernel_rfl) (by kernel_rfl) (fun _ _ _ h => h) (Or.inl ⟨by rfl, ?_⟩) hS1 ?_
            · rintro w6 hb6
              go_simp
            simp only [Act.put, List.setIfInBounds_toArray, List.set_cons_zero, List.set_cons_succ]
            refine wpAnyH_ready (rs := [11]) (by kernel_rfl) (by simp) ?_
            refine AllReadyH.cons (lit rfl) (fun K5 hK5 => ?_) AllReadyH.nil
            refine step_open rfl ?_
            go_simp
            obtain ⟨V2, hV2⟩ : ∃ W, V1.alloc (.cells #[.string ska, .string ⟨#[]⟩, .slice none 0 0, .slice (some ⟨GX, 0, none⟩) 1 1] 53) = W := ⟨_, rfl⟩
            have m2 := RwF.made (fun q => q = V1.heap.size) V1 53 (flatC [(⟨ea.k, [], none, 0, 0, some ⟨GX, 0, none⟩, 1, 1⟩ : CE)]) 1 4 rfl (by decide) rfl
            rw [show (flatC [(⟨ea.k, [], none, 0, 0, some ⟨GX, 0, none⟩, 1, 1⟩ : CE)]).toArray = #[.string ska, .string ⟨#[]⟩, .slice none 0 0, .slice (some ⟨GX, 0, none⟩) 1 1] from by simp [flatC, ceV, hska]] at m2
            have M2 := Lib.hid (hV2 ▸ m2 : RwF _ V2 _ _ _ _ _)
            have hb12 : Below V1.heap.size V1 V2 := hV2 ▸ (Below.refl _ V1).alloc (Nat.le_refl _) _
            have hT2 : Below w20.heap.size w20 V2 := below_step hT1 hb12
            have hS2 : w20.grownBy V2 (some P5) := only_of_below hT2 (Nat.le_refl _)
            try rw [hV2]
            clear m2
            refine hK5.out _ _ hS2 (fun _ => ?_)
            clear hK5 K5
            refine wpAnyH_ready (rs := [12]) (by kernel_rfl) (by simp) ?_
            refine AllReadyH.cons (lit rfl) (fun K5 hK5 => ?_) AllReadyH.nil
            refine step_open rfl ?_
            go_simp
            go_at_call 46
            (with_reducible refine (r15with_es (fun q => wr.heap.size ≤ q) _ (es.take (j + 1) ++ ([] ++ es.drop (j + 1 + 1))) [(⟨ea.k, [], none, 0, 0, some ⟨GX, 0, none⟩, 1, 1⟩ : CE)] A20 _ (n - 1) c20 1 1 j V2 (R20.out.below hT2) M2.out (by omega) (by omega) (by omega)).mono ?_)
            rintro r17 w17 ⟨A17, c17, rfl, r17, b17⟩
            rw [HTD.out.1, HTD.out.2.1] at r17 ⊢
            have hln : (es.take j ++ ([(⟨ea.k, [], none, 0, 0, some ⟨GX, 0, none⟩, 1, 1⟩ : CE)] ++ es.drop (j + 2))).length = n - 1 := HLN.out _
            rw [hln] at r17 ⊢
            have hT4 : Below w20.heap.size w20 w17 := below_step hT2 b17
            have hS4 : w20.grownBy w17 (some P5) := only_of_below hT4 (Nat.le_refl _)
            have Z5c := H5.out.below hT4 H5.out.lt
            have z50 := Z5c.cell 0
            have z51 := Z5c.cell 1
            have z52 := Z5c.cell 2
            have z53 := Z5c.free 0
            have z54 := Z5c.free 1
            have z55 := Z5c.free 2
            refine hK5.out _ _ hS4 (fun _ => ?_)
            clear hK5 K5
            refine wpAnyH_take (i := 13) (v := .agg #[.int .i64 0, .bool false, .slice A17 (n - 1) c17]) (lit rfl) (by kernel_rfl) (by kernel_rfl) (by kernel_rfl) (fun _ _ _ h => h) (Or.inl ⟨by rfl, ?_⟩) hS4 ?_
            · rintro w6 hb6
              go_simp
            simp only [Act.put, List.setIfInBounds_toArray, List.set_cons_zero, List.set_cons_succ]
            refine wpAnyH_ready (rs := [14]) (by kernel_rfl) (by simp) ?_
            refine AllReadyH.cons (lit rfl) (fun K5 hK5 => ?_) AllReadyH.nil
            refine step_open rfl ?_
            go_simp
            have hS5 : w20.grownBy (stN w17 P5 (.int .i64 0) (.bool false) (.slice A17 (n - 1) c17)) (some P5) := only_store (only_store (only_store hS4 0 _) 1 _) 2 _
            unfold stN at hS5
            refine hK5.out _ _ hS5 (fun _ => ?_)
            clear hK5 K5
            refine wpAnyH_done (by kernel_rfl) ?_ _
            refine hK _ _ ?_
            obtain ⟨W21, hW21⟩ : ∃ W, stN w17 P5 (.int .i64 0) (.bool false) (.slice A17 (n - 1) c17) = W := ⟨_, rfl⟩
            have X5 := Z5c.setN (.int .i64 0) (.bool false) (.slice A17 (n - 1) c17)
            rw [hW21] at X5
            have hW21b := hW21
            unfold stN at hW21b
            try rw [hW21b]
            have ord := HORD.out
            have h20 := HMS.out.h5.lt
            have h20b := B20.out.size
            have hwd := HWD.out
            have ht4 := hT4.size
            have ht2 := hT2.size
            have ht1 := hT1.size
            have hgxl : GX < V1.heap.size := by
              obtain ⟨gx, ox, hx1, hx2, hx3⟩ := M1.out.reads (by simp [nvL])
              have h1 : gx < V1.heap.size := World.block_lt_of_cell? V1 _ (hx3 0 _ rfl)
              have h2 : gx = GX := hx2
              omega
            have hst : ∀ q, q ≠ P5 → q < w17.heap.size → W21.heap[q]? = w17.heap[q]? := fun q hq _ => hW21 ▸ heap_setN w17 P5 _ _ _ q hq
            have hmo : ∀ q, (F q ∧ q < w.heap.size) → ((F q ∧ q < w.heap.size) ∨ P5 < q) ∧ W21.heap[q]? = w.heap[q]? := fun q hq => ⟨.inl hq, by
              have hbw := BW20.out.size
              rw [hst q (by omega) (by omega), hT4.block q (by omega), BW20.out.block q hq.2]⟩
            have hcm : CellT (fun q => (F q ∧ q < w.heap.size) ∨ P5 < q) W21 (⟨ea.k, [], none, 0, 0, some ⟨GX, 0, none⟩, 1, 1⟩ : CE) ((kidT l j).1, joinT (kidT l (j + 1)).1 (kidT l j).2 (kidT l (j + 1)).2) := by
              refine newC_rep (G := fun q => P5 < q) (key := (kidT l j).1) (bl := eka ++ yb) ⟨⟨HEA.out, rfl, rfl, rfl, rfl⟩, rfl, ⟨0, lfa, Ax, mb, cx⟩, ⟨rfl, HJK.out.1.symm⟩, ?_, ?_⟩ HJK.out.2.1 (fun q hq => .inr hq) (HJ.out _ W21 hmo)
              · exact (M1.out.below (below_step hb12 b17)).move (fun q hq hl => ⟨by omega, hst q (by omega) hl⟩)
              · exact (HRW20.out.below hT4).move (fun q hq hl => ⟨by omega, hst q (by omega) hl⟩)
            have hrep : RepN (fun q => (F q ∧ q < w.heap.size) ∨ P5 < q) W21 ⟨0, false, A17, n - 1, c17⟩ (.branch 0 (mergeT l j)) := by
              refine repN_branch.2 ⟨rfl, rfl, _, r17.move (fun q hq hl => ⟨.inr (by omega), hst q (by omega) hl⟩), HMR.out _ W21 _ hmo hcm⟩
            have hP21 : P5 < W21.heap.size := X5.lt
            have hpm := r15parted_any _ ⟨0, false, A17, n - 1, c17⟩ 0 (mergeT l j) j W21 hrep HML.out.1 HML.out.2.1 (by rw [HML.out.2.2]; exact HJK.out.2.2)
            have HPM : Hid (Calls Try.prog 43 #[.agg #[.int .i64 0, .bool false, .slice A17 (n - 1) c17], .int .i64 (j : Int)] W21 fun r w' => Below W21.heap.size W21 w' ∧ ∃ (v : NV) (b : Bool), r = .returned (.tuple #[.agg #[.int .i64 v.p, .bool v.lf, .slice v.A v.n v.c], .bool b]) ∧ RepN (fun q => (F q ∧ q < w.heap.size) ∨ P5 < q) w' v (.branch 0 (partT (mergeT l j) j))) := Lib.hid (hpm.mono (by
              rintro r w' ⟨h1, ⟨h2, rfl⟩ | ⟨h2, v', rfl, hv⟩⟩
              · exact ⟨h1, ⟨0, false, A17, n - 1, c17⟩, false, rfl, by rw [partT, if_pos h2]; exact hrep.stay h1⟩
              · exact ⟨h1, v', true, rfl, by rw [partT, if_neg h2]; exact hv.mono (fun q hq => hq.elim id (fun h => .inr (by omega)))⟩))
            have q50 := X5.cell 0
            have q51 := X5.cell 1
            have q52 := X5.cell 2
            have hB21 : Below w.heap.size w W21 := hW21 ▸ below_setN (below_step BW20.out hT4) (by omega) _ _ _
            have HB21 := Lib.hid hB21
            have X4 : Has W21 P4 33 #[.int .i64 0, .bool false, .slice none 0 0] := (hst P4 (by omega) (by have := H4.out.lt; omega)).trans (H4.out.below hT4 H4.out.lt)
            have HX5 := Lib.hid X5
            have HX4 := Lib.hid X4
            clear hpm hrep hcm hmo hst hW21 hW21b X5 X4 hB21 Z5c z50 z51 z52 z53 z54 z55 r17 b17
            go_wp2_with (go_at_call 43; (with_reducible refine HPM.out.mono ?_); rintro r22 w22 ⟨b22, v22, bb, rfl, m22⟩; obtain ⟨p22, lf22, A22, n22, c22⟩ := v22; simp only; have Y5 := HX5.out.below b22 HX5.out.lt; have y50 := Y5.cell 0; have y51 := Y5.cell 1; have y52 := Y5.cell 2; have y53 := Y5.free 0; have y54 := Y5.free 1; have y55 := Y5.free 2; have Y4 := HX4.out.below b22 HX4.out.lt; have HY5 := Lib.hid Y5; have HY4 := Lib.hid Y4; have B22 := Lib.hid b22; have M22 := Lib.hid m22; have X5 := Y5.setN (.int .i64 p22) (.bool lf22) (.slice A22 n22 c22); have s50 := X5.cell 0; have s51 := X5.cell 1; have s52 := X5.cell 2; have X4 : Has (stN w22 P5 (.int .i64 p22) (.bool lf22) (.slice A22 n22 c22)) P4 33 #[.int .i64 0, .bool false, .slice none 0 0] := (heap_setN w22 P5 _ _ _ P4 (by omega)).trans Y4; have s40 := X4.cell 0; have s41 := X4.cell 1; have s42 := X4.cell 2; have s43 := X4.free 0; have s44 := X4.free 1; have s45 := X4.free 2; unfold stN at s50 s51 s52 s40 s41 s42 s43 s44 s45; simp at s50 s51 s52; have HX4c := Lib.hid X4; clear Y5 Y4 X5 X4 b22 m22)
            have XE := HX4c.out.setN (.int .i64 p22) (.bool lf22) (.slice A22 n22 c22)
            have e0 := XE.cell 0
            have e1 := XE.cell 1
            have e2 := XE.cell 2
            unfold stN at e0 e1 e2
            simp at e0 e1 e2
            have hb22 := B22.out.size
            refine ⟨rfl, .agg #[.int .i64 p22, .bool lf22, .slice A22 n22 c22], ?_, ⟨p22, lf22, A22, n22, c22⟩, rfl, ?_, ?_⟩
            · simp [results, Try.f26, go_sem, e0, e1, e2]
            · rw [HM.out]
              refine RepN.move (F := fun q => (F q ∧ q < w.heap.size) ∨ P5 < q) (fun q hq hl => ⟨?_, ?_⟩) M22.out
              · rcases hq with hq | hq
                · exact .inl hq.1
                · exact .inr (by omega)
              · exact (heap_setN _ P4 _ _ _ q (by rcases hq with hq | hq <;> omega)).trans (heap_setN w22 P5 _ _ _ q (by rcases hq with hq | hq <;> omega))
            · exact below_setN (below_setN (below_step HB21.out B22.out) (by omega) _ _ _) (by omega) _ _ _
    · obtain ⟨hj0, hjk⟩ := hjc
      have HJV : Hid ((if (k : Int) + 1 < (n : Int) then (k : Int) + 1 else (k : Int) - 1) = (j : Int)) := Lib.hid (by rw [if_neg (by omega)]; omega)
      have hlt : (j : Int) < (k : Int) := by omega
      clear hjk
      go_enter Try.func26, Try.ntmps26
      go_wp2_with (first
        | (go_at_call 43; (with_reducible refine HPT2.out.mono ?_); rintro r5 w5 ⟨b5, rfl⟩; have BW5 : Hid (Below w.heap.size w (w5.alloc (.cells #[.int .i64 p', .bool false, .slice (some ⟨g, off, none⟩) n c] 33))) := Lib.hid ((below_step (hP2 ▸ HB0.out) b5).alloc (by have := b5.size; have := HB0.out.size; omega) _); have y2 := (HX2.out.below b5 HX2.out.lt).alloc (.cells #[.int .i64 p', .bool false, .slice (some ⟨g, off, none⟩) n c] 33); have z4 := (HX4.out.below b5 HX4.out.lt).alloc (.cells #[.int .i64 p', .bool false, .slice (some ⟨g, off, none⟩) n c] 33); have Z4 := Lib.hid z4; have x20 := y2.cell 0; have x21 := y2.cell 1; have x22 := y2.cell 2; have Y2 := Lib.hid y2; have kc5 := HKC.out.below BW5.out (Nat.le_refl _); have qk := kc5.key; have q3 := kc5.kid; have q0 := kc5.k0; have q1 := kc5.k1; have q2 := kc5.k2; have HP5 : Hid (W.heap.size ≤ w5.heap.size) := Lib.hid b5.size; have y5 := Has.made w5 33 #[.int .i64 p', .bool false, .slice (some ⟨g, off, none⟩) n c]; have Y5 := Lib.hid y5; clear y5;  clear z4 y2 kc5 b5)
        | (go_at_call 41; (with_reducible refine (HSZ.out _ BW5.out).mono ?_); rintro r6 w6 ⟨A6, c6, rfl, h6, b6⟩; have B6 := Lib.hid (below_step BW5.out b6); have z6 := Z4.out.below b6 Z4.out.lt; have g0 := z6.free 0; have g1 := z6.free 1; have g2 := z6.free 2; have z40 := z6.cell 0; have z41 := z6.cell 1; have z42 := z6.cell 2; have Z6 := Lib.hid z6; have x6 := Y2.out.below b6 Y2.out.lt; have y20 := x6.cell 0; have y21 := x6.cell 1; have y22 := x6.cell 2; have X6 := Lib.hid x6; have x5 := Y5.out.below b6 Y5.out.lt; have X5 := Lib.hid x5; clear x5;  clear z6 x6 b6)
        | (go_at_call 44; (with_reducible refine (HLW.out _ _ _ h6).mono ?_); rintro r7 w7 ⟨rfl, rfl⟩)
        | (go_at_call 45; (with_reducible refine (HNG.out _).mono ?_); rintro r8 w8 ⟨rfl, rfl⟩; (try rw [HJV.out]); have ka6 := HKA.out.below B6.out (Nat.le_refl _); have ak := ka6.key; have a3 := ka6.kid; have a0 := ka6.k0; have a1 := ka6.k1; have a2 := ka6.k2; have x28 := (X6.out.alloc (.cells #[.int .i64 pa, .bool lfa, .slice Aa na ca] 33)).cell 2; have kb8 := HKB.out.below (w' := (w6.alloc (.cells #[.int .i64 pa, .bool lfa, .slice Aa na ca] 33))) (B6.out.alloc B6.out.size _) (Nat.le_refl _); have bk := kb8.key; have b3 := kb8.kid; have b0 := kb8.k0; have b1 := kb8.k1; have b2 := kb8.k2; have z81 := ((Has.made w6 33 #[.int .i64 pa, .bool lfa, .slice Aa na ca]).alloc (.cells #[.int .i64 pb, .bool lfb, .slice Ab nb cb] 33)).cell 1; have z82 := (((Has.made w6 33 #[.int .i64 pa, .bool lfa, .slice Aa na ca]).alloc (.cells #[.int .i64 pb, .bool lfb, .slice Ab nb cb] 33)).alloc (.cells #[.int .i64 0, .bool lfa, .slice none 0 0] 33)).cell 2; have zt : Has (((w6.alloc (.cells #[.int .i64 pa, .bool lfa, .slice Aa na ca] 33)).alloc (.cells #[.int .i64 pb, .bool lfb, .slice Ab nb cb] 33)).alloc (.cells #[.int .i64 0, .bool lfa, .slice none 0 0] 33)) (w6.heap.size + 1 + 1) 33 #[.int .i64 0, .bool lfa, .slice none 0 0] := (by have := Has.made ((w6.alloc (.cells #[.int .i64 pa, .bool lfa, .slice Aa na ca] 33)).alloc (.cells #[.int .i64 pb, .bool lfb, .slice Ab nb cb] 33)) 33 #[.int .i64 0, .bool lfa, .slice none 0 0]; simpa using this); have zt2 := zt.cell 2; have h9 : Has (((w6.alloc (.cells #[.int .i64 pa, .bool lfa, .slice Aa na ca] 33)).alloc (.cells #[.int .i64 pb, .bool lfb, .slice Ab nb cb] 33)).alloc (.cells #[.int .i64 0, .bool lfa, .slice none 0 0] 33)) (w6.heap.size + 1) 33 #[.int .i64 pb, .bool lfb, .slice Ab nb cb] := (by have := (Has.made (w6.alloc (.cells #[.int .i64 pa, .bool lfa, .slice Aa na ca] 33)) 33 #[.int .i64 pb, .bool lfb, .slice Ab nb cb]).alloc (.cells #[.int .i64 0, .bool lfa, .slice none 0 0] 33); simpa using this); have bw10 : Below w.heap.size w (((w6.alloc (.cells #[.int .i64 pa, .bool lfa, .slice Aa na ca] 33)).alloc (.cells #[.int .i64 pb, .bool lfb, .slice Ab nb cb] 33)).alloc (.cells #[.int .i64 0, .bool lfa, .slice none 0 0] 33)) := ((B6.out.alloc B6.out.size _).alloc (by have := B6.out.size; simp; omega) _).alloc (by have := B6.out.size; simp; omega) _; have ms : MdS w (w5.heap.size + 1) P2 P4 w5.heap.size (w6.heap.size + 1) (w6.heap.size + 1 + 1) #[.int .i64 p', .bool false, .slice (some ⟨g, off, none⟩) n c] #[.int .i64 0, .bool false, .slice none 0 0] #[.int .i64 p', .bool false, .slice (some ⟨g, off, none⟩) n c] #[.int .i64 pb, .bool lfb, .slice Ab nb cb] lfa [] (((w6.alloc (.cells #[.int .i64 pa, .bool lfa, .slice Aa na ca] 33)).alloc (.cells #[.int .i64 pb, .bool lfb, .slice Ab nb cb] 33)).alloc (.cells #[.int .i64 0, .bool lfa, .slice none 0 0] 33)) := ⟨bw10, ((X6.out.alloc _).alloc _).alloc _, ((Z6.out.alloc _).alloc _).alloc _, ((X5.out.alloc _).alloc _).alloc _, h9, none, 0, World.ownsRow_nil _ _ _ _, zt, Nat.le_refl _, Nat.zero_le _⟩; have MS := Lib.hid ms; have ZT := Lib.hid zt; clear zt h9 ms ka6 kb8)
        | (at_builtin; refine wpList_append_rw rfl _ _ 31 rfl (w5.heap.size + 1) 53 ti _ 4 80 Try.underlying31 hi hz0 hz1 hz2t rfl (by decide) _ 0 [] rfl (World.ownsRow_nil _ _ _ _) _ na _ _ rfl (HRA.out _ MS.out.bel) (one_cells _) (by unfold maxLen; omega) (by omega) (by have := X5.out.lt; simp; omega) ?_; intro v12 w12 p12 q12; obtain ⟨A12, c12, rfl, k12, m12⟩ := MS.out.app (m := na) (more := eka) (v' := v12) (w' := w12) (World.ownsRow_nil _ _ _ _) ZT.out (by simpa [flatC] using p12) (by simpa using HNA.out) q12 (by have := HB0.out.size; have := HP5.out; omega) (by have := X6.out.lt; omega) (by have := Z6.out.lt; omega) (by have := X5.out.lt; omega) (by omega) (by have := B6.out.size; omega); have t10 := k12.cell 2; have f10 := k12.free 2; (try rw [Nat.zero_add]); have M12 := Lib.hid m12; clear m12 p12 q12))
      obtain ⟨P5, hP5⟩ : ∃ P, w5.heap.size = P := ⟨_, rfl⟩
      obtain ⟨P9, hP9⟩ : ∃ P, w6.heap.size + 1 = P := ⟨_, rfl⟩
      obtain ⟨P10, hP10⟩ : ∃ P, P9 + 1 = P := ⟨_, rfl⟩
      have HORD : Hid (P2 < P4 ∧ P4 < P5 ∧ P5 < P9 ∧ P9 < P10 ∧ w.heap.size = P2) := Lib.hid ⟨hPl, by have := HP5.out; have := HX4.out.lt; omega, by have := X5.out.lt; omega, by omega, hP2⟩
      have ms := M12.out
      rw [hP9, hP10, hP5, List.nil_append] at ms
      rw [hP9, hP10, hP5]
      obtain ⟨W12, hW12⟩ : ∃ W, w12.setCell ⟨P10, 2, none⟩ (.slice A12 na c12) = W := ⟨_, rfl⟩
      rw [hW12] at ms ⊢
      clear hW12 M12 MS ZT k12 t10 f10 X5 X6 Y5 Y2 Z4 Z6 BW5 B6 HSZ HLW HPT2 hW HX2 HX4 HB0 hP5 hP9 hP10 hPl HP5 HKC
      go_loopw [11] (fun v wr => ∃ i : Nat, v = .int .i64 (i : Int) ∧ i ≤ nb ∧ MdS w (P5 + 1) P2 P4 P5 P9 P10 #[.int .i64 p', .bool false, .slice (some ⟨g, off, none⟩) n c] #[.int .i64 0, .bool false, .slice none 0 0] #[.int .i64 p', .bool false, .slice (some ⟨g, off, none⟩) n c] #[.int .i64 pb, .bool lfb, .slice Ab nb cb] lfa (eka ++ yb.take i) wr) (fun v _ => nb - (intOf v).toNat)
      case atStart => exact ⟨0, rfl, Nat.zero_le _, by rw [List.take_zero, List.append_nil]; exact ms⟩
      case round =>
          obtain ⟨i, rfl, hib, hms⟩ := hrel
          have HMSr := Lib.hid hms
          have y92 := hms.h9.cell 2
          have y91 := hms.h9.cell 1
          have y22 := hms.h2.cell 2
          obtain ⟨Ax, cx, ho, ht, hcx, hcm⟩ := hms.row
          obtain ⟨mm, hmm⟩ : ∃ m, (eka ++ yb.take i).length = m := ⟨_, rfl⟩
          have HMML := Lib.hid hmm
          have hmb : mm ≤ 100 := by rw [← hmm, List.length_append, List.length_take, ← HNA.out, HYL.out]; omega
          have HT := Lib.hid ht
          rw [hmm] at ho ht
          have kb := HKB.out.below hms.bel (Nat.le_refl _)
          have kbk := kb.key
          by_cases hlt : i < nb
          · obtain ⟨e2, he2⟩ : ∃ e2, ekb[i]? = some e2 := ⟨_, List.getElem?_eq_getElem (by rw [← HNB5.out]; exact hlt)⟩
            obtain ⟨g3, o3, hA3, _, f0, f1, f2, f3⟩ := (HRB.out _ hms.bel).at4 he2
            obtain rfl := hA3
            have hi0 : (0 : Int) ≤ (i : Int) := by omega
            have hi1 : (i : Int) < (nb : Int) := by omega
            obtain ⟨sx, hsx⟩ : ∃ s : ByteArray, (⟨e2.k.toArray⟩ : ByteArray) = s := ⟨_, rfl⟩
            obtain ⟨sd, hsd⟩ : ∃ s : ByteArray, (⟨e2.d.toArray⟩ : ByteArray) = s := ⟨_, rfl⟩
            obtain ⟨skb, hskb⟩ : ∃ s : ByteArray, (⟨eb.k.toArray⟩ : ByteArray) = s := ⟨_, rfl⟩
            rw [hsx] at f0
            rw [hsd] at f1
            rw [hskb] at kbk
            have HE2 := Lib.hid he2
            have y91a := (HMSr.out.h9.alloc (.cells #[.string sx, .string sd, .slice e2.pa e2.pn e2.pc, .slice e2.ka e2.kn e2.kc] 53)).cell 1
            have y22a := (HMSr.out.h2.alloc (.cells #[.string sx, .string sd, .slice e2.pa e2.pn e2.pc, .slice e2.ka e2.kn e2.kc] 53)).cell 2
            have kbka := cell_below kbk ((Below.refl _ wr).alloc (Nat.le_refl _) (.cells #[.string sx, .string sd, .slice e2.pa e2.pn e2.pc, .slice e2.ka e2.kn e2.kc] 53))
            clear hmm he2 kb ht hms
            by_cases hfirst : i = 0 ∧ lfb = false
            · obtain ⟨hi00, hlf0⟩ := hfirst
              subst hlf0
              have hz00 : ((i : Int) == 0) = true := by simp [hi00]
              have hyi : yb[i]? = some { e2 with k := eb.k } := by
                have h1 : keyE eb.k ekb = yb := HYB.out
                have h2 := HE2.out
                subst hi00
                rw [← h1]
                cases ekb with
                | nil => cases h2
                | cons y t => rw [List.getElem?_cons_zero] at h2; cases h2; rfl
              clear hi00
              have HYEV : Hid (flatC [({ e2 with k := eb.k } : CE)] = [.string skb, .string sd, .slice e2.pa e2.pn e2.pc, .slice e2.ka e2.kn e2.kc]) := Lib.hid (by simp [flatC, ceV, hskb, hsd])
              have HYT : Hid (yb.take (i + 1) = yb.take i ++ [({ e2 with k := eb.k } : CE)]) := Lib.hid (by rw [List.take_add_one, show yb[i]? = some ({ e2 with k := eb.k } : CE) from hyi]; rfl)
              have HMS2 := Lib.hid ((HMSr.out.alloc (.cells #[.string skb, .string sd, .slice e2.pa e2.pn e2.pc, .slice e2.ka e2.kn e2.kc] 53)).alloc (.cells #[.string skb, .string sd, .slice e2.pa e2.pn e2.pc, .slice e2.ka e2.kn e2.kc] 53))
              have HO : Hid (((wr.alloc (.cells #[.string skb, .string sd, .slice e2.pa e2.pn e2.pc, .slice e2.ka e2.kn e2.kc] 53)).alloc (.cells #[.string skb, .string sd, .slice e2.pa e2.pn e2.pc, .slice e2.ka e2.kn e2.kc] 53)).ownsRow (P5 + 1) 53 4 (.slice Ax mm cx) mm (flatC (eka ++ yb.take i))) := Lib.hid ((ho.alloc _).alloc _)
              have HT2 : Hid (Has ((wr.alloc (.cells #[.string skb, .string sd, .slice e2.pa e2.pn e2.pc, .slice e2.ka e2.kn e2.kc] 53)).alloc (.cells #[.string skb, .string sd, .slice e2.pa e2.pn e2.pc, .slice e2.ka e2.kn e2.kc] 53)) P10 33 #[.int .i64 0, .bool lfa, .slice Ax (eka ++ yb.take i).length cx]) := Lib.hid ((HT.out.alloc _).alloc _)
              have q102 := (HT.out.alloc (.cells #[.string skb, .string sd, .slice e2.pa e2.pn e2.pc, .slice e2.ka e2.kn e2.kc] 53)).cell 2
              rw [HMML.out] at q102
              clear ho
              go_wp2_with (at_builtin; refine wpList_append_rw rfl _ _ 31 rfl (P5 + 1) 53 ti _ 4 80 Try.underlying31 hi hz0 hz1 hz2t rfl (by decide) _ mm _ rfl (HO.out) _ 1 1 [.string skb, .string sd, .slice e2.pa e2.pn e2.pc, .slice e2.ka e2.kn e2.kc] rfl (F := fun _ => True) ?_ ?_ (by unfold maxLen; omega) (by omega) ?_ ?_; (have hmk := RwF.made (fun _ => True) (wr.alloc (.cells #[.string skb, .string sd, .slice e2.pa e2.pn e2.pc, .slice e2.ka e2.kn e2.kc] 53)) 53 [.string skb, .string sd, .slice e2.pa e2.pn e2.pc, .slice e2.ka e2.kn e2.kc] 1 4 rfl (by decide) trivial; simpa using hmk); (intro u hu; simp at hu; rcases hu with rfl | rfl | rfl | rfl <;> rfl); (have := HORD.out; have := HMSr.out.h5.lt; simp; omega); intro v13 w13 p13 q13; obtain ⟨A13, c13, rfl, k13, m13⟩ := (HMS2.out).app (m := mm + 1) (more := [({ e2 with k := eb.k } : CE)]) (v' := v13) (w' := w13) (by rw [HMML.out]; exact HO.out) HT2.out (by rw [HYEV.out]; exact p13) (by rw [← HMML.out]; rfl) (by rw [HMML.out]; exact q13) (by have := HORD.out; omega) (by have := HORD.out; omega) (by have := HORD.out; omega) (by have := HORD.out; omega) (by have := HORD.out; omega) (by have := HORD.out; omega); have u10 := k13.cell 2; rw [HMML.out] at u10; have v10 := k13.free 2; have M13 := Lib.hid m13; clear m13 p13 q13)
              go_roundw
              case rel => exact ⟨i + 1, by go_num, by omega, by rw [HYT.out, ← List.append_assoc]; exact M13.out⟩
              case measure => simp [intOf]; omega
            · have hyi : yb[i]? = some e2 := by
                have h1 := HYB.out
                have h2 := HE2.out
                rw [← h1]
                cases lfb
                · have hi2 : i ≠ 0 := fun e => hfirst ⟨e, rfl⟩
                  rw [if_neg (by decide)]
                  cases ekb with
                  | nil => cases h2
                  | cons y t =>
                    cases i with
                    | zero => exact absurd rfl hi2
                    | succ i => rw [List.getElem?_cons_succ] at h2; rw [keyE, List.getElem?_cons_succ]; exact h2
                · rw [if_pos rfl]
                  exact h2
              cases hq0 : ((i : Int) == 0)
              · clear hfirst
                have HYEV : Hid (flatC [e2] = [.string sx, .string sd, .slice e2.pa e2.pn e2.pc, .slice e2.ka e2.kn e2.kc]) := Lib.hid (by simp [flatC, ceV, hsx, hsd])
                have HYT : Hid (yb.take (i + 1) = yb.take i ++ [e2]) := Lib.hid (by rw [List.take_add_one, show yb[i]? = some e2 from hyi]; rfl)
                have HMS2 := Lib.hid ((HMSr.out.alloc (.cells #[.string sx, .string sd, .slice e2.pa e2.pn e2.pc, .slice e2.ka e2.kn e2.kc] 53)).alloc (.cells #[.string sx, .string sd, .slice e2.pa e2.pn e2.pc, .slice e2.ka e2.kn e2.kc] 53))
                have HO : Hid (((wr.alloc (.cells #[.string sx, .string sd, .slice e2.pa e2.pn e2.pc, .slice e2.ka e2.kn e2.kc] 53)).alloc (.cells #[.string sx, .string sd, .slice e2.pa e2.pn e2.pc, .slice e2.ka e2.kn e2.kc] 53)).ownsRow (P5 + 1) 53 4 (.slice Ax mm cx) mm (flatC (eka ++ yb.take i))) := Lib.hid ((ho.alloc _).alloc _)
                have HT2 : Hid (Has ((wr.alloc (.cells #[.string sx, .string sd, .slice e2.pa e2.pn e2.pc, .slice e2.ka e2.kn e2.kc] 53)).alloc (.cells #[.string sx, .string sd, .slice e2.pa e2.pn e2.pc, .slice e2.ka e2.kn e2.kc] 53)) P10 33 #[.int .i64 0, .bool lfa, .slice Ax (eka ++ yb.take i).length cx]) := Lib.hid ((HT.out.alloc _).alloc _)
                have q102 := (HT.out.alloc (.cells #[.string sx, .string sd, .slice e2.pa e2.pn e2.pc, .slice e2.ka e2.kn e2.kc] 53)).cell 2
                rw [HMML.out] at q102
                clear ho
                go_wp2_with (at_builtin; refine wpList_append_rw rfl _ _ 31 rfl (P5 + 1) 53 ti _ 4 80 Try.underlying31 hi hz0 hz1 hz2t rfl (by decide) _ mm _ rfl (HO.out) _ 1 1 [.string sx, .string sd, .slice e2.pa e2.pn e2.pc, .slice e2.ka e2.kn e2.kc] rfl (F := fun _ => True) ?_ ?_ (by unfold maxLen; omega) (by omega) ?_ ?_; (have hmk := RwF.made (fun _ => True) (wr.alloc (.cells #[.string sx, .string sd, .slice e2.pa e2.pn e2.pc, .slice e2.ka e2.kn e2.kc] 53)) 53 [.string sx, .string sd, .slice e2.pa e2.pn e2.pc, .slice e2.ka e2.kn e2.kc] 1 4 rfl (by decide) trivial; simpa using hmk); (intro u hu; simp at hu; rcases hu with rfl | rfl | rfl | rfl <;> rfl); (have := HORD.out; have := HMSr.out.h5.lt; simp; omega); intro v13 w13 p13 q13; obtain ⟨A13, c13, rfl, k13, m13⟩ := (HMS2.out).app (m := mm + 1) (more := [e2]) (v' := v13) (w' := w13) (by rw [HMML.out]; exact HO.out) HT2.out (by rw [HYEV.out]; exact p13) (by rw [← HMML.out]; rfl) (by rw [HMML.out]; exact q13) (by have := HORD.out; omega) (by have := HORD.out; omega) (by have := HORD.out; omega) (by have := HORD.out; omega) (by have := HORD.out; omega) (by have := HORD.out; omega); have u10 := k13.cell 2; rw [HMML.out] at u10; have v10 := k13.free 2; have M13 := Lib.hid m13; clear m13 p13 q13)
                go_roundw
                case rel => exact ⟨i + 1, by go_num, by omega, by rw [HYT.out, ← List.append_assoc]; exact M13.out⟩
                case measure => simp [intOf]; omega
              · have hlft : lfb = true := by
                  cases lfb
                  · exact absurd ⟨by simpa using hq0, rfl⟩ hfirst
                  · rfl
                subst hlft
                clear hfirst
                have HYEV : Hid (flatC [e2] = [.string sx, .string sd, .slice e2.pa e2.pn e2.pc, .slice e2.ka e2.kn e2.kc]) := Lib.hid (by simp [flatC, ceV, hsx, hsd])
                have HYT : Hid (yb.take (i + 1) = yb.take i ++ [e2]) := Lib.hid (by rw [List.take_add_one, show yb[i]? = some e2 from hyi]; rfl)
                have HMS2 := Lib.hid ((HMSr.out.alloc (.cells #[.string sx, .string sd, .slice e2.pa e2.pn e2.pc, .slice e2.ka e2.kn e2.kc] 53)).alloc (.cells #[.string sx, .string sd, .slice e2.pa e2.pn e2.pc, .slice e2.ka e2.kn e2.kc] 53))
                have HO : Hid (((wr.alloc (.cells #[.string sx, .string sd, .slice e2.pa e2.pn e2.pc, .slice e2.ka e2.kn e2.kc] 53)).alloc (.cells #[.string sx, .string sd, .slice e2.pa e2.pn e2.pc, .slice e2.ka e2.kn e2.kc] 53)).ownsRow (P5 + 1) 53 4 (.slice Ax mm cx) mm (flatC (eka ++ yb.take i))) := Lib.hid ((ho.alloc _).alloc _)
                have HT2 : Hid (Has ((wr.alloc (.cells #[.string sx, .string sd, .slice e2.pa e2.pn e2.pc, .slice e2.ka e2.kn e2.kc] 53)).alloc (.cells #[.string sx, .string sd, .slice e2.pa e2.pn e2.pc, .slice e2.ka e2.kn e2.kc] 53)) P10 33 #[.int .i64 0, .bool lfa, .slice Ax (eka ++ yb.take i).length cx]) := Lib.hid ((HT.out.alloc _).alloc _)
                have q102 := (HT.out.alloc (.cells #[.string sx, .string sd, .slice e2.pa e2.pn e2.pc, .slice e2.ka e2.kn e2.kc] 53)).cell 2
                rw [HMML.out] at q102
                clear ho
                go_wp2_with (at_builtin; refine wpList_append_rw rfl _ _ 31 rfl (P5 + 1) 53 ti _ 4 80 Try.underlying31 hi hz0 hz1 hz2t rfl (by decide) _ mm _ rfl (HO.out) _ 1 1 [.string sx, .string sd, .slice e2.pa e2.pn e2.pc, .slice e2.ka e2.kn e2.kc] rfl (F := fun _ => True) ?_ ?_ (by unfold maxLen; omega) (by omega) ?_ ?_; (have hmk := RwF.made (fun _ => True) (wr.alloc (.cells #[.string sx, .string sd, .slice e2.pa e2.pn e2.pc, .slice e2.ka e2.kn e2.kc] 53)) 53 [.string sx, .string sd, .slice e2.pa e2.pn e2.pc, .slice e2.ka e2.kn e2.kc] 1 4 rfl (by decide) trivial; simpa using hmk); (intro u hu; simp at hu; rcases hu with rfl | rfl | rfl | rfl <;> rfl); (have := HORD.out; have := HMSr.out.h5.lt; simp; omega); intro v13 w13 p13 q13; obtain ⟨A13, c13, rfl, k13, m13⟩ := (HMS2.out).app (m := mm + 1) (more := [e2]) (v' := v13) (w' := w13) (by rw [HMML.out]; exact HO.out) HT2.out (by rw [HYEV.out]; exact p13) (by rw [← HMML.out]; rfl) (by rw [HMML.out]; exact q13) (by have := HORD.out; omega) (by have := HORD.out; omega) (by have := HORD.out; omega) (by have := HORD.out; omega) (by have := HORD.out; omega) (by have := HORD.out; omega); have u10 := k13.cell 2; rw [HMML.out] at u10; have v10 := k13.free 2; have M13 := Lib.hid m13; clear m13 p13 q13)
                go_roundw
                case rel => exact ⟨i + 1, by go_num, by omega, by rw [HYT.out, ← List.append_assoc]; exact M13.out⟩
                case measure => simp [intOf]; omega
          · obtain rfl : i = nb := by omega
            have htk : yb.take i = yb := List.take_of_length_le (by rw [HYL.out]; exact Nat.le_refl _)
            rw [htk] at hmm ho hms HMML HT
            have hi1 : ¬ (i : Int) < (i : Int) := by omega
            have HWI : Hid (Calls Try.prog 46 #[.slice (some ⟨g, off, none⟩) n c, .int .i64 ((j : Int) + 1), .slice none 0 0] wr (CellsE (es.take (j + 1) ++ ([] ++ es.drop (j + 1 + 1))) wr)) := Lib.hid (by
              have := r15with_es F (fun _ => True) es [] (some ⟨g, off, none⟩) none n c 0 0 (j + 1) wr (HES.out.below hms.bel) (RwF.none_ _ _ _) (by omega) (by omega) (by omega)
              rw [show ((j + 1 : Nat) : Int) = (j : Int) + 1 by omega] at this
              exact this)
            have HBO := Lib.hid ho
            obtain ⟨Ay, cy, hsl, hrowb⟩ := RwF.own ho
            injection hsl with e1 _ e3
            subst e1 e3
            obtain ⟨mb, hmb2⟩ : ∃ x, mm = x := ⟨_, rfl⟩
            rw [hmb2] at hrowb ho HBO HMML hmb
            have HRW := Lib.hid hrowb
            have H10 : Hid (Has wr P10 33 #[.int .i64 0, .bool lfa, .slice Ax mb cx]) := Lib.hid (by have := HT.out; rw [HMML.out] at this; exact this)
            have HMS := Lib.hid hms
            obtain ⟨ska, hska⟩ : ∃ s : ByteArray, (⟨ea.k.toArray⟩ : ByteArray) = s := ⟨_, rfl⟩
            have HLN : Hid (∀ cm : CE, (es.take j ++ ([cm] ++ es.drop (j + 2))).length = n - 1) := Lib.hid (fun cm => by
              have h1 := HTD.out.2.2
              rw [List.nil_append, List.length_append, List.length_take, List.length_drop] at h1
              have h2 := HES.out.len4
              rw [List.length_append, List.length_append, List.length_take, List.length_drop]
              simp only [List.length_cons, List.length_nil]
              omega)
            clear hmm hmb2 ho hrowb htk HT kb
            go_wp2_with (go_at_call 46; (with_reducible refine HWI.out.mono ?_); rintro r20 w20 ⟨A20, c20, rfl, r20, b20⟩; rw [HTD.out.2.2] at r20 ⊢; have R20 := Lib.hid r20; have B20 := Lib.hid b20; clear r20 b20)
            have H2 := Lib.hid (HMS.out.h2.below B20.out HMS.out.h2.lt)
            have H4 := Lib.hid (HMS.out.h4.below B20.out HMS.out.h4.lt)
            have H5 := Lib.hid (HMS.out.h5.below B20.out HMS.out.h5.lt)
            have H10b := Lib.hid (H10.out.below B20.out H10.out.lt)
            have BW20 := Lib.hid (below_step HMS.out.bel B20.out)
            have HRW20 := Lib.hid (HRW.out.below B20.out)
            have ka20 := HKA.out.below BW20.out (Nat.le_refl _)
            have HXL : Hid (∀ w' : World, w20.grownBy w' (some P5) → w'.cell? ⟨P2, 2, none⟩ = some (.slice (some ⟨g, off, none⟩) n c)) := Lib.hid (fun w' hb => (H2.out.grown hb (by intro e; injection e with e; have := HORD.out; omega)).cell 2)
            have HX10 : Hid (∀ w' : World, w20.grownBy w' (some P5) → w'.cell? ⟨P10, 0, none⟩ = some (.int .i64 0) ∧ w'.cell? ⟨P10, 1, none⟩ = some (.bool lfa) ∧ w'.cell? ⟨P10, 2, none⟩ = some (.slice Ax mb cx)) := Lib.hid (fun w' hb => have z := H10b.out.grown hb (by intro e; injection e with e; have := HORD.out; omega); ⟨z.cell 0, z.cell 1, z.cell 2⟩)
            have hglt : g < w.heap.size := World.block_lt_of_cell? w _ HKA.out.key
            have hk20 := ka20.key
            rw [hska] at hk20
            have HKY : Hid (∀ w' : World, w20.grownBy w' (some P5) → w'.cell? ⟨g, off + j * 4, none⟩ = some (.string ska)) := Lib.hid (fun w' hb => (cell_same (p := ⟨g, off + j * 4, none⟩) (hb.block g (by have := BW20.out.size; omega) (fun e => by injection e with e; have := HORD.out; omega))).trans hk20)
            have hS0 : w20.grownBy w20.drew (some P5) := ⟨rfl, rfl, rfl, Nat.le_refl _, fun _ _ _ => rfl⟩
            have hT0 : Below w20.heap.size w20 w20.drew := (Below.refl _ w20).drew
            have hn1 : j < n - 1 := by omega
            clear ka20 hk20 y92 y91 y22 kbk
            go_wp2
            first | (rename_i K hK; refine wp_held (fun w' : World => w20.grownBy w' (some P5)) K hmx ?_ (fun _ _ h => h)) | (rename_i K hK hz; refine wp_held (fun w' : World => w20.grownBy w' (some P5)) K hmx ?_ (fun _ _ h => h))
            obtain ⟨Wd, hWd⟩ : ∃ W, w20.drew = W := ⟨_, rfl⟩
            rw [hWd] at hS0 hT0 ⊢
            have hwd : w20.heap.size = Wd.heap.size := by rw [← hWd]; rfl
            have HWD := Lib.hid hwd
            clear hwd hWd
            refine wpAnyH_take (i := 0) (v := .slice A20 (n - 1) c20) (lit rfl) (by kernel_rfl) (by kernel_rfl) (by kernel_rfl) (fun _ _ _ h => h) (Or.inl ⟨by rfl, ?_⟩) hS0 ?_
            · rintro w6 hb6
              go_simp
            simp only [Act.put, List.setIfInBounds_toArray, List.set_cons_zero, List.set_cons_succ]
            refine wpAnyH_take (i := 1) (v := .int .i64 (j : Int)) (lit rfl) (by kernel_rfl) (by kernel_rfl) (by kernel_rfl) (fun _ _ _ h => h) (Or.inl ⟨by rfl, ?_⟩) hS0 ?_
            · rintro w6 hb6
              go_simp
            simp only [Act.put, List.setIfInBounds_toArray, List.set_cons_zero, List.set_cons_succ]
            refine wpAnyH_take (i := 2) (v := .pointer (some ⟨P2, 2, none⟩)) (lit rfl) (by kernel_rfl) (by kernel_rfl) (by kernel_rfl) (fun _ _ _ h => h) (Or.inl ⟨by rfl, ?_⟩) hS0 ?_
            · rintro w6 hb6
              go_simp
            simp only [Act.put, List.setIfInBounds_toArray, List.set_cons_zero, List.set_cons_succ]
            refine wpAnyH_take (i := 3) (v := .slice (some ⟨g, off, none⟩) n c) (lit rfl) (by kernel_rfl) (by kernel_rfl) (by kernel_rfl) (fun _ _ _ h => h) (Or.inl ⟨by rfl, ?_⟩) hS0 ?_
            · rintro w6 hb6
              have y6 := HXL.out w6 hb6
              go_simp
            simp only [Act.put, List.setIfInBounds_toArray, List.set_cons_zero, List.set_cons_succ]
            refine wpAnyH_take (i := 4) (v := .int .i64 (j : Int)) (lit rfl) (by kernel_rfl) (by kernel_rfl) (by kernel_rfl) (fun _ _ _ h => h) (Or.inl ⟨by rfl, ?_⟩) hS0 ?_
            · rintro w6 hb6
              go_simp
            simp only [Act.put, List.setIfInBounds_toArray, List.set_cons_zero, List.set_cons_succ]
            refine wpAnyH_take (i := 5) (v := .pointer (some ⟨g, off + j * 4, none⟩)) (lit rfl) (by kernel_rfl) (by kernel_rfl) (by kernel_rfl) (fun _ _ _ h => h) (Or.inl ⟨by rfl, ?_⟩) hS0 ?_
            · rintro w6 hb6
              go_simp
            simp only [Act.put, List.setIfInBounds_toArray, List.set_cons_zero, List.set_cons_succ]
            refine wpAnyH_take (i := 6) (v := .pointer (some ⟨g, off + j * 4, none⟩)) (lit rfl) (by kernel_rfl) (by kernel_rfl) (by kernel_rfl) (fun _ _ _ h => h) (Or.inl ⟨by rfl, ?_⟩) hS0 ?_
            · rintro w6 hb6
              go_simp
            simp only [Act.put, List.setIfInBounds_toArray, List.set_cons_zero, List.set_cons_succ]
            refine wpAnyH_take (i := 7) (v := .string ska) (lit rfl) (by kernel_rfl) (by kernel_rfl) (by kernel_rfl) (fun _ _ _ h => h) (Or.inl ⟨by rfl, ?_⟩) hS0 ?_
            · rintro w6 hb6
              have y6 := HKY.out w6 hb6
              go_simp
            simp only [Act.put, List.setIfInBounds_toArray, List.set_cons_zero, List.set_cons_succ]
            refine wpAnyH_take (i := 8) (v := .agg #[.int .i64 0, .bool lfa, .slice Ax mb cx]) (lit rfl) (by kernel_rfl) (by kernel_rfl) (by kernel_rfl) (fun _ _ _ h => h) (Or.inl ⟨by rfl, ?_⟩) hS0 ?_
            · rintro w6 hb6
              obtain ⟨y60, y61, y62⟩ := HX10.out w6 hb6
              go_simp
            simp only [Act.put, List.setIfInBounds_toArray, List.set_cons_zero, List.set_cons_succ]
            refine wpAnyH_ready (rs := [9]) (by kernel_rfl) (by simp) ?_
            refine AllReadyH.cons (lit rfl) (fun K5 hK5 => ?_) AllReadyH.nil
            refine step_open rfl ?_
            go_simp
            obtain ⟨V1, hV1⟩ : ∃ W, Wd.alloc (.cells #[.int .i64 0, .bool lfa, .slice Ax mb cx] 33) = W := ⟨_, rfl⟩
            have m1 := RwF.made (fun q => q = Wd.heap.size) Wd 33 (nvL ⟨0, lfa, Ax, mb, cx⟩) 1 3 rfl (by decide) rfl
            have M1 := Lib.hid (hV1 ▸ m1 : RwF _ V1 _ _ _ _ _)
            have hT1 : Below w20.heap.size w20 V1 := hV1 ▸ below_alloc' hT0 _
            have hS1 : w20.grownBy V1 (some P5) := only_of_below hT1 (Nat.le_refl _)
            try rw [hV1]
            obtain ⟨GX, hGX⟩ : ∃ G, Wd.heap.size = G := ⟨_, rfl⟩
            try rw [hGX]
            rw [hGX] at M1
            clear m1
            refine hK5.out _ _ hS1 (fun _ => ?_)
            clear hK5 K5
            refine wpAnyH_take (i := 10) (v := .agg #[.string ska, .string ⟨#[]⟩, .slice none 0 0, .slice (some ⟨GX, 0, none⟩) 1 1]) (lit rfl) (by kernel_rfl) (by kernel_rfl) (by kernel_rfl) (fun _ _ _ h => h) (Or.inl ⟨by rfl, ?_⟩) hS1 ?_
            · rintro w6 hb6
              go_simp
            simp only [Act.put, List.setIfInBounds_toArray, List.set_cons_zero, List.set_cons_succ]
            refine wpAnyH_ready (rs := [11]) (by kernel_rfl) (by simp) ?_
            refine AllReadyH.cons (lit rfl) (fun K5 hK5 => ?_) AllReadyH.nil
            refine step_open rfl ?_
            go_simp
            obtain ⟨V2, hV2⟩ : ∃ W, V1.alloc (.cells #[.string ska, .string ⟨#[]⟩, .slice none 0 0, .slice (some ⟨GX, 0, none⟩) 1 1] 53) = W := ⟨_, rfl⟩
            have m2 := RwF.made (fun q => q = V1.heap.size) V1 53 (flatC [(⟨ea.k, [], none, 0, 0, some ⟨GX, 0, none⟩, 1, 1⟩ : CE)]) 1 4 rfl (by decide) rfl
            rw [show (flatC [(⟨ea.k, [], none, 0, 0, some ⟨GX, 0, none⟩, 1, 1⟩ : CE)]).toArray = #[.string ska, .string ⟨#[]⟩, .slice none 0 0, .slice (some ⟨GX, 0, none⟩) 1 1] from by simp [flatC, ceV, hska]] at m2
            have M2 := Lib.hid (hV2 ▸ m2 : RwF _ V2 _ _ _ _ _)
            have hb12 : Below V1.heap.size V1 V2 := hV2 ▸ (Below.refl _ V1).alloc (Nat.le_refl _) _
            have hT2 : Below w20.heap.size w20 V2 := below_step hT1 hb12
            have hS2 : w20.grownBy V2 (some P5) := only_of_below hT2 (Nat.le_refl _)
            try rw [hV2]
            clear m2
            refine hK5.out _ _ hS2 (fun _ => ?_)
            clear hK5 K5
            refine wpAnyH_ready (rs := [12]) (by kernel_rfl) (by simp) ?_
            refine AllReadyH.cons (lit rfl) (fun K5 hK5 => ?_) AllReadyH.nil
            refine step_open rfl ?_
            go_simp
            go_at_call 46
            (with_reducible refine (r15with_es (fun q => wr.heap.size ≤ q) _ (es.take (j + 1) ++ ([] ++ es.drop (j + 1 + 1))) [(⟨ea.k, [], none, 0, 0, some ⟨GX, 0, none⟩, 1, 1⟩ : CE)] A20 _ (n - 1) c20 1 1 j V2 (R20.out.below hT2) M2.out (by omega) (by omega) (by omega)).mono ?_)
            rintro r17 w17 ⟨A17, c17, rfl, r17, b17⟩
            rw [HTD.out.1, HTD.out.2.1] at r17 ⊢
            have hln : (es.take j ++ ([(⟨ea.k, [], none, 0, 0, some ⟨GX, 0, none⟩, 1, 1⟩ : CE)] ++ es.drop (j + 2))).length = n - 1 := HLN.out _
            rw [hln] at r17 ⊢
            have hT4 : Below w20.heap.size w20 w17 := below_step hT2 b17
            have hS4 : w20.grownBy w17 (some P5) := only_of_below hT4 (Nat.le_refl _)
            have Z5c := H5.out.below hT4 H5.out.lt
            have z50 := Z5c.cell 0
            have z51 := Z5c.cell 1
            have z52 := Z5c.cell 2
            have z53 := Z5c.free 0
            have z54 := Z5c.free 1
            have z55 := Z5c.free 2
            refine hK5.out _ _ hS4 (fun _ => ?_)
            clear hK5 K5
            refine wpAnyH_take (i := 13) (v := .agg #[.int .i64 0, .bool false, .slice A17 (n - 1) c17]) (lit rfl) (by kernel_rfl) (by kernel_rfl) (by kernel_rfl) (fun _ _ _ h => h) (Or.inl ⟨by rfl, ?_⟩) hS4 ?_
            · rintro w6 hb6
              go_simp
            simp only [Act.put, List.setIfInBounds_toArray, List.set_cons_zero, List.set_cons_succ]
            refine wpAnyH_ready (rs := [14]) (by kernel_rfl) (by simp) ?_
            refine AllReadyH.cons (lit rfl) (fun K5 hK5 => ?_) AllReadyH.nil
            refine step_open rfl ?_
            go_simp
            have hS5 : w20.grownBy (stN w17 P5 (.int .i64 0) (.bool false) (.slice A17 (n - 1) c17)) (some P5) := only_store (only_store (only_store hS4 0 _) 1 _) 2 _
            unfold stN at hS5
            refine hK5.out _ _ hS5 (fun _ => ?_)
            clear hK5 K5
            refine wpAnyH_done (by kernel_rfl) ?_ _
            refine hK _ _ ?_
            obtain ⟨W21, hW21⟩ : ∃ W, stN w17 P5 (.int .i64 0) (.bool false) (.slice A17 (n - 1) c17) = W := ⟨_, rfl⟩
            have X5 := Z5c.setN (.int .i64 0) (.bool false) (.slice A17 (n - 1) c17)
            rw [hW21] at X5
            have hW21b := hW21
            unfold stN at hW21b
            try rw [hW21b]
            have ord := HORD.out
            have h20 := HMS.out.h5.lt
            have h20b := B20.out.size
            have hwd := HWD.out
            have ht4 := hT4.size
            have ht2 := hT2.size
            have ht1 := hT1.size
            have hgxl : GX < V1.heap.size := by
              obtain ⟨gx, ox, hx1, hx2, hx3⟩ := M1.out.reads (by simp [nvL])
              have h1 : gx < V1.heap.size := World.block_lt_of_cell? V1 _ (hx3 0 _ rfl)
              have h2 : gx = GX := hx2
              omega
            have hst : ∀ q, q ≠ P5 → q < w17.heap.size → W21.heap[q]? = w17.heap[q]? := fun q hq _ => hW21 ▸ heap_setN w17 P5 _ _ _ q hq
            have hmo : ∀ q, (F q ∧ q < w.heap.size) → ((F q ∧ q < w.heap.size) ∨ P5 < q) ∧ W21.heap[q]? = w.heap[q]? := fun q hq => ⟨.inl hq, by
              have hbw := BW20.out.size
              rw [hst q (by omega) (by omega), hT4.block q (by omega), BW20.out.block q hq.2]⟩
            have hcm : CellT (fun q => (F q ∧ q < w.heap.size) ∨ P5 < q) W21 (⟨ea.k, [], none, 0, 0, some ⟨GX, 0, none⟩, 1, 1⟩ : CE) ((kidT l j).1, joinT (kidT l (j + 1)).1 (kidT l j).2 (kidT l (j + 1)).2) := by
              refine newC_rep (G := fun q => P5 < q) (key := (kidT l j).1) (bl := eka ++ yb) ⟨⟨HEA.out, rfl, rfl, rfl, rfl⟩, rfl, ⟨0, lfa, Ax, mb, cx⟩, ⟨rfl, HJK.out.1.symm⟩, ?_, ?_⟩ HJK.out.2.1 (fun q hq => .inr hq) (HJ.out _ W21 hmo)
              · exact (M1.out.below (below_step hb12 b17)).move (fun q hq hl => ⟨by omega, hst q (by omega) hl⟩)
              · exact (HRW20.out.below hT4).move (fun q hq hl => ⟨by omega, hst q (by omega) hl⟩)
            have hrep : RepN (fun q => (F q ∧ q < w.heap.size) ∨ P5 < q) W21 ⟨0, false, A17, n - 1, c17⟩ (.branch 0 (mergeT l j)) := by
              refine repN_branch.2 ⟨rfl, rfl, _, r17.move (fun q hq hl => ⟨.inr (by omega), hst q (by omega) hl⟩), HMR.out _ W21 _ hmo hcm⟩
            have hP21 : P5 < W21.heap.size := X5.lt
            have hpm := r15parted_any _ ⟨0, false, A17, n - 1, c17⟩ 0 (mergeT l j) j W21 hrep HML.out.1 HML.out.2.1 (by rw [HML.out.2.2]; exact HJK.out.2.2)
            have HPM : Hid (Calls Try.prog 43 #[.agg #[.int .i64 0, .bool false, .slice A17 (n - 1) c17], .int .i64 (j : Int)] W21 fun r w' => Below W21.heap.size W21 w' ∧ ∃ (v : NV) (b : Bool), r = .returned (.tuple #[.agg #[.int .i64 v.p, .bool v.lf, .slice v.A v.n v.c], .bool b]) ∧ RepN (fun q => (F q ∧ q < w.heap.size) ∨ P5 < q) w' v (.branch 0 (partT (mergeT l j) j))) := Lib.hid (hpm.mono (by
              rintro r w' ⟨h1, ⟨h2, rfl⟩ | ⟨h2, v', rfl, hv⟩⟩
              · exact ⟨h1, ⟨0, false, A17, n - 1, c17⟩, false, rfl, by rw [partT, if_pos h2]; exact hrep.stay h1⟩
              · exact ⟨h1, v', true, rfl, by rw [partT, if_neg h2]; exact hv.mono (fun q hq => hq.elim id (fun h => .inr (by omega)))⟩))
            have q50 := X5.cell 0
            have q51 := X5.cell 1
            have q52 := X5.cell 2
            have hB21 : Below w.heap.size w W21 := hW21 ▸ below_setN (below_step BW20.out hT4) (by omega) _ _ _
            have HB21 := Lib.hid hB21
            have X4 : Has W21 P4 33 #[.int .i64 0, .bool false, .slice none 0 0] := (hst P4 (by omega) (by have := H4.out.lt; omega)).trans (H4.out.below hT4 H4.out.lt)
            have HX5 := Lib.hid X5
            have HX4 := Lib.hid X4
            clear hpm hrep hcm hmo hst hW21 hW21b X5 X4 hB21 Z5c z50 z51 z52 z53 z54 z55 r17 b17
            go_wp2_with (go_at_call 43; (with_reducible refine HPM.out.mono ?_); rintro r22 w22 ⟨b22, v22, bb, rfl, m22⟩; obtain ⟨p22, lf22, A22, n22, c22⟩ := v22; simp only; have Y5 := HX5.out.below b22 HX5.out.lt; have y50 := Y5.cell 0; have y51 := Y5.cell 1; have y52 := Y5.cell 2; have y53 := Y5.free 0; have y54 := Y5.free 1; have y55 := Y5.free 2; have Y4 := HX4.out.below b22 HX4.out.lt; have HY5 := Lib.hid Y5; have HY4 := Lib.hid Y4; have B22 := Lib.hid b22; have M22 := Lib.hid m22; have X5 := Y5.setN (.int .i64 p22) (.bool lf22) (.slice A22 n22 c22); have s50 := X5.cell 0; have s51 := X5.cell 1; have s52 := X5.cell 2; have X4 : Has (stN w22 P5 (.int .i64 p22) (.bool lf22) (.slice A22 n22 c22)) P4 33 #[.int .i64 0, .bool false, .slice none 0 0] := (heap_setN w22 P5 _ _ _ P4 (by omega)).trans Y4; have s40 := X4.cell 0; have s41 := X4.cell 1; have s42 := X4.cell 2; have s43 := X4.free 0; have s44 := X4.free 1; have s45 := X4.free 2; unfold stN at s50 s51 s52 s40 s41 s42 s43 s44 s45; simp at s50 s51 s52; have HX4c := Lib.hid X4; clear Y5 Y4 X5 X4 b22 m22)
            have XE := HX4c.out.setN (.int .i64 p22) (.bool lf22) (.slice A22 n22 c22)
            have e0 := XE.cell 0
            have e1 := XE.cell 1
            have e2 := XE.cell 2
            unfold stN at e0 e1 e2
            simp at e0 e1 e2
            have hb22 := B22.out.size
            refine ⟨rfl, .agg #[.int .i64 p22, .bool lf22, .slice A22 n22 c22], ?_, ⟨p22, lf22, A22, n22, c22⟩, rfl, ?_, ?_⟩
            · simp [results, Try.f26, go_sem, e0, e1, e2]
            · rw [HM.out]
              refine RepN.move (F := fun q => (F q ∧ q < w.heap.size) ∨ P5 < q) (fun q hq hl => ⟨?_, ?_⟩) M22.out
              · rcases hq with hq | hq
                · exact .inl hq.1
                · exact .inr (by omega)
              · exact (heap_setN _ P4 _ _ _ q (by rcases hq with hq | hq <;> omega)).trans (heap_setN w22 P5 _ _ _ q (by rcases hq with hq | hq <;> omega))
            · exact below_setN (below_setN (below_step HB21.out B22.out) (by omega) _ _ _) (by omega) _ _ _
end Go.Proofs.Ytclaiigelgbpdaa
