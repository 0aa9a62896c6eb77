import Derived.Test.YtpaklhifnndeoaaJ16
/- Of a claim's texts, joined: Tqq. No statement but in the last. -/
namespace Go.Proofs.Ytpaklhifnndeoaa
open Go.RowKit
set_option linter.unusedVariables false

def soundT : Tr → Bool
  | .leaf p l => decide (sumZ (sizesT (.leaf p l)) ≤ 122) && (decide (0 < l.length) && (okKs [] (l.map (·.k)) && okVs l))
  | .branch p l => decide (sumZ (sizesT (.branch p l)) ≤ 122) && (decide (1 < l.length) && (decide ((kidT l 0).1 = []) && okKs [] ((l.map (·.1)).drop 1)))
theorem cuSumT_any (t : Tr) (A : Option Addr) (c : Nat) (w : World) (h : RowZ w A (cellsN t) c (sizesT t)) (hb : BndN 100 t) : Calls Try.prog 82 #[.slice A (cellsN t) c] w fun e w' => e = .returned (.int .i64 (sumZ (sizesT t))) ∧ Below w.heap.size w w' := cuSum_any _ A _ c w h (siz_tree hb)
set_option maxRecDepth 100000 in
set_option maxHeartbeats 4000000 in
theorem trIsSound_leaf (F : Nat → Prop) (x : NDV) (p : Int) (l : List Lf) (w : World) (h : RepT F w x (.leaf p l)) (hb : BndN 100 (.leaf p l)) (hpg : ∀ y ∈ l, y.pg.length ≤ 1000) :
    Calls Try.prog 67 #[ndV x] w fun e w' => e = .returned (.bool (soundT (.leaf p l))) ∧ Below w.heap.size w w' := by
  have hrow := h
  obtain ⟨hp, hlf, hk, ⟨vs, hv, hvb⟩, hd⟩ := repT_rowL.1 hrow
  obtain ⟨V, hV⟩ : ∃ W, w.alloc (.cells #[.int .i64 x.p, .bool x.lf, .slice x.kA x.kn x.kc, .slice x.vA x.vn x.vc, .slice x.dA x.dn x.dc] 29) = W := ⟨_, rfl⟩
  have hB0 : Below w.heap.size w V := hV ▸ (Below.refl _ w).alloc (Nat.le_refl _) _
  have hX : Has V w.heap.size 29 #[.int .i64 x.p, .bool x.lf, .slice x.kA x.kn x.kc, .slice x.vA x.vn x.vc, .slice x.dA x.dn x.dc] := hV ▸ Has.made w 29 _
  have HSZ := Lib.hid (trSizes_any F x (.leaf p l) V (h.stay hB0) hb)
  have HSU := Lib.hid (fun A c w1 h => cuSumT_any (.leaf p l) A c w1 h hb)
  obtain ⟨xp, xlf, kA, kn, kc, vA, vn, vc, dA, dn, dc⟩ := x
  simp only at hp hlf hk hv hd hV hX
  subst hp hlf
  obtain rfl : dn = 0 := hd.zero (by omega)
  have e1 : kn = l.length := by have := hk.len; simpa using this.symm
  have e2 : vn = kn := by rw [hv.lenS veL_len (by omega), hvb.1, e1]
  subst e2
  unfold ndV at HSZ ⊢
  simp only at HSZ ⊢
  have hl1 : l.length ≤ 100 := hb.1
  have HAK := Lib.hid (fun (w1 : World) (hb1 : Below w.heap.size w w1) => trAreKeys_any F kA vn kc (l.map (·.k)) w1 (by have := hk.below hb1; rw [List.map_map]; exact this) (by omega) (fun y hy => by obtain ⟨z, hz, rfl⟩ := List.mem_map.1 hy; have := hb.2 z hz; omega))
  have HAV := Lib.hid (fun (w1 : World) (hb1 : Below w.heap.size w w1) => trAreVals_any F vA vn vc l vs w1 (hv.below hb1) (hvb.mono fun x y _ _ h => ⟨h.1, h.2.below hb1⟩) (by omega) (fun y hy => ⟨by have := hb.2 y hy; omega, hpg y hy⟩))
  obtain ⟨P1, hP1⟩ : ∃ P, w.heap.size = P := ⟨_, rfl⟩
  rw [hP1] at hX
  have HX := Lib.hid hX
  have x10 := hX.cell 0
  have x11 := hX.cell 1
  have x12 := hX.cell 2
  have x13 := hX.cell 3
  have x14 := hX.cell 4
  have HB0 := Lib.hid hB0
  obtain ⟨sm, hsm⟩ : ∃ s, sumZ (sizesT (.leaf xp l)) = s := ⟨_, rfl⟩
  rw [hsm] at HSU
  have HS : Hid (soundT (.leaf xp l) = (decide (sm ≤ 122) && (decide (0 < vn) && (okKs [] (l.map (·.k)) && okVs l)))) := Lib.hid (by show (decide (sumZ (sizesT (Tr.leaf xp l)) ≤ 122) && (decide (0 < l.length) && (okKs [] (l.map (·.k)) && okVs l))) = _; rw [hsm, e1])
  rw [HS.out]
  obtain ⟨rk, hrk⟩ : ∃ r, okKs [] (l.map (·.k)) = r := ⟨_, rfl⟩
  obtain ⟨rv, hrv⟩ : ∃ r, okVs l = r := ⟨_, rfl⟩
  rw [hrk] at HAK ⊢
  rw [hrv] at HAV ⊢
  clear h hrow hb hpg hk hv hvb hd hB0 hX hsm e1 hl1 HS hrk hrv
  by_cases hs : sm ≤ 122
  · have hs1 : ¬ (122 < sm) := by omega
    by_cases hn : 0 < vn
    · have hni : (0 : Int) < (vn : Int) := by omega
      cases rk
      · go_enter Try.func67, Try.ntmps67
        go_wp2_with (first
          | (go_at_call 42; (with_reducible refine HSZ.out.mono ?_); rintro e6 w6 ⟨A6, c6, rfl, r6, b6⟩; have R6 := Lib.hid r6; have B6 := Lib.hid b6; clear r6 b6)
          | (go_at_call 82; (with_reducible refine (HSU.out _ _ _ R6.out).mono ?_); rintro e7 w7 ⟨rfl, b7⟩; have bb := below_step B6.out b7; have z := HX.out.below bb HX.out.lt; have y0 := z.cell 0; have y1 := z.cell 1; have y2 := z.cell 2; have y3 := z.cell 3; have y4 := z.cell 4; have B7 := Lib.hid (below_step HB0.out bb); clear b7 bb z)
          | (go_at_call 89; (with_reducible refine (HAK.out _ B7.out).mono ?_); rintro e8 w8 ⟨rfl, rfl⟩))
        go_ret
        exact ⟨by rw [decide_eq_true hs, decide_eq_true hn]; rfl, (by first | exact B7.out | exact hP1 ▸ B7.out | (rw [← hP1]; exact B7.out))⟩
      · go_enter Try.func67, Try.ntmps67
        go_wp2_with (first
          | (go_at_call 42; (with_reducible refine HSZ.out.mono ?_); rintro e6 w6 ⟨A6, c6, rfl, r6, b6⟩; have R6 := Lib.hid r6; have B6 := Lib.hid b6; clear r6 b6)
          | (go_at_call 82; (with_reducible refine (HSU.out _ _ _ R6.out).mono ?_); rintro e7 w7 ⟨rfl, b7⟩; have bb := below_step B6.out b7; have z := HX.out.below bb HX.out.lt; have y0 := z.cell 0; have y1 := z.cell 1; have y2 := z.cell 2; have y3 := z.cell 3; have y4 := z.cell 4; have B7 := Lib.hid (below_step HB0.out bb); clear b7 bb z)
          | (go_at_call 89; (with_reducible refine (HAK.out _ B7.out).mono ?_); rintro e8 w8 ⟨rfl, rfl⟩)
          | (go_at_call 90; (with_reducible refine (HAV.out _ B7.out).mono ?_); rintro e9 w9 ⟨rfl, b9⟩; have B9 := Lib.hid (below_step B7.out b9); clear b9))
        go_ret
        exact ⟨by rw [decide_eq_true hs, decide_eq_true hn]; rfl, (by first | exact B9.out | exact hP1 ▸ B9.out | (rw [← hP1]; exact B9.out))⟩
    · have hn0 : vn = 0 := by omega
      subst hn0
      go_enter Try.func67, Try.ntmps67
      go_wp2_with (first
        | (go_at_call 42; (with_reducible refine HSZ.out.mono ?_); rintro e6 w6 ⟨A6, c6, rfl, r6, b6⟩; have R6 := Lib.hid r6; have B6 := Lib.hid b6; clear r6 b6)
        | (go_at_call 82; (with_reducible refine (HSU.out _ _ _ R6.out).mono ?_); rintro e7 w7 ⟨rfl, b7⟩; have bb := below_step B6.out b7; have z := HX.out.below bb HX.out.lt; have y0 := z.cell 0; have y1 := z.cell 1; have y2 := z.cell 2; have y3 := z.cell 3; have y4 := z.cell 4; have B7 := Lib.hid (below_step HB0.out bb); clear b7 bb z))
      go_ret
      exact ⟨by rw [decide_eq_true hs]; rfl, (by first | exact B7.out | exact hP1 ▸ B7.out | (rw [← hP1]; exact B7.out))⟩
  · have hs1 : 122 < sm := by omega
    go_enter Try.func67, Try.ntmps67
    go_wp2_with (first
      | (go_at_call 42; (with_reducible refine HSZ.out.mono ?_); rintro e6 w6 ⟨A6, c6, rfl, r6, b6⟩; have R6 := Lib.hid r6; have B6 := Lib.hid b6; clear r6 b6)
      | (go_at_call 82; (with_reducible refine (HSU.out _ _ _ R6.out).mono ?_); rintro e7 w7 ⟨rfl, b7⟩; have bb := below_step B6.out b7; have z := HX.out.below bb HX.out.lt; have y0 := z.cell 0; have y1 := z.cell 1; have y2 := z.cell 2; have y3 := z.cell 3; have y4 := z.cell 4; have B7 := Lib.hid (below_step HB0.out bb); clear b7 bb z))
    go_ret
    exact ⟨by first | (rw [show decide (sm ≤ 122) = false from decide_eq_false (by omega)]; rfl) | (simp; intros; omega), (by first | exact B7.out | exact hP1 ▸ B7.out | (rw [← hP1]; exact B7.out))⟩
set_option maxRecDepth 100000 in
set_option maxHeartbeats 4000000 in
theorem trIsSound_branch (F : Nat → Prop) (x : NDV) (p : Int) (l : List (List UInt8 × Tr)) (w : World) (h : RepT F w x (.branch p l)) (hb : BndN 100 (.branch p l)) :
    Calls Try.prog 67 #[ndV x] w fun e w' => e = .returned (.bool (soundT (.branch p l))) ∧ Below w.heap.size w w' := by
  have hrow := h
  obtain ⟨hp, hlf, hk, hv, ks, hd, hdb⟩ := repT_rowB.1 hrow
  obtain ⟨V, hV⟩ : ∃ W, w.alloc (.cells #[.int .i64 x.p, .bool x.lf, .slice x.kA x.kn x.kc, .slice x.vA x.vn x.vc, .slice x.dA x.dn x.dc] 29) = W := ⟨_, rfl⟩
  have hB0 : Below w.heap.size w V := hV ▸ (Below.refl _ w).alloc (Nat.le_refl _) _
  have hX : Has V w.heap.size 29 #[.int .i64 x.p, .bool x.lf, .slice x.kA x.kn x.kc, .slice x.vA x.vn x.vc, .slice x.dA x.dn x.dc] := hV ▸ Has.made w 29 _
  have HSZ := Lib.hid (trSizes_any F x (.branch p l) V (h.stay hB0) hb)
  have HSU := Lib.hid (fun A c w1 h => cuSumT_any (.branch p l) A c w1 h hb)
  obtain ⟨xp, xlf, kA, kn, kc, vA, vn, vc, dA, dn, dc⟩ := x
  simp only at hp hlf hk hv hd hV hX
  subst hp hlf
  obtain rfl : vn = 0 := hv.zero (by omega)
  have e1 : kn = l.length := by have := hk.len; simpa using this.symm
  have e2 : dn = kn := by rw [hd.lenS ndL_len (by omega), hdb.1, e1]
  subst e2
  unfold ndV at HSZ ⊢
  simp only at HSZ ⊢
  have hl1 : l.length ≤ 100 := hb.1
  have hroom := hk.room
  have hmost := hk.most
  obtain ⟨P1, hP1⟩ : ∃ P, w.heap.size = P := ⟨_, rfl⟩
  rw [hP1] at hX
  have HX := Lib.hid hX
  have HB0 := Lib.hid hB0
  obtain ⟨sm, hsm⟩ : ∃ s, sumZ (sizesT (.branch xp l)) = s := ⟨_, rfl⟩
  rw [hsm] at HSU
  have HS : Hid (soundT (.branch xp l) = (decide (sm ≤ 122) && (decide (1 < dn) && (decide ((kidT l 0).1 = []) && okKs [] ((l.map (·.1)).drop 1))))) := Lib.hid (by show (decide (sumZ (sizesT (Tr.branch xp l)) ≤ 122) && (decide (1 < l.length) && (decide ((kidT l 0).1 = []) && okKs [] ((l.map (·.1)).drop 1)))) = _; rw [hsm, e1])
  rw [HS.out]
  by_cases hs : sm ≤ 122
  case neg =>
    have x10 := hX.cell 0
    have x11 := hX.cell 1
    have x12 := hX.cell 2
    have x13 := hX.cell 3
    have x14 := hX.cell 4
    have hs1 : 122 < sm := by omega
    clear h hrow hb hk hv hd hdb hB0 hX hsm e1 hl1 HS hroom hmost
    go_enter Try.func67, Try.ntmps67
    go_wp2_with (first
      | (go_at_call 42; (with_reducible refine HSZ.out.mono ?_); rintro e6 w6 ⟨A6, c6, rfl, r6, b6⟩; have R6 := Lib.hid r6; have B6 := Lib.hid b6; clear r6 b6)
      | (go_at_call 82; (with_reducible refine (HSU.out _ _ _ R6.out).mono ?_); rintro e7 w7 ⟨rfl, b7⟩; have bb := below_step B6.out b7; have z := HX.out.below bb HX.out.lt; have y0 := z.cell 0; have y1 := z.cell 1; have y2 := z.cell 2; have y3 := z.cell 3; have y4 := z.cell 4; have B7 := Lib.hid (below_step HB0.out bb); clear b7 bb z))
    go_ret
    exact ⟨by first | (rw [show decide (sm ≤ 122) = false from decide_eq_false (by omega)]; rfl) | (simp; intros; omega), (by first | exact B7.out | exact hP1 ▸ B7.out | (rw [← hP1]; exact B7.out))⟩
  have hs1 : ¬ (122 < sm) := by omega
  by_cases hn : 1 < dn
  case neg =>
    have x10 := hX.cell 0
    have x11 := hX.cell 1
    have x12 := hX.cell 2
    have x13 := hX.cell 3
    have x14 := hX.cell 4
    have hni : ¬ ((1 : Int) < (dn : Int)) := by omega
    clear h hrow hb hk hv hd hdb hB0 hX hsm e1 hl1 HS hroom hmost
    go_enter Try.func67, Try.ntmps67
    go_wp2_with (first
      | (go_at_call 42; (with_reducible refine HSZ.out.mono ?_); rintro e6 w6 ⟨A6, c6, rfl, r6, b6⟩; have R6 := Lib.hid r6; have B6 := Lib.hid b6; clear r6 b6)
      | (go_at_call 82; (with_reducible refine (HSU.out _ _ _ R6.out).mono ?_); rintro e7 w7 ⟨rfl, b7⟩; have bb := below_step B6.out b7; have z := HX.out.below bb HX.out.lt; have y0 := z.cell 0; have y1 := z.cell 1; have y2 := z.cell 2; have y3 := z.cell 3; have y4 := z.cell 4; have B7 := Lib.hid (below_step HB0.out bb); clear b7 bb z))
    go_ret
    exact ⟨by first | (rw [decide_eq_true hs, decide_eq_false (by omega)]; rfl) | (simp; done) | (simp; intros; omega), (by first | exact B7.out | exact hP1 ▸ B7.out | (rw [← hP1]; exact B7.out))⟩
  have hni : (1 : Int) < (dn : Int) := by omega
  obtain ⟨gk, offk, rfl, _, ck⟩ := hk.str (k := 0) (kid_some15 (l := l) (by omega))
  have hbk := (hk.back (k := 1) (by omega))
  rw [if_neg (by omega), add1_15] at hbk
  have HAK := Lib.hid (fun (w1 : World) (hb1 : Below w.heap.size w w1) => trAreKeys_any F (some ⟨gk, offk + 1, none⟩) (dn - 1) (kc - 1) ((l.map (·.1)).drop 1) w1 (by have := hbk.below hb1; rw [List.map_drop, List.map_map]; exact this) (by omega) (fun y hy => by obtain ⟨z, hz, rfl⟩ := List.mem_map.1 (List.mem_of_mem_drop hy); have := hb.2 z hz; omega))
  obtain ⟨rk, hrk⟩ : ∃ r, okKs [] ((l.map (·.1)).drop 1) = r := ⟨_, rfl⟩
  rw [hrk] at HAK ⊢
  obtain ⟨sk, hsk⟩ : ∃ s : ByteArray, (⟨(kidT l 0).1.toArray⟩ : ByteArray) = s := ⟨_, rfl⟩
  have hkl : sk.toList = (kidT l 0).1 := by rw [← hsk]; exact Go.ByteArray.toList_mk _
  rw [hsk, Nat.add_zero] at ck
  have HCK := Lib.hid ck
  rw [← hkl]
  have x10 := hX.cell 0
  have x11 := hX.cell 1
  have x12 := hX.cell 2
  have x13 := hX.cell 3
  have x14 := hX.cell 4
  have sl1 : ¬ (kc = 1) := by omega
  have sl2 : (1 : Int) ≤ (dn : Int) := by omega
  have sl3 : (1 : Int) ≤ (kc : Int) := by omega
  have sl4 : dn ≤ kc := hroom
  have sl5 : 1 ≤ dn := by omega
  have sl6 : kc ≤ 9223372036854775807 := by unfold maxLen at hmost; omega
  have i9 : (0 : Int) < (dn : Int) := by omega
  have dne : ((⟨#[]⟩ : ByteArray).toList) = [] := Go.ByteArray.toList_mk []
  clear h hrow hb hk hv hd hdb hB0 hX hsm e1 hl1 HS hroom hmost hbk hrk hsk ck hkl
  by_cases hz : sk.toList = []
  · have hz1 : (sk.toList == []) = true := by rw [hz]; rfl
    have hz2 : decide (sk.toList = []) = true := by simpa using hz
    rw [hz2]
    clear hz hz2
    go_enter Try.func67, Try.ntmps67
    go_wp2_with (first
      | (go_at_call 42; (with_reducible refine HSZ.out.mono ?_); rintro e6 w6 ⟨A6, c6, rfl, r6, b6⟩; have R6 := Lib.hid r6; have B6 := Lib.hid b6; clear r6 b6)
      | (go_at_call 82; (with_reducible refine (HSU.out _ _ _ R6.out).mono ?_); rintro e7 w7 ⟨rfl, b7⟩; have bb := below_step B6.out b7; have z := HX.out.below bb HX.out.lt; have y0 := z.cell 0; have y1 := z.cell 1; have y2 := z.cell 2; have y3 := z.cell 3; have y4 := z.cell 4; have B7 := Lib.hid (below_step HB0.out bb); have ck7 := cell_below HCK.out B7.out; clear b7 bb z)
      | (go_at_call 89; (with_reducible refine (HAK.out _ B7.out).mono ?_); rintro e8 w8 ⟨rfl, rfl⟩))
    go_ret
    exact ⟨by rw [decide_eq_true hs, decide_eq_true hn]; rfl, (by first | exact B7.out | exact hP1 ▸ B7.out | (rw [← hP1]; exact B7.out))⟩
  · have hz1 : (sk.toList == []) = false := by simpa using hz
    have hz2 : decide (sk.toList = []) = false := by simpa using hz
    rw [hz2]
    clear hz hz2
    go_enter Try.func67, Try.ntmps67
    go_wp2_with (first
      | (go_at_call 42; (with_reducible refine HSZ.out.mono ?_); rintro e6 w6 ⟨A6, c6, rfl, r6, b6⟩; have R6 := Lib.hid r6; have B6 := Lib.hid b6; clear r6 b6)
      | (go_at_call 82; (with_reducible refine (HSU.out _ _ _ R6.out).mono ?_); rintro e7 w7 ⟨rfl, b7⟩; have bb := below_step B6.out b7; have z := HX.out.below bb HX.out.lt; have y0 := z.cell 0; have y1 := z.cell 1; have y2 := z.cell 2; have y3 := z.cell 3; have y4 := z.cell 4; have B7 := Lib.hid (below_step HB0.out bb); have ck7 := cell_below HCK.out B7.out; clear b7 bb z))
    go_ret
    exact ⟨by rw [decide_eq_true hs, decide_eq_true hn]; rfl, (by first | exact B7.out | exact hP1 ▸ B7.out | (rw [← hP1]; exact B7.out))⟩
def betwT (lo hi : List UInt8) (K : List (List UInt8)) (k : Nat) : Bool := !Op.bytesLess lo (K.getD k []) && (decide (k + 1 = K.length) || Op.bytesLess hi (K.getD (k + 1) []))
set_option maxRecDepth 100000 in
set_option maxHeartbeats 4000000 in
theorem trBetween_any (F : Nat → Prop) (lo hi : List UInt8) (hh : Int) (A : Option Addr) (n c k : Nat) (K : List (List UInt8)) (w : World) (h : RwF F w A n c 1 (K.map fun y => strV y)) (hk : k < K.length) (hn : n ≤ 1000) :
    Calls Try.prog 69 #[.agg #[.string ⟨lo.toArray⟩, .string ⟨hi.toArray⟩, .int .i64 hh], .slice A n c, .int .i64 (k : Int)] w fun e w' => e = .returned (.bool (betwT lo hi K k)) ∧ Below w.heap.size w w' := by
  have e1 : n = K.length := by have := h.len; simpa using this.symm
  obtain ⟨gk, offk, rfl, _, ck⟩ := h.str (g := fun y => y) (List.getElem?_eq_getElem hk)
  obtain ⟨sl, hsl⟩ : ∃ s : ByteArray, (⟨lo.toArray⟩ : ByteArray) = s := ⟨_, rfl⟩
  obtain ⟨sg, hsg⟩ : ∃ s : ByteArray, (⟨hi.toArray⟩ : ByteArray) = s := ⟨_, rfl⟩
  obtain ⟨sk, hsk⟩ : ∃ s : ByteArray, (⟨(K[k]).toArray⟩ : ByteArray) = s := ⟨_, rfl⟩
  have hl1 : lo = sl.toList := by rw [← hsl]; exact (Go.ByteArray.toList_mk _).symm
  have hg1 : hi = sg.toList := by rw [← hsg]; exact (Go.ByteArray.toList_mk _).symm
  have hk1 : K.getD k [] = sk.toList := by rw [List.getD_eq_getElem?_getD, List.getElem?_eq_getElem hk, ← hsk]; exact (Go.ByteArray.toList_mk _).symm
  obtain ⟨W, hW⟩ : ∃ W, w.alloc (.cells #[.string sl, .string sg, .int .i64 hh] 88) = W := ⟨_, rfl⟩
  have hB0 : Below w.heap.size w W := hW ▸ (Below.refl _ w).alloc (Nat.le_refl _) _
  have hX : Has W w.heap.size 88 #[.string sl, .string sg, .int .i64 hh] := hW ▸ Has.made w 88 _
  rw [hsk] at ck
  have hck := cell_below ck hB0
  obtain ⟨P3, hP3⟩ : ∃ P, w.heap.size = P := ⟨_, rfl⟩
  rw [hP3] at hX
  have HX : Hid (∀ w' : World, Below W.heap.size W w' → w'.cell? ⟨P3, 0, none⟩ = some (.string sl) ∧ w'.cell? ⟨P3, 1, none⟩ = some (.string sg) ∧ w'.cell? ⟨gk, offk + k, none⟩ = some (.string sk) ∧ True) := Lib.hid (fun w' hb => ⟨(hX.below hb hX.lt).cell 0, (hX.below hb hX.lt).cell 1, cell_below hck hb, trivial⟩)
  have HJ0 := Lib.hid (fun (w' : World) (hb : Below W.heap.size W w') (h1 : k + 1 < K.length) => (h.below (below_step hB0 hb)).str (g := fun y => y) (List.getElem?_eq_getElem h1))
  obtain ⟨j, hj⟩ : ∃ j, k + 1 = j := ⟨_, rfl⟩
  have hkj : (k : Int) + 1 = (j : Int) := by omega
  have hjw : IntKind.i64.wrap (j : Int) = (j : Int) := by rw [IntWalk.i64_in _ (by omega)]
  have i0 : (0 : Int) ≤ (k : Int) := by omega
  have i1 : (k : Int) < (n : Int) := by omega
  have HBT : Hid (betwT lo hi K k = (!Op.bytesLess sl.toList sk.toList && (decide (j = n) || Op.bytesLess sg.toList (K.getD j [])))) := Lib.hid (by unfold betwT; rw [hk1, hl1, hg1, hj, e1])
  have HB0 := Lib.hid hB0
  have HN : Hid (n = K.length ∧ k + 1 = j) := Lib.hid ⟨e1, hj⟩
  have hmx : Try.prog.follows .mixedOrders = true := by kernel_rfl
  have hS0 : Below W.heap.size W W.drew := (Below.refl _ W).drew
  rw [hsl, hsg, HBT.out]
  clear h hk hsl hsg hsk hl1 hg1 hk1 hB0 hX ck hck e1 hj HBT
  by_cases hlow : Op.bytesLess sl.toList sk.toList = true
  · obtain ⟨f0, f1⟩ : True ∧ True := ⟨trivial, trivial⟩
    rw [hlow]
    go_enter Try.func69, Try.ntmps69
    go_wp2
    clear hW hP3
    first | (rename_i K hK; refine wp_held (fun w' : World => Below W.heap.size W w') K hmx ?_ (fun _ _ h => h)) | (rename_i K hK hz; refine wp_held (fun w' : World => Below W.heap.size W w') K hmx ?_ (fun _ _ h => h))
    obtain ⟨Wd, hWd⟩ : ∃ X, W.drew = X := ⟨_, rfl⟩
    rw [hWd] at hS0 ⊢
    clear hWd
    refine wpAnyH_take (i := 0) (v := .pointer (some ⟨P3, 0, none⟩)) (lit rfl) (by kernel_rfl) (by kernel_rfl) (by kernel_rfl) (fun _ _ _ h => h) (Or.inl ⟨by rfl, ?_⟩) hS0 ?_
    · rintro w6 hb6
      go_simp
    simp only [Act.put, List.setIfInBounds_toArray, List.set_cons_zero, List.set_cons_succ]
    refine wpAnyH_take (i := 1) (v := .string sl) (lit rfl) (by kernel_rfl) (by kernel_rfl) (by kernel_rfl) (fun _ _ _ h => h) (Or.inl ⟨by rfl, ?_⟩) hS0 ?_
    · rintro w6 hb6
      have y6 := (HX.out w6 hb6).1
      go_simp
    simp only [Act.put, List.setIfInBounds_toArray, List.set_cons_zero, List.set_cons_succ]
    refine wpAnyH_take (i := 2) (v := .slice (some ⟨gk, offk, none⟩) n c) (lit rfl) (by kernel_rfl) (by kernel_rfl) (by kernel_rfl) (fun _ _ _ h => h) (Or.inl ⟨by rfl, ?_⟩) hS0 ?_
    · rintro w6 hb6
      go_simp
    simp only [Act.put, List.setIfInBounds_toArray, List.set_cons_zero, List.set_cons_succ]
    refine wpAnyH_take (i := 3) (v := .int .i64 (k : Int)) (lit rfl) (by kernel_rfl) (by kernel_rfl) (by kernel_rfl) (fun _ _ _ h => h) (Or.inl ⟨by rfl, ?_⟩) hS0 ?_
    · rintro w6 hb6
      go_simp
    simp only [Act.put, List.setIfInBounds_toArray, List.set_cons_zero, List.set_cons_succ]
    refine wpAnyH_take (i := 4) (v := .pointer (some ⟨gk, offk + k, none⟩)) (lit rfl) (by kernel_rfl) (by kernel_rfl) (by kernel_rfl) (fun _ _ _ h => h) (Or.inl ⟨by rfl, ?_⟩) hS0 ?_
    · rintro w6 hb6
      go_simp
    simp only [Act.put, List.setIfInBounds_toArray, List.set_cons_zero, List.set_cons_succ]
    refine wpAnyH_take (i := 5) (v := .string sk) (lit rfl) (by kernel_rfl) (by kernel_rfl) (by kernel_rfl) (fun _ _ _ h => h) (Or.inl ⟨by rfl, ?_⟩) hS0 ?_
    · rintro w6 hb6
      have y6 := (HX.out w6 hb6).2.2.1
      go_simp
    simp only [Act.put, List.setIfInBounds_toArray, List.set_cons_zero, List.set_cons_succ]
    refine wpAnyH_take (i := 6) (v := .bool false) (lit rfl) (by kernel_rfl) (by kernel_rfl) (by kernel_rfl) (fun _ _ _ h => h) (Or.inl ⟨by rfl, ?_⟩) hS0 ?_
    · rintro w6 hb6
      go_simp
    simp only [Act.put, List.setIfInBounds_toArray, List.set_cons_zero, List.set_cons_succ]
    refine wpAnyH_take (i := 7) (v := .bool false) (lit rfl) (by kernel_rfl) (by kernel_rfl) (by kernel_rfl) (fun _ _ _ h => h) (Or.inl ⟨by rfl, ?_⟩) hS0 ?_
    · rintro w6 hb6
      go_simp
    simp only [Act.put, List.setIfInBounds_toArray, List.set_cons_zero, List.set_cons_succ]
    refine wpAnyH_take (i := 8) (v := undef) (lit rfl) (by kernel_rfl) (by kernel_rfl) (by kernel_rfl) (fun _ _ _ h => h) (Or.inr ⟨by rfl, rfl⟩) hS0 ?_
    simp only [Act.put, List.setIfInBounds_toArray, List.set_cons_zero, List.set_cons_succ]
    refine wpAnyH_take (i := 9) (v := undef) (lit rfl) (by kernel_rfl) (by kernel_rfl) (by kernel_rfl) (fun _ _ _ h => h) (Or.inr ⟨by rfl, rfl⟩) hS0 ?_
    simp only [Act.put, List.setIfInBounds_toArray, List.set_cons_zero, List.set_cons_succ]
    refine wpAnyH_take (i := 10) (v := undef) (lit rfl) (by kernel_rfl) (by kernel_rfl) (by kernel_rfl) (fun _ _ _ h => h) (Or.inr ⟨by rfl, rfl⟩) hS0 ?_
    simp only [Act.put, List.setIfInBounds_toArray, List.set_cons_zero, List.set_cons_succ]
    refine wpAnyH_take (i := 11) (v := undef) (lit rfl) (by kernel_rfl) (by kernel_rfl) (by kernel_rfl) (fun _ _ _ h => h) (Or.inr ⟨by rfl, rfl⟩) hS0 ?_
    simp only [Act.put, List.setIfInBounds_toArray, List.set_cons_zero, List.set_cons_succ]
    refine wpAnyH_take (i := 12) (v := undef) (lit rfl) (by kernel_rfl) (by kernel_rfl) (by kernel_rfl) (fun _ _ _ h => h) (Or.inr ⟨by rfl, rfl⟩) hS0 ?_
    simp only [Act.put, List.setIfInBounds_toArray, List.set_cons_zero, List.set_cons_succ]
    refine wpAnyH_take (i := 13) (v := undef) (lit rfl) (by kernel_rfl) (by kernel_rfl) (by kernel_rfl) (fun _ _ _ h => h) (Or.inr ⟨by rfl, rfl⟩) hS0 ?_
    simp only [Act.put, List.setIfInBounds_toArray, List.set_cons_zero, List.set_cons_succ]
    refine wpAnyH_take (i := 14) (v := undef) (lit rfl) (by kernel_rfl) (by kernel_rfl) (by kernel_rfl) (fun _ _ _ h => h) (Or.inr ⟨by rfl, rfl⟩) hS0 ?_
    simp only [Act.put, List.setIfInBounds_toArray, List.set_cons_zero, List.set_cons_succ]
    refine wpAnyH_take (i := 15) (v := undef) (lit rfl) (by kernel_rfl) (by kernel_rfl) (by kernel_rfl) (fun _ _ _ h => h) (Or.inr ⟨by rfl, rfl⟩) hS0 ?_
    simp only [Act.put, List.setIfInBounds_toArray, List.set_cons_zero, List.set_cons_succ]
    refine wpAnyH_take (i := 16) (v := undef) (lit rfl) (by kernel_rfl) (by kernel_rfl) (by kernel_rfl) (fun _ _ _ h => h) (Or.inr ⟨by rfl, rfl⟩) hS0 ?_
    simp only [Act.put, List.setIfInBounds_toArray, List.set_cons_zero, List.set_cons_succ]
    refine wpAnyH_take (i := 17) (v := undef) (lit rfl) (by kernel_rfl) (by kernel_rfl) (by kernel_rfl) (fun _ _ _ h => h) (Or.inr ⟨by rfl, rfl⟩) hS0 ?_
    simp only [Act.put, List.setIfInBounds_toArray, List.set_cons_zero, List.set_cons_succ]
    refine wpAnyH_take (i := 18) (v := undef) (lit rfl) (by kernel_rfl) (by kernel_rfl) (by kernel_rfl) (fun _ _ _ h => h) (Or.inr ⟨by rfl, rfl⟩) hS0 ?_
    simp only [Act.put, List.setIfInBounds_toArray, List.set_cons_zero, List.set_cons_succ]
    refine wpAnyH_take (i := 19) (v := undef) (lit rfl) (by kernel_rfl) (by kernel_rfl) (by kernel_rfl) (fun _ _ _ h => h) (Or.inr ⟨by rfl, rfl⟩) hS0 ?_
    simp only [Act.put, List.setIfInBounds_toArray, List.set_cons_zero, List.set_cons_succ]
    refine wpAnyH_take (i := 20) (v := undef) (lit rfl) (by kernel_rfl) (by kernel_rfl) (by kernel_rfl) (fun _ _ _ h => h) (Or.inr ⟨by rfl, rfl⟩) hS0 ?_
    simp only [Act.put, List.setIfInBounds_toArray, List.set_cons_zero, List.set_cons_succ]
    refine wpAnyH_take (i := 21) (v := undef) (lit rfl) (by kernel_rfl) (by kernel_rfl) (by kernel_rfl) (fun _ _ _ h => h) (Or.inr ⟨by rfl, rfl⟩) hS0 ?_
    simp only [Act.put, List.setIfInBounds_toArray, List.set_cons_zero, List.set_cons_succ]
    refine wpAnyH_take (i := 22) (v := undef) (lit rfl) (by kernel_rfl) (by kernel_rfl) (by kernel_rfl) (fun _ _ _ h => h) (Or.inr ⟨by rfl, rfl⟩) hS0 ?_
    simp only [Act.put, List.setIfInBounds_toArray, List.set_cons_zero, List.set_cons_succ]
    refine wpAnyH_take (i := 23) (v := .bool false) (lit rfl) (by kernel_rfl) (by kernel_rfl) (by kernel_rfl) (fun _ _ _ h => h) (Or.inl ⟨by rfl, ?_⟩) hS0 ?_
    · rintro w6 hb6
      go_simp
    simp only [Act.put, List.setIfInBounds_toArray, List.set_cons_zero, List.set_cons_succ]
    refine wpAnyH_take (i := 24) (v := .bool false) (lit rfl) (by kernel_rfl) (by kernel_rfl) (by kernel_rfl) (fun _ _ _ h => h) (Or.inl ⟨by rfl, ?_⟩) hS0 ?_
    · rintro w6 hb6
      go_simp
    simp only [Act.put, List.setIfInBounds_toArray, List.set_cons_zero, List.set_cons_succ]
    refine wpAnyH_done (by kernel_rfl) ?_ _
    refine hK _ _ ?_
    go_wp2
    go_ret
    exact ⟨rfl, below_step HB0.out hS0⟩
  · have hlow : Op.bytesLess sl.toList sk.toList = false := by simpa using hlow
    rw [hlow]
    by_cases hjn : j = n
    · subst hjn
      have hji : ((j : Int) == (j : Int)) = true := by simp
      simp only [Bool.not_false, Bool.true_and, decide_true, Bool.true_or]
      go_enter Try.func69, Try.ntmps69
      go_wp2
      clear hW hP3
      first | (rename_i K hK; refine wp_held (fun w' : World => Below W.heap.size W w') K hmx ?_ (fun _ _ h => h)) | (rename_i K hK hz; refine wp_held (fun w' : World => Below W.heap.size W w') K hmx ?_ (fun _ _ h => h))
      obtain ⟨Wd, hWd⟩ : ∃ X, W.drew = X := ⟨_, rfl⟩
      rw [hWd] at hS0 ⊢
      clear hWd
      refine wpAnyH_take (i := 0) (v := .pointer (some ⟨P3, 0, none⟩)) (lit rfl) (by kernel_rfl) (by kernel_rfl) (by kernel_rfl) (fun _ _ _ h => h) (Or.inl ⟨by rfl, ?_⟩) hS0 ?_
      · rintro w6 hb6
        go_simp
      simp only [Act.put, List.setIfInBounds_toArray, List.set_cons_zero, List.set_cons_succ]
      refine wpAnyH_take (i := 1) (v := .string sl) (lit rfl) (by kernel_rfl) (by kernel_rfl) (by kernel_rfl) (fun _ _ _ h => h) (Or.inl ⟨by rfl, ?_⟩) hS0 ?_
      · rintro w6 hb6
        have y6 := (HX.out w6 hb6).1
        go_simp
      simp only [Act.put, List.setIfInBounds_toArray, List.set_cons_zero, List.set_cons_succ]
      refine wpAnyH_take (i := 2) (v := .slice (some ⟨gk, offk, none⟩) j c) (lit rfl) (by kernel_rfl) (by kernel_rfl) (by kernel_rfl) (fun _ _ _ h => h) (Or.inl ⟨by rfl, ?_⟩) hS0 ?_
      · rintro w6 hb6
        go_simp
      simp only [Act.put, List.setIfInBounds_toArray, List.set_cons_zero, List.set_cons_succ]
      refine wpAnyH_take (i := 3) (v := .int .i64 (k : Int)) (lit rfl) (by kernel_rfl) (by kernel_rfl) (by kernel_rfl) (fun _ _ _ h => h) (Or.inl ⟨by rfl, ?_⟩) hS0 ?_
      · rintro w6 hb6
        go_simp
      simp only [Act.put, List.setIfInBounds_toArray, List.set_cons_zero, List.set_cons_succ]
      refine wpAnyH_take (i := 4) (v := .pointer (some ⟨gk, offk + k, none⟩)) (lit rfl) (by kernel_rfl) (by kernel_rfl) (by kernel_rfl) (fun _ _ _ h => h) (Or.inl ⟨by rfl, ?_⟩) hS0 ?_
      · rintro w6 hb6
        go_simp
      simp only [Act.put, List.setIfInBounds_toArray, List.set_cons_zero, List.set_cons_succ]
      refine wpAnyH_take (i := 5) (v := .string sk) (lit rfl) (by kernel_rfl) (by kernel_rfl) (by kernel_rfl) (fun _ _ _ h => h) (Or.inl ⟨by rfl, ?_⟩) hS0 ?_
      · rintro w6 hb6
        have y6 := (HX.out w6 hb6).2.2.1
        go_simp
      simp only [Act.put, List.setIfInBounds_toArray, List.set_cons_zero, List.set_cons_succ]
      refine wpAnyH_take (i := 6) (v := .bool true) (lit rfl) (by kernel_rfl) (by kernel_rfl) (by kernel_rfl) (fun _ _ _ h => h) (Or.inl ⟨by rfl, ?_⟩) hS0 ?_
      · rintro w6 hb6
        go_simp
      simp only [Act.put, List.setIfInBounds_toArray, List.set_cons_zero, List.set_cons_succ]
      refine wpAnyH_take (i := 7) (v := .bool true) (lit rfl) (by kernel_rfl) (by kernel_rfl) (by kernel_rfl) (fun _ _ _ h => h) (Or.inl ⟨by rfl, ?_⟩) hS0 ?_
      · rintro w6 hb6
        go_simp
      simp only [Act.put, List.setIfInBounds_toArray, List.set_cons_zero, List.set_cons_succ]
      refine wpAnyH_take (i := 8) (v := .int .i64 (k : Int)) (lit rfl) (by kernel_rfl) (by kernel_rfl) (by kernel_rfl) (fun _ _ _ h => h) (Or.inl ⟨by rfl, ?_⟩) hS0 ?_
      · rintro w6 hb6
        go_simp
      simp only [Act.put, List.setIfInBounds_toArray, List.set_cons_zero, List.set_cons_succ]
      refine wpAnyH_take (i := 9) (v := .int .i64 (j : Int)) (lit rfl) (by kernel_rfl) (by kernel_rfl) (by kernel_rfl) (fun _ _ _ h => h) (Or.inl ⟨by rfl, ?_⟩) hS0 ?_
      · rintro w6 hb6
        go_simp
      simp only [Act.put, List.setIfInBounds_toArray, List.set_cons_zero, List.set_cons_succ]
      refine wpAnyH_take (i := 10) (v := .slice (some ⟨gk, offk, none⟩) j c) (lit rfl) (by kernel_rfl) (by kernel_rfl) (by kernel_rfl) (fun _ _ _ h => h) (Or.inl ⟨by rfl, ?_⟩) hS0 ?_
      · rintro w6 hb6
        go_simp
      simp only [Act.put, List.setIfInBounds_toArray, List.set_cons_zero, List.set_cons_succ]
      refine wpAnyH_take (i := 11) (v := .int .i64 (j : Int)) (lit rfl) (by kernel_rfl) (by kernel_rfl) (by kernel_rfl) (fun _ _ _ h => h) (Or.inl ⟨by rfl, ?_⟩) hS0 ?_
      · rintro w6 hb6
        go_simp
      simp only [Act.put, List.setIfInBounds_toArray, List.set_cons_zero, List.set_cons_succ]
      refine wpAnyH_take (i := 12) (v := .bool true) (lit rfl) (by kernel_rfl) (by kernel_rfl) (by kernel_rfl) (fun _ _ _ h => h) (Or.inl ⟨by rfl, ?_⟩) hS0 ?_
      · rintro w6 hb6
        go_simp
      simp only [Act.put, List.setIfInBounds_toArray, List.set_cons_zero, List.set_cons_succ]
      refine wpAnyH_take (i := 13) (v := .bool true) (lit rfl) (by kernel_rfl) (by kernel_rfl) (by kernel_rfl) (fun _ _ _ h => h) (Or.inl ⟨by rfl, ?_⟩) hS0 ?_
      · rintro w6 hb6
        go_simp
      simp only [Act.put, List.setIfInBounds_toArray, List.set_cons_zero, List.set_cons_succ]
      refine wpAnyH_take (i := 14) (v := undef) (lit rfl) (by kernel_rfl) (by kernel_rfl) (by kernel_rfl) (fun _ _ _ h => h) (Or.inr ⟨by rfl, rfl⟩) hS0 ?_
      simp only [Act.put, List.setIfInBounds_toArray, List.set_cons_zero, List.set_cons_succ]
      refine wpAnyH_take (i := 15) (v := undef) (lit rfl) (by kernel_rfl) (by kernel_rfl) (by kernel_rfl) (fun _ _ _ h => h) (Or.inr ⟨by rfl, rfl⟩) hS0 ?_
      simp only [Act.put, List.setIfInBounds_toArray, List.set_cons_zero, List.set_cons_succ]
      refine wpAnyH_take (i := 16) (v := undef) (lit rfl) (by kernel_rfl) (by kernel_rfl) (by kernel_rfl) (fun _ _ _ h => h) (Or.inr ⟨by rfl, rfl⟩) hS0 ?_
      simp only [Act.put, List.setIfInBounds_toArray, List.set_cons_zero, List.set_cons_succ]
      refine wpAnyH_take (i := 17) (v := undef) (lit rfl) (by kernel_rfl) (by kernel_rfl) (by kernel_rfl) (fun _ _ _ h => h) (Or.inr ⟨by rfl, rfl⟩) hS0 ?_
      simp only [Act.put, List.setIfInBounds_toArray, List.set_cons_zero, List.set_cons_succ]
      refine wpAnyH_take (i := 18) (v := undef) (lit rfl) (by kernel_rfl) (by kernel_rfl) (by kernel_rfl) (fun _ _ _ h => h) (Or.inr ⟨by rfl, rfl⟩) hS0 ?_
      simp only [Act.put, List.setIfInBounds_toArray, List.set_cons_zero, List.set_cons_succ]
      refine wpAnyH_take (i := 19) (v := undef) (lit rfl) (by kernel_rfl) (by kernel_rfl) (by kernel_rfl) (fun _ _ _ h => h) (Or.inr ⟨by rfl, rfl⟩) hS0 ?_
      simp only [Act.put, List.setIfInBounds_toArray, List.set_cons_zero, List.set_cons_succ]
      refine wpAnyH_take (i := 20) (v := undef) (lit rfl) (by kernel_rfl) (by kernel_rfl) (by kernel_rfl) (fun _ _ _ h => h) (Or.inr ⟨by rfl, rfl⟩) hS0 ?_
      simp only [Act.put, List.setIfInBounds_toArray, List.set_cons_zero, List.set_cons_succ]
      refine wpAnyH_take (i := 21) (v := undef) (lit rfl) (by kernel_rfl) (by kernel_rfl) (by kernel_rfl) (fun _ _ _ h => h) (Or.inr ⟨by rfl, rfl⟩) hS0 ?_
      simp only [Act.put, List.setIfInBounds_toArray, List.set_cons_zero, List.set_cons_succ]
      refine wpAnyH_take (i := 22) (v := .bool true) (lit rfl) (by kernel_rfl) (by kernel_rfl) (by kernel_rfl) (fun _ _ _ h => h) (Or.inl ⟨by rfl, ?_⟩) hS0 ?_
      · rintro w6 hb6
        go_simp
      simp only [Act.put, List.setIfInBounds_toArray, List.set_cons_zero, List.set_cons_succ]
      refine wpAnyH_take (i := 23) (v := .bool true) (lit rfl) (by kernel_rfl) (by kernel_rfl) (by kernel_rfl) (fun _ _ _ h => h) (Or.inl ⟨by rfl, ?_⟩) hS0 ?_
      · rintro w6 hb6
        go_simp
      simp only [Act.put, List.setIfInBounds_toArray, List.set_cons_zero, List.set_cons_succ]
      refine wpAnyH_take (i := 24) (v := .bool true) (lit rfl) (by kernel_rfl) (by kernel_rfl) (by kernel_rfl) (fun _ _ _ h => h) (Or.inl ⟨by rfl, ?_⟩) hS0 ?_
      · rintro w6 hb6
        go_simp
      simp only [Act.put, List.setIfInBounds_toArray, List.set_cons_zero, List.set_cons_succ]
      refine wpAnyH_done (by kernel_rfl) ?_ _
      refine hK _ _ ?_
      go_wp2
      go_ret
      exact ⟨rfl, below_step HB0.out hS0⟩
    · have h1 : k + 1 < K.length := by have := HN.out; omega
      have hjl : j < K.length := by have := HN.out; omega
      obtain ⟨gk', offk', hgg, _, hcj⟩ := HJ0.out W (Below.refl _ _) h1
      injection hgg with hgg
      injection hgg with hg1 hg2 _
      subst hg1 hg2
      obtain ⟨sj, hsj⟩ : ∃ s : ByteArray, (⟨(K[k + 1]).toArray⟩ : ByteArray) = s := ⟨_, rfl⟩
      have hj1 : K.getD j [] = sj.toList := by rw [← HN.out.2, List.getD_eq_getElem?_getD, List.getElem?_eq_getElem h1, ← hsj]; exact (Go.ByteArray.toList_mk _).symm
      rw [hsj] at hcj
      rw [HN.out.2] at hcj
      have HJK : Hid (∀ w' : World, Below W.heap.size W w' → w'.cell? ⟨gk, offk + j, none⟩ = some (.string sj)) := Lib.hid (fun w' hb => cell_below hcj hb)
      have hji : ¬ ((j : Int) = (n : Int)) := by omega
      have i2 : (0 : Int) ≤ (j : Int) := by omega
      have i3 : (j : Int) < (n : Int) := by have := HN.out; omega
      have hd : decide (j = n) = false := by simpa using hjn
      rw [hj1, hd]
      simp only [Bool.not_false, Bool.true_and, Bool.false_or]
      clear hcj hsj hj1 h1 hjl hd
      go_enter Try.func69, Try.ntmps69
      go_wp2
      clear hW hP3
      first | (rename_i K hK; refine wp_held (fun w' : World => Below W.heap.size W w') K hmx ?_ (fun _ _ h => h)) | (rename_i K hK hz; refine wp_held (fun w' : World => Below W.heap.size W w') K hmx ?_ (fun _ _ h => h))
      obtain ⟨Wd, hWd⟩ : ∃ X, W.drew = X := ⟨_, rfl⟩
      rw [hWd] at hS0 ⊢
      clear hWd
      refine wpAnyH_take (i := 0) (v := .pointer (some ⟨P3, 0, none⟩)) (lit rfl) (by kernel_rfl) (by kernel_rfl) (by kernel_rfl) (fun _ _ _ h => h) (Or.inl ⟨by rfl, ?_⟩) hS0 ?_
      · rintro w6 hb6
        go_simp
      simp only [Act.put, List.setIfInBounds_toArray, List.set_cons_zero, List.set_cons_succ]
      refine wpAnyH_take (i := 1) (v := .string sl) (lit rfl) (by kernel_rfl) (by kernel_rfl) (by kernel_rfl) (fun _ _ _ h => h) (Or.inl ⟨by rfl, ?_⟩) hS0 ?_
      · rintro w6 hb6
        have y6 := (HX.out w6 hb6).1
        go_simp
      simp only [Act.put, List.setIfInBounds_toArray, List.set_cons_zero, List.set_cons_succ]
      refine wpAnyH_take (i := 2) (v := .slice (some ⟨gk, offk, none⟩) n c) (lit rfl) (by kernel_rfl) (by kernel_rfl) (by kernel_rfl) (fun _ _ _ h => h) (Or.inl ⟨by rfl, ?_⟩) hS0 ?_
      · rintro w6 hb6
        go_simp
      simp only [Act.put, List.setIfInBounds_toArray, List.set_cons_zero, List.set_cons_succ]
      refine wpAnyH_take (i := 3) (v := .int .i64 (k : Int)) (lit rfl) (by kernel_rfl) (by kernel_rfl) (by kernel_rfl) (fun _ _ _ h => h) (Or.inl ⟨by rfl, ?_⟩) hS0 ?_
      · rintro w6 hb6
        go_simp
      simp only [Act.put, List.setIfInBounds_toArray, List.set_cons_zero, List.set_cons_succ]
      refine wpAnyH_take (i := 4) (v := .pointer (some ⟨gk, offk + k, none⟩)) (lit rfl) (by kernel_rfl) (by kernel_rfl) (by kernel_rfl) (fun _ _ _ h => h) (Or.inl ⟨by rfl, ?_⟩) hS0 ?_
      · rintro w6 hb6
        go_simp
      simp only [Act.put, List.setIfInBounds_toArray, List.set_cons_zero, List.set_cons_succ]
      refine wpAnyH_take (i := 5) (v := .string sk) (lit rfl) (by kernel_rfl) (by kernel_rfl) (by kernel_rfl) (fun _ _ _ h => h) (Or.inl ⟨by rfl, ?_⟩) hS0 ?_
      · rintro w6 hb6
        have y6 := (HX.out w6 hb6).2.2.1
        go_simp
      simp only [Act.put, List.setIfInBounds_toArray, List.set_cons_zero, List.set_cons_succ]
      refine wpAnyH_take (i := 6) (v := .bool true) (lit rfl) (by kernel_rfl) (by kernel_rfl) (by kernel_rfl) (fun _ _ _ h => h) (Or.inl ⟨by rfl, ?_⟩) hS0 ?_
      · rintro w6 hb6
        go_simp
      simp only [Act.put, List.setIfInBounds_toArray, List.set_cons_zero, List.set_cons_succ]
      refine wpAnyH_take (i := 7) (v := .bool true) (lit rfl) (by kernel_rfl) (by kernel_rfl) (by kernel_rfl) (fun _ _ _ h => h) (Or.inl ⟨by rfl, ?_⟩) hS0 ?_
      · rintro w6 hb6
        go_simp
      simp only [Act.put, List.setIfInBounds_toArray, List.set_cons_zero, List.set_cons_succ]
      refine wpAnyH_take (i := 8) (v := .int .i64 (k : Int)) (lit rfl) (by kernel_rfl) (by kernel_rfl) (by kernel_rfl) (fun _ _ _ h => h) (Or.inl ⟨by rfl, ?_⟩) hS0 ?_
      · rintro w6 hb6
        go_simp
      simp only [Act.put, List.setIfInBounds_toArray, List.set_cons_zero, List.set_cons_succ]
      refine wpAnyH_take (i := 9) (v := .int .i64 (j : Int)) (lit rfl) (by kernel_rfl) (by kernel_rfl) (by kernel_rfl) (fun _ _ _ h => h) (Or.inl ⟨by rfl, ?_⟩) hS0 ?_
      · rintro w6 hb6
        go_simp
      simp only [Act.put, List.setIfInBounds_toArray, List.set_cons_zero, List.set_cons_succ]
      refine wpAnyH_take (i := 10) (v := .slice (some ⟨gk, offk, none⟩) n c) (lit rfl) (by kernel_rfl) (by kernel_rfl) (by kernel_rfl) (fun _ _ _ h => h) (Or.inl ⟨by rfl, ?_⟩) hS0 ?_
      · rintro w6 hb6
        go_simp
      simp only [Act.put, List.setIfInBounds_toArray, List.set_cons_zero, List.set_cons_succ]
      refine wpAnyH_take (i := 11) (v := .int .i64 (n : Int)) (lit rfl) (by kernel_rfl) (by kernel_rfl) (by kernel_rfl) (fun _ _ _ h => h) (Or.inl ⟨by rfl, ?_⟩) hS0 ?_
      · rintro w6 hb6
        go_simp
      simp only [Act.put, List.setIfInBounds_toArray, List.set_cons_zero, List.set_cons_succ]
      refine wpAnyH_take (i := 12) (v := .bool false) (lit rfl) (by kernel_rfl) (by kernel_rfl) (by kernel_rfl) (fun _ _ _ h => h) (Or.inl ⟨by rfl, ?_⟩) hS0 ?_
      · rintro w6 hb6
        go_simp
      simp only [Act.put, List.setIfInBounds_toArray, List.set_cons_zero, List.set_cons_succ]
      refine wpAnyH_take (i := 13) (v := .bool false) (lit rfl) (by kernel_rfl) (by kernel_rfl) (by kernel_rfl) (fun _ _ _ h => h) (Or.inl ⟨by rfl, ?_⟩) hS0 ?_
      · rintro w6 hb6
        go_simp
      simp only [Act.put, List.setIfInBounds_toArray, List.set_cons_zero, List.set_cons_succ]
      refine wpAnyH_take (i := 14) (v := .pointer (some ⟨P3, 1, none⟩)) (lit rfl) (by kernel_rfl) (by kernel_rfl) (by kernel_rfl) (fun _ _ _ h => h) (Or.inl ⟨by rfl, ?_⟩) hS0 ?_
      · rintro w6 hb6
        go_simp
      simp only [Act.put, List.setIfInBounds_toArray, List.set_cons_zero, List.set_cons_succ]
      refine wpAnyH_take (i := 15) (v := .string sg) (lit rfl) (by kernel_rfl) (by kernel_rfl) (by kernel_rfl) (fun _ _ _ h => h) (Or.inl ⟨by rfl, ?_⟩) hS0 ?_
      · rintro w6 hb6
        have y6 := (HX.out w6 hb6).2.1
        go_simp
      simp only [Act.put, List.setIfInBounds_toArray, List.set_cons_zero, List.set_cons_succ]
      refine wpAnyH_take (i := 16) (v := .slice (some ⟨gk, offk, none⟩) n c) (lit rfl) (by kernel_rfl) (by kernel_rfl) (by kernel_rfl) (fun _ _ _ h => h) (Or.inl ⟨by rfl, ?_⟩) hS0 ?_
      · rintro w6 hb6
        go_simp
      simp only [Act.put, List.setIfInBounds_toArray, List.set_cons_zero, List.set_cons_succ]
      refine wpAnyH_take (i := 17) (v := .int .i64 (k : Int)) (lit rfl) (by kernel_rfl) (by kernel_rfl) (by kernel_rfl) (fun _ _ _ h => h) (Or.inl ⟨by rfl, ?_⟩) hS0 ?_
      · rintro w6 hb6
        go_simp
      simp only [Act.put, List.setIfInBounds_toArray, List.set_cons_zero, List.set_cons_succ]
      refine wpAnyH_take (i := 18) (v := .int .i64 (j : Int)) (lit rfl) (by kernel_rfl) (by kernel_rfl) (by kernel_rfl) (fun _ _ _ h => h) (Or.inl ⟨by rfl, ?_⟩) hS0 ?_
      · rintro w6 hb6
        go_simp
      simp only [Act.put, List.setIfInBounds_toArray, List.set_cons_zero, List.set_cons_succ]
      refine wpAnyH_take (i := 19) (v := .pointer (some ⟨gk, offk + j, none⟩)) (lit rfl) (by kernel_rfl) (by kernel_rfl) (by kernel_rfl) (fun _ _ _ h => h) (Or.inl ⟨by rfl, ?_⟩) hS0 ?_
      · rintro w6 hb6
        go_simp
      simp only [Act.put, List.setIfInBounds_toArray, List.set_cons_zero, List.set_cons_succ]
      refine wpAnyH_take (i := 20) (v := .string sj) (lit rfl) (by kernel_rfl) (by kernel_rfl) (by kernel_rfl) (fun _ _ _ h => h) (Or.inl ⟨by rfl, ?_⟩) hS0 ?_
      · rintro w6 hb6
        have y6 := HJK.out w6 hb6
        go_simp
      simp only [Act.put, List.setIfInBounds_toArray, List.set_cons_zero, List.set_cons_succ]
      refine wpAnyH_take (i := 21) (v := .bool (Op.bytesLess sg.toList sj.toList)) (lit rfl) (by kernel_rfl) (by kernel_rfl) (by kernel_rfl) (fun _ _ _ h => h) (Or.inl ⟨by rfl, ?_⟩) hS0 ?_
      · rintro w6 hb6
        go_simp
      simp only [Act.put, List.setIfInBounds_toArray, List.set_cons_zero, List.set_cons_succ]
      refine wpAnyH_take (i := 22) (v := .bool (Op.bytesLess sg.toList sj.toList)) (lit rfl) (by kernel_rfl) (by kernel_rfl) (by kernel_rfl) (fun _ _ _ h => h) (Or.inl ⟨by rfl, ?_⟩) hS0 ?_
      · rintro w6 hb6
        go_simp
      simp only [Act.put, List.setIfInBounds_toArray, List.set_cons_zero, List.set_cons_succ]
      refine wpAnyH_take (i := 23) (v := .bool (Op.bytesLess sg.toList sj.toList)) (lit rfl) (by kernel_rfl) (by kernel_rfl) (by kernel_rfl) (fun _ _ _ h => h) (Or.inl ⟨by rfl, ?_⟩) hS0 ?_
      · rintro w6 hb6
        go_simp
      simp only [Act.put, List.setIfInBounds_toArray, List.set_cons_zero, List.set_cons_succ]
      refine wpAnyH_take (i := 24) (v := .bool (Op.bytesLess sg.toList sj.toList)) (lit rfl) (by kernel_rfl) (by kernel_rfl) (by kernel_rfl) (fun _ _ _ h => h) (Or.inl ⟨by rfl, ?_⟩) hS0 ?_
      · rintro w6 hb6
        go_simp
      simp only [Act.put, List.setIfInBounds_toArray, List.set_cons_zero, List.set_cons_succ]
      refine wpAnyH_done (by kernel_rfl) ?_ _
      refine hK _ _ ?_
      go_wp2
      go_ret
      exact ⟨rfl, below_step HB0.out hS0⟩
end Go.Proofs.Ytpaklhifnndeoaa
