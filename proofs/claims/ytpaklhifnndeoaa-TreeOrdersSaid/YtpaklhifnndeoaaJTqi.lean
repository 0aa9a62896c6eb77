import Derived.Test.YtpaklhifnndeoaaJ10
import Derived.Deep.Cut
/- Of a claim's texts, joined: Tqi. No statement but in the last. -/
namespace Go.Proofs.Ytpaklhifnndeoaa
open Go.RowKit
set_option linter.unusedVariables false

theorem wp_named {c : Code} {P : Program} {Q : Exit → Act → World → Prop} {a : Act} {w : World} (h : ∀ a0, a0 = a → c.wp P Q a0 w) : c.wp P Q a w := h a rfl
theorem keys_drop {t : Tr} {n : Nat} (h : n < cellsN t) : (keysT (dropT n t))[0]? = some (keyT n t) := by
  cases t with
  | leaf p l =>
    have h' : n < l.length := h
    show ((l.drop n).map (·.k))[0]? = some (l.getD n default).k
    rw [List.getElem?_map, List.getElem?_drop, Nat.add_zero, List.getElem?_eq_getElem h', List.getD_eq_getElem?_getD, List.getElem?_eq_getElem h']
    rfl
  | branch p l =>
    have h' : n < l.length := h
    show ((l.drop n).map (·.1))[0]? = some (l.getD n default).1
    rw [List.getElem?_map, List.getElem?_drop, Nat.add_zero, List.getElem?_eq_getElem h', List.getD_eq_getElem?_getD, List.getElem?_eq_getElem h']
    rfl
theorem RwF.of_has (F : Nat → Prop) {w : World} {g : Nat} {t : TypeId} {cs : Array Value} (h : Has w g t cs) (n s : Nat) (hl : cs.toList.length = n * s) (hn : n ≤ maxLen) (hF : F g) : RwF F w (some ⟨g, 0, none⟩) n n s cs.toList :=
  ⟨hl, Nat.le_refl _, hn, fun e => (by cases e), fun hx => ⟨g, 0, rfl, hF, fun j u hj => by rw [h.cell, Nat.zero_add]; simpa using hj⟩⟩
theorem not_fw {Fo : Nat → Prop} {B V P : Nat} (h : ∀ q, Fo q → q < B) (h1 : B ≤ P) (h2 : P < V) : ¬ Fw Fo V P := fun hq => by
  rcases hq with hq | hq
  · have := h P hq
    omega
  · omega
theorem st5_only (w : World) (P : Nat) (a b c d e : Value) : w.grownBy (st5 w P a b c d e) (some P) := only_store (only_store (only_store (only_store (only_store (only_refl w P) 0 a) 1 b) 2 c) 3 d) 4 e
structure TwoN (F : Nat → Prop) (V w : World) (P8 P9 : Nat) (z1 z2 : NDV) (t1 t2 : Tr) : Prop where
  bl : Below V.heap.size V w
  b8 : Has w P8 29 #[.int .i64 z1.p, .bool z1.lf, .slice z1.kA z1.kn z1.kc, .slice z1.vA z1.vn z1.vc, .slice z1.dA z1.dn z1.dc]
  b9 : Has w P9 29 #[.int .i64 z2.p, .bool z2.lf, .slice z2.kA z2.kn z2.kc, .slice z2.vA z2.vn z2.vc, .slice z2.dA z2.dn z2.dc]
  o1 : OwnN F V.heap.size w z1 t1
  o2 : OwnN F V.heap.size w z2 t2
  h8 : V.heap.size ≤ P8
  h9 : V.heap.size ≤ P9
  ne : P8 ≠ P9
  s1 : ∀ q, z1.has q → q ≠ P8 ∧ q ≠ P9
  s2 : ∀ q, z2.has q → q ≠ P8 ∧ q ≠ P9
  s12 : ∀ q, z1.has q → ¬ z2.has q
structure TwoP (F : Nat → Prop) (V w : World) (P8 P9 : Nat) (z1 z2 : NDV) (t1 t2 : Tr) : Prop where
  bl : Below V.heap.size V w
  b8 : Has w P8 29 #[.int .i64 0, .bool false, .slice none 0 0, .slice none 0 0, .slice none 0 0]
  b9 : Has w P9 29 #[.int .i64 0, .bool false, .slice none 0 0, .slice none 0 0, .slice none 0 0]
  o1 : OwnN F V.heap.size w z1 t1
  o2 : OwnN F V.heap.size w z2 t2
  h8 : V.heap.size ≤ P8
  h9 : V.heap.size ≤ P9
  ne : P8 ≠ P9
  s1 : ∀ q, z1.has q → q ≠ P8 ∧ q ≠ P9
  s2 : ∀ q, z2.has q → q ≠ P8 ∧ q ≠ P9
  s12 : ∀ q, z1.has q → ¬ z2.has q
theorem wpAnyH_cut {P : Program} {md : Region.Mode} {ops : Array Oper} {Q : Exit → Act → World → Prop} {S : World → Prop} {fuel : Nat} {listed : Array Bool} {a : Act} {w : World} (R : Nat → Array Bool → Act → World → Prop)
    (h1 : ∀ f l a w, R f l a w → wpAnyH P md ops Q S f l a w) (h2 : (∀ f l a w, R f l a w → wpAnyH P md ops Q S f l a w) → wpAnyH P md ops Q S fuel listed a w) : wpAnyH P md ops Q S fuel listed a w := h2 h1
theorem two_end {F : Nat → Prop} {V w : World} {P8 P9 : Nat} {z1 z2 : NDV} {t1 t2 : Tr} (hF : ∀ q, F q → q < V.heap.size) (bl : Below V.heap.size V w) (b8 : Has w P8 29 #[.int .i64 0, .bool false, .slice none 0 0, .slice none 0 0, .slice none 0 0]) (b9 : Has w P9 29 #[.int .i64 0, .bool false, .slice none 0 0, .slice none 0 0, .slice none 0 0]) (o1 : OwnN F V.heap.size w z1 t1) (o2 : OwnN F V.heap.size w z2 t2) (h8 : V.heap.size ≤ P8) (h9 : V.heap.size ≤ P9) (ne : P8 ≠ P9) (s1 : ∀ q, z1.has q → q ≠ P8 ∧ q ≠ P9) (s2 : ∀ q, z2.has q → q ≠ P8 ∧ q ≠ P9) (s12 : ∀ q, z1.has q → ¬ z2.has q) :
    TwoN F V (st5 (st5 w P8 (.int .i64 z1.p) (.bool z1.lf) (.slice z1.kA z1.kn z1.kc) (.slice z1.vA z1.vn z1.vc) (.slice z1.dA z1.dn z1.dc)) P9 (.int .i64 z2.p) (.bool z2.lf) (.slice z2.kA z2.kn z2.kc) (.slice z2.vA z2.vn z2.vc) (.slice z2.dA z2.dn z2.dc)) P8 P9 z1 z2 t1 t2 := by
  have n8 : ¬ F P8 := fun h => by have := hF _ h; omega
  have n9 : ¬ F P9 := fun h => by have := hF _ h; omega
  have g1 := st5_only w P8 (.int .i64 z1.p) (.bool z1.lf) (.slice z1.kA z1.kn z1.kc) (.slice z1.vA z1.vn z1.vc) (.slice z1.dA z1.dn z1.dc)
  have a8 := b8.st5 (.int .i64 z1.p) (.bool z1.lf) (.slice z1.kA z1.kn z1.kc) (.slice z1.vA z1.vn z1.vc) (.slice z1.dA z1.dn z1.dc)
  have a9 := b9.grown g1 (by intro e; injection e with e; exact ne e.symm)
  have p1 := o1.kept g1 (fun q hq => (s1 q hq).1) n8
  have p2 := o2.kept g1 (fun q hq => (s2 q hq).1) n8
  have c1 := below_st5 bl h8 (.int .i64 z1.p) (.bool z1.lf) (.slice z1.kA z1.kn z1.kc) (.slice z1.vA z1.vn z1.vc) (.slice z1.dA z1.dn z1.dc)
  generalize st5 w P8 (.int .i64 z1.p) (.bool z1.lf) (.slice z1.kA z1.kn z1.kc) (.slice z1.vA z1.vn z1.vc) (.slice z1.dA z1.dn z1.dc) = W at *
  have g2 := st5_only W P9 (.int .i64 z2.p) (.bool z2.lf) (.slice z2.kA z2.kn z2.kc) (.slice z2.vA z2.vn z2.vc) (.slice z2.dA z2.dn z2.dc)
  exact ⟨below_st5 c1 h9 _ _ _ _ _, a8.grown g2 (by intro e; injection e with e; exact ne e), a9.st5 _ _ _ _ _, p1.kept g2 (fun q hq => (s1 q hq).2) n9, p2.kept g2 (fun q hq => (s2 q hq).2) n9, h8, h9, ne, s1, s2, s12⟩
set_option maxRecDepth 100000 in
set_option maxHeartbeats 16000000 in
theorem trSplit_any (F : Nat → Prop) (x : NDV) (p : Int) (l : List (List UInt8 × Tr)) (k n : Nat) (w : World) (h : RepT F w x (.branch p l)) (hl : l.length ≤ 500) (hk : k < l.length) (hc : cellsN (kidT l k).2 ≤ 500) (hn1 : 1 ≤ n) (hn2 : n < cellsN (kidT l k).2) :
    Calls Try.prog 73 #[ndV x, .int .i64 (k : Int), .int .i64 (n : Int)] w (NodT (Fw (fun q => F q ∧ q < w.heap.size) w.heap.size) (.branch 0 (splitT l k n)) w) := by
  obtain ⟨hp, hlf, hrow⟩ := repT_rowB.1 h.old
  obtain ⟨pn, lfn, kAn, knn, kcn, vAn, vnn, vcn, dAn, dnn, dcn⟩ := x
  simp only at hp hlf
  subst hp hlf
  obtain ⟨y, hy⟩ : ∃ y, l[k]? = some y := ⟨_, List.getElem?_eq_getElem hk⟩
  have hyk : kidT l k = y := by unfold kidT; rw [List.getD_eq_getElem?_getD, hy]; rfl
  rw [hyk] at hc hn2
  have hrow0 := hrow
  obtain ⟨hkk, hv, ks, hd, hdb⟩ := hrow
  simp only at hkk hv hd
  obtain ⟨e, he, hey⟩ := hdb.at_ hy
  have e1 : knn = l.length := by have := hkk.len; simpa using this.symm
  have e2 : dnn = l.length := by rw [hd.lenS ndL_len (by omega), hdb.1]
  obtain rfl : vnn = 0 := hv.zero (by omega)
  obtain ⟨pe, lfe, kAe, kne, kce, vAe, vne, vce, dAe, dne, dce⟩ := e
  obtain ⟨gd, offd, rfl, hgd, hdc⟩ := hd.atS ndL_len (by omega) he
  obtain ⟨gk, offk, rfl, hgk, ck⟩ := hkk.str hy
  obtain ⟨kd, hkd⟩ : ∃ t, y.2 = t := ⟨_, rfl⟩
  rw [hkd] at hey hc hn2
  obtain ⟨W, hW⟩ : ∃ W, (w.alloc (.cells #[.int .i64 pn, .bool false, .slice (some ⟨gk, offk, none⟩) knn kcn, .slice vAn 0 vcn, .slice (some ⟨gd, offd, none⟩) dnn dcn] 29)).alloc (.cells #[.int .i64 0, .bool false, .slice none 0 0, .slice none 0 0, .slice none 0 0] 29) = W := ⟨_, rfl⟩
  have hB0 : Below w.heap.size w W := hW ▸ (((Below.refl _ w).alloc (Nat.le_refl _) _).alloc (by simp) _)
  have hX3 : Has W w.heap.size 29 #[.int .i64 pn, .bool false, .slice (some ⟨gk, offk, none⟩) knn kcn, .slice vAn 0 vcn, .slice (some ⟨gd, offd, none⟩) dnn dcn] := hW ▸ (Has.made w 29 _).alloc _
  have hX6 : Has W (w.heap.size + 1) 29 #[.int .i64 0, .bool false, .slice none 0 0, .slice none 0 0, .slice none 0 0] := hW ▸ (by have := Has.made (w.alloc (.cells #[.int .i64 pn, .bool false, .slice (some ⟨gk, offk, none⟩) knn kcn, .slice vAn 0 vcn, .slice (some ⟨gd, offd, none⟩) dnn dcn] 29)) 29 #[.int .i64 0, .bool false, .slice none 0 0, .slice none 0 0, .slice none 0 0]; simpa using this)
  have x34 := hX3.cell 4
  have c0 := cell_below (hdc 0 _ rfl) hB0
  have c1 := cell_below (hdc 1 _ rfl) hB0
  have c2 := cell_below (hdc 2 _ rfl) hB0
  have c3 := cell_below (hdc 3 _ rfl) hB0
  have c4 := cell_below (hdc 4 _ rfl) hB0
  simp only [Nat.add_zero] at c0
  have i0 : (0 : Int) ≤ (k : Int) := by omega
  have i1 : (k : Int) < (dnn : Int) := by omega
  obtain ⟨V, hV⟩ : ∃ V, W.alloc (.cells #[.int .i64 pe, .bool lfe, .slice kAe kne kce, .slice vAe vne vce, .slice dAe dne dce] 29) = V := ⟨_, rfl⟩
  have bV : Below W.heap.size W V := hV ▸ (Below.refl _ W).alloc (Nat.le_refl _) _
  have hX7 : Has V W.heap.size 29 #[.int .i64 pe, .bool lfe, .slice kAe kne kce, .slice vAe vne vce, .slice dAe dne dce] := hV ▸ Has.made W 29 _
  have hBV := below_step hB0 bV
  have hX3V := hX3.below bV hX3.lt
  have hX6V := hX6.below bV hX6.lt
  have hFV : ∀ q, (fun q => F q ∧ q < w.heap.size) q → q < V.heap.size := fun q hq => Nat.lt_of_lt_of_le hq.2 hBV.size
  have hlt6 := hX6.lt
  obtain ⟨P3, hP3⟩ : ∃ P, w.heap.size = P := ⟨_, rfl⟩
  obtain ⟨P6, hP6⟩ : ∃ P, P3 + 1 = P := ⟨_, rfl⟩
  obtain ⟨P7, hP7⟩ : ∃ P, W.heap.size = P := ⟨_, rfl⟩
  rw [hP3] at hX3V x34
  rw [hP3, hP6] at hX6V hlt6
  rw [hP7] at hX7 hlt6
  obtain ⟨Fo, hFo⟩ : ∃ Fo : Nat → Prop, (fun q => F q ∧ q < w.heap.size) = Fo := ⟨_, rfl⟩
  rw [hFo] at hFV hey hrow0 ⊢
  have HSF := Lib.hid (fun (w' : World) (hb : Below V.heap.size V w') => swap_front Fo ⟨pe, lfe, kAe, kne, kce, vAe, vne, vce, dAe, dne, dce⟩ kd n w' (hey.stay (below_step hBV hb)) (by omega) (by omega))
  have HSB := Lib.hid (fun (w' : World) (hb : Below V.heap.size V w') => swap_back Fo ⟨pe, lfe, kAe, kne, kce, vAe, vne, vce, dAe, dne, dce⟩ kd n w' (hey.stay (below_step hBV hb)) (by omega) (by omega))
  unfold ndV zeroN at HSF HSB
  unfold ndV
  simp only at HSF HSB ⊢
  have HXE : Hid (∀ w' : World, Below V.heap.size V w' → w'.cell? ⟨P7, 0, none⟩ = some (.int .i64 pe) ∧ w'.cell? ⟨P7, 1, none⟩ = some (.bool lfe) ∧ w'.cell? ⟨P7, 2, none⟩ = some (.slice kAe kne kce) ∧ w'.cell? ⟨P7, 3, none⟩ = some (.slice vAe vne vce) ∧ w'.cell? ⟨P7, 4, none⟩ = some (.slice dAe dne dce)) := Lib.hid (fun w' hb => by
    have z := hX7.below hb hX7.lt
    exact ⟨z.cell 0, z.cell 1, z.cell 2, z.cell 3, z.cell 4⟩)
  have HX3 := Lib.hid hX3V
  have HX6 := Lib.hid hX6V
  have HX7 := Lib.hid hX7
  have HBV := Lib.hid hBV
  have HROW := Lib.hid hrow0
  have HCK := Lib.hid ck
  have HORD : Hid (w.heap.size = P3 ∧ P3 < P6 ∧ P6 < P7 ∧ P7 < V.heap.size) := Lib.hid ⟨hP3, by omega, by omega, hX7.lt⟩
  have HEY := Lib.hid hey
  have HY := Lib.hid hy
  have HYK := Lib.hid hyk
  have HKD := Lib.hid hkd
  have HN : Hid (1 ≤ n ∧ n < cellsN kd ∧ cellsN kd ≤ 500 ∧ l.length ≤ 500 ∧ k < l.length ∧ knn = l.length) := Lib.hid ⟨hn1, hn2, hc, hl, hk, e1⟩
  have hknn : (k : Int) < (knn : Int) := by omega
  have hkb : k ≤ 500 := by omega
  have hnb : n ≤ 500 := by omega
  have HFV := Lib.hid hFV
  have HFW : Hid (∀ q, Fo q → q < w.heap.size) := Lib.hid (fun q hq => by rw [← hFo] at hq; exact hq.2)
  have HFo := Lib.hid hFo
  have HV := Lib.hid hV
  have hmx : Try.prog.follows .mixedOrders = true := by kernel_rfl
  have HP7 := Lib.hid hP7
  clear h hrow0 hkk hv hd hdb he hey e1 e2 hdc hc hn1 hn2 hl hk hB0 hX3 hX6 hX7 bV hBV hX3V hX6V hlt6 hFo hgd hgk ck hy hyk hkd hV hFV hP7
  go_enter Try.func73, Try.ntmps73
  go_wp2
  rw [HV.out]
  try rw [HP7.out]
  clear hW hP3 hP6 x34 c0 c1 c2 c3 c4
  have hFV := HFV.out
  go_wp2
  rename_i K hK
  refine wp_named (fun a0 ha0 => ?_)
  obtain ⟨M, hM⟩ : ∃ M : Act → World → Prop, M = fun a w' => ∃ P8 P9 z1 z2, TwoN Fo V w' P8 P9 z1 z2 (frontT n kd) (dropT n kd) ∧ a = ((((((((((a0.put (some 16) (.agg #[.int .i64 pe, .bool lfe, .slice kAe kne kce, .slice vAe vne vce, .slice dAe dne dce])).put (some 17) (.int .i64 (n : Int))).put (some 18) (.agg #[.int .i64 0, .bool false, .slice none 0 0, .slice none 0 0, .slice none 0 0])).put (some 20) (.agg #[.int .i64 pe, .bool lfe, .slice kAe kne kce, .slice vAe vne vce, .slice dAe dne dce])).put (some 21) (.int .i64 (n : Int))).put (some 22) (.agg #[.int .i64 0, .bool false, .slice none 0 0, .slice none 0 0, .slice none 0 0])).put (some 19) (.agg #[.int .i64 z1.p, .bool z1.lf, .slice z1.kA z1.kn z1.kc, .slice z1.vA z1.vn z1.vc, .slice z1.dA z1.dn z1.dc])).put (some 23) (.agg #[.int .i64 z2.p, .bool z2.lf, .slice z2.kA z2.kn z2.kc, .slice z2.vA z2.vn z2.vc, .slice z2.dA z2.dn z2.dc])).put (some 8) (.pointer (some ⟨P8, 0, none⟩))).put (some 9) (.pointer (some ⟨P9, 0, none⟩))) := ⟨_, rfl⟩
  have HMI : Hid (∀ P8 P9 z1 z2 w', TwoN Fo V w' P8 P9 z1 z2 (frontT n kd) (dropT n kd) → M ((((((((((a0.put (some 16) (.agg #[.int .i64 pe, .bool lfe, .slice kAe kne kce, .slice vAe vne vce, .slice dAe dne dce])).put (some 17) (.int .i64 (n : Int))).put (some 18) (.agg #[.int .i64 0, .bool false, .slice none 0 0, .slice none 0 0, .slice none 0 0])).put (some 20) (.agg #[.int .i64 pe, .bool lfe, .slice kAe kne kce, .slice vAe vne vce, .slice dAe dne dce])).put (some 21) (.int .i64 (n : Int))).put (some 22) (.agg #[.int .i64 0, .bool false, .slice none 0 0, .slice none 0 0, .slice none 0 0])).put (some 19) (.agg #[.int .i64 z1.p, .bool z1.lf, .slice z1.kA z1.kn z1.kc, .slice z1.vA z1.vn z1.vc, .slice z1.dA z1.dn z1.dc])).put (some 23) (.agg #[.int .i64 z2.p, .bool z2.lf, .slice z2.kA z2.kn z2.kc, .slice z2.vA z2.vn z2.vc, .slice z2.dA z2.dn z2.dc])).put (some 8) (.pointer (some ⟨P8, 0, none⟩))).put (some 9) (.pointer (some ⟨P9, 0, none⟩))) w') := Lib.hid (fun P8 P9 z1 z2 w' x1 => by rw [hM]; exact ⟨P8, P9, z1, z2, x1, rfl⟩)
  refine wp_held (fun w' : World => Below V.heap.size V w') M hmx ?_ ?_
  · clear hM hK
    have T0 : Below V.heap.size V V.drew := (Below.refl _ _).drew
    obtain ⟨W0, hW0⟩ : ∃ W, V.drew = W := ⟨_, rfl⟩
    rw [hW0] at T0 ⊢
    have HS0 : Hid (W0.heap.size = V.heap.size) := Lib.hid (by rw [← hW0]; rfl)
    clear hW0
    refine wpAnyH_cut (fun f l a w => f = 2 ∧ l = #[true, true, true, true, true, true, true, true, true, true, false, false] ∧ ∃ P8 P9 z1 z2, a = ((((((((((a0.put (some 16) (.agg #[.int .i64 pe, .bool lfe, .slice kAe kne kce, .slice vAe vne vce, .slice dAe dne dce])).put (some 17) (.int .i64 (n : Int))).put (some 18) (.agg #[.int .i64 0, .bool false, .slice none 0 0, .slice none 0 0, .slice none 0 0])).put (some 20) (.agg #[.int .i64 pe, .bool lfe, .slice kAe kne kce, .slice vAe vne vce, .slice dAe dne dce])).put (some 21) (.int .i64 (n : Int))).put (some 22) (.agg #[.int .i64 0, .bool false, .slice none 0 0, .slice none 0 0, .slice none 0 0])).put (some 19) (.agg #[.int .i64 z1.p, .bool z1.lf, .slice z1.kA z1.kn z1.kc, .slice z1.vA z1.vn z1.vc, .slice z1.dA z1.dn z1.dc])).put (some 23) (.agg #[.int .i64 z2.p, .bool z2.lf, .slice z2.kA z2.kn z2.kc, .slice z2.vA z2.vn z2.vc, .slice z2.dA z2.dn z2.dc])).put (some 8) (.pointer (some ⟨P8, 0, none⟩))).put (some 9) (.pointer (some ⟨P9, 0, none⟩))) ∧ TwoP Fo V w P8 P9 z1 z2 (frontT n kd) (dropT n kd)) ?_ ?_
    · subst ha0
      rintro f l' a W4 ⟨rfl, rfl, P8, P9, ⟨p1, lf1, kA1, kn1, kc1, vA1, vn1, vc1, dA1, dn1, dc1⟩, ⟨p2, lf2, kA2, kn2, kc2, vA2, vn2, vc2, dA2, dn2, dc2⟩, rfl, ⟨T4, B8, B9, O1, O2, g81, g82, g83, s1, s2, s12⟩⟩
      have h8 : P8 ≠ P9 ∧ V.heap.size ≤ P8 ∧ V.heap.size ≤ P9 := ⟨g83, g81, g82⟩
      simp only [Act.put, List.setIfInBounds_toArray, List.set_cons_zero, List.set_cons_succ]
      have TW := two_end hFV T4 B8 B9 O1 O2 h8.2.1 h8.2.2 h8.1 s1 s2 s12
      simp only at TW
      have q0 := B8.cell 0
      have q1 := B8.cell 1
      have q2 := B8.cell 2
      have q3 := B8.cell 3
      have q4 := B8.cell 4
      have f0 := B8.free 0
      have f1 := B8.free 1
      have f2 := B8.free 2
      have f3 := B8.free 3
      have f4 := B8.free 4
      refine wpAnyH_ready (rs := [10]) (by kernel_rfl) (by simp) ?_
      refine AllReadyH.cons (lit rfl) (fun K5 hK5 => ?_) AllReadyH.nil
      refine step_open rfl ?_
      go_simp
      have T5 := below_st5 T4 h8.2.1 (.int .i64 p1) (.bool lf1) (.slice kA1 kn1 kc1) (.slice vA1 vn1 vc1) (.slice dA1 dn1 dc1)
      have B9b := B9.grown (w' := st5 W4 P8 (.int .i64 p1) (.bool lf1) (.slice kA1 kn1 kc1) (.slice vA1 vn1 vc1) (.slice dA1 dn1 dc1)) (st5_only W4 P8 _ _ _ _ _) (by intro e; injection e with e; exact h8.1 e.symm)
      unfold st5 at T5 B9b
      refine hK5.out _ _ T5 (fun _ => ?_)
      clear hK5 K5
      try simp only [List.setIfInBounds_toArray, List.set_cons_zero, List.set_cons_succ]
      clear q0 q1 q2 q3 q4 f0 f1 f2 f3 f4
      have q0 := B9b.cell 0
      have q1 := B9b.cell 1
      have q2 := B9b.cell 2
      have q3 := B9b.cell 3
      have q4 := B9b.cell 4
      have f0 := B9b.free 0
      have f1 := B9b.free 1
      have f2 := B9b.free 2
      have f3 := B9b.free 3
      have f4 := B9b.free 4
      refine wpAnyH_ready (rs := [11]) (by kernel_rfl) (by simp) ?_
      refine AllReadyH.cons (lit rfl) (fun K5 hK5 => ?_) AllReadyH.nil
      refine step_open rfl ?_
      go_simp
      have T6 := below_st5 T5 h8.2.2 (.int .i64 p2) (.bool lf2) (.slice kA2 kn2 kc2) (.slice vA2 vn2 vc2) (.slice dA2 dn2 dc2)
      unfold st5 at T6
      refine hK5.out _ _ T6 (fun _ => ?_)
      clear hK5 K5
      try simp only [List.setIfInBounds_toArray, List.set_cons_zero, List.set_cons_succ]
      refine wpAnyH_done (by kernel_rfl) ?_ _
      have hfin := HMI.out P8 P9 ⟨p1, lf1, kA1, kn1, kc1, vA1, vn1, vc1, dA1, dn1, dc1⟩ ⟨p2, lf2, kA2, kn2, kc2, vA2, vn2, vc2, dA2, dn2, dc2⟩ _ TW
      unfold st5 at hfin
      simp only [Act.put, List.setIfInBounds_toArray, List.set_cons_zero, List.set_cons_succ] at hfin
      exact hfin
    · intro hcut
      subst ha0
      refine wpAnyH_take (i := 0) (v := .agg #[.int .i64 pe, .bool lfe, .slice kAe kne kce, .slice vAe vne vce, .slice dAe dne dce]) (lit rfl) (by kernel_rfl) (by kernel_rfl) (by kernel_rfl) (fun _ _ _ h => h) (Or.inl ⟨by rfl, ?_⟩) T0 ?_
      · rintro w6 hb6
        have y6 := HXE.out w6 hb6
        obtain ⟨y60, y61, y62, y63, y64⟩ := y6
        go_simp
      simp only [Act.put, List.setIfInBounds_toArray, List.set_cons_zero, List.set_cons_succ]
      refine wpAnyH_take (i := 1) (v := .int .i64 (n : Int)) (lit rfl) (by kernel_rfl) (by kernel_rfl) (by kernel_rfl) (fun _ _ _ h => h) (Or.inl ⟨by rfl, ?_⟩) T0 ?_
      · rintro w6 hb6
        go_simp
      simp only [Act.put, List.setIfInBounds_toArray, List.set_cons_zero, List.set_cons_succ]
      refine wpAnyH_take (i := 2) (v := .agg #[.int .i64 0, .bool false, .slice none 0 0, .slice none 0 0, .slice none 0 0]) (lit rfl) (by kernel_rfl) (by kernel_rfl) (by kernel_rfl) (fun _ _ _ h => h) (Or.inl ⟨by rfl, ?_⟩) T0 ?_
      · rintro w6 hb6
        go_simp
      simp only [Act.put, List.setIfInBounds_toArray, List.set_cons_zero, List.set_cons_succ]
      refine wpAnyH_take (i := 4) (v := .agg #[.int .i64 pe, .bool lfe, .slice kAe kne kce, .slice vAe vne vce, .slice dAe dne dce]) (lit rfl) (by kernel_rfl) (by kernel_rfl) (by kernel_rfl) (fun _ _ _ h => h) (Or.inl ⟨by rfl, ?_⟩) T0 ?_
      · rintro w6 hb6
        have y6 := HXE.out w6 hb6
        obtain ⟨y60, y61, y62, y63, y64⟩ := y6
        go_simp
      simp only [Act.put, List.setIfInBounds_toArray, List.set_cons_zero, List.set_cons_succ]
      refine wpAnyH_take (i := 5) (v := .int .i64 (n : Int)) (lit rfl) (by kernel_rfl) (by kernel_rfl) (by kernel_rfl) (fun _ _ _ h => h) (Or.inl ⟨by rfl, ?_⟩) T0 ?_
      · rintro w6 hb6
        go_simp
      simp only [Act.put, List.setIfInBounds_toArray, List.set_cons_zero, List.set_cons_succ]
      refine wpAnyH_take (i := 6) (v := .agg #[.int .i64 0, .bool false, .slice none 0 0, .slice none 0 0, .slice none 0 0]) (lit rfl) (by kernel_rfl) (by kernel_rfl) (by kernel_rfl) (fun _ _ _ h => h) (Or.inl ⟨by rfl, ?_⟩) T0 ?_
      · rintro w6 hb6
        go_simp
      simp only [Act.put, List.setIfInBounds_toArray, List.set_cons_zero, List.set_cons_succ]
      refine wpAnyH_ready (rs := [3, 8, 9]) (by kernel_rfl) (by simp) ?_
      refine AllReadyH.cons (lit rfl) (fun K5 hK5 => ?_) (AllReadyH.cons (lit rfl) (fun K5 hK5 => ?_) (AllReadyH.cons (lit rfl) (fun K5 hK5 => ?_) AllReadyH.nil))
      · refine step_open rfl ?_
        go_simp
        go_at_call 65
        (with_reducible refine (HSF.out _ T0).mono ?_)
        rintro e1 W1 ⟨⟨p1, lf1, kA1, kn1, kc1, vA1, vn1, vc1, dA1, dn1, dc1⟩, rfl, o1, b1⟩
        unfold ndV
        simp only
        have hn1 : ∀ q, NDV.has ⟨p1, lf1, kA1, kn1, kc1, vA1, vn1, vc1, dA1, dn1, dc1⟩ q → W0.heap.size ≤ q ∧ q < W1.heap.size := fun q hq => o1.lt hq
        have O1 := o1.mono T0.size
        clear o1
        go_simp
        have T1 : Below V.heap.size V W1 := below_step T0 b1
        have sz1 := b1.size
        refine hK5.out _ _ T1 (fun _ => ?_)
        clear hK5 K5
        try simp only [Act.put, List.setIfInBounds_toArray, List.set_cons_zero, List.set_cons_succ]
        refine wpAnyH_ready (rs := [7, 8, 9]) (by kernel_rfl) (by simp) ?_
        refine AllReadyH.cons (lit rfl) (fun K5 hK5 => ?_) (AllReadyH.cons (lit rfl) (fun K5 hK5 => ?_) (AllReadyH.cons (lit rfl) (fun K5 hK5 => ?_) AllReadyH.nil))
        · refine step_open rfl ?_
          go_simp
          go_at_call 65
          (with_reducible refine (HSB.out _ T1).mono ?_)
          rintro e2 W2 ⟨⟨p2, lf2, kA2, kn2, kc2, vA2, vn2, vc2, dA2, dn2, dc2⟩, rfl, o2, b2⟩
          unfold ndV
          simp only
          have hn2 : ∀ q, NDV.has ⟨p2, lf2, kA2, kn2, kc2, vA2, vn2, vc2, dA2, dn2, dc2⟩ q → W1.heap.size ≤ q ∧ q < W2.heap.size := fun q hq => o2.lt hq
          have O2 := o2.mono T1.size
          clear o2
          go_simp
          have T2 : Below V.heap.size V W2 := below_step T1 b2
          have O1 := O1.below b2
          have sz2 := b2.size
          refine hK5.out _ _ T2 (fun _ => ?_)
          clear hK5 K5
          try simp only [Act.put, List.setIfInBounds_toArray, List.set_cons_zero, List.set_cons_succ]
          refine wpAnyH_ready (rs := [8, 9]) (by kernel_rfl) (by simp) ?_
          refine AllReadyH.cons (lit rfl) (fun K5 hK5 => ?_) (AllReadyH.cons (lit rfl) (fun K5 hK5 => ?_) AllReadyH.nil)
          · refine step_open rfl ?_
            go_simp
            obtain ⟨W3, hW3⟩ : ∃ x, W2.alloc (.cells #[.int .i64 0, .bool false, .slice none 0 0, .slice none 0 0, .slice none 0 0] 29) = x := ⟨_, rfl⟩
            have b3 : Below W2.heap.size W2 W3 := hW3 ▸ (Below.refl _ W2).alloc (Nat.le_refl _) _
            have HZ8 : Hid (W3.heap.size = W2.heap.size + 1) := Lib.hid (by rw [← hW3]; simp)
            have B8 : Has W3 W2.heap.size 29 #[.int .i64 0, .bool false, .slice none 0 0, .slice none 0 0, .slice none 0 0] := hW3 ▸ Has.made W2 29 _
            rw [hW3]
            obtain ⟨P8, hP8⟩ : ∃ G, W2.heap.size = G := ⟨_, rfl⟩
            try rw [hP8]
            rw [hP8] at B8
            have HP8 := Lib.hid hP8
            clear hP8
            have T3 : Below V.heap.size V W3 := below_step T2 b3
            have O1 := O1.below b3
            have O2 := O2.below b3
            have sz3 := b3.size
            refine hK5.out _ _ T3 (fun _ => ?_)
            clear hK5 K5
            try simp only [Act.put, List.setIfInBounds_toArray, List.set_cons_zero, List.set_cons_succ]
            refine wpAnyH_ready (rs := [9]) (by kernel_rfl) (by simp) ?_
            refine AllReadyH.cons (lit rfl) (fun K5 hK5 => ?_) AllReadyH.nil
            refine step_open rfl ?_
            go_simp
            obtain ⟨W4, hW4⟩ : ∃ x, W3.alloc (.cells #[.int .i64 0, .bool false, .slice none 0 0, .slice none 0 0, .slice none 0 0] 29) = x := ⟨_, rfl⟩
            have b4 : Below W3.heap.size W3 W4 := hW4 ▸ (Below.refl _ W3).alloc (Nat.le_refl _) _
            have HZ9 : Hid (W4.heap.size = W3.heap.size + 1) := Lib.hid (by rw [← hW4]; simp)
            have B9 : Has W4 W3.heap.size 29 #[.int .i64 0, .bool false, .slice none 0 0, .slice none 0 0, .slice none 0 0] := hW4 ▸ Has.made W3 29 _
            rw [hW4]
            obtain ⟨P9, hP9⟩ : ∃ G, W3.heap.size = G := ⟨_, rfl⟩
            try rw [hP9]
            rw [hP9] at B9
            have HP9 := Lib.hid hP9
            clear hP9
            have T4 : Below V.heap.size V W4 := below_step T3 b4
            have O1 := O1.below b4
            have O2 := O2.below b4
            have B8 := B8.below b4 B8.lt
            have sz4 := b4.size
            refine hK5.out _ _ T4 (fun _ => ?_)
            clear hK5 K5
            try simp only [Act.put, List.setIfInBounds_toArray, List.set_cons_zero, List.set_cons_succ]
            have h8 : P8 ≠ P9 ∧ V.heap.size ≤ P8 ∧ V.heap.size ≤ P9 := by have g8 := HP8.out; have g9 := HP9.out; have z8 := HZ8.out; have z9 := HZ9.out; have z0 := HS0.out; have ht := T0.size; omega
            have s1 : ∀ q, NDV.has ⟨p1, lf1, kA1, kn1, kc1, vA1, vn1, vc1, dA1, dn1, dc1⟩ q → q ≠ P8 ∧ q ≠ P9 := fun q hq => by have g8 := HP8.out; have g9 := HP9.out; have z8 := HZ8.out; have z9 := HZ9.out; have z0 := HS0.out; have g1 := hn1 q hq; omega
            have s2 : ∀ q, NDV.has ⟨p2, lf2, kA2, kn2, kc2, vA2, vn2, vc2, dA2, dn2, dc2⟩ q → q ≠ P8 ∧ q ≠ P9 := fun q hq => by have g8 := HP8.out; have g9 := HP9.out; have z8 := HZ8.out; have z9 := HZ9.out; have z0 := HS0.out; have g1 := hn2 q hq; omega
            have s12 : ∀ q, NDV.has ⟨p1, lf1, kA1, kn1, kc1, vA1, vn1, vc1, dA1, dn1, dc1⟩ q → ¬ NDV.has ⟨p2, lf2, kA2, kn2, kc2, vA2, vn2, vc2, dA2, dn2, dc2⟩ q := fun q hq hr => by have z8 := HZ8.out; have z9 := HZ9.out; have g1 := hn1 q hq; have g2 := hn2 q hr; omega
            have hfin := hcut 2 _ _ W4 ⟨rfl, rfl, P8, P9, ⟨p1, lf1, kA1, kn1, kc1, vA1, vn1, vc1, dA1, dn1, dc1⟩, ⟨p2, lf2, kA2, kn2, kc2, vA2, vn2, vc2, dA2, dn2, dc2⟩, rfl, ⟨T4, B8, B9, O1, O2, h8.2.1, h8.2.2, h8.1, s1, s2, s12⟩⟩
            simp only [Act.put, List.setIfInBounds_toArray, List.set_cons_zero, List.set_cons_succ] at hfin
            exact hfin
          · refine step_open rfl ?_
            go_simp
            obtain ⟨W3, hW3⟩ : ∃ x, W2.alloc (.cells #[.int .i64 0, .bool false, .slice none 0 0, .slice none 0 0, .slice none 0 0] 29) = x := ⟨_, rfl⟩
            have b3 : Below W2.heap.size W2 W3 := hW3 ▸ (Below.refl _ W2).alloc (Nat.le_refl _) _
            have HZ9 : Hid (W3.heap.size = W2.heap.size + 1) := Lib.hid (by rw [← hW3]; simp)
            have B9 : Has W3 W2.heap.size 29 #[.int .i64 0, .bool false, .slice none 0 0, .slice none 0 0, .slice none 0 0] := hW3 ▸ Has.made W2 29 _
            rw [hW3]
            obtain ⟨P9, hP9⟩ : ∃ G, W2.heap.size = G := ⟨_, rfl⟩
            try rw [hP9]
            rw [hP9] at B9
            have HP9 := Lib.hid hP9
            clear hP9
            have T3 : Below V.heap.size V W3 := below_step T2 b3
            have O1 := O1.below b3
            have O2 := O2.below b3
            have sz3 := b3.size
            refine hK5.out _ _ T3 (fun _ => ?_)
            clear hK5 K5
            try simp only [Act.put, List.setIfInBounds_toArray, List.set_cons_zero, List.set_cons_succ]
            refine wpAnyH_ready (rs := [8]) (by kernel_rfl) (by simp) ?_
            refine AllReadyH.cons (lit rfl) (fun K5 hK5 => ?_) AllReadyH.nil
            refine step_open rfl ?_
            go_simp
            obtain ⟨W4, hW4⟩ : ∃ x, W3.alloc (.cells #[.int .i64 0, .bool false, .slice none 0 0, .slice none 0 0, .slice none 0 0] 29) = x := ⟨_, rfl⟩
            have b4 : Below W3.heap.size W3 W4 := hW4 ▸ (Below.refl _ W3).alloc (Nat.le_refl _) _
            have HZ8 : Hid (W4.heap.size = W3.heap.size + 1) := Lib.hid (by rw [← hW4]; simp)
            have B8 : Has W4 W3.heap.size 29 #[.int .i64 0, .bool false, .slice none 0 0, .slice none 0 0, .slice none 0 0] := hW4 ▸ Has.made W3 29 _
            rw [hW4]
            obtain ⟨P8, hP8⟩ : ∃ G, W3.heap.size = G := ⟨_, rfl⟩
            try rw [hP8]
            rw [hP8] at B8
            have HP8 := Lib.hid hP8
            clear hP8
            have T4 : Below V.heap.size V W4 := below_step T3 b4
            have O1 := O1.below b4
            have O2 := O2.below b4
            have B9 := B9.below b4 B9.lt
            have sz4 := b4.size
            refine hK5.out _ _ T4 (fun _ => ?_)
            clear hK5 K5
            try simp only [Act.put, List.setIfInBounds_toArray, List.set_cons_zero, List.set_cons_succ]
            have h8 : P8 ≠ P9 ∧ V.heap.size ≤ P8 ∧ V.heap.size ≤ P9 := by have g8 := HP8.out; have g9 := HP9.out; have z8 := HZ8.out; have z9 := HZ9.out; have z0 := HS0.out; have ht := T0.size; omega
            have s1 : ∀ q, NDV.has ⟨p1, lf1, kA1, kn1, kc1, vA1, vn1, vc1, dA1, dn1, dc1⟩ q → q ≠ P8 ∧ q ≠ P9 := fun q hq => by have g8 := HP8.out; have g9 := HP9.out; have z8 := HZ8.out; have z9 := HZ9.out; have z0 := HS0.out; have g1 := hn1 q hq; omega
            have s2 : ∀ q, NDV.has ⟨p2, lf2, kA2, kn2, kc2, vA2, vn2, vc2, dA2, dn2, dc2⟩ q → q ≠ P8 ∧ q ≠ P9 := fun q hq => by have g8 := HP8.out; have g9 := HP9.out; have z8 := HZ8.out; have z9 := HZ9.out; have z0 := HS0.out; have g1 := hn2 q hq; omega
            have s12 : ∀ q, NDV.has ⟨p1, lf1, kA1, kn1, kc1, vA1, vn1, vc1, dA1, dn1, dc1⟩ q → ¬ NDV.has ⟨p2, lf2, kA2, kn2, kc2, vA2, vn2, vc2, dA2, dn2, dc2⟩ q := fun q hq hr => by have z8 := HZ8.out; have z9 := HZ9.out; have g1 := hn1 q hq; have g2 := hn2 q hr; omega
            have hfin := hcut 2 _ _ W4 ⟨rfl, rfl, P8, P9, ⟨p1, lf1, kA1, kn1, kc1, vA1, vn1, vc1, dA1, dn1, dc1⟩, ⟨p2, lf2, kA2, kn2, kc2, vA2, vn2, vc2, dA2, dn2, dc2⟩, rfl, ⟨T4, B8, B9, O1, O2, h8.2.1, h8.2.2, h8.1, s1, s2, s12⟩⟩
            simp only [Act.put, List.setIfInBounds_toArray, List.set_cons_zero, List.set_cons_succ] at hfin
            exact hfin
        · refine step_open rfl ?_
          go_simp
          obtain ⟨W2, hW2⟩ : ∃ x, W1.alloc (.cells #[.int .i64 0, .bool false, .slice none 0 0, .slice none 0 0, .slice none 0 0] 29) = x := ⟨_, rfl⟩
          have b2 : Below W1.heap.size W1 W2 := hW2 ▸ (Below.refl _ W1).alloc (Nat.le_refl _) _
          have HZ8 : Hid (W2.heap.size = W1.heap.size + 1) := Lib.hid (by rw [← hW2]; simp)
          have B8 : Has W2 W1.heap.size 29 #[.int .i64 0, .bool false, .slice none 0 0, .slice none 0 0, .slice none 0 0] := hW2 ▸ Has.made W1 29 _
          rw [hW2]
          obtain ⟨P8, hP8⟩ : ∃ G, W1.heap.size = G := ⟨_, rfl⟩
          try rw [hP8]
          rw [hP8] at B8
          have HP8 := Lib.hid hP8
          clear hP8
          have T2 : Below V.heap.size V W2 := below_step T1 b2
          have O1 := O1.below b2
          have sz2 := b2.size
          refine hK5.out _ _ T2 (fun _ => ?_)
          clear hK5 K5
          try simp only [Act.put, List.setIfInBounds_toArray, List.set_cons_zero, List.set_cons_succ]
          refine wpAnyH_ready (rs := [7, 9]) (by kernel_rfl) (by simp) ?_
          refine AllReadyH.cons (lit rfl) (fun K5 hK5 => ?_) (AllReadyH.cons (lit rfl) (fun K5 hK5 => ?_) AllReadyH.nil)
          · refine step_open rfl ?_
            go_simp
            go_at_call 65
            (with_reducible refine (HSB.out _ T2).mono ?_)
            rintro e3 W3 ⟨⟨p2, lf2, kA2, kn2, kc2, vA2, vn2, vc2, dA2, dn2, dc2⟩, rfl, o2, b3⟩
            unfold ndV
            simp only
            have hn2 : ∀ q, NDV.has ⟨p2, lf2, kA2, kn2, kc2, vA2, vn2, vc2, dA2, dn2, dc2⟩ q → W2.heap.size ≤ q ∧ q < W3.heap.size := fun q hq => o2.lt hq
            have O2 := o2.mono T2.size
            clear o2
            go_simp
            have T3 : Below V.heap.size V W3 := below_step T2 b3
            have O1 := O1.below b3
            have B8 := B8.below b3 B8.lt
            have sz3 := b3.size
            refine hK5.out _ _ T3 (fun _ => ?_)
            clear hK5 K5
            try simp only [Act.put, List.setIfInBounds_toArray, List.set_cons_zero, List.set_cons_succ]
            refine wpAnyH_ready (rs := [9]) (by kernel_rfl) (by simp) ?_
            refine AllReadyH.cons (lit rfl) (fun K5 hK5 => ?_) AllReadyH.nil
            refine step_open rfl ?_
            go_simp
            obtain ⟨W4, hW4⟩ : ∃ x, W3.alloc (.cells #[.int .i64 0, .bool false, .slice none 0 0, .slice none 0 0, .slice none 0 0] 29) = x := ⟨_, rfl⟩
            have b4 : Below W3.heap.size W3 W4 := hW4 ▸ (Below.refl _ W3).alloc (Nat.le_refl _) _
            have HZ9 : Hid (W4.heap.size = W3.heap.size + 1) := Lib.hid (by rw [← hW4]; simp)
            have B9 : Has W4 W3.heap.size 29 #[.int .i64 0, .bool false, .slice none 0 0, .slice none 0 0, .slice none 0 0] := hW4 ▸ Has.made W3 29 _
            rw [hW4]
            obtain ⟨P9, hP9⟩ : ∃ G, W3.heap.size = G := ⟨_, rfl⟩
            try rw [hP9]
            rw [hP9] at B9
            have HP9 := Lib.hid hP9
            clear hP9
            have T4 : Below V.heap.size V W4 := below_step T3 b4
            have O1 := O1.below b4
            have B8 := B8.below b4 B8.lt
            have O2 := O2.below b4
            have sz4 := b4.size
            refine hK5.out _ _ T4 (fun _ => ?_)
            clear hK5 K5
            try simp only [Act.put, List.setIfInBounds_toArray, List.set_cons_zero, List.set_cons_succ]
            have h8 : P8 ≠ P9 ∧ V.heap.size ≤ P8 ∧ V.heap.size ≤ P9 := by have g8 := HP8.out; have g9 := HP9.out; have z8 := HZ8.out; have z9 := HZ9.out; have z0 := HS0.out; have ht := T0.size; omega
            have s1 : ∀ q, NDV.has ⟨p1, lf1, kA1, kn1, kc1, vA1, vn1, vc1, dA1, dn1, dc1⟩ q → q ≠ P8 ∧ q ≠ P9 := fun q hq => by have g8 := HP8.out; have g9 := HP9.out; have z8 := HZ8.out; have z9 := HZ9.out; have z0 := HS0.out; have g1 := hn1 q hq; omega
            have s2 : ∀ q, NDV.has ⟨p2, lf2, kA2, kn2, kc2, vA2, vn2, vc2, dA2, dn2, dc2⟩ q → q ≠ P8 ∧ q ≠ P9 := fun q hq => by have g8 := HP8.out; have g9 := HP9.out; have z8 := HZ8.out; have z9 := HZ9.out; have z0 := HS0.out; have g1 := hn2 q hq; omega
            have s12 : ∀ q, NDV.has ⟨p1, lf1, kA1, kn1, kc1, vA1, vn1, vc1, dA1, dn1, dc1⟩ q → ¬ NDV.has ⟨p2, lf2, kA2, kn2, kc2, vA2, vn2, vc2, dA2, dn2, dc2⟩ q := fun q hq hr => by have z8 := HZ8.out; have z9 := HZ9.out; have g1 := hn1 q hq; have g2 := hn2 q hr; omega
            have hfin := hcut 2 _ _ W4 ⟨rfl, rfl, P8, P9, ⟨p1, lf1, kA1, kn1, kc1, vA1, vn1, vc1, dA1, dn1, dc1⟩, ⟨p2, lf2, kA2, kn2, kc2, vA2, vn2, vc2, dA2, dn2, dc2⟩, rfl, ⟨T4, B8, B9, O1, O2, h8.2.1, h8.2.2, h8.1, s1, s2, s12⟩⟩
            simp only [Act.put, List.setIfInBounds_toArray, List.set_cons_zero, List.set_cons_succ] at hfin
            exact hfin
          · refine step_open rfl ?_
            go_simp
            obtain ⟨W3, hW3⟩ : ∃ x, W2.alloc (.cells #[.int .i64 0, .bool false, .slice none 0 0, .slice none 0 0, .slice none 0 0] 29) = x := ⟨_, rfl⟩
            have b3 : Below W2.heap.size W2 W3 := hW3 ▸ (Below.refl _ W2).alloc (Nat.le_refl _) _
            have HZ9 : Hid (W3.heap.size = W2.heap.size + 1) := Lib.hid (by rw [← hW3]; simp)
            have B9 : Has W3 W2.heap.size 29 #[.int .i64 0, .bool false, .slice none 0 0, .slice none 0 0, .slice none 0 0] := hW3 ▸ Has.made W2 29 _
            rw [hW3]
            obtain ⟨P9, hP9⟩ : ∃ G, W2.heap.size = G := ⟨_, rfl⟩
            try rw [hP9]
            rw [hP9] at B9
            have HP9 := Lib.hid hP9
            clear hP9
            have T3 : Below V.heap.size V W3 := below_step T2 b3
            have O1 := O1.below b3
            have B8 := B8.below b3 B8.lt
            have sz3 := b3.size
            refine hK5.out _ _ T3 (fun _ => ?_)
            clear hK5 K5
            try simp only [Act.put, List.setIfInBounds_toArray, List.set_cons_zero, List.set_cons_succ]
            refine wpAnyH_ready (rs := [7]) (by kernel_rfl) (by simp) ?_
            refine AllReadyH.cons (lit rfl) (fun K5 hK5 => ?_) AllReadyH.nil
            refine step_open rfl ?_
            go_simp
            go_at_call 65
            (with_reducible refine (HSB.out _ T3).mono ?_)
            rintro e4 W4 ⟨⟨p2, lf2, kA2, kn2, kc2, vA2, vn2, vc2, dA2, dn2, dc2⟩, rfl, o2, b4⟩
            unfold ndV
            simp only
            have hn2 : ∀ q, NDV.has ⟨p2, lf2, kA2, kn2, kc2, vA2, vn2, vc2, dA2, dn2, dc2⟩ q → W3.heap.size ≤ q ∧ q < W4.heap.size := fun q hq => o2.lt hq
            have O2 := o2.mono T3.size
            clear o2
            go_simp
            have T4 : Below V.heap.size V W4 := below_step T3 b4
            have O1 := O1.below b4
            have B8 := B8.below b4 B8.lt
            have B9 := B9.below b4 B9.lt
            have sz4 := b4.size
            refine hK5.out _ _ T4 (fun _ => ?_)
            clear hK5 K5
            try simp only [Act.put, List.setIfInBounds_toArray, List.set_cons_zero, List.set_cons_succ]
            have h8 : P8 ≠ P9 ∧ V.heap.size ≤ P8 ∧ V.heap.size ≤ P9 := by have g8 := HP8.out; have g9 := HP9.out; have z8 := HZ8.out; have z9 := HZ9.out; have z0 := HS0.out; have ht := T0.size; omega
            have s1 : ∀ q, NDV.has ⟨p1, lf1, kA1, kn1, kc1, vA1, vn1, vc1, dA1, dn1, dc1⟩ q → q ≠ P8 ∧ q ≠ P9 := fun q hq => by have g8 := HP8.out; have g9 := HP9.out; have z8 := HZ8.out; have z9 := HZ9.out; have z0 := HS0.out; have g1 := hn1 q hq; omega
            have s2 : ∀ q, NDV.has ⟨p2, lf2, kA2, kn2, kc2, vA2, vn2, vc2, dA2, dn2, dc2⟩ q → q ≠ P8 ∧ q ≠ P9 := fun q hq => by have g8 := HP8.out; have g9 := HP9.out; have z8 := HZ8.out; have z9 := HZ9.out; have z0 := HS0.out; have g1 := hn2 q hq; omega
            have s12 : ∀ q, NDV.has ⟨p1, lf1, kA1, kn1, kc1, vA1, vn1, vc1, dA1, dn1, dc1⟩ q → ¬ NDV.has ⟨p2, lf2, kA2, kn2, kc2, vA2, vn2, vc2, dA2, dn2, dc2⟩ q := fun q hq hr => by have z8 := HZ8.out; have z9 := HZ9.out; have g1 := hn1 q hq; have g2 := hn2 q hr; omega
            have hfin := hcut 2 _ _ W4 ⟨rfl, rfl, P8, P9, ⟨p1, lf1, kA1, kn1, kc1, vA1, vn1, vc1, dA1, dn1, dc1⟩, ⟨p2, lf2, kA2, kn2, kc2, vA2, vn2, vc2, dA2, dn2, dc2⟩, rfl, ⟨T4, B8, B9, O1, O2, h8.2.1, h8.2.2, h8.1, s1, s2, s12⟩⟩
            simp only [Act.put, List.setIfInBounds_toArray, List.set_cons_zero, List.set_cons_succ] at hfin
            exact hfin
        · refine step_open rfl ?_
          go_simp
          obtain ⟨W2, hW2⟩ : ∃ x, W1.alloc (.cells #[.int .i64 0, .bool false, .slice none 0 0, .slice none 0 0, .slice none 0 0] 29) = x := ⟨_, rfl⟩
          have b2 : Below W1.heap.size W1 W2 := hW2 ▸ (Below.refl _ W1).alloc (Nat.le_refl _) _
          have HZ9 : Hid (W2.heap.size = W1.heap.size + 1) := Lib.hid (by rw [← hW2]; simp)
          have B9 : Has W2 W1.heap.size 29 #[.int .i64 0, .bool false, .slice none 0 0, .slice none 0 0, .slice none 0 0] := hW2 ▸ Has.made W1 29 _
          rw [hW2]
          obtain ⟨P9, hP9⟩ : ∃ G, W1.heap.size = G := ⟨_, rfl⟩
          try rw [hP9]
          rw [hP9] at B9
          have HP9 := Lib.hid hP9
          clear hP9
          have T2 : Below V.heap.size V W2 := below_step T1 b2
          have O1 := O1.below b2
          have sz2 := b2.size
          refine hK5.out _ _ T2 (fun _ => ?_)
          clear hK5 K5
          try simp only [Act.put, List.setIfInBounds_toArray, List.set_cons_zero, List.set_cons_succ]
          refine wpAnyH_ready (rs := [7, 8]) (by kernel_rfl) (by simp) ?_
          refine AllReadyH.cons (lit rfl) (fun K5 hK5 => ?_) (AllReadyH.cons (lit rfl) (fun K5 hK5 => ?_) AllReadyH.nil)
          · refine step_open rfl ?_
            go_simp
            go_at_call 65
            (with_reducible refine (HSB.out _ T2).mono ?_)
            rintro e3 W3 ⟨⟨p2, lf2, kA2, kn2, kc2, vA2, vn2, vc2, dA2, dn2, dc2⟩, rfl, o2, b3⟩
            unfold ndV
            simp only
            have hn2 : ∀ q, NDV.has ⟨p2, lf2, kA2, kn2, kc2, vA2, vn2, vc2, dA2, dn2, dc2⟩ q → W2.heap.size ≤ q ∧ q < W3.heap.size := fun q hq => o2.lt hq
            have O2 := o2.mono T2.size
            clear o2
            go_simp
            have T3 : Below V.heap.size V W3 := below_step T2 b3
            have O1 := O1.below b3
            have B9 := B9.below b3 B9.lt
            have sz3 := b3.size
            refine hK5.out _ _ T3 (fun _ => ?_)
            clear hK5 K5
            try simp only [Act.put, List.setIfInBounds_toArray, List.set_cons_zero, List.set_cons_succ]
            refine wpAnyH_ready (rs := [8]) (by kernel_rfl) (by simp) ?_
            refine AllReadyH.cons (lit rfl) (fun K5 hK5 => ?_) AllReadyH.nil
            refine step_open rfl ?_
            go_simp
            obtain ⟨W4, hW4⟩ : ∃ x, W3.alloc (.cells #[.int .i64 0, .bool false, .slice none 0 0, .slice none 0 0, .slice none 0 0] 29) = x := ⟨_, rfl⟩
            have b4 : Below W3.heap.size W3 W4 := hW4 ▸ (Below.refl _ W3).alloc (Nat.le_refl _) _
            have HZ8 : Hid (W4.heap.size = W3.heap.size + 1) := Lib.hid (by rw [← hW4]; simp)
            have B8 : Has W4 W3.heap.size 29 #[.int .i64 0, .bool false, .slice none 0 0, .slice none 0 0, .slice none 0 0] := hW4 ▸ Has.made W3 29 _
            rw [hW4]
            obtain ⟨P8, hP8⟩ : ∃ G, W3.heap.size = G := ⟨_, rfl⟩
            try rw [hP8]
            rw [hP8] at B8
            have HP8 := Lib.hid hP8
            clear hP8
            have T4 : Below V.heap.size V W4 := below_step T3 b4
            have O1 := O1.below b4
            have B9 := B9.below b4 B9.lt
            have O2 := O2.below b4
            have sz4 := b4.size
            refine hK5.out _ _ T4 (fun _ => ?_)
            clear hK5 K5
            try simp only [Act.put, List.setIfInBounds_toArray, List.set_cons_zero, List.set_cons_succ]
            have h8 : P8 ≠ P9 ∧ V.heap.size ≤ P8 ∧ V.heap.size ≤ P9 := by have g8 := HP8.out; have g9 := HP9.out; have z8 := HZ8.out; have z9 := HZ9.out; have z0 := HS0.out; have ht := T0.size; omega
            have s1 : ∀ q, NDV.has ⟨p1, lf1, kA1, kn1, kc1, vA1, vn1, vc1, dA1, dn1, dc1⟩ q → q ≠ P8 ∧ q ≠ P9 := fun q hq => by have g8 := HP8.out; have g9 := HP9.out; have z8 := HZ8.out; have z9 := HZ9.out; have z0 := HS0.out; have g1 := hn1 q hq; omega
            have s2 : ∀ q, NDV.has ⟨p2, lf2, kA2, kn2, kc2, vA2, vn2, vc2, dA2, dn2, dc2⟩ q → q ≠ P8 ∧ q ≠ P9 := fun q hq => by have g8 := HP8.out; have g9 := HP9.out; have z8 := HZ8.out; have z9 := HZ9.out; have z0 := HS0.out; have g1 := hn2 q hq; omega
            have s12 : ∀ q, NDV.has ⟨p1, lf1, kA1, kn1, kc1, vA1, vn1, vc1, dA1, dn1, dc1⟩ q → ¬ NDV.has ⟨p2, lf2, kA2, kn2, kc2, vA2, vn2, vc2, dA2, dn2, dc2⟩ q := fun q hq hr => by have z8 := HZ8.out; have z9 := HZ9.out; have g1 := hn1 q hq; have g2 := hn2 q hr; omega
            have hfin := hcut 2 _ _ W4 ⟨rfl, rfl, P8, P9, ⟨p1, lf1, kA1, kn1, kc1, vA1, vn1, vc1, dA1, dn1, dc1⟩, ⟨p2, lf2, kA2, kn2, kc2, vA2, vn2, vc2, dA2, dn2, dc2⟩, rfl, ⟨T4, B8, B9, O1, O2, h8.2.1, h8.2.2, h8.1, s1, s2, s12⟩⟩
            simp only [Act.put, List.setIfInBounds_toArray, List.set_cons_zero, List.set_cons_succ] at hfin
            exact hfin
          · refine step_open rfl ?_
            go_simp
            obtain ⟨W3, hW3⟩ : ∃ x, W2.alloc (.cells #[.int .i64 0, .bool false, .slice none 0 0, .slice none 0 0, .slice none 0 0] 29) = x := ⟨_, rfl⟩
            have b3 : Below W2.heap.size W2 W3 := hW3 ▸ (Below.refl _ W2).alloc (Nat.le_refl _) _
            have HZ8 : Hid (W3.heap.size = W2.heap.size + 1) := Lib.hid (by rw [← hW3]; simp)
            have B8 : Has W3 W2.heap.size 29 #[.int .i64 0, .bool false, .slice none 0 0, .slice none 0 0, .slice none 0 0] := hW3 ▸ Has.made W2 29 _
            rw [hW3]
            obtain ⟨P8, hP8⟩ : ∃ G, W2.heap.size = G := ⟨_, rfl⟩
            try rw [hP8]
            rw [hP8] at B8
            have HP8 := Lib.hid hP8
            clear hP8
            have T3 : Below V.heap.size V W3 := below_step T2 b3
            have O1 := O1.below b3
            have B9 := B9.below b3 B9.lt
            have sz3 := b3.size
            refine hK5.out _ _ T3 (fun _ => ?_)
            clear hK5 K5
            try simp only [Act.put, List.setIfInBounds_toArray, List.set_cons_zero, List.set_cons_succ]
            refine wpAnyH_ready (rs := [7]) (by kernel_rfl) (by simp) ?_
            refine AllReadyH.cons (lit rfl) (fun K5 hK5 => ?_) AllReadyH.nil
            refine step_open rfl ?_
            go_simp
            go_at_call 65
            (with_reducible refine (HSB.out _ T3).mono ?_)
            rintro e4 W4 ⟨⟨p2, lf2, kA2, kn2, kc2, vA2, vn2, vc2, dA2, dn2, dc2⟩, rfl, o2, b4⟩
            unfold ndV
            simp only
            have hn2 : ∀ q, NDV.has ⟨p2, lf2, kA2, kn2, kc2, vA2, vn2, vc2, dA2, dn2, dc2⟩ q → W3.heap.size ≤ q ∧ q < W4.heap.size := fun q hq => o2.lt hq
            have O2 := o2.mono T3.size
            clear o2
            go_simp
            have T4 : Below V.heap.size V W4 := below_step T3 b4
            have O1 := O1.below b4
            have B9 := B9.below b4 B9.lt
            have B8 := B8.below b4 B8.lt
            have sz4 := b4.size
            refine hK5.out _ _ T4 (fun _ => ?_)
            clear hK5 K5
            try simp only [Act.put, List.setIfInBounds_toArray, List.set_cons_zero, List.set_cons_succ]
            have h8 : P8 ≠ P9 ∧ V.heap.size ≤ P8 ∧ V.heap.size ≤ P9 := by have g8 := HP8.out; have g9 := HP9.out; have z8 := HZ8.out; have z9 := HZ9.out; have z0 := HS0.out; have ht := T0.size; omega
            have s1 : ∀ q, NDV.has ⟨p1, lf1, kA1, kn1, kc1, vA1, vn1, vc1, dA1, dn1, dc1⟩ q → q ≠ P8 ∧ q ≠ P9 := fun q hq => by have g8 := HP8.out; have g9 := HP9.out; have z8 := HZ8.out; have z9 := HZ9.out; have z0 := HS0.out; have g1 := hn1 q hq; omega
            have s2 : ∀ q, NDV.has ⟨p2, lf2, kA2, kn2, kc2, vA2, vn2, vc2, dA2, dn2, dc2⟩ q → q ≠ P8 ∧ q ≠ P9 := fun q hq => by have g8 := HP8.out; have g9 := HP9.out; have z8 := HZ8.out; have z9 := HZ9.out; have z0 := HS0.out; have g1 := hn2 q hq; omega
            have s12 : ∀ q, NDV.has ⟨p1, lf1, kA1, kn1, kc1, vA1, vn1, vc1, dA1, dn1, dc1⟩ q → ¬ NDV.has ⟨p2, lf2, kA2, kn2, kc2, vA2, vn2, vc2, dA2, dn2, dc2⟩ q := fun q hq hr => by have z8 := HZ8.out; have z9 := HZ9.out; have g1 := hn1 q hq; have g2 := hn2 q hr; omega
            have hfin := hcut 2 _ _ W4 ⟨rfl, rfl, P8, P9, ⟨p1, lf1, kA1, kn1, kc1, vA1, vn1, vc1, dA1, dn1, dc1⟩, ⟨p2, lf2, kA2, kn2, kc2, vA2, vn2, vc2, dA2, dn2, dc2⟩, rfl, ⟨T4, B8, B9, O1, O2, h8.2.1, h8.2.2, h8.1, s1, s2, s12⟩⟩
            simp only [Act.put, List.setIfInBounds_toArray, List.set_cons_zero, List.set_cons_succ] at hfin
            exact hfin
      · refine step_open rfl ?_
        go_simp
        obtain ⟨W1, hW1⟩ : ∃ x, W0.alloc (.cells #[.int .i64 0, .bool false, .slice none 0 0, .slice none 0 0, .slice none 0 0] 29) = x := ⟨_, rfl⟩
        have b1 : Below W0.heap.size W0 W1 := hW1 ▸ (Below.refl _ W0).alloc (Nat.le_refl _) _
        have HZ8 : Hid (W1.heap.size = W0.heap.size + 1) := Lib.hid (by rw [← hW1]; simp)
        have B8 : Has W1 W0.heap.size 29 #[.int .i64 0, .bool false, .slice none 0 0, .slice none 0 0, .slice none 0 0] := hW1 ▸ Has.made W0 29 _
        rw [hW1]
        obtain ⟨P8, hP8⟩ : ∃ G, W0.heap.size = G := ⟨_, rfl⟩
        try rw [hP8]
        rw [hP8] at B8
        have HP8 := Lib.hid hP8
        clear hP8
        have T1 : Below V.heap.size V W1 := below_step T0 b1
        have sz1 := b1.size
        refine hK5.out _ _ T1 (fun _ => ?_)
        clear hK5 K5
        try simp only [Act.put, List.setIfInBounds_toArray, List.set_cons_zero, List.set_cons_succ]
        refine wpAnyH_ready (rs := [3, 9]) (by kernel_rfl) (by simp) ?_
        refine AllReadyH.cons (lit rfl) (fun K5 hK5 => ?_) (AllReadyH.cons (lit rfl) (fun K5 hK5 => ?_) AllReadyH.nil)
        · refine step_open rfl ?_
          go_simp
          go_at_call 65
          (with_reducible refine (HSF.out _ T1).mono ?_)
          rintro e2 W2 ⟨⟨p1, lf1, kA1, kn1, kc1, vA1, vn1, vc1, dA1, dn1, dc1⟩, rfl, o1, b2⟩
          unfold ndV
          simp only
          have hn1 : ∀ q, NDV.has ⟨p1, lf1, kA1, kn1, kc1, vA1, vn1, vc1, dA1, dn1, dc1⟩ q → W1.heap.size ≤ q ∧ q < W2.heap.size := fun q hq => o1.lt hq
          have O1 := o1.mono T1.size
          clear o1
          go_simp
          have T2 : Below V.heap.size V W2 := below_step T1 b2
          have B8 := B8.below b2 B8.lt
          have sz2 := b2.size
          refine hK5.out _ _ T2 (fun _ => ?_)
          clear hK5 K5
          try simp only [Act.put, List.setIfInBounds_toArray, List.set_cons_zero, List.set_cons_succ]
          refine wpAnyH_ready (rs := [7, 9]) (by kernel_rfl) (by simp) ?_
          refine AllReadyH.cons (lit rfl) (fun K5 hK5 => ?_) (AllReadyH.cons (lit rfl) (fun K5 hK5 => ?_) AllReadyH.nil)
          · refine step_open rfl ?_
            go_simp
            go_at_call 65
            (with_reducible refine (HSB.out _ T2).mono ?_)
            rintro e3 W3 ⟨⟨p2, lf2, kA2, kn2, kc2, vA2, vn2, vc2, dA2, dn2, dc2⟩, rfl, o2, b3⟩
            unfold ndV
            simp only
            have hn2 : ∀ q, NDV.has ⟨p2, lf2, kA2, kn2, kc2, vA2, vn2, vc2, dA2, dn2, dc2⟩ q → W2.heap.size ≤ q ∧ q < W3.heap.size := fun q hq => o2.lt hq
            have O2 := o2.mono T2.size
            clear o2
            go_simp
            have T3 : Below V.heap.size V W3 := below_step T2 b3
            have B8 := B8.below b3 B8.lt
            have O1 := O1.below b3
            have sz3 := b3.size
            refine hK5.out _ _ T3 (fun _ => ?_)
            clear hK5 K5
            try simp only [Act.put, List.setIfInBounds_toArray, List.set_cons_zero, List.set_cons_succ]
            refine wpAnyH_ready (rs := [9]) (by kernel_rfl) (by simp) ?_
            refine AllReadyH.cons (lit rfl) (fun K5 hK5 => ?_) AllReadyH.nil
            refine step_open rfl ?_
            go_simp
            obtain ⟨W4, hW4⟩ : ∃ x, W3.alloc (.cells #[.int .i64 0, .bool false, .slice none 0 0, .slice none 0 0, .slice none 0 0] 29) = x := ⟨_, rfl⟩
            have b4 : Below W3.heap.size W3 W4 := hW4 ▸ (Below.refl _ W3).alloc (Nat.le_refl _) _
            have HZ9 : Hid (W4.heap.size = W3.heap.size + 1) := Lib.hid (by rw [← hW4]; simp)
            have B9 : Has W4 W3.heap.size 29 #[.int .i64 0, .bool false, .slice none 0 0, .slice none 0 0, .slice none 0 0] := hW4 ▸ Has.made W3 29 _
            rw [hW4]
            obtain ⟨P9, hP9⟩ : ∃ G, W3.heap.size = G := ⟨_, rfl⟩
            try rw [hP9]
            rw [hP9] at B9
            have HP9 := Lib.hid hP9
            clear hP9
            have T4 : Below V.heap.size V W4 := below_step T3 b4
            have B8 := B8.below b4 B8.lt
            have O1 := O1.below b4
            have O2 := O2.below b4
            have sz4 := b4.size
            refine hK5.out _ _ T4 (fun _ => ?_)
            clear hK5 K5
            try simp only [Act.put, List.setIfInBounds_toArray, List.set_cons_zero, List.set_cons_succ]
            have h8 : P8 ≠ P9 ∧ V.heap.size ≤ P8 ∧ V.heap.size ≤ P9 := by have g8 := HP8.out; have g9 := HP9.out; have z8 := HZ8.out; have z9 := HZ9.out; have z0 := HS0.out; have ht := T0.size; omega
            have s1 : ∀ q, NDV.has ⟨p1, lf1, kA1, kn1, kc1, vA1, vn1, vc1, dA1, dn1, dc1⟩ q → q ≠ P8 ∧ q ≠ P9 := fun q hq => by have g8 := HP8.out; have g9 := HP9.out; have z8 := HZ8.out; have z9 := HZ9.out; have z0 := HS0.out; have g1 := hn1 q hq; omega
            have s2 : ∀ q, NDV.has ⟨p2, lf2, kA2, kn2, kc2, vA2, vn2, vc2, dA2, dn2, dc2⟩ q → q ≠ P8 ∧ q ≠ P9 := fun q hq => by have g8 := HP8.out; have g9 := HP9.out; have z8 := HZ8.out; have z9 := HZ9.out; have z0 := HS0.out; have g1 := hn2 q hq; omega
            have s12 : ∀ q, NDV.has ⟨p1, lf1, kA1, kn1, kc1, vA1, vn1, vc1, dA1, dn1, dc1⟩ q → ¬ NDV.has ⟨p2, lf2, kA2, kn2, kc2, vA2, vn2, vc2, dA2, dn2, dc2⟩ q := fun q hq hr => by have z8 := HZ8.out; have z9 := HZ9.out; have g1 := hn1 q hq; have g2 := hn2 q hr; omega
            have hfin := hcut 2 _ _ W4 ⟨rfl, rfl, P8, P9, ⟨p1, lf1, kA1, kn1, kc1, vA1, vn1, vc1, dA1, dn1, dc1⟩, ⟨p2, lf2, kA2, kn2, kc2, vA2, vn2, vc2, dA2, dn2, dc2⟩, rfl, ⟨T4, B8, B9, O1, O2, h8.2.1, h8.2.2, h8.1, s1, s2, s12⟩⟩
            simp only [Act.put, List.setIfInBounds_toArray, List.set_cons_zero, List.set_cons_succ] at hfin
            exact hfin
          · refine step_open rfl ?_
            go_simp
            obtain ⟨W3, hW3⟩ : ∃ x, W2.alloc (.cells #[.int .i64 0, .bool false, .slice none 0 0, .slice none 0 0, .slice none 0 0] 29) = x := ⟨_, rfl⟩
            have b3 : Below W2.heap.size W2 W3 := hW3 ▸ (Below.refl _ W2).alloc (Nat.le_refl _) _
            have HZ9 : Hid (W3.heap.size = W2.heap.size + 1) := Lib.hid (by rw [← hW3]; simp)
            have B9 : Has W3 W2.heap.size 29 #[.int .i64 0, .bool false, .slice none 0 0, .slice none 0 0, .slice none 0 0] := hW3 ▸ Has.made W2 29 _
            rw [hW3]
            obtain ⟨P9, hP9⟩ : ∃ G, W2.heap.size = G := ⟨_, rfl⟩
            try rw [hP9]
            rw [hP9] at B9
            have HP9 := Lib.hid hP9
            clear hP9
            have T3 : Below V.heap.size V W3 := below_step T2 b3
            have B8 := B8.below b3 B8.lt
            have O1 := O1.below b3
            have sz3 := b3.size
            refine hK5.out _ _ T3 (fun _ => ?_)
            clear hK5 K5
            try simp only [Act.put, List.setIfInBounds_toArray, List.set_cons_zero, List.set_cons_succ]
            refine wpAnyH_ready (rs := [7]) (by kernel_rfl) (by simp) ?_
            refine AllReadyH.cons (lit rfl) (fun K5 hK5 => ?_) AllReadyH.nil
            refine step_open rfl ?_
            go_simp
            go_at_call 65
            (with_reducible refine (HSB.out _ T3).mono ?_)
            rintro e4 W4 ⟨⟨p2, lf2, kA2, kn2, kc2, vA2, vn2, vc2, dA2, dn2, dc2⟩, rfl, o2, b4⟩
            unfold ndV
            simp only
            have hn2 : ∀ q, NDV.has ⟨p2, lf2, kA2, kn2, kc2, vA2, vn2, vc2, dA2, dn2, dc2⟩ q → W3.heap.size ≤ q ∧ q < W4.heap.size := fun q hq => o2.lt hq
            have O2 := o2.mono T3.size
            clear o2
            go_simp
            have T4 : Below V.heap.size V W4 := below_step T3 b4
            have B8 := B8.below b4 B8.lt
            have O1 := O1.below b4
            have B9 := B9.below b4 B9.lt
            have sz4 := b4.size
            refine hK5.out _ _ T4 (fun _ => ?_)
            clear hK5 K5
            try simp only [Act.put, List.setIfInBounds_toArray, List.set_cons_zero, List.set_cons_succ]
            have h8 : P8 ≠ P9 ∧ V.heap.size ≤ P8 ∧ V.heap.size ≤ P9 := by have g8 := HP8.out; have g9 := HP9.out; have z8 := HZ8.out; have z9 := HZ9.out; have z0 := HS0.out; have ht := T0.size; omega
            have s1 : ∀ q, NDV.has ⟨p1, lf1, kA1, kn1, kc1, vA1, vn1, vc1, dA1, dn1, dc1⟩ q → q ≠ P8 ∧ q ≠ P9 := fun q hq => by have g8 := HP8.out; have g9 := HP9.out; have z8 := HZ8.out; have z9 := HZ9.out; have z0 := HS0.out; have g1 := hn1 q hq; omega
            have s2 : ∀ q, NDV.has ⟨p2, lf2, kA2, kn2, kc2, vA2, vn2, vc2, dA2, dn2, dc2⟩ q → q ≠ P8 ∧ q ≠ P9 := fun q hq => by have g8 := HP8.out; have g9 := HP9.out; have z8 := HZ8.out; have z9 := HZ9.out; have z0 := HS0.out; have g1 := hn2 q hq; omega
            have s12 : ∀ q, NDV.has ⟨p1, lf1, kA1, kn1, kc1, vA1, vn1, vc1, dA1, dn1, dc1⟩ q → ¬ NDV.has ⟨p2, lf2, kA2, kn2, kc2, vA2, vn2, vc2, dA2, dn2, dc2⟩ q := fun q hq hr => by have z8 := HZ8.out; have z9 := HZ9.out; have g1 := hn1 q hq; have g2 := hn2 q hr; omega
            have hfin := hcut 2 _ _ W4 ⟨rfl, rfl, P8, P9, ⟨p1, lf1, kA1, kn1, kc1, vA1, vn1, vc1, dA1, dn1, dc1⟩, ⟨p2, lf2, kA2, kn2, kc2, vA2, vn2, vc2, dA2, dn2, dc2⟩, rfl, ⟨T4, B8, B9, O1, O2, h8.2.1, h8.2.2, h8.1, s1, s2, s12⟩⟩
            simp only [Act.put, List.setIfInBounds_toArray, List.set_cons_zero, List.set_cons_succ] at hfin
            exact hfin
        · refine step_open rfl ?_
          go_simp
          obtain ⟨W2, hW2⟩ : ∃ x, W1.alloc (.cells #[.int .i64 0, .bool false, .slice none 0 0, .slice none 0 0, .slice none 0 0] 29) = x := ⟨_, rfl⟩
          have b2 : Below W1.heap.size W1 W2 := hW2 ▸ (Below.refl _ W1).alloc (Nat.le_refl _) _
          have HZ9 : Hid (W2.heap.size = W1.heap.size + 1) := Lib.hid (by rw [← hW2]; simp)
          have B9 : Has W2 W1.heap.size 29 #[.int .i64 0, .bool false, .slice none 0 0, .slice none 0 0, .slice none 0 0] := hW2 ▸ Has.made W1 29 _
          rw [hW2]
          obtain ⟨P9, hP9⟩ : ∃ G, W1.heap.size = G := ⟨_, rfl⟩
          try rw [hP9]
          rw [hP9] at B9
          have HP9 := Lib.hid hP9
          clear hP9
          have T2 : Below V.heap.size V W2 := below_step T1 b2
          have B8 := B8.below b2 B8.lt
          have sz2 := b2.size
          refine hK5.out _ _ T2 (fun _ => ?_)
          clear hK5 K5
          try simp only [Act.put, List.setIfInBounds_toArray, List.set_cons_zero, List.set_cons_succ]
          refine wpAnyH_ready (rs := [3]) (by kernel_rfl) (by simp) ?_
          refine AllReadyH.cons (lit rfl) (fun K5 hK5 => ?_) AllReadyH.nil
          refine step_open rfl ?_
          go_simp
          go_at_call 65
          (with_reducible refine (HSF.out _ T2).mono ?_)
          rintro e3 W3 ⟨⟨p1, lf1, kA1, kn1, kc1, vA1, vn1, vc1, dA1, dn1, dc1⟩, rfl, o1, b3⟩
          unfold ndV
          simp only
          have hn1 : ∀ q, NDV.has ⟨p1, lf1, kA1, kn1, kc1, vA1, vn1, vc1, dA1, dn1, dc1⟩ q → W2.heap.size ≤ q ∧ q < W3.heap.size := fun q hq => o1.lt hq
          have O1 := o1.mono T2.size
          clear o1
          go_simp
          have T3 : Below V.heap.size V W3 := below_step T2 b3
          have B8 := B8.below b3 B8.lt
          have B9 := B9.below b3 B9.lt
          have sz3 := b3.size
          refine hK5.out _ _ T3 (fun _ => ?_)
          clear hK5 K5
          try simp only [Act.put, List.setIfInBounds_toArray, List.set_cons_zero, List.set_cons_succ]
          refine wpAnyH_ready (rs := [7]) (by kernel_rfl) (by simp) ?_
          refine AllReadyH.cons (lit rfl) (fun K5 hK5 => ?_) AllReadyH.nil
          refine step_open rfl ?_
          go_simp
          go_at_call 65
          (with_reducible refine (HSB.out _ T3).mono ?_)
          rintro e4 W4 ⟨⟨p2, lf2, kA2, kn2, kc2, vA2, vn2, vc2, dA2, dn2, dc2⟩, rfl, o2, b4⟩
          unfold ndV
          simp only
          have hn2 : ∀ q, NDV.has ⟨p2, lf2, kA2, kn2, kc2, vA2, vn2, vc2, dA2, dn2, dc2⟩ q → W3.heap.size ≤ q ∧ q < W4.heap.size := fun q hq => o2.lt hq
          have O2 := o2.mono T3.size
          clear o2
          go_simp
          have T4 : Below V.heap.size V W4 := below_step T3 b4
          have B8 := B8.below b4 B8.lt
          have B9 := B9.below b4 B9.lt
          have O1 := O1.below b4
          have sz4 := b4.size
          refine hK5.out _ _ T4 (fun _ => ?_)
          clear hK5 K5
          try simp only [Act.put, List.setIfInBounds_toArray, List.set_cons_zero, List.set_cons_succ]
          have h8 : P8 ≠ P9 ∧ V.heap.size ≤ P8 ∧ V.heap.size ≤ P9 := by have g8 := HP8.out; have g9 := HP9.out; have z8 := HZ8.out; have z9 := HZ9.out; have z0 := HS0.out; have ht := T0.size; omega
          have s1 : ∀ q, NDV.has ⟨p1, lf1, kA1, kn1, kc1, vA1, vn1, vc1, dA1, dn1, dc1⟩ q → q ≠ P8 ∧ q ≠ P9 := fun q hq => by have g8 := HP8.out; have g9 := HP9.out; have z8 := HZ8.out; have z9 := HZ9.out; have z0 := HS0.out; have g1 := hn1 q hq; omega
          have s2 : ∀ q, NDV.has ⟨p2, lf2, kA2, kn2, kc2, vA2, vn2, vc2, dA2, dn2, dc2⟩ q → q ≠ P8 ∧ q ≠ P9 := fun q hq => by have g8 := HP8.out; have g9 := HP9.out; have z8 := HZ8.out; have z9 := HZ9.out; have z0 := HS0.out; have g1 := hn2 q hq; omega
          have s12 : ∀ q, NDV.has ⟨p1, lf1, kA1, kn1, kc1, vA1, vn1, vc1, dA1, dn1, dc1⟩ q → ¬ NDV.has ⟨p2, lf2, kA2, kn2, kc2, vA2, vn2, vc2, dA2, dn2, dc2⟩ q := fun q hq hr => by have z8 := HZ8.out; have z9 := HZ9.out; have g1 := hn1 q hq; have g2 := hn2 q hr; omega
          have hfin := hcut 2 _ _ W4 ⟨rfl, rfl, P8, P9, ⟨p1, lf1, kA1, kn1, kc1, vA1, vn1, vc1, dA1, dn1, dc1⟩, ⟨p2, lf2, kA2, kn2, kc2, vA2, vn2, vc2, dA2, dn2, dc2⟩, rfl, ⟨T4, B8, B9, O1, O2, h8.2.1, h8.2.2, h8.1, s1, s2, s12⟩⟩
          simp only [Act.put, List.setIfInBounds_toArray, List.set_cons_zero, List.set_cons_succ] at hfin
          exact hfin
      · refine step_open rfl ?_
        go_simp
        obtain ⟨W1, hW1⟩ : ∃ x, W0.alloc (.cells #[.int .i64 0, .bool false, .slice none 0 0, .slice none 0 0, .slice none 0 0] 29) = x := ⟨_, rfl⟩
        have b1 : Below W0.heap.size W0 W1 := hW1 ▸ (Below.refl _ W0).alloc (Nat.le_refl _) _
        have HZ9 : Hid (W1.heap.size = W0.heap.size + 1) := Lib.hid (by rw [← hW1]; simp)
        have B9 : Has W1 W0.heap.size 29 #[.int .i64 0, .bool false, .slice none 0 0, .slice none 0 0, .slice none 0 0] := hW1 ▸ Has.made W0 29 _
        rw [hW1]
        obtain ⟨P9, hP9⟩ : ∃ G, W0.heap.size = G := ⟨_, rfl⟩
        try rw [hP9]
        rw [hP9] at B9
        have HP9 := Lib.hid hP9
        clear hP9
        have T1 : Below V.heap.size V W1 := below_step T0 b1
        have sz1 := b1.size
        refine hK5.out _ _ T1 (fun _ => ?_)
        clear hK5 K5
        try simp only [Act.put, List.setIfInBounds_toArray, List.set_cons_zero, List.set_cons_succ]
        refine wpAnyH_ready (rs := [3, 8]) (by kernel_rfl) (by simp) ?_
        refine AllReadyH.cons (lit rfl) (fun K5 hK5 => ?_) (AllReadyH.cons (lit rfl) (fun K5 hK5 => ?_) AllReadyH.nil)
        · refine step_open rfl ?_
          go_simp
          go_at_call 65
          (with_reducible refine (HSF.out _ T1).mono ?_)
          rintro e2 W2 ⟨⟨p1, lf1, kA1, kn1, kc1, vA1, vn1, vc1, dA1, dn1, dc1⟩, rfl, o1, b2⟩
          unfold ndV
          simp only
          have hn1 : ∀ q, NDV.has ⟨p1, lf1, kA1, kn1, kc1, vA1, vn1, vc1, dA1, dn1, dc1⟩ q → W1.heap.size ≤ q ∧ q < W2.heap.size := fun q hq => o1.lt hq
          have O1 := o1.mono T1.size
          clear o1
          go_simp
          have T2 : Below V.heap.size V W2 := below_step T1 b2
          have B9 := B9.below b2 B9.lt
          have sz2 := b2.size
          refine hK5.out _ _ T2 (fun _ => ?_)
          clear hK5 K5
          try simp only [Act.put, List.setIfInBounds_toArray, List.set_cons_zero, List.set_cons_succ]
          refine wpAnyH_ready (rs := [7, 8]) (by kernel_rfl) (by simp) ?_
          refine AllReadyH.cons (lit rfl) (fun K5 hK5 => ?_) (AllReadyH.cons (lit rfl) (fun K5 hK5 => ?_) AllReadyH.nil)
          · refine step_open rfl ?_
            go_simp
            go_at_call 65
            (with_reducible refine (HSB.out _ T2).mono ?_)
            rintro e3 W3 ⟨⟨p2, lf2, kA2, kn2, kc2, vA2, vn2, vc2, dA2, dn2, dc2⟩, rfl, o2, b3⟩
            unfold ndV
            simp only
            have hn2 : ∀ q, NDV.has ⟨p2, lf2, kA2, kn2, kc2, vA2, vn2, vc2, dA2, dn2, dc2⟩ q → W2.heap.size ≤ q ∧ q < W3.heap.size := fun q hq => o2.lt hq
            have O2 := o2.mono T2.size
            clear o2
            go_simp
            have T3 : Below V.heap.size V W3 := below_step T2 b3
            have B9 := B9.below b3 B9.lt
            have O1 := O1.below b3
            have sz3 := b3.size
            refine hK5.out _ _ T3 (fun _ => ?_)
            clear hK5 K5
            try simp only [Act.put, List.setIfInBounds_toArray, List.set_cons_zero, List.set_cons_succ]
            refine wpAnyH_ready (rs := [8]) (by kernel_rfl) (by simp) ?_
            refine AllReadyH.cons (lit rfl) (fun K5 hK5 => ?_) AllReadyH.nil
            refine step_open rfl ?_
            go_simp
            obtain ⟨W4, hW4⟩ : ∃ x, W3.alloc (.cells #[.int .i64 0, .bool false, .slice none 0 0, .slice none 0 0, .slice none 0 0] 29) = x := ⟨_, rfl⟩
            have b4 : Below W3.heap.size W3 W4 := hW4 ▸ (Below.refl _ W3).alloc (Nat.le_refl _) _
            have HZ8 : Hid (W4.heap.size = W3.heap.size + 1) := Lib.hid (by rw [← hW4]; simp)
            have B8 : Has W4 W3.heap.size 29 #[.int .i64 0, .bool false, .slice none 0 0, .slice none 0 0, .slice none 0 0] := hW4 ▸ Has.made W3 29 _
            rw [hW4]
            obtain ⟨P8, hP8⟩ : ∃ G, W3.heap.size = G := ⟨_, rfl⟩
            try rw [hP8]
            rw [hP8] at B8
            have HP8 := Lib.hid hP8
            clear hP8
            have T4 : Below V.heap.size V W4 := below_step T3 b4
            have B9 := B9.below b4 B9.lt
            have O1 := O1.below b4
            have O2 := O2.below b4
            have sz4 := b4.size
            refine hK5.out _ _ T4 (fun _ => ?_)
            clear hK5 K5
            try simp only [Act.put, List.setIfInBounds_toArray, List.set_cons_zero, List.set_cons_succ]
            have h8 : P8 ≠ P9 ∧ V.heap.size ≤ P8 ∧ V.heap.size ≤ P9 := by have g8 := HP8.out; have g9 := HP9.out; have z8 := HZ8.out; have z9 := HZ9.out; have z0 := HS0.out; have ht := T0.size; omega
            have s1 : ∀ q, NDV.has ⟨p1, lf1, kA1, kn1, kc1, vA1, vn1, vc1, dA1, dn1, dc1⟩ q → q ≠ P8 ∧ q ≠ P9 := fun q hq => by have g8 := HP8.out; have g9 := HP9.out; have z8 := HZ8.out; have z9 := HZ9.out; have z0 := HS0.out; have g1 := hn1 q hq; omega
            have s2 : ∀ q, NDV.has ⟨p2, lf2, kA2, kn2, kc2, vA2, vn2, vc2, dA2, dn2, dc2⟩ q → q ≠ P8 ∧ q ≠ P9 := fun q hq => by have g8 := HP8.out; have g9 := HP9.out; have z8 := HZ8.out; have z9 := HZ9.out; have z0 := HS0.out; have g1 := hn2 q hq; omega
            have s12 : ∀ q, NDV.has ⟨p1, lf1, kA1, kn1, kc1, vA1, vn1, vc1, dA1, dn1, dc1⟩ q → ¬ NDV.has ⟨p2, lf2, kA2, kn2, kc2, vA2, vn2, vc2, dA2, dn2, dc2⟩ q := fun q hq hr => by have z8 := HZ8.out; have z9 := HZ9.out; have g1 := hn1 q hq; have g2 := hn2 q hr; omega
            have hfin := hcut 2 _ _ W4 ⟨rfl, rfl, P8, P9, ⟨p1, lf1, kA1, kn1, kc1, vA1, vn1, vc1, dA1, dn1, dc1⟩, ⟨p2, lf2, kA2, kn2, kc2, vA2, vn2, vc2, dA2, dn2, dc2⟩, rfl, ⟨T4, B8, B9, O1, O2, h8.2.1, h8.2.2, h8.1, s1, s2, s12⟩⟩
            simp only [Act.put, List.setIfInBounds_toArray, List.set_cons_zero, List.set_cons_succ] at hfin
            exact hfin
          · refine step_open rfl ?_
            go_simp
            obtain ⟨W3, hW3⟩ : ∃ x, W2.alloc (.cells #[.int .i64 0, .bool false, .slice none 0 0, .slice none 0 0, .slice none 0 0] 29) = x := ⟨_, rfl⟩
            have b3 : Below W2.heap.size W2 W3 := hW3 ▸ (Below.refl _ W2).alloc (Nat.le_refl _) _
            have HZ8 : Hid (W3.heap.size = W2.heap.size + 1) := Lib.hid (by rw [← hW3]; simp)
            have B8 : Has W3 W2.heap.size 29 #[.int .i64 0, .bool false, .slice none 0 0, .slice none 0 0, .slice none 0 0] := hW3 ▸ Has.made W2 29 _
            rw [hW3]
            obtain ⟨P8, hP8⟩ : ∃ G, W2.heap.size = G := ⟨_, rfl⟩
            try rw [hP8]
            rw [hP8] at B8
            have HP8 := Lib.hid hP8
            clear hP8
            have T3 : Below V.heap.size V W3 := below_step T2 b3
            have B9 := B9.below b3 B9.lt
            have O1 := O1.below b3
            have sz3 := b3.size
            refine hK5.out _ _ T3 (fun _ => ?_)
            clear hK5 K5
            try simp only [Act.put, List.setIfInBounds_toArray, List.set_cons_zero, List.set_cons_succ]
            refine wpAnyH_ready (rs := [7]) (by kernel_rfl) (by simp) ?_
            refine AllReadyH.cons (lit rfl) (fun K5 hK5 => ?_) AllReadyH.nil
            refine step_open rfl ?_
            go_simp
            go_at_call 65
            (with_reducible refine (HSB.out _ T3).mono ?_)
            rintro e4 W4 ⟨⟨p2, lf2, kA2, kn2, kc2, vA2, vn2, vc2, dA2, dn2, dc2⟩, rfl, o2, b4⟩
            unfold ndV
            simp only
            have hn2 : ∀ q, NDV.has ⟨p2, lf2, kA2, kn2, kc2, vA2, vn2, vc2, dA2, dn2, dc2⟩ q → W3.heap.size ≤ q ∧ q < W4.heap.size := fun q hq => o2.lt hq
            have O2 := o2.mono T3.size
            clear o2
            go_simp
            have T4 : Below V.heap.size V W4 := below_step T3 b4
            have B9 := B9.below b4 B9.lt
            have O1 := O1.below b4
            have B8 := B8.below b4 B8.lt
            have sz4 := b4.size
            refine hK5.out _ _ T4 (fun _ => ?_)
            clear hK5 K5
            try simp only [Act.put, List.setIfInBounds_toArray, List.set_cons_zero, List.set_cons_succ]
            have h8 : P8 ≠ P9 ∧ V.heap.size ≤ P8 ∧ V.heap.size ≤ P9 := by have g8 := HP8.out; have g9 := HP9.out; have z8 := HZ8.out; have z9 := HZ9.out; have z0 := HS0.out; have ht := T0.size; omega
            have s1 : ∀ q, NDV.has ⟨p1, lf1, kA1, kn1, kc1, vA1, vn1, vc1, dA1, dn1, dc1⟩ q → q ≠ P8 ∧ q ≠ P9 := fun q hq => by have g8 := HP8.out; have g9 := HP9.out; have z8 := HZ8.out; have z9 := HZ9.out; have z0 := HS0.out; have g1 := hn1 q hq; omega
            have s2 : ∀ q, NDV.has ⟨p2, lf2, kA2, kn2, kc2, vA2, vn2, vc2, dA2, dn2, dc2⟩ q → q ≠ P8 ∧ q ≠ P9 := fun q hq => by have g8 := HP8.out; have g9 := HP9.out; have z8 := HZ8.out; have z9 := HZ9.out; have z0 := HS0.out; have g1 := hn2 q hq; omega
            have s12 : ∀ q, NDV.has ⟨p1, lf1, kA1, kn1, kc1, vA1, vn1, vc1, dA1, dn1, dc1⟩ q → ¬ NDV.has ⟨p2, lf2, kA2, kn2, kc2, vA2, vn2, vc2, dA2, dn2, dc2⟩ q := fun q hq hr => by have z8 := HZ8.out; have z9 := HZ9.out; have g1 := hn1 q hq; have g2 := hn2 q hr; omega
            have hfin := hcut 2 _ _ W4 ⟨rfl, rfl, P8, P9, ⟨p1, lf1, kA1, kn1, kc1, vA1, vn1, vc1, dA1, dn1, dc1⟩, ⟨p2, lf2, kA2, kn2, kc2, vA2, vn2, vc2, dA2, dn2, dc2⟩, rfl, ⟨T4, B8, B9, O1, O2, h8.2.1, h8.2.2, h8.1, s1, s2, s12⟩⟩
            simp only [Act.put, List.setIfInBounds_toArray, List.set_cons_zero, List.set_cons_succ] at hfin
            exact hfin
        · refine step_open rfl ?_
          go_simp
          obtain ⟨W2, hW2⟩ : ∃ x, W1.alloc (.cells #[.int .i64 0, .bool false, .slice none 0 0, .slice none 0 0, .slice none 0 0] 29) = x := ⟨_, rfl⟩
          have b2 : Below W1.heap.size W1 W2 := hW2 ▸ (Below.refl _ W1).alloc (Nat.le_refl _) _
          have HZ8 : Hid (W2.heap.size = W1.heap.size + 1) := Lib.hid (by rw [← hW2]; simp)
          have B8 : Has W2 W1.heap.size 29 #[.int .i64 0, .bool false, .slice none 0 0, .slice none 0 0, .slice none 0 0] := hW2 ▸ Has.made W1 29 _
          rw [hW2]
          obtain ⟨P8, hP8⟩ : ∃ G, W1.heap.size = G := ⟨_, rfl⟩
          try rw [hP8]
          rw [hP8] at B8
          have HP8 := Lib.hid hP8
          clear hP8
          have T2 : Below V.heap.size V W2 := below_step T1 b2
          have B9 := B9.below b2 B9.lt
          have sz2 := b2.size
          refine hK5.out _ _ T2 (fun _ => ?_)
          clear hK5 K5
          try simp only [Act.put, List.setIfInBounds_toArray, List.set_cons_zero, List.set_cons_succ]
          refine wpAnyH_ready (rs := [3]) (by kernel_rfl) (by simp) ?_
          refine AllReadyH.cons (lit rfl) (fun K5 hK5 => ?_) AllReadyH.nil
          refine step_open rfl ?_
          go_simp
          go_at_call 65
          (with_reducible refine (HSF.out _ T2).mono ?_)
          rintro e3 W3 ⟨⟨p1, lf1, kA1, kn1, kc1, vA1, vn1, vc1, dA1, dn1, dc1⟩, rfl, o1, b3⟩
          unfold ndV
          simp only
          have hn1 : ∀ q, NDV.has ⟨p1, lf1, kA1, kn1, kc1, vA1, vn1, vc1, dA1, dn1, dc1⟩ q → W2.heap.size ≤ q ∧ q < W3.heap.size := fun q hq => o1.lt hq
          have O1 := o1.mono T2.size
          clear o1
          go_simp
          have T3 : Below V.heap.size V W3 := below_step T2 b3
          have B9 := B9.below b3 B9.lt
          have B8 := B8.below b3 B8.lt
          have sz3 := b3.size
          refine hK5.out _ _ T3 (fun _ => ?_)
          clear hK5 K5
          try simp only [Act.put, List.setIfInBounds_toArray, List.set_cons_zero, List.set_cons_succ]
          refine wpAnyH_ready (rs := [7]) (by kernel_rfl) (by simp) ?_
          refine AllReadyH.cons (lit rfl) (fun K5 hK5 => ?_) AllReadyH.nil
          refine step_open rfl ?_
          go_simp
          go_at_call 65
          (with_reducible refine (HSB.out _ T3).mono ?_)
          rintro e4 W4 ⟨⟨p2, lf2, kA2, kn2, kc2, vA2, vn2, vc2, dA2, dn2, dc2⟩, rfl, o2, b4⟩
          unfold ndV
          simp only
          have hn2 : ∀ q, NDV.has ⟨p2, lf2, kA2, kn2, kc2, vA2, vn2, vc2, dA2, dn2, dc2⟩ q → W3.heap.size ≤ q ∧ q < W4.heap.size := fun q hq => o2.lt hq
          have O2 := o2.mono T3.size
          clear o2
          go_simp
          have T4 : Below V.heap.size V W4 := below_step T3 b4
          have B9 := B9.below b4 B9.lt
          have B8 := B8.below b4 B8.lt
          have O1 := O1.below b4
          have sz4 := b4.size
          refine hK5.out _ _ T4 (fun _ => ?_)
          clear hK5 K5
          try simp only [Act.put, List.setIfInBounds_toArray, List.set_cons_zero, List.set_cons_succ]
          have h8 : P8 ≠ P9 ∧ V.heap.size ≤ P8 ∧ V.heap.size ≤ P9 := by have g8 := HP8.out; have g9 := HP9.out; have z8 := HZ8.out; have z9 := HZ9.out; have z0 := HS0.out; have ht := T0.size; omega
          have s1 : ∀ q, NDV.has ⟨p1, lf1, kA1, kn1, kc1, vA1, vn1, vc1, dA1, dn1, dc1⟩ q → q ≠ P8 ∧ q ≠ P9 := fun q hq => by have g8 := HP8.out; have g9 := HP9.out; have z8 := HZ8.out; have z9 := HZ9.out; have z0 := HS0.out; have g1 := hn1 q hq; omega
          have s2 : ∀ q, NDV.has ⟨p2, lf2, kA2, kn2, kc2, vA2, vn2, vc2, dA2, dn2, dc2⟩ q → q ≠ P8 ∧ q ≠ P9 := fun q hq => by have g8 := HP8.out; have g9 := HP9.out; have z8 := HZ8.out; have z9 := HZ9.out; have z0 := HS0.out; have g1 := hn2 q hq; omega
          have s12 : ∀ q, NDV.has ⟨p1, lf1, kA1, kn1, kc1, vA1, vn1, vc1, dA1, dn1, dc1⟩ q → ¬ NDV.has ⟨p2, lf2, kA2, kn2, kc2, vA2, vn2, vc2, dA2, dn2, dc2⟩ q := fun q hq hr => by have z8 := HZ8.out; have z9 := HZ9.out; have g1 := hn1 q hq; have g2 := hn2 q hr; omega
          have hfin := hcut 2 _ _ W4 ⟨rfl, rfl, P8, P9, ⟨p1, lf1, kA1, kn1, kc1, vA1, vn1, vc1, dA1, dn1, dc1⟩, ⟨p2, lf2, kA2, kn2, kc2, vA2, vn2, vc2, dA2, dn2, dc2⟩, rfl, ⟨T4, B8, B9, O1, O2, h8.2.1, h8.2.2, h8.1, s1, s2, s12⟩⟩
          simp only [Act.put, List.setIfInBounds_toArray, List.set_cons_zero, List.set_cons_succ] at hfin
          exact hfin
  · intro a w' hMa
    rw [hM] at hMa
    obtain ⟨P8, P9, z1, z2, hTW, rfl⟩ := hMa
    clear HMI hM
    refine hK _ _ ?_
    clear hK
    subst ha0
    simp only [Act.put, List.setIfInBounds_toArray, List.set_cons_zero, List.set_cons_succ]
    have hx3 := HX3.out.below hTW.bl HX3.out.lt
    have hkey2 := hTW.o2.keys
    have hk0 := keys_drop (t := kd) (n := n) HN.out.2.1
    have hkl2 := hkey2.1
    rw [List.length_map] at hkl2
    have hkn0 : 0 < z2.kn := by
      have := (List.getElem?_eq_some_iff.1 hk0).1
      omega
    obtain ⟨g2, cp2, hform, hg21, hg22⟩ := hkey2.form hkn0
    obtain ⟨p1, lf1, kA1, kn1, kc1, vA1, vn1, vc1, dA1, dn1, dc1⟩ := z1
    obtain ⟨p2, lf2, kA2, kn2, kc2, vA2, vn2, vc2, dA2, dn2, dc2⟩ := z2
    simp only at hform hkey2 hkl2 hkn0
    injection hform with hA _ hcc
    subst hA hcc
    have hc0 : w'.cell? ⟨g2, 0, none⟩ = some (.string ⟨(keyT n kd).toArray⟩) := by rw [hkey2.cellAt 0 (by omega), List.getElem?_map, hk0]; rfl
    obtain ⟨ky, hky⟩ : ∃ s : ByteArray, (⟨y.1.toArray⟩ : ByteArray) = s := ⟨_, rfl⟩
    obtain ⟨kz, hkz⟩ : ∃ s : ByteArray, (⟨(keyT n kd).toArray⟩ : ByteArray) = s := ⟨_, rfl⟩
    have hck := cell_below HCK.out (below_step HBV.out hTW.bl)
    rw [hky] at hck
    rw [hkz] at hc0
    have HXR : Hid (∀ w6 : World, Below w'.heap.size w' w6 → w6.cell? ⟨P3, 2, none⟩ = some (.slice (some ⟨gk, offk, none⟩) knn kcn) ∧ w6.cell? ⟨gk, offk + k, none⟩ = some (.string ky) ∧ w6.cell? ⟨P9, 2, none⟩ = some (.slice (some ⟨g2, 0, none⟩) kn2 kc2) ∧ w6.cell? ⟨g2, 0, none⟩ = some (.string kz)) := Lib.hid (fun w6 hb => ⟨(hx3.below hb hx3.lt).cell 2, cell_below hck hb, (hTW.b9.below hb hTW.b9.lt).cell 2, cell_below hc0 hb⟩)
    have HTW := Lib.hid hTW
    have HKY := Lib.hid hky
    have HKZ := Lib.hid hkz
    have HG2 : Hid (g2 < w'.heap.size ∧ V.heap.size ≤ g2) := Lib.hid ⟨hg22, hg21⟩
    have i2 : (0 : Int) < (kn2 : Int) := by omega
    have T0 : Below w'.heap.size w' w'.drew := (Below.refl _ w').drew
    clear hTW hx3 hkey2 hk0 hkl2 hc0 hck hky hkz hg21 hg22
    go_wp2
    first | (rename_i K hK; refine wp_held (fun w6 : World => Below w'.heap.size w' w6) K hmx ?_ (fun _ _ h => h)) | (rename_i K hK hz; refine wp_held (fun w6 : World => Below w'.heap.size w' w6) K hmx ?_ (fun _ _ h => h))
    obtain ⟨Wd, hWd⟩ : ∃ W, w'.drew = W := ⟨_, rfl⟩
    rw [hWd] at T0 ⊢
    clear hWd
    refine wpAnyH_take (i := 0) (v := .pointer (some ⟨P3, 2, none⟩)) (lit rfl) (by kernel_rfl) (by kernel_rfl) (by kernel_rfl) (fun _ _ _ h => h) (Or.inl ⟨by rfl, ?_⟩) T0 ?_
    · rintro w6 hb6
      go_simp
    simp only [Act.put, List.setIfInBounds_toArray, List.set_cons_zero, List.set_cons_succ]
    refine wpAnyH_take (i := 1) (v := .slice (some ⟨gk, offk, none⟩) knn kcn) (lit rfl) (by kernel_rfl) (by kernel_rfl) (by kernel_rfl) (fun _ _ _ h => h) (Or.inl ⟨by rfl, ?_⟩) T0 ?_
    · rintro w6 hb6
      have y6 := (HXR.out w6 hb6).1
      go_simp
    simp only [Act.put, List.setIfInBounds_toArray, List.set_cons_zero, List.set_cons_succ]
    refine wpAnyH_take (i := 2) (v := .int .i64 (k : Int)) (lit rfl) (by kernel_rfl) (by kernel_rfl) (by kernel_rfl) (fun _ _ _ h => h) (Or.inl ⟨by rfl, ?_⟩) T0 ?_
    · rintro w6 hb6
      go_simp
    simp only [Act.put, List.setIfInBounds_toArray, List.set_cons_zero, List.set_cons_succ]
    refine wpAnyH_take (i := 3) (v := .pointer (some ⟨gk, offk + k, none⟩)) (lit rfl) (by kernel_rfl) (by kernel_rfl) (by kernel_rfl) (fun _ _ _ h => h) (Or.inl ⟨by rfl, ?_⟩) T0 ?_
    · rintro w6 hb6
      go_simp
    simp only [Act.put, List.setIfInBounds_toArray, List.set_cons_zero, List.set_cons_succ]
    refine wpAnyH_take (i := 4) (v := .string ky) (lit rfl) (by kernel_rfl) (by kernel_rfl) (by kernel_rfl) (fun _ _ _ h => h) (Or.inl ⟨by rfl, ?_⟩) T0 ?_
    · rintro w6 hb6
      have y6 := (HXR.out w6 hb6).2.1
      go_simp
    simp only [Act.put, List.setIfInBounds_toArray, List.set_cons_zero, List.set_cons_succ]
    refine wpAnyH_take (i := 5) (v := .pointer (some ⟨P9, 2, none⟩)) (lit rfl) (by kernel_rfl) (by kernel_rfl) (by kernel_rfl) (fun _ _ _ h => h) (Or.inl ⟨by rfl, ?_⟩) T0 ?_
    · rintro w6 hb6
      go_simp
    simp only [Act.put, List.setIfInBounds_toArray, List.set_cons_zero, List.set_cons_succ]
    refine wpAnyH_take (i := 6) (v := .slice (some ⟨g2, 0, none⟩) kn2 kc2) (lit rfl) (by kernel_rfl) (by kernel_rfl) (by kernel_rfl) (fun _ _ _ h => h) (Or.inl ⟨by rfl, ?_⟩) T0 ?_
    · rintro w6 hb6
      have y6 := (HXR.out w6 hb6).2.2.1
      go_simp
    simp only [Act.put, List.setIfInBounds_toArray, List.set_cons_zero, List.set_cons_succ]
    refine wpAnyH_take (i := 7) (v := .pointer (some ⟨g2, 0, none⟩)) (lit rfl) (by kernel_rfl) (by kernel_rfl) (by kernel_rfl) (fun _ _ _ h => h) (Or.inl ⟨by rfl, ?_⟩) T0 ?_
    · rintro w6 hb6
      go_simp
    simp only [Act.put, List.setIfInBounds_toArray, List.set_cons_zero, List.set_cons_succ]
    refine wpAnyH_take (i := 8) (v := .string kz) (lit rfl) (by kernel_rfl) (by kernel_rfl) (by kernel_rfl) (fun _ _ _ h => h) (Or.inl ⟨by rfl, ?_⟩) T0 ?_
    · rintro w6 hb6
      have y6 := (HXR.out w6 hb6).2.2.2
      go_simp
    simp only [Act.put, List.setIfInBounds_toArray, List.set_cons_zero, List.set_cons_succ]
    refine wpAnyH_ready (rs := [9]) (by kernel_rfl) (by simp) ?_
    refine AllReadyH.cons (lit rfl) (fun K5 hK5 => ?_) AllReadyH.nil
    refine step_open rfl ?_
    go_simp
    obtain ⟨W10, hW10⟩ : ∃ x, Wd.alloc (.cells #[.string ky, .string kz] 9) = x := ⟨_, rfl⟩
    have XK : Has W10 Wd.heap.size 9 #[.string ky, .string kz] := hW10 ▸ Has.made Wd 9 _
    have T10 : Below w'.heap.size w' W10 := below_step T0 (hW10 ▸ (Below.refl _ Wd).alloc (Nat.le_refl _) _)
    have hk10 : w'.heap.size ≤ Wd.heap.size := T0.size
    rw [hW10]
    obtain ⟨Pk, hPk⟩ : ∃ G, Wd.heap.size = G := ⟨_, rfl⟩
    try rw [hPk]
    rw [hPk] at XK hk10
    clear hPk hW10
    refine hK5.out _ _ T10 (fun _ => ?_)
    clear hK5 K5
    refine wpAnyH_take (i := 10) (v := .slice (some ⟨Pk, 0, none⟩) 2 2) (lit rfl) (by kernel_rfl) (by kernel_rfl) (by kernel_rfl) (fun _ _ _ h => h) (Or.inl ⟨by rfl, ?_⟩) T10 ?_
    · rintro w6 hb6
      go_simp
    simp only [Act.put, List.setIfInBounds_toArray, List.set_cons_zero, List.set_cons_succ]
    refine wpAnyH_done (by kernel_rfl) ?_ _
    refine hK _ _ ?_
    have XKK := Lib.hid XK
    have HT10 := Lib.hid T10
    have HK10 := Lib.hid hk10
    have x71 := (HX7.out.below (HTW.out.bl.trans (T10.mono HTW.out.bl.size)) HX7.out.lt).cell 1
    have hkmap : (#[.string ky, .string kz] : Array Value).toList = ([((kidT l k).1, frontT n kd), (keyT n kd, backT n kd)] : List (List UInt8 × Tr)).map (fun y => strV y.1) := by
      rw [HYK.out]
      simp [strV, HKY.out, HKZ.out]
    have HKM := Lib.hid hkmap
    clear XK T10 hk10 T0 hkmap
    cases kd with
    | leaf pp ll =>
      obtain ⟨_, hlfe, _⟩ := repT_rowL.1 HEY.out
      simp only at hlfe
      subst hlfe
      have x71 : W10.cell? ⟨P7, 1, none⟩ = some (.bool true) := x71
      have BT := below_step HTW.out.bl HT10.out
      have X3T := HX3.out.below BT HX3.out.lt
      have X6T := HX6.out.below BT HX6.out.lt
      have X8T := HTW.out.b8.below HT10.out HTW.out.b8.lt
      have X9T := HTW.out.b9.below HT10.out HTW.out.b9.lt
      have o1T := HTW.out.o1.below HT10.out
      have o2T : OwnN Fo V.heap.size W10 ⟨p2, lf2, some ⟨g2, 0, none⟩, kn2, kc2, vA2, vn2, vc2, dA2, dn2, dc2⟩ (backT n (.leaf pp ll)) := HTW.out.o2.below HT10.out
      have XKT := XKK.out
      obtain ⟨WT, hWT⟩ : ∃ W, W10 = W := ⟨_, rfl⟩
      subst hWT
      have hI3 := X3T.cell 0
      have hI31 := X3T.cell 1
      have hI32 := X3T.cell 2
      have hI33 := X3T.cell 3
      have hI34 := X3T.cell 4
      have g80 := X8T.cell 0
      have g81 := X8T.cell 1
      have g82 := X8T.cell 2
      have g83 := X8T.cell 3
      have g84 := X8T.cell 4
      have g90 := X9T.cell 0
      have g91 := X9T.cell 1
      have g92 := X9T.cell 2
      have g93 := X9T.cell 3
      have g94 := X9T.cell 4
      obtain ⟨WA, hWA⟩ : ∃ W, W10.alloc (.cells #[.int .i64 p1, .bool lf1, .slice kA1 kn1 kc1, .slice vA1 vn1 vc1, .slice dA1 dn1 dc1, .int .i64 p2, .bool lf2, .slice (some ⟨g2, 0, none⟩) kn2 kc2, .slice vA2 vn2 vc2, .slice dA2 dn2 dc2] 29) = W := ⟨_, rfl⟩
      have bA : Below W10.heap.size W10 WA := hWA ▸ (Below.refl _ W10).alloc (Nat.le_refl _) _
      have hsw := trSwap_branch (Fw Fo V.heap.size) ⟨pn, false, some ⟨gk, offk, none⟩, knn, kcn, vAn, 0, vcn, some ⟨gd, offd, none⟩, dnn, dcn⟩ ⟨0, false, some ⟨Pk, 0, none⟩, 2, 2, none, 0, 0, some ⟨W10.heap.size, 0, none⟩, 2, 2⟩ l [((kidT l k).1, frontT n (.leaf pp ll)), (keyT n (.leaf pp ll), backT n (.leaf pp ll))] k (k + 1) WA ((HROW.out.below (below_step HBV.out (below_step BT bA))).move fun q hq hl => ⟨.inl hq, rfl⟩) ?_ (by have := HN.out; omega) (by simp) (by omega) (by omega)
      rotate_left
      · refine ⟨?_, RwF.none_ _ _ _, [⟨p1, lf1, kA1, kn1, kc1, vA1, vn1, vc1, dA1, dn1, dc1⟩, ⟨p2, lf2, some ⟨g2, 0, none⟩, kn2, kc2, vA2, vn2, vc2, dA2, dn2, dc2⟩], ?_, ?_⟩
        · have hkr := (RwF.of_has (Fw Fo V.heap.size) XKT 2 1 (by rfl) (by decide) (.inr (Nat.le_trans HTW.out.bl.size HK10.out))).below bA
          rw [HKM.out] at hkr
          exact hkr
        · exact hWA ▸ RwF.made (Fw Fo V.heap.size) W10 29 _ 2 5 rfl (by decide) (.inr BT.size)
        · exact Both.cons (o1T.rep.stay bA) (Both.one (o2T.rep.stay bA))
      unfold ndV at hsw
      simp only at hsw
      rw [show (((k + 1 : Nat)) : Int) = (k : Int) + 1 by omega] at hsw
      have hspl : swapL k (k + 1) l [((kidT l k).1, frontT n (.leaf pp ll)), (keyT n (.leaf pp ll), backT n (.leaf pp ll))] = splitT l k n := by
        unfold swapL splitT
        rw [HYK.out, HKD.out, List.append_assoc]
      rw [hspl] at hsw
      have HSW := Lib.hid hsw
      have BA := Lib.hid bA
      have X6A := Lib.hid (X6T.below bA X6T.lt)
      have HBT := Lib.hid BT
      have HX6L := Lib.hid (X6T.lt)
      clear hsw hspl bA BT X3T X6T X8T X9T o1T o2T XKT
      go_wp2_with (go_at_call 65; (with_reducible refine HSW.out.mono ?_); rintro e20 w20 ⟨⟨p20, lf20, kA20, kn20, kc20, vA20, vn20, vc20, dA20, dn20, dc20⟩, ks20, rfl, rfl, rfl, o20, b20⟩; unfold ndV; simp only; have O20 := Lib.hid o20; have z6 := X6A.out.below b20 X6A.out.lt; have B20 := Lib.hid b20; have q0 := z6.cell 0; have q1 := z6.cell 1; have q2 := z6.cell 2; have q3 := z6.cell 3; have q4 := z6.cell 4; have f0 := z6.free 0; have f1 := z6.free 1; have f2 := z6.free 2; have f3 := z6.free 3; have f4 := z6.free 4; have Z6 := Lib.hid z6; clear z6 o20 b20)
      have XE := Z6.out.st5 (.int .i64 0) (.bool false) (.slice kA20 kn20 kc20) (.slice vA20 vn20 vc20) (.slice dA20 dn20 dc20)
      have e0 := XE.cell 0
      have e1 := XE.cell 1
      have e2 := XE.cell 2
      have e3 := XE.cell 3
      have e4 := XE.cell 4
      unfold st5 at e0 e1 e2 e3 e4
      simp at e0 e1 e2 e3 e4
      have hord := HORD.out
      refine ⟨rfl, .agg #[.int .i64 0, .bool false, .slice kA20 kn20 kc20, .slice vA20 vn20 vc20, .slice dA20 dn20 dc20], ?_, ⟨0, false, kA20, kn20, kc20, vA20, vn20, vc20, dA20, dn20, dc20⟩, rfl, ?_, ?_⟩
      · simp [results, Try.f73, go_sem, e0, e1, e2, e3, e4]
      · exact RepT.mono (OwnN.rep (OwnN.kept (t := .branch 0 (splitT l k n)) (z := ⟨0, false, kA20, kn20, kc20, vA20, vn20, vc20, dA20, dn20, dc20⟩) ⟨rfl, rfl, ks20, O20.out⟩ (st5_only w20 P6 _ _ _ _ _) (fun q hq => by have h1 := OwnN.lt (t := .branch 0 (splitT l k n)) ⟨rfl, rfl, ks20, O20.out⟩ hq; have h2 := X6A.out.lt; omega) (not_fw HFW.out (by have := HORD.out; omega) (by have := HORD.out; omega)))) (fun q hq => by
          have hord := HORD.out
          have h1 := HBV.out.size
          have h2 := HBT.out.size
          have h3 := BA.out.size
          rcases hq with (hq | hq) | hq
          · exact .inl hq
          · exact .inr (by omega)
          · exact .inr (by omega))
      · exact below_st5 (below_step (below_step (below_step HBV.out HBT.out) BA.out) B20.out) (by omega) _ _ _ _ _
    | branch pp ll =>
      obtain ⟨_, hlfe, _⟩ := repT_rowB.1 HEY.out
      simp only at hlfe
      subst hlfe
      have x71 : W10.cell? ⟨P7, 1, none⟩ = some (.bool false) := x71
      have hg2l : g2 < W10.heap.size := Nat.lt_of_lt_of_le HG2.out.1 HT10.out.size
      have B10 := below_step HTW.out.bl HT10.out
      have o2a := HTW.out.o2.below HT10.out
      have hng : ¬ Fo g2 := fun h => by have := HFV.out _ h; have := HG2.out.2; omega
      have hc2 : W10.cell? ⟨g2, 0, none⟩ = some (.string kz) := by
        have hq := o2a.keys
        have hk0 := keys_drop (t := .branch pp ll) (n := n) HN.out.2.1
        rw [hq.cellAt 0 (by simp only; omega), List.getElem?_map, hk0, ← HKZ.out]
        rfl
      have hf2 := o2a.keys.frozenAt 0
      have x92 := (HTW.out.b9.below HT10.out HTW.out.b9.lt).cell 2
      obtain ⟨WT, hWT⟩ : ∃ W, W10.setCell ⟨g2, 0, none⟩ (.string ⟨#[]⟩) = W := ⟨_, rfl⟩
      have hgT : W10.grownBy WT (some g2) := hWT ▸ only_store (only_refl W10 g2) 0 _
      have BT : Below V.heap.size V WT := hWT ▸ B10.setCell (p := ⟨g2, 0, none⟩) HG2.out.2 _
      have X3T := HX3.out.below BT HX3.out.lt
      have X6T := HX6.out.below BT HX6.out.lt
      have hz2 : NDV.has ⟨p2, lf2, some ⟨g2, 0, none⟩, kn2, kc2, vA2, vn2, vc2, dA2, dn2, dc2⟩ g2 := .inl rfl
      have X8T := (HTW.out.b8.below HT10.out HTW.out.b8.lt).grown hgT (by intro e; injection e with e; exact (HTW.out.s2 g2 hz2).1 e.symm)
      have X9T := (HTW.out.b9.below HT10.out HTW.out.b9.lt).grown hgT (by intro e; injection e with e; exact (HTW.out.s2 g2 hz2).2 e.symm)
      have o1T := (HTW.out.o1.below HT10.out).kept hgT (fun q hq e => HTW.out.s12 q hq (e ▸ hz2)) hng
      have o2T : OwnN Fo V.heap.size WT ⟨p2, lf2, some ⟨g2, 0, none⟩, kn2, kc2, vA2, vn2, vc2, dA2, dn2, dc2⟩ (backT n (.branch pp ll)) := hWT ▸ OwnN.blank o2a rfl hng
      have XKT := XKK.out.grown hgT (by intro e; injection e with e; have := HG2.out.1; have := HK10.out; omega)
      clear hgT hng hz2 B10 o2a
      clear hg2l
      have hI3 := X3T.cell 0
      have hI31 := X3T.cell 1
      have hI32 := X3T.cell 2
      have hI33 := X3T.cell 3
      have hI34 := X3T.cell 4
      have g80 := X8T.cell 0
      have g81 := X8T.cell 1
      have g82 := X8T.cell 2
      have g83 := X8T.cell 3
      have g84 := X8T.cell 4
      have g90 := X9T.cell 0
      have g91 := X9T.cell 1
      have g92 := X9T.cell 2
      have g93 := X9T.cell 3
      have g94 := X9T.cell 4
      obtain ⟨WA, hWA⟩ : ∃ W, WT.alloc (.cells #[.int .i64 p1, .bool lf1, .slice kA1 kn1 kc1, .slice vA1 vn1 vc1, .slice dA1 dn1 dc1, .int .i64 p2, .bool lf2, .slice (some ⟨g2, 0, none⟩) kn2 kc2, .slice vA2 vn2 vc2, .slice dA2 dn2 dc2] 29) = W := ⟨_, rfl⟩
      have bA : Below WT.heap.size WT WA := hWA ▸ (Below.refl _ WT).alloc (Nat.le_refl _) _
      have hsw := trSwap_branch (Fw Fo V.heap.size) ⟨pn, false, some ⟨gk, offk, none⟩, knn, kcn, vAn, 0, vcn, some ⟨gd, offd, none⟩, dnn, dcn⟩ ⟨0, false, some ⟨Pk, 0, none⟩, 2, 2, none, 0, 0, some ⟨WT.heap.size, 0, none⟩, 2, 2⟩ l [((kidT l k).1, frontT n (.branch pp ll)), (keyT n (.branch pp ll), backT n (.branch pp ll))] k (k + 1) WA ((HROW.out.below (below_step HBV.out (below_step BT bA))).move fun q hq hl => ⟨.inl hq, rfl⟩) ?_ (by have := HN.out; omega) (by simp) (by omega) (by omega)
      rotate_left
      · refine ⟨?_, RwF.none_ _ _ _, [⟨p1, lf1, kA1, kn1, kc1, vA1, vn1, vc1, dA1, dn1, dc1⟩, ⟨p2, lf2, some ⟨g2, 0, none⟩, kn2, kc2, vA2, vn2, vc2, dA2, dn2, dc2⟩], ?_, ?_⟩
        · have hkr := (RwF.of_has (Fw Fo V.heap.size) XKT 2 1 (by rfl) (by decide) (.inr (Nat.le_trans HTW.out.bl.size HK10.out))).below bA
          rw [HKM.out] at hkr
          exact hkr
        · exact hWA ▸ RwF.made (Fw Fo V.heap.size) WT 29 _ 2 5 rfl (by decide) (.inr BT.size)
        · exact Both.cons (o1T.rep.stay bA) (Both.one (o2T.rep.stay bA))
      unfold ndV at hsw
      simp only at hsw
      rw [show (((k + 1 : Nat)) : Int) = (k : Int) + 1 by omega] at hsw
      have hspl : swapL k (k + 1) l [((kidT l k).1, frontT n (.branch pp ll)), (keyT n (.branch pp ll), backT n (.branch pp ll))] = splitT l k n := by
        unfold swapL splitT
        rw [HYK.out, HKD.out, List.append_assoc]
      rw [hspl] at hsw
      have HSW := Lib.hid hsw
      have BA := Lib.hid bA
      have X6A := Lib.hid (X6T.below bA X6T.lt)
      have HBT := Lib.hid BT
      have HX6L := Lib.hid (X6T.lt)
      clear hsw hspl bA BT X3T X6T X8T X9T o1T o2T XKT
      go_wp2_with (go_at_call 65; (with_reducible refine HSW.out.mono ?_); rintro e20 w20 ⟨⟨p20, lf20, kA20, kn20, kc20, vA20, vn20, vc20, dA20, dn20, dc20⟩, ks20, rfl, rfl, rfl, o20, b20⟩; unfold ndV; simp only; have O20 := Lib.hid o20; have z6 := X6A.out.below b20 X6A.out.lt; have B20 := Lib.hid b20; have q0 := z6.cell 0; have q1 := z6.cell 1; have q2 := z6.cell 2; have q3 := z6.cell 3; have q4 := z6.cell 4; have f0 := z6.free 0; have f1 := z6.free 1; have f2 := z6.free 2; have f3 := z6.free 3; have f4 := z6.free 4; have Z6 := Lib.hid z6; clear z6 o20 b20)
      have XE := Z6.out.st5 (.int .i64 0) (.bool false) (.slice kA20 kn20 kc20) (.slice vA20 vn20 vc20) (.slice dA20 dn20 dc20)
      have e0 := XE.cell 0
      have e1 := XE.cell 1
      have e2 := XE.cell 2
      have e3 := XE.cell 3
      have e4 := XE.cell 4
      unfold st5 at e0 e1 e2 e3 e4
      simp at e0 e1 e2 e3 e4
      have hord := HORD.out
      refine ⟨rfl, .agg #[.int .i64 0, .bool false, .slice kA20 kn20 kc20, .slice vA20 vn20 vc20, .slice dA20 dn20 dc20], ?_, ⟨0, false, kA20, kn20, kc20, vA20, vn20, vc20, dA20, dn20, dc20⟩, rfl, ?_, ?_⟩
      · simp [results, Try.f73, go_sem, e0, e1, e2, e3, e4]
      · exact RepT.mono (OwnN.rep (OwnN.kept (t := .branch 0 (splitT l k n)) (z := ⟨0, false, kA20, kn20, kc20, vA20, vn20, vc20, dA20, dn20, dc20⟩) ⟨rfl, rfl, ks20, O20.out⟩ (st5_only w20 P6 _ _ _ _ _) (fun q hq => by have h1 := OwnN.lt (t := .branch 0 (splitT l k n)) ⟨rfl, rfl, ks20, O20.out⟩ hq; have h2 := X6A.out.lt; omega) (not_fw HFW.out (by have := HORD.out; omega) (by have := HORD.out; omega)))) (fun q hq => by
          have hord := HORD.out
          have h1 := HBV.out.size
          have h2 := HBT.out.size
          have h3 := BA.out.size
          rcases hq with (hq | hq) | hq
          · exact .inl hq
          · exact .inr (by omega)
          · exact .inr (by omega))
      · exact below_st5 (below_step (below_step (below_step HBV.out HBT.out) BA.out) B20.out) (by omega) _ _ _ _ _
end Go.Proofs.Ytpaklhifnndeoaa
