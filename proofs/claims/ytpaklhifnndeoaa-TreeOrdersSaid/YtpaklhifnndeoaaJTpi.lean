import Derived.Test.YtpaklhifnndeoaaJ01
import Derived.Test.YtpaklhifnndeoaaJ05
import Derived.Deep.Cut
/- Of a claim's texts, joined: Tpi. No statement but in the last. -/
namespace Go.Proofs.Ytpaklhifnndeoaa
open Go.RowKit
set_option linter.unusedVariables false

structure PlI (nd out : Array Value) (w W : World) (P1 P2 P3 : Nat) : Prop where
  b1 : Has W P1 29 nd
  b2 : Has W P2 33 #[.int .i64 0, .bool false, .slice none 0 0]
  b3 : Has W P3 33 out
  hP : P1 = w.heap.size ∧ P2 = P1 + 1 ∧ P3 = P2 + 1
  bl : Below w.heap.size w W
theorem plI_start (nd out : Array Value) (w : World) : PlI nd out w (((w.alloc (.cells nd 29)).alloc (.cells #[.int .i64 0, .bool false, .slice none 0 0] 33)).alloc (.cells out 33)) w.heap.size (w.heap.size + 1) (w.heap.size + 1 + 1) :=
  ⟨((Has.made w 29 nd).alloc _).alloc _, (by have := Has.made (w.alloc (.cells nd 29)) 33 #[.int .i64 0, .bool false, .slice none 0 0]; simpa using this.alloc _), (by have := Has.made ((w.alloc (.cells nd 29)).alloc (.cells #[.int .i64 0, .bool false, .slice none 0 0] 33)) 33 out; simpa using this), ⟨rfl, rfl, rfl⟩, (((Below.refl _ w).alloc (Nat.le_refl _) _).alloc (by simp) _).alloc (by simp; omega) _⟩
section
variable {nd out : Array Value} {w W W' : World} {P1 P2 P3 : Nat}
theorem PlI.below (h : PlI nd out w W P1 P2 P3) (hb : Below W.heap.size W W') : PlI nd out w W' P1 P2 P3 :=
  ⟨h.b1.below hb h.b1.lt, h.b2.below hb h.b2.lt, h.b3.below hb h.b3.lt, h.hP, below_step h.bl hb⟩
theorem PlI.grown {b : Option Nat} (h : PlI nd out w W P1 P2 P3) (hg : W.grownBy W' b) (hne : ∀ k, b = some k → P3 < k) : PlI nd out w W' P1 P2 P3 := by
  obtain ⟨e1, e2, e3⟩ := h.hP
  exact ⟨h.b1.grown hg (by intro e; have := hne _ (by first | exact e | exact e.symm); omega), h.b2.grown hg (by intro e; have := hne _ (by first | exact e | exact e.symm); omega), h.b3.grown hg (by intro e; have := hne _ (by first | exact e | exact e.symm); omega), h.hP, h.bl.grown hg (by have := h.b1.lt; omega) (fun k hk => by have := hne k hk; omega)⟩
theorem PlI.put {a b c : Value} (h : PlI nd #[a, b, c] w W P1 P2 P3) (v : Value) : PlI nd #[a, b, v] w (W.setCell ⟨P3, 2, none⟩ v) P1 P2 P3 := by
  obtain ⟨e1, e2, e3⟩ := h.hP
  exact ⟨h.b1.away (p := ⟨P3, 2, none⟩) (by show P1 ≠ P3; omega) _, h.b2.away (p := ⟨P3, 2, none⟩) (by show P2 ≠ P3; omega) _, (by have := h.b3.store 2 v; simpa using this), h.hP, h.bl.setCell (p := ⟨P3, 2, none⟩) (by show w.heap.size ≤ P3; omega) v⟩
end
theorem own_setC {w : World} {B s n P i : Nat} {e : TypeId} {v u : Value} {xs : List Value} (h : w.ownsRow B e s v n xs) (hP : P < B) : (w.setCell ⟨P, i, none⟩ u).ownsRow B e s v n xs := by
  refine h.kept (only_store (g := P) ⟨rfl, rfl, rfl, Nat.le_refl _, fun _ _ _ => rfl⟩ i u) ?_
  rcases hv : v.ownBlock with _ | k
  · exact .inl rfl
  · have := (h.lt k hv).1
    exact .inr (by intro e; injection e with e; omega)
theorem cells_leaf {F : Nat → Prop} {w : World} {vs : List VE} {l : List Lf} (h : Both (ValR F w) vs l) : ∃ ES : List CE, Both (CellL F w) ES l ∧ ∀ (i : Nat) v x, vs[i]? = some v → l[i]? = some x → ES[i]? = some ⟨x.k, x.d, v.pa, v.pn, v.pc, none, 0, 0⟩ := by
  have hh : ∀ (i : Nat) v x, vs[i]? = some v → l[i]? = some x → (List.zipWith (fun v x => (⟨x.k, x.d, v.pa, v.pn, v.pc, none, 0, 0⟩ : CE)) vs l)[i]? = some ⟨x.k, x.d, v.pa, v.pn, v.pc, none, 0, 0⟩ := fun i v x h1 h2 => by
    rw [List.getElem?_zipWith, h1, h2]
  refine ⟨_, ⟨by rw [List.length_zipWith, h.1, Nat.min_self], fun i e x h1 h2 => ?_⟩, hh⟩
  obtain ⟨v, hv, h3⟩ := h.at_ h2
  rw [hh i v x hv h2] at h1
  injection h1 with h1
  subst h1
  exact ⟨⟨rfl, rfl⟩, h3.2, rfl, rfl, rfl⟩
inductive LenT : Tr → Prop where
  | leaf (p : Int) (l : List Lf) (h1 : l.length ≤ 100000) : LenT (.leaf p l)
  | branch (p : Int) (l : List (List UInt8 × Tr)) (h1 : l.length ≤ 100000) (h3 : ∀ x ∈ l, LenT x.2) : LenT (.branch p l)
set_option maxRecDepth 100000 in
set_option maxHeartbeats 4000000 in
theorem plain_leaf (F : Nat → Prop) (p : Int) (l : List Lf) (x : NDV) (w : World) (h : RepT F w x (.leaf p l)) (hn : l.length ≤ 100000) : Calls Try.prog 21 #[ndV x] w (NodeE F (.leaf p l) w) := by
  obtain ⟨hp, hlf, hk, ⟨vs, hv, hb⟩, hd, _⟩ := repT_leaf.1 h.old
  obtain ⟨xp, lf, kA, kn, kc, vA, vn, vc, dA, dn, dc⟩ := x
  simp only at hp hlf hk hv hd
  subst hp hlf hd
  unfold ndV
  simp only
  obtain ⟨W, hW⟩ : ∃ W, (((w.alloc (.cells #[.int .i64 xp, .bool true, .slice kA kn kc, .slice vA vn vc, .slice dA 0 dc] 29)).alloc (.cells #[.int .i64 0, .bool false, .slice none 0 0] 33)).alloc (.cells #[.int .i64 xp, .bool true, .slice none 0 0] 33)) = W := ⟨_, rfl⟩
  have hI : PlI #[.int .i64 xp, .bool true, .slice kA kn kc, .slice vA vn vc, .slice dA 0 dc] #[.int .i64 xp, .bool true, .slice none 0 0] w W w.heap.size (w.heap.size + 1) (w.heap.size + 1 + 1) := hW ▸ plI_start _ _ w
  have hlk : kn = l.length := by have := hk.len; simp at this; omega
  have hlv : vn = l.length := by rw [hv.lenS veL_len (by omega), hb.1]
  have HL := Lib.hid hlk
  have hkb : kn ≤ 100000 := by omega
  have HLV := Lib.hid hlv
  have HB := Lib.hid hb
  obtain ⟨ES, hES, hEV⟩ := cells_leaf hb
  have HES := Lib.hid hES
  have HEV := Lib.hid hEV
  have HHK := Lib.hid hk
  have HHV := Lib.hid hv
  have hkm : kn ≤ 9223372036854775807 := by have h1 := hk.room; have h2 := hk.most; unfold maxLen at h2; omega
  clear hES hEV
  have HI := Lib.hid hI
  obtain ⟨ti, hi, hz0, hz1, hz2t⟩ := info_parts c15info
  have hmx : Try.prog.follows .mixedOrders = true := by kernel_rfl
  have HW := Lib.hid hW
  clear h hk hv hb hlk hlv hI hW
  go_enter Try.func21, Try.ntmps21
  go_wp2
  rw [HW.out]
  clear HW
  obtain ⟨P1, hP1⟩ : ∃ P, w.heap.size = P := ⟨_, rfl⟩
  obtain ⟨P2, hP2⟩ : ∃ P, P1 + 1 = P := ⟨_, rfl⟩
  obtain ⟨P3, hP3⟩ : ∃ P, P2 + 1 = P := ⟨_, rfl⟩
  rw [hP1, hP2, hP3] at HI
  rw [hP1]
  rw [hP2, hP3]
  have ORD : P1 < P2 ∧ P2 < P3 ∧ w.heap.size ≤ P1 := by omega
  go_loopw [4] (fun i wr => ∃ (k : Nat) (Ax : Option Addr) (cx : Nat), k ≤ kn ∧ i = .int .i64 (k : Int) ∧ PlI #[.int .i64 xp, .bool true, .slice kA kn kc, .slice vA vn vc, .slice dA 0 dc] #[.int .i64 xp, .bool true, .slice Ax k cx] w wr P1 P2 P3 ∧ wr.ownsRow (P3 + 1) 53 4 (.slice Ax k cx) k (flatC (ES.take k))) (fun i _ => kn - (intOf i).toNat)
  case atStart => exact ⟨0, none, 0, Nat.zero_le _, rfl, HI.out, World.ownsRow_nil _ _ _ _⟩
  case round =>
    obtain ⟨k, Ax, cx, hkk, rfl, hI, ho⟩ := hrel
    have X := hI.b1
    have x12 : wr.cell? ⟨P1, 2, none⟩ = some (.slice kA kn kc) := X.cell 2
    have x13 : wr.cell? ⟨P1, 3, none⟩ = some (.slice vA vn vc) := X.cell 3
    have x14 : wr.cell? ⟨P1, 4, none⟩ = some (.slice dA 0 dc) := X.cell 4
    have HI' := Lib.hid hI
    have HO := Lib.hid ho
    clear X hI ho
    by_cases hlt : k < kn
    · obtain ⟨x, hx⟩ : ∃ x, l[k]? = some x := ⟨_, List.getElem?_eq_getElem (by rw [← HL.out]; exact hlt)⟩
      obtain ⟨v, hv, hvx⟩ := HB.out.at_ hx
      obtain ⟨g, off, rfl, hFg, hkc⟩ := (HHK.out.below HI'.out.bl).reads (by rw [List.length_map, ← HL.out]; omega)
      have c0 := hkc k (strV x.k) (by rw [List.getElem?_map, hx]; rfl)
      obtain ⟨g2, off2, rfl, hFg2, hvc⟩ := (HHV.out.below HI'.out.bl).atS veL_len (by omega) hv
      have c1 := hvc 0 _ rfl
      have c2 := hvc 1 _ rfl
      unfold strV at c0
      obtain ⟨sk, hsk⟩ : ∃ s : ByteArray, (⟨x.k.toArray⟩ : ByteArray) = s := ⟨_, rfl⟩
      obtain ⟨sd, hsd⟩ : ∃ s : ByteArray, (⟨v.d.toArray⟩ : ByteArray) = s := ⟨_, rfl⟩
      rw [hsk] at c0
      rw [hsd, Nat.add_zero] at c1
      have i0 : (0 : Int) ≤ (k : Int) := by omega
      have i3 : ¬ (k : Int) < 0 := by omega
      have i1 : (k : Int) < (kn : Int) := by omega
      have i2 : (k : Int) < (vn : Int) := by have := HL.out; have := HLV.out; omega
      have hE := HEV.out k v x hv hx
      have HFL : Hid (flatC (ES.take (k + 1)) = flatC (ES.take k) ++ [.string sk, .string sd, .slice v.pa v.pn v.pc, .slice none 0 0]) := Lib.hid (by
        rw [List.take_add_one, hE, Option.toList_some, flatC_app]
        congr 1
        simp [flatC, ceV, hsk, ← hsd, hvx.1])
      obtain ⟨V5, hV5⟩ : ∃ W, wr.alloc (.cells #[.string sk, .string ⟨#[]⟩, .slice none 0 0, .slice none 0 0] 53) = W := ⟨_, rfl⟩
      have b5 : Below wr.heap.size wr V5 := hV5 ▸ (Below.refl _ wr).alloc (Nat.le_refl _) _
      have hX5 : Has V5 wr.heap.size 53 #[.string sk, .string ⟨#[]⟩, .slice none 0 0, .slice none 0 0] := hV5 ▸ Has.made wr 53 _
      have hI5 := HI'.out.below b5
      have x53 : V5.cell? ⟨P1, 3, none⟩ = some (.slice (some ⟨g2, off2, none⟩) vn vc) := hI5.b1.cell 3
      have c15 := cell_below c1 b5
      have c25 := cell_below c2 b5
      rw [← hV5] at x53
      have HV5 := Lib.hid hV5
      have HX5 := Lib.hid hX5
      have HI5 := Lib.hid hI5
      have B5 := Lib.hid b5
      clear hE hvx hv hx hkc hvc hsk hsd hFg hFg2 hV5 hX5 hI5 b5
      go_wp2
      rw [HV5.out] at x53 ⊢
      obtain ⟨P5, hP5⟩ : ∃ P, wr.heap.size = P := ⟨_, rfl⟩
      rw [hP5] at HX5 ⊢
      have h5 : P3 < P5 := by rw [← hP5]; exact HI'.out.b3.lt
      have HXL : Hid (∀ w' : World, V5.grownBy w' (some P5) → w'.cell? ⟨P1, 3, none⟩ = some (.slice (some ⟨g2, off2, none⟩) vn vc)) := Lib.hid (fun w' hb => (HI5.out.b1.grown hb (by intro e; injection e with e; have := ORD; omega)).cell 3)
      have HKD : Hid (∀ w' : World, V5.grownBy w' (some P5) → w'.cell? ⟨g2, off2 + k * 2, none⟩ = some (.string sd) ∧ w'.cell? ⟨g2, off2 + k * 2 + 1, none⟩ = some (.slice v.pa v.pn v.pc)) := Lib.hid (fun w' hb => by
        have hl : g2 < P5 := by rw [← hP5]; exact World.block_lt_of_cell? wr _ c1
        have hq := hb.block g2 (Nat.lt_of_lt_of_le (by rw [hP5]; exact hl) B5.out.size) (by intro e; injection e with e; omega)
        exact ⟨(cell_same (p := ⟨g2, off2 + k * 2, none⟩) hq).trans c15, (cell_same (p := ⟨g2, off2 + k * 2 + 1, none⟩) hq).trans c25⟩)
      have hS0 : V5.grownBy V5.drew (some P5) := ⟨rfl, rfl, rfl, Nat.le_refl _, fun _ _ _ => rfl⟩
      have hX5d : Has V5.drew P5 53 #[.string sk, .string ⟨#[]⟩, .slice none 0 0, .slice none 0 0] := HX5.out
      go_wp2
      rename_i K hK
      refine wp_heldN (fun w' : World => V5.grownBy w' (some P5)) hmx ?_
      obtain ⟨Wd, hWd⟩ : ∃ W, V5.drew = W := ⟨_, rfl⟩
      rw [hWd] at hS0 hX5d ⊢
      clear hWd
      refine wpAnyH_take (i := 0) (v := .pointer (some ⟨P1, 3, none⟩)) (lit rfl) (by kernel_rfl) (by kernel_rfl) (by kernel_rfl) (fun _ _ _ h => h) (Or.inl ⟨by rfl, ?_⟩) hS0 ?_
      · rintro w6 hb6
        go_simp
      simp only [Act.put, List.setIfInBounds_toArray, List.set_cons_zero, List.set_cons_succ]
      refine wpAnyH_take (i := 1) (v := .slice (some ⟨g2, off2, none⟩) vn vc) (lit rfl) (by kernel_rfl) (by kernel_rfl) (by kernel_rfl) (fun _ _ _ h => h) (Or.inl ⟨by rfl, ?_⟩) hS0 ?_
      · rintro w6 hb6
        have y6 := HXL.out w6 hb6
        go_simp
      simp only [Act.put, List.setIfInBounds_toArray, List.set_cons_zero, List.set_cons_succ]
      refine wpAnyH_take (i := 2) (v := .int .i64 (k : Int)) (lit rfl) (by kernel_rfl) (by kernel_rfl) (by kernel_rfl) (fun _ _ _ h => h) (Or.inl ⟨by rfl, ?_⟩) hS0 ?_
      · rintro w6 hb6
        go_simp
      simp only [Act.put, List.setIfInBounds_toArray, List.set_cons_zero, List.set_cons_succ]
      refine wpAnyH_take (i := 3) (v := .pointer (some ⟨g2, off2 + k * 2, none⟩)) (lit rfl) (by kernel_rfl) (by kernel_rfl) (by kernel_rfl) (fun _ _ _ h => h) (Or.inl ⟨by rfl, ?_⟩) hS0 ?_
      · rintro w6 hb6
        go_simp
      simp only [Act.put, List.setIfInBounds_toArray, List.set_cons_zero, List.set_cons_succ]
      refine wpAnyH_take (i := 4) (v := .pointer (some ⟨g2, off2 + k * 2, none⟩)) (lit rfl) (by kernel_rfl) (by kernel_rfl) (by kernel_rfl) (fun _ _ _ h => h) (Or.inl ⟨by rfl, ?_⟩) hS0 ?_
      · rintro w6 hb6
        go_simp
      simp only [Act.put, List.setIfInBounds_toArray, List.set_cons_zero, List.set_cons_succ]
      refine wpAnyH_take (i := 5) (v := .string sd) (lit rfl) (by kernel_rfl) (by kernel_rfl) (by kernel_rfl) (fun _ _ _ h => h) (Or.inl ⟨by rfl, ?_⟩) hS0 ?_
      · rintro w6 hb6
        have y6 := (HKD.out w6 hb6).1
        go_simp
      simp only [Act.put, List.setIfInBounds_toArray, List.set_cons_zero, List.set_cons_succ]
      refine wpAnyH_take (i := 6) (v := .pointer (some ⟨P1, 3, none⟩)) (lit rfl) (by kernel_rfl) (by kernel_rfl) (by kernel_rfl) (fun _ _ _ h => h) (Or.inl ⟨by rfl, ?_⟩) hS0 ?_
      · rintro w6 hb6
        go_simp
      simp only [Act.put, List.setIfInBounds_toArray, List.set_cons_zero, List.set_cons_succ]
      refine wpAnyH_take (i := 7) (v := .slice (some ⟨g2, off2, none⟩) vn vc) (lit rfl) (by kernel_rfl) (by kernel_rfl) (by kernel_rfl) (fun _ _ _ h => h) (Or.inl ⟨by rfl, ?_⟩) hS0 ?_
      · rintro w6 hb6
        have y6 := HXL.out w6 hb6
        go_simp
      simp only [Act.put, List.setIfInBounds_toArray, List.set_cons_zero, List.set_cons_succ]
      refine wpAnyH_take (i := 8) (v := .int .i64 (k : Int)) (lit rfl) (by kernel_rfl) (by kernel_rfl) (by kernel_rfl) (fun _ _ _ h => h) (Or.inl ⟨by rfl, ?_⟩) hS0 ?_
      · rintro w6 hb6
        go_simp
      simp only [Act.put, List.setIfInBounds_toArray, List.set_cons_zero, List.set_cons_succ]
      refine wpAnyH_take (i := 9) (v := .pointer (some ⟨g2, off2 + k * 2, none⟩)) (lit rfl) (by kernel_rfl) (by kernel_rfl) (by kernel_rfl) (fun _ _ _ h => h) (Or.inl ⟨by rfl, ?_⟩) hS0 ?_
      · rintro w6 hb6
        go_simp
      simp only [Act.put, List.setIfInBounds_toArray, List.set_cons_zero, List.set_cons_succ]
      refine wpAnyH_take (i := 10) (v := .pointer (some ⟨g2, off2 + k * 2 + 1, none⟩)) (lit rfl) (by kernel_rfl) (by kernel_rfl) (by kernel_rfl) (fun _ _ _ h => h) (Or.inl ⟨by rfl, ?_⟩) hS0 ?_
      · rintro w6 hb6
        go_simp
      simp only [Act.put, List.setIfInBounds_toArray, List.set_cons_zero, List.set_cons_succ]
      refine wpAnyH_take (i := 11) (v := .slice v.pa v.pn v.pc) (lit rfl) (by kernel_rfl) (by kernel_rfl) (by kernel_rfl) (fun _ _ _ h => h) (Or.inl ⟨by rfl, ?_⟩) hS0 ?_
      · rintro w6 hb6
        have y6 := (HKD.out w6 hb6).2
        go_simp
      simp only [Act.put, List.setIfInBounds_toArray, List.set_cons_zero, List.set_cons_succ]
      refine wpAnyH_take (i := 12) (v := .agg #[.string sd, .slice v.pa v.pn v.pc]) (lit rfl) (by kernel_rfl) (by kernel_rfl) (by kernel_rfl) (fun _ _ _ h => h) (Or.inl ⟨by rfl, ?_⟩) hS0 ?_
      · rintro w6 hb6
        go_simp
      simp only [Act.put, List.setIfInBounds_toArray, List.set_cons_zero, List.set_cons_succ]
      refine wpAnyH_take (i := 13) (v := .pointer (some ⟨P5, 1, none⟩)) (lit rfl) (by kernel_rfl) (by kernel_rfl) (by kernel_rfl) (fun _ _ _ h => h) (Or.inl ⟨by rfl, ?_⟩) hS0 ?_
      · rintro w6 hb6
        go_simp
      simp only [Act.put, List.setIfInBounds_toArray, List.set_cons_zero, List.set_cons_succ]
      have q1 : Wd.cell? ⟨P5, 1, none⟩ = some (.string ⟨#[]⟩) := hX5d.cell 1
      have q2 : Wd.cell? ⟨P5, 2, none⟩ = some (.slice none 0 0) := hX5d.cell 2
      have q3 := hX5d.free 1
      have q4 := hX5d.free 2
      refine wpAnyH_ready (rs := [14]) (by kernel_rfl) (by simp) ?_
      refine AllReadyH.cons (lit rfl) (fun K5 hK5 => ?_) AllReadyH.nil
      refine step_open rfl ?_
      go_simp
      have hS1 : V5.grownBy ((Wd.setCell ⟨P5, 1, none⟩ (.string sd)).setCell ⟨P5, 2, none⟩ (.slice v.pa v.pn v.pc)) (some P5) := only_store (only_store hS0 1 _) 2 _
      refine hK5.out _ _ hS1 (fun _ => ?_)
      clear hK5 K5
      refine wpAnyH_done (by kernel_rfl) ?_ _
      refine hK _ _ ?_
      obtain ⟨V7, hV7⟩ : ∃ W, (Wd.setCell ⟨P5, 1, none⟩ (.string sd)).setCell ⟨P5, 2, none⟩ (.slice v.pa v.pn v.pc) = W := ⟨_, rfl⟩
      have hX7 : Has V7 P5 53 #[.string sk, .string sd, .slice v.pa v.pn v.pc, .slice none 0 0] := hV7 ▸ (by have := (hX5d.store 1 (.string sd)).store 2 (.slice v.pa v.pn v.pc); simpa using this)
      rw [hV7] at hS1 ⊢
      have b7 : Below P5 wr V7 := (hP5 ▸ B5.out).trans (below_only hS1 (Nat.le_refl _) (by rw [← hP5]; exact B5.out.size))
      rw [← hP5] at b7
      have hI7 := HI'.out.below b7
      have hO7 := ownBelow15 HO.out b7
      have z14 : V7.cell? ⟨P1, 4, none⟩ = some (.slice dA 0 dc) := hI7.b1.cell 4
      have z32 : V7.cell? ⟨P3, 2, none⟩ = some (.slice Ax k cx) := hI7.b3.cell 2
      have z50 := hX7.cell 0
      have z51 := hX7.cell 1
      have z52 := hX7.cell 2
      have z53 := hX7.cell 3
      obtain ⟨V8, hV8⟩ : ∃ W, V7.alloc (.cells #[.string sk, .string sd, .slice v.pa v.pn v.pc, .slice none 0 0] 53) = W := ⟨_, rfl⟩
      have b8 : Below V7.heap.size V7 V8 := hV8 ▸ (Below.refl _ V7).alloc (Nat.le_refl _) _
      have LS : ∀ j u, ([.string sk, .string sd, .slice v.pa v.pn v.pc, .slice none 0 0] : List Value)[j]? = some u → V8.cell? ((⟨V7.heap.size, 0, none⟩ : Addr).add j) = some u := hV8 ▸ fun j u hj => (by rw [add_plain, (Has.made V7 53 #[.string sk, .string sd, .slice v.pa v.pn v.pc, .slice none 0 0]).cell, Nat.zero_add]; simpa using hj)
      have hO8 := ownBelow15 hO7 b8
      have hI8 := hI7.below b8
      have hsz8 : P3 + 1 ≤ V8.heap.size := by have := hI8.b3.lt; omega
      rw [hV8.symm] at LS hO8
      have HO8 := Lib.hid hO8
      have HLS := Lib.hid LS
      have HV8 := Lib.hid hV8
      have HI8 := Lib.hid hI8
      clear hI7 hO7 hO8 hI8 LS hV8 hV7 b7 b8 hX7 q1 q2 q3 q4 hX5d hS1 hS0 hK K x12 x13 x14 x53 c0 c1 c2 c15 c25 HXL HKD
      go_wp2_with (at_builtin; (refine wpList_append_own _ rfl _ _ 31 rfl (P3 + 1) 53 ti _ 4 80 Try.underlying31 hi hz0 hz1 hz2t rfl (by decide) _ k _ rfl HO8.out ⟨V7.heap.size, 0, none⟩ 1 1 [.string sk, .string sd, .slice v.pa v.pn v.pc, .slice none 0 0] rfl rfl HLS.out (by intro u hu; simp at hu; rcases hu with rfl | rfl | rfl | rfl <;> rfl) (by unfold maxLen; omega) (by omega) (by rw [HV8.out]; exact hsz8) ?_; intro v9 w9 h7 h8 hnil; clear hnil; obtain ⟨A9, c9, rfl, hc91, hc92⟩ := slice15 h7; rw [HV8.out] at h8; have hI9 := HI8.out.grown h8 (fun j hj => by have := ((HV8.out ▸ HO8.out : V8.ownsRow _ _ _ _ _ _).lt j hj).1; omega); have f32 := hI9.b3.free 2; have e32 : w9.cell? ⟨P3, 2, none⟩ = some (.slice Ax k cx) := hI9.b3.cell 2; have HI9 := Lib.hid (hI9.put (.slice A9 (k + 1) c9)); have HO9 := Lib.hid (own_setC (P := P3) (i := 2) (u := .slice A9 (k + 1) c9) h7 (by omega)); clear h7 h8 hI9 hc91 hc92))
      go_roundw
      case rel => exact ⟨k + 1, A9, c9, by omega, by go_num, HI9.out, by rw [HFL.out]; exact HO9.out⟩
      case measure => simp [intOf]; omega
    · have hkn : k = kn := by omega
      have i1 : ¬ (k : Int) < (kn : Int) := by omega
      have hI := HI'.out
      have x30 : wr.cell? ⟨P3, 0, none⟩ = some (.int .i64 xp) := hI.b3.cell 0
      have x31 : wr.cell? ⟨P3, 1, none⟩ = some (.bool true) := hI.b3.cell 1
      have x32 : wr.cell? ⟨P3, 2, none⟩ = some (.slice Ax k cx) := hI.b3.cell 2
      have x20 : wr.cell? ⟨P2, 0, none⟩ = some (.int .i64 0) := hI.b2.cell 0
      have x21 : wr.cell? ⟨P2, 1, none⟩ = some (.bool false) := hI.b2.cell 1
      have x22 : wr.cell? ⟨P2, 2, none⟩ = some (.slice none 0 0) := hI.b2.cell 2
      have f20 := hI.b2.free 0
      have f21 := hI.b2.free 1
      have f22 := hI.b2.free 2
      have XE := hI.b2.setN (.int .i64 xp) (.bool true) (.slice Ax k cx)
      have e0 := XE.cell 0
      have e1 := XE.cell 1
      have e2 := XE.cell 2
      unfold stN at e0 e1 e2
      simp at e0 e1 e2
      have htk : ES.take k = ES := List.take_of_length_le (by rw [HES.out.1, hkn, HL.out]; exact Nat.le_refl _)
      have hfin : NodeE F (.leaf xp l) w (.returned (nvV ⟨xp, true, Ax, k, cx⟩)) (stN wr P2 (.int .i64 xp) (.bool true) (.slice Ax k cx)) := by
        refine ⟨_, rfl, repN_leaf.2 ⟨rfl, rfl, ES, ?_, HES.out.mono fun x y _ _ h => h.move (fun q hq hl => ⟨.inl hq.1, (heap_setN wr P2 _ _ _ q (by have := hq.2; omega)).trans (hI.bl.block q hl)⟩)⟩, below_setN hI.bl (by omega) _ _ _⟩
        have ho := HO.out
        rw [htk] at ho
        obtain ⟨A3, c3, e3, hr⟩ := RwF.own ho
        injection e3 with e3 _ e4
        subst e3 e4
        exact hr.move (fun q hq hl => ⟨.inr (by omega), heap_setN wr P2 _ _ _ q (by omega)⟩)
      have HFIN := Lib.hid hfin
      clear hfin htk hI XE hkn
      go_wp2
      refine ⟨rfl, .agg #[.int .i64 xp, .bool true, .slice Ax k cx], ?_, ?_⟩
      · simp [results, Try.f21, go_sem, e0, e1, e2]
      · exact HFIN.out
def QB (F : Nat → Prop) (B P3 : Nat) (b : Option Nat) (g : Nat) : Prop := (F g ∧ g < B) ∨ (P3 < g ∧ b ≠ some g)
theorem qb_keep {F : Nat → Prop} {B P3 P5 : Nat} {b b' : Option Nat} {V7 V8 w9 : World} {u : Value} {es : List CE} {l : List (List UInt8 × Tr)} (hall : Both (CellT (QB F B P3 b) V7) es l) (hob : ∀ q, b = some q → P3 < q ∧ q < P5) (hB : B ≤ P3) (h8 : V8.grownBy w9 b) (b8 : Below V7.heap.size V7 V8) (hat : b' = b ∨ b' = some V8.heap.size) :
    Both (CellT (QB F B P3 b') (w9.setCell ⟨P3, 2, none⟩ u)) es l :=
  hall.mono fun x y _ _ h => h.move fun q hq hl => by
    have hl8 : q < V8.heap.size := Nat.lt_of_lt_of_le hl b8.size
    have hne : some q ≠ b := fun e => by
      rcases hq with hq | hq
      · have := hob q e.symm; have := hq.2; omega
      · exact hq.2 e.symm
    have hp3 : q ≠ P3 := by
      rcases hq with hq | hq
      · have := hq.2; omega
      · omega
    refine ⟨?_, (Below.heap_setCell w9 ⟨P3, 2, none⟩ _ q hp3).trans ((h8.block q hl8 hne).trans (b8.block q hl))⟩
    rcases hq with hq | hq
    · exact .inl hq
    · refine .inr ⟨hq.1, fun e => ?_⟩
      rcases hat with h | h
      · exact hne (e.symm.trans h)
      · rw [h] at e; injection e with e; omega
set_option maxRecDepth 100000 in
set_option maxHeartbeats 4000000 in
theorem plain_branch (F : Nat → Prop) (p : Int) (l : List (List UInt8 × Tr)) (x : NDV) (w : World) (h : RepT F w x (.branch p l)) (hn : l.length ≤ 100000)
    (ih : ∀ y ∈ l, ∀ (F : Nat → Prop) (x : NDV) (w : World), RepT F w x y.2 → Calls Try.prog 21 #[ndV x] w (NodeE F y.2 w)) : Calls Try.prog 21 #[ndV x] w (NodeE F (.branch p l) w) := by
  obtain ⟨hp, hlf, hk, hv, _, ks, hd, hb⟩ := repT_branch.1 h.old
  obtain ⟨xp, lf, kA, kn, kc, vA, vn, vc, dA, dn, dc⟩ := x
  simp only at hp hlf hk hv hd
  subst hp hlf hv
  unfold ndV
  simp only
  obtain ⟨W, hW⟩ : ∃ W, (((w.alloc (.cells #[.int .i64 xp, .bool false, .slice kA kn kc, .slice vA 0 vc, .slice dA dn dc] 29)).alloc (.cells #[.int .i64 0, .bool false, .slice none 0 0] 33)).alloc (.cells #[.int .i64 xp, .bool false, .slice none 0 0] 33)) = W := ⟨_, rfl⟩
  have hI : PlI #[.int .i64 xp, .bool false, .slice kA kn kc, .slice vA 0 vc, .slice dA dn dc] #[.int .i64 xp, .bool false, .slice none 0 0] w W w.heap.size (w.heap.size + 1) (w.heap.size + 1 + 1) := hW ▸ plI_start _ _ w
  have hlk : kn = l.length := by have := hk.len; simp at this; omega
  have hld : dn = l.length := by rw [hd.lenS ndL_len (by omega), hb.1]
  have HL := Lib.hid hlk
  have hkb : kn ≤ 100000 := by omega
  have HLD := Lib.hid hld
  have HB := Lib.hid hb
  have HIH := Lib.hid ih
  have HHK := Lib.hid hk
  have HHD := Lib.hid hd
  have hkm : kn ≤ 9223372036854775807 := by have h1 := hk.room; have h2 := hk.most; unfold maxLen at h2; omega
  have HI := Lib.hid hI
  obtain ⟨ti, hi, hz0, hz1, hz2t⟩ := info_parts c15info
  have hmx : Try.prog.follows .mixedOrders = true := by kernel_rfl
  have HW := Lib.hid hW
  clear h hk hd hb hlk hld hI hW ih
  go_enter Try.func21, Try.ntmps21
  go_wp2
  rw [HW.out]
  clear HW
  obtain ⟨P1, hP1⟩ : ∃ P, w.heap.size = P := ⟨_, rfl⟩
  obtain ⟨P2, hP2⟩ : ∃ P, P1 + 1 = P := ⟨_, rfl⟩
  obtain ⟨P3, hP3⟩ : ∃ P, P2 + 1 = P := ⟨_, rfl⟩
  rw [hP1, hP2, hP3] at HI
  rw [hP1]
  rw [hP2, hP3]
  have ORD : P1 < P2 ∧ P2 < P3 ∧ w.heap.size ≤ P1 := by omega
  go_loopw [4] (fun i wr => ∃ (k : Nat) (Ax : Option Addr) (cx : Nat) (es : List CE), k ≤ kn ∧ i = .int .i64 (k : Int) ∧ PlI #[.int .i64 xp, .bool false, .slice kA kn kc, .slice vA 0 vc, .slice dA dn dc] #[.int .i64 xp, .bool false, .slice Ax k cx] w wr P1 P2 P3 ∧ wr.ownsRow (P3 + 1) 53 4 (.slice Ax k cx) k (flatC es) ∧ Both (CellT (QB F w.heap.size P3 (Value.slice Ax k cx).ownBlock) wr) es (l.take k)) (fun i _ => kn - (intOf i).toNat)
  case atStart => exact ⟨0, none, 0, [], Nat.zero_le _, rfl, HI.out, World.ownsRow_nil _ _ _ _, Both.nil⟩
  case round =>
    obtain ⟨k, Ax, cx, es, hkk, rfl, hI, ho, hes⟩ := hrel
    have X := hI.b1
    have x12 : wr.cell? ⟨P1, 2, none⟩ = some (.slice kA kn kc) := X.cell 2
    have x13 : wr.cell? ⟨P1, 3, none⟩ = some (.slice vA 0 vc) := X.cell 3
    have HI' := Lib.hid hI
    have HO := Lib.hid ho
    have HES := Lib.hid hes
    clear X hI ho hes
    by_cases hlt : k < kn
    · obtain ⟨x, hx⟩ : ∃ x, l[k]? = some x := ⟨_, List.getElem?_eq_getElem (by rw [← HL.out]; exact hlt)⟩
      obtain ⟨e, he, hrep⟩ := HB.out.at_ hx
      have hih := HIH.out x (List.mem_of_getElem? hx)
      obtain ⟨g, off, rfl, hFg, hkc⟩ := (HHK.out.below HI'.out.bl).reads (by rw [List.length_map, ← HL.out]; omega)
      have c0 := hkc k (strV x.1) (by rw [List.getElem?_map, hx]; rfl)
      obtain ⟨g2, off2, rfl, hFg2, hvc⟩ := (HHD.out.below HI'.out.bl).atS ndL_len (by omega) he
      obtain ⟨ep, elf, ekA, ekn, ekc, evA, evn, evc, edA, edn, edc⟩ := e
      have d0 := hvc 0 _ rfl
      have d1 := hvc 1 _ rfl
      have d2 := hvc 2 _ rfl
      have d3 := hvc 3 _ rfl
      have d4 := hvc 4 _ rfl
      simp only [Nat.add_zero] at d0 d1 d2 d3 d4
      unfold strV at c0
      obtain ⟨sk, hsk⟩ : ∃ s : ByteArray, (⟨x.1.toArray⟩ : ByteArray) = s := ⟨_, rfl⟩
      rw [hsk] at c0
      have i0 : (0 : Int) ≤ (k : Int) := by omega
      have i3 : ¬ (k : Int) < 0 := by omega
      have i1 : (k : Int) < (kn : Int) := by omega
      have i2 : (k : Int) < (dn : Int) := by have := HL.out; have := HLD.out; omega
      obtain ⟨V5, hV5⟩ : ∃ W, wr.alloc (.cells #[.string sk, .string ⟨#[]⟩, .slice none 0 0, .slice none 0 0] 53) = W := ⟨_, rfl⟩
      have b5 : Below wr.heap.size wr V5 := hV5 ▸ (Below.refl _ wr).alloc (Nat.le_refl _) _
      have hX5 : Has V5 wr.heap.size 53 #[.string sk, .string ⟨#[]⟩, .slice none 0 0, .slice none 0 0] := hV5 ▸ Has.made wr 53 _
      have hI5 := HI'.out.below b5
      have x53 : V5.cell? ⟨P1, 3, none⟩ = some (.slice vA 0 vc) := hI5.b1.cell 3
      have x54 : V5.cell? ⟨P1, 4, none⟩ = some (.slice (some ⟨g2, off2, none⟩) dn dc) := hI5.b1.cell 4
      have v0 := cell_below d0 b5
      have v1 := cell_below d1 b5
      have v2 := cell_below d2 b5
      have v3 := cell_below d3 b5
      have v4 := cell_below d4 b5
      rw [← hV5] at x53 x54 v0 v1 v2 v3 v4
      obtain ⟨P5, hP5⟩ : ∃ P, wr.heap.size = P := ⟨_, rfl⟩
      have h5 : P3 < P5 := by rw [← hP5]; exact HI'.out.b3.lt
      have hCALL := hih (fun q => F q ∧ q < w.heap.size) _ V5 (RepT.stay hrep (below_step HI'.out.bl b5))
      rw [← hV5] at hCALL
      unfold ndV at hCALL
      simp only at hCALL
      have HCALL := Lib.hid hCALL
      rw [hP5] at hX5
      have HV5 := Lib.hid hV5
      have HX5 := Lib.hid hX5
      have HI5 := Lib.hid hI5
      have B5 := Lib.hid b5
      have HSK := Lib.hid hsk
      have HX := Lib.hid hx
      have HP5 := Lib.hid hP5
      clear he hrep hih hx hkc hvc hsk hFg hFg2 hV5 hX5 hI5 b5 d0 d1 d2 d3 d4 hCALL hP5
      go_upto_region 10 with (go_at_call 21; (with_reducible refine HCALL.out.mono ?_); rintro r6 w6 ⟨⟨p6, lf6, A6, n6, c6⟩, rfl, m6, b6⟩; rw [HV5.out] at m6 b6; unfold nvV; simp only; have hX6 := (HX5.out.below b6 HX5.out.lt).alloc (.cells #[.int .i64 p6, .bool lf6, .slice A6 n6 c6] 33); have y3 : (w6.alloc (.cells #[.int .i64 p6, .bool lf6, .slice A6 n6 c6] 33)).cell? ⟨P5, 3, none⟩ = some (.slice none 0 0) := hX6.cell 3; have y4 := hX6.free 3; rw [← HP5.out] at y3 y4; have HX6 := Lib.hid hX6; have M6 := Lib.hid m6; have B6 := Lib.hid b6; clear hX6 m6 b6)
      rw [HP5.out]
      obtain ⟨G6, hG6⟩ : ∃ G, w6.heap.size = G := ⟨_, rfl⟩
      obtain ⟨V6, hV6⟩ : ∃ W, w6.alloc (.cells #[.int .i64 p6, .bool lf6, .slice A6 n6 c6] 33) = W := ⟨_, rfl⟩
      have R6 := RwF.made (fun q => q = w6.heap.size) w6 33 (nvL ⟨p6, lf6, A6, n6, c6⟩) 1 3 rfl (by decide) rfl
      rw [show (nvL ⟨p6, lf6, A6, n6, c6⟩).toArray = #[.int .i64 p6, .bool lf6, .slice A6 n6 c6] from rfl, hV6, hG6] at R6
      have b66 : Below w6.heap.size w6 V6 := hV6 ▸ (Below.refl _ w6).alloc (Nat.le_refl _) _
      have hX6 := HX6.out
      rw [hV6] at hX6 y3 y4
      rw [hV6, hG6]
      have hsG : G6 < V6.heap.size := by rw [← hG6, ← hV6]; simp
      have hs5 : P5 < V5.heap.size := HX5.out.lt
      have hs6 : V5.heap.size ≤ G6 := by rw [← hG6]; exact B6.out.size
      have hX7 : Has (V6.setCell ⟨P5, 3, none⟩ (.slice (some ⟨G6, 0, none⟩) 1 1)) P5 53 #[.string sk, .string ⟨#[]⟩, .slice none 0 0, .slice (some ⟨G6, 0, none⟩) 1 1] := by have := hX6.store 3 (.slice (some ⟨G6, 0, none⟩) 1 1); simpa using this
      have b7 : Below wr.heap.size wr (V6.setCell ⟨P5, 3, none⟩ (.slice (some ⟨G6, 0, none⟩) 1 1)) := (below_step B5.out (below_step B6.out b66)).setCell (p := ⟨P5, 3, none⟩) (by rw [HP5.out]; exact Nat.le_refl _) _
      have hq7 : ∀ q, q < V6.heap.size → q ≠ P5 → (V6.setCell ⟨P5, 3, none⟩ (.slice (some ⟨G6, 0, none⟩) 1 1)).heap[q]? = V6.heap[q]? := fun q _ hq => Below.heap_setCell V6 ⟨P5, 3, none⟩ _ q hq
      have hsz7 : (V6.setCell ⟨P5, 3, none⟩ (.slice (some ⟨G6, 0, none⟩) 1 1)).heap.size = V6.heap.size := by simp [World.setCell]
      obtain ⟨V7, hV7⟩ : ∃ W, V6.setCell ⟨P5, 3, none⟩ (.slice (some ⟨G6, 0, none⟩) 1 1) = W := ⟨_, rfl⟩
      rw [hV7] at hX7 b7 hq7 hsz7 ⊢
      have hI7 := HI'.out.below b7
      have hO7 := ownBelow15 HO.out b7
      have hob : ∀ q, (Value.slice Ax k cx).ownBlock = some q → P3 < q ∧ q < P5 := fun q hq => by have := HO.out.lt q hq; rw [HP5.out] at this; omega
      have hnew : CellT (QB F w.heap.size P3 (Value.slice Ax k cx).ownBlock) V7 ⟨x.1, [], none, 0, 0, some ⟨G6, 0, none⟩, 1, 1⟩ x := by
        refine ⟨⟨p6, lf6, A6, n6, c6⟩, ⟨⟨rfl, rfl, rfl, rfl, rfl⟩, rfl, R6.move fun q hq hl => ⟨.inr ⟨by omega, fun e => by have := hob q e; omega⟩, hq7 q hl (by omega)⟩⟩, RepN.move (fun q hq hl => ?_) M6.out⟩
        have hh : V7.heap[q]? = V6.heap[q]? → V7.heap[q]? = w6.heap[q]? := fun h => h.trans (b66.block q hl)
        have hl2 : q < V6.heap.size := Nat.lt_of_lt_of_le hl b66.size
        rcases hq with hq | hq
        · exact ⟨.inl hq, hh (hq7 q hl2 (by have := hq.2; omega))⟩
        · exact ⟨.inr ⟨by omega, fun e => by have := hob q e; omega⟩, hh (hq7 q hl2 (by omega))⟩
      have hall : Both (CellT (QB F w.heap.size P3 (Value.slice Ax k cx).ownBlock) V7) (es ++ [⟨x.1, [], none, 0, 0, some ⟨G6, 0, none⟩, 1, 1⟩]) (l.take (k + 1)) := by
        rw [List.take_add_one, HX.out, Option.toList_some]
        exact (HES.out.mono fun x y _ _ h => h.move fun q hq hl => ⟨hq, b7.block q hl⟩).app (Both.one hnew)
      have HALL := Lib.hid hall
      have HFL : Hid (flatC (es ++ [⟨x.1, [], none, 0, 0, some ⟨G6, 0, none⟩, 1, 1⟩]) = flatC es ++ [.string sk, .string ⟨#[]⟩, .slice none 0 0, .slice (some ⟨G6, 0, none⟩) 1 1]) := Lib.hid (by
        rw [flatC_app]
        congr 1
        simp [flatC, ceV, HSK.out])
      have HOB := Lib.hid hob
      have z32 : V7.cell? ⟨P3, 2, none⟩ = some (.slice Ax k cx) := hI7.b3.cell 2
      have z50 := hX7.cell 0
      have z51 := hX7.cell 1
      have z52 := hX7.cell 2
      have z53 := hX7.cell 3
      obtain ⟨V8, hV8⟩ : ∃ W, V7.alloc (.cells #[.string sk, .string ⟨#[]⟩, .slice none 0 0, .slice (some ⟨G6, 0, none⟩) 1 1] 53) = W := ⟨_, rfl⟩
      have b8 : Below V7.heap.size V7 V8 := hV8 ▸ (Below.refl _ V7).alloc (Nat.le_refl _) _
      have LS : ∀ j u, ([.string sk, .string ⟨#[]⟩, .slice none 0 0, .slice (some ⟨G6, 0, none⟩) 1 1] : List Value)[j]? = some u → V8.cell? ((⟨V7.heap.size, 0, none⟩ : Addr).add j) = some u := hV8 ▸ fun j u hj => (by rw [add_plain, (Has.made V7 53 #[.string sk, .string ⟨#[]⟩, .slice none 0 0, .slice (some ⟨G6, 0, none⟩) 1 1]).cell, Nat.zero_add]; simpa using hj)
      have hO8 := ownBelow15 hO7 b8
      have hI8 := hI7.below b8
      have hsz8 : P3 + 1 ≤ V8.heap.size := by have := hI8.b3.lt; omega
      rw [hV8.symm] at LS hO8
      have HO8 := Lib.hid hO8
      have HLS := Lib.hid LS
      have HV8 := Lib.hid hV8
      have HI8 := Lib.hid hI8
      have B8 := Lib.hid b8
      clear hI7 hO7 hO8 hI8 LS hV8 hV7 b7 b8 hX7 hX6 x12 x13 x53 x54 v0 v1 v2 v3 v4 c0 hall hnew hob hq7 R6 b66 hsz7 hsG hs5 hs6 y3 y4 HCALL HX5 HI5 B5 B6 HV5 M6 HX6 hG6 hV6
      go_wp2_with (at_builtin; (refine wpList_append_own_at _ rfl _ _ 31 rfl (P3 + 1) 53 ti _ 4 80 Try.underlying31 hi hz0 hz1 hz2t rfl (by decide) _ k _ rfl HO8.out ⟨V7.heap.size, 0, none⟩ 1 1 [.string sk, .string ⟨#[]⟩, .slice none 0 0, .slice (some ⟨G6, 0, none⟩) 1 1] rfl rfl HLS.out (by intro u hu; simp at hu; rcases hu with rfl | rfl | rfl | rfl <;> rfl) (by unfold maxLen; omega) (by omega) (by rw [HV8.out]; exact hsz8) ?_; intro v9 w9 h7 h8 hnil hat; clear hnil; obtain ⟨A9, c9, rfl, hc91, hc92⟩ := slice15 h7; rw [HV8.out] at h8 hat; have hI9 := HI8.out.grown h8 (fun j hj => by have := ((HV8.out ▸ HO8.out : V8.ownsRow _ _ _ _ _ _).lt j hj).1; omega); have f32 := hI9.b3.free 2; have e32 : w9.cell? ⟨P3, 2, none⟩ = some (.slice Ax k cx) := hI9.b3.cell 2; have HI9 := Lib.hid (hI9.put (.slice A9 (k + 1) c9)); have HO9 := Lib.hid (own_setC (P := P3) (i := 2) (u := .slice A9 (k + 1) c9) h7 (by omega)); have HE9 := Lib.hid (qb_keep (u := .slice A9 (k + 1) c9) HALL.out HOB.out (by omega) h8 B8.out hat); clear h7 h8 hI9 hc91 hc92 hat))
      go_roundw
      case rel => exact ⟨k + 1, A9, c9, _, by omega, by go_num, HI9.out, by rw [HFL.out]; exact HO9.out, HE9.out⟩
      case measure => simp [intOf]; omega
    · have hkn : k = kn := by omega
      have i1 : ¬ (k : Int) < (kn : Int) := by omega
      have hI := HI'.out
      have x30 : wr.cell? ⟨P3, 0, none⟩ = some (.int .i64 xp) := hI.b3.cell 0
      have x31 : wr.cell? ⟨P3, 1, none⟩ = some (.bool false) := hI.b3.cell 1
      have x32 : wr.cell? ⟨P3, 2, none⟩ = some (.slice Ax k cx) := hI.b3.cell 2
      have x20 : wr.cell? ⟨P2, 0, none⟩ = some (.int .i64 0) := hI.b2.cell 0
      have x21 : wr.cell? ⟨P2, 1, none⟩ = some (.bool false) := hI.b2.cell 1
      have x22 : wr.cell? ⟨P2, 2, none⟩ = some (.slice none 0 0) := hI.b2.cell 2
      have f20 := hI.b2.free 0
      have f21 := hI.b2.free 1
      have f22 := hI.b2.free 2
      have XE := hI.b2.setN (.int .i64 xp) (.bool false) (.slice Ax k cx)
      have e0 := XE.cell 0
      have e1 := XE.cell 1
      have e2 := XE.cell 2
      unfold stN at e0 e1 e2
      simp at e0 e1 e2
      have htk : l.take k = l := List.take_of_length_le (by rw [hkn, HL.out]; exact Nat.le_refl _)
      have hfin : NodeE F (.branch xp l) w (.returned (nvV ⟨xp, false, Ax, k, cx⟩)) (stN wr P2 (.int .i64 xp) (.bool false) (.slice Ax k cx)) := by
        have hes := HES.out
        rw [htk] at hes
        refine ⟨_, rfl, repN_branch.2 ⟨rfl, rfl, es, ?_, hes.mono fun x y _ _ h => h.move (fun q hq hl => ?_)⟩, below_setN hI.bl (by omega) _ _ _⟩
        · obtain ⟨A3, c3, e3, hr⟩ := RwF.own HO.out
          injection e3 with e3 _ e4
          subst e3 e4
          exact hr.move (fun q hq hl => ⟨.inr (by omega), heap_setN wr P2 _ _ _ q (by omega)⟩)
        · rcases hq with hq | hq
          · exact ⟨.inl hq.1, heap_setN wr P2 _ _ _ q (by have := hq.2; omega)⟩
          · exact ⟨.inr (by omega), heap_setN wr P2 _ _ _ q (by omega)⟩
      have HFIN := Lib.hid hfin
      clear hfin htk hI XE hkn
      go_wp2
      refine ⟨rfl, .agg #[.int .i64 xp, .bool false, .slice Ax k cx], ?_, ?_⟩
      · simp [results, Try.f21, go_sem, e0, e1, e2]
      · exact HFIN.out
theorem plain_any (t : Tr) (hn : LenT t) : ∀ (F : Nat → Prop) (x : NDV) (w : World), RepT F w x t → Calls Try.prog 21 #[ndV x] w (NodeE F t w) := by
  induction t using Tr.ind with
  | hl p l =>
    cases hn with
    | leaf p l h1 => exact fun F x w h => plain_leaf F p l x w h h1
  | hb p l ih =>
    cases hn with
    | branch p l h1 h3 => exact fun F x w h => plain_branch F p l x w h h1 fun y hy => ih y hy (h3 y hy)
end Go.Proofs.Ytpaklhifnndeoaa
