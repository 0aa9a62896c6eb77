import Derived.Test.YtpaklhifnndeoaaJTqi
import Derived.Test.YtpaklhifnndeoaaJ12
/- Of a claim's texts, joined: Tqj. No statement but in the last. -/
namespace Go.Proofs.Ytpaklhifnndeoaa
open Go.RowKit
set_option linter.unusedVariables false

theorem siz_tree {t : Tr} (h : BndN 100 t) : SizZ (sizesT t) := by
  cases t with
  | leaf p l =>
    refine ⟨fun z hz => ?_, by show (l.map sizeL).length ≤ 101; rw [List.length_map]; have := h.1; omega⟩
    obtain ⟨y, hy, rfl⟩ := List.mem_map.1 hz
    have := h.2 y hy
    unfold sizeL
    split <;> omega
  | branch p l =>
    refine ⟨fun z hz => ?_, by show (l.map _).length ≤ 101; rw [List.length_map]; have := h.1; omega⟩
    obtain ⟨y, hy, rfl⟩ := List.mem_map.1 hz
    have := h.2 y hy
    omega
theorem trSizes_any (F : Nat → Prop) (x : NDV) (t : Tr) (w : World) (h : RepT F w x t) (hb : BndN 100 t) :
    Calls Try.prog 42 #[ndV x] w fun e w' => ∃ A c, e = .returned (.slice A (cellsN t) c) ∧ RowZ w' A (cellsN t) c (sizesT t) ∧ Below w.heap.size w w' := by
  cases t with
  | leaf p l =>
    obtain ⟨_, h2, h3⟩ := repT_rowL.1 h
    exact trSizes_leaf F l x w h2 h3 (by have := hb.1; omega) (fun y hy => by have := hb.2 y hy; omega)
  | branch p l =>
    obtain ⟨_, h2, h3⟩ := repT_rowB.1 h
    exact trSizes_branch F l x w h2 h3 (by have := hb.1; omega) (fun y hy => by have := hb.2 y hy; omega)
theorem trAtN_any (F : Nat → Prop) (x : NDV) (t : Tr) (w w1 : World) (A : Option Addr) (c : Nat) (h : RowZ w1 A (cellsN t) c (sizesT t)) (hb : BndN 100 t) : Calls Try.prog 63 #[.slice A (cellsN t) c] w1 fun e w' => e = .returned (.int .i64 (atZ (sizesT t))) ∧ Below w1.heap.size w1 w' := cuAt_any _ A _ c w1 h (siz_tree hb)
def joinR : Tr → Tr → Tr
  | .leaf _ a, .leaf _ b => .leaf 0 (a ++ b)
  | .branch _ a, .branch _ b => .branch 0 (a ++ b)
  | a, _ => a
theorem swap_join (F : Nat → Prop) (x y : NDV) (a b : Tr) (w : World) (h : RepT F w x a) (h2 : RepT F w y b) (hk : kindT a = kindT b) (ha : cellsN a ≤ 500) (hb : cellsN b ≤ 500) : Calls Try.prog 65 #[ndV x, .int .i64 (cellsN a : Int), .int .i64 (cellsN a : Int), ndV y] w (NodW F (joinR a b) w) := by
  cases a with
  | leaf p l =>
    cases b with
    | branch p' m => cases hk
    | leaf p' m =>
      obtain ⟨g1, g2, g3⟩ := repT_rowL.1 h
      obtain ⟨g4, g5, g6⟩ := repT_rowL.1 h2
      have ha' : l.length ≤ 500 := ha
      have hb' : m.length ≤ 500 := hb
      refine (trSwap_leaf F x y l m l.length l.length w g3 g6 (by omega) (by omega) (Nat.le_refl _) (by omega)).mono ?_
      rintro e w' ⟨z, vs, rfl, q1, q2, q3, q4⟩
      have e1 : swapL l.length l.length l m = l ++ m := by unfold swapL; simp
      rw [e1] at q3
      exact ⟨z, rfl, ⟨q1, q2.trans g2, vs, q3⟩, q4⟩
  | branch p l =>
    cases b with
    | leaf p' m => cases hk
    | branch p' m =>
      obtain ⟨g1, g2, g3⟩ := repT_rowB.1 h
      obtain ⟨g4, g5, g6⟩ := repT_rowB.1 h2
      have ha' : l.length ≤ 500 := ha
      have hb' : m.length ≤ 500 := hb
      refine (trSwap_branch F x y l m l.length l.length w g3 g6 (by omega) (by omega) (Nat.le_refl _) (by omega)).mono ?_
      rintro e w' ⟨z, ks, rfl, q1, q2, q3, q4⟩
      have e1 : swapL l.length l.length l m = l ++ m := by unfold swapL; simp
      rw [e1] at q3
      exact ⟨z, rfl, ⟨q1, q2.trans g2, ks, q3⟩, q4⟩
theorem OwnN.rekey {F : Nat → Prop} {B g : Nat} {w : World} {z : NDV} {p : Int} {a b : List (List UInt8 × Tr)} (h : OwnN F B w z (.branch p (a ++ b))) (hA : z.kA = some ⟨g, 0, none⟩) (hg : ¬ F g) (s : List UInt8) :
    OwnN F B (w.setCell ⟨g, a.length, none⟩ (.string ⟨s.toArray⟩)) z (.branch p (a ++ keyed s b)) := by
  obtain ⟨h1, h2, ks, h3⟩ := h
  have hk := h3.key
  rw [hA] at hk
  have hs := (hk.stored a.length (.string ⟨s.toArray⟩)).1
  refine ⟨h1, h2, ks, ?_, own_other h3.val hk (by decide) a.length _, own_other h3.kid hk (by decide) a.length _, ?_⟩
  · have e : ((a ++ b).map fun y => strV y.1).set a.length (.string ⟨s.toArray⟩) = (a ++ keyed s b).map fun y => strV y.1 := by
      rw [List.map_append, List.map_append, List.set_append_right _ _ (by rw [List.length_map]; omega), List.length_map, Nat.sub_self]
      cases b <;> rfl
    rw [e] at hs
    rw [hA]
    exact hs
  · have hq : Both (fun e (y : List UInt8 × Tr) => RepT F (w.setCell ⟨g, a.length, none⟩ (.string ⟨s.toArray⟩)) e y.2) ks (a ++ b) := h3.both.mono fun x y _ _ h => RepT.move (fun q hq hl => ⟨hq, Below.heap_setCell w ⟨g, a.length, none⟩ _ q (fun e => hg (by have e2 : q = g := e; exact e2 ▸ hq))⟩) h
    cases b with
    | nil => exact hq
    | cons x b => exact ⟨by rw [hq.1]; simp [keyed], fun i u v h1 h2 => by
        by_cases hi : i = a.length
        · subst hi
          rw [keyed, List.getElem?_append_right (Nat.le_refl _), Nat.sub_self] at h2
          have h2' : some (s, x.2) = some v := h2
          injection h2' with h2'
          subst h2'
          exact hq.2 a.length u x h1 (by rw [List.getElem?_append_right (Nat.le_refl _), Nat.sub_self]; rfl)
        · refine hq.2 i u v h1 ?_
          rw [keyed] at h2
          by_cases hlt : i < a.length
          · rw [List.getElem?_append_left hlt] at h2 ⊢
            exact h2
          · rw [List.getElem?_append_right (by omega)] at h2 ⊢
            obtain ⟨j, hj⟩ : ∃ j, i - a.length = j + 1 := ⟨i - a.length - 1, by omega⟩
            rw [hj] at h2 ⊢
            exact h2⟩
theorem kid_some15 {l : List (List UInt8 × Tr)} {k : Nat} (h : k < l.length) : l[k]? = some (kidT l k) := by
  unfold kidT
  rw [List.getD_eq_getElem?_getD, List.getElem?_eq_getElem h]
  rfl
theorem kid_merge15 {l : List (List UInt8 × Tr)} {k : Nat} (h : k + 1 < l.length) : kidT (mergeT l k) k = ((kidT l k).1, joinT (kidT l (k + 1)).1 (kidT l k).2 (kidT l (k + 1)).2) := by
  unfold mergeT
  conv => lhs; unfold kidT
  have h1 : (l.take k).length = k := by rw [List.length_take]; omega
  rw [List.getD_eq_getElem?_getD, List.append_assoc, List.getElem?_append_right (by omega), h1, Nat.sub_self]
  rfl
theorem sizes_len (t : Tr) : (sizesT t).length = cellsN t := by cases t <;> exact List.length_map _
theorem cells_bnd {t : Tr} {m : Nat} (h : BndN m t) : cellsN t ≤ m := by cases t <;> exact h.1
theorem bnd_keyed {s : List UInt8} {l : List (List UInt8 × Tr)} (hs : s.length ≤ 500) (h : ∀ x ∈ l, x.1.length ≤ 500) : ∀ x ∈ keyed s l, x.1.length ≤ 500 := by
  cases l with
  | nil => exact h
  | cons y l =>
    intro x hx
    rcases List.mem_cons.1 hx with rfl | hx
    · exact hs
    · exact h x (List.mem_cons_of_mem _ hx)
theorem len_keyed (s : List UInt8) (l : List (List UInt8 × Tr)) : (keyed s l).length = l.length := by cases l <;> rfl
theorem bnd_join {s : List UInt8} {a b : Tr} (hs : s.length ≤ 500) (h : kindT a = kindT b) (ha : BndN 50 a) (hb : BndN 50 b) : BndN 100 (joinT s a b) := by
  cases a with
  | leaf p l =>
    cases b with
    | branch p' m => cases h
    | leaf p' m => exact ⟨by rw [List.length_append]; have := ha.1; have := hb.1; omega, fun x hx => by
        rcases List.mem_append.1 hx with hx | hx
        · exact ha.2 x hx
        · exact hb.2 x hx⟩
  | branch p l =>
    cases b with
    | leaf p' m => cases h
    | branch p' m => exact ⟨by rw [List.length_append, len_keyed]; have := ha.1; have := hb.1; omega, fun x hx => by
        rcases List.mem_append.1 hx with hx | hx
        · exact ha.2 x hx
        · exact bnd_keyed hs hb.2 x hx⟩
theorem add1_15 (g off k : Nat) : ((some (⟨g, off, none⟩ : Addr)).map (·.add (k * 1))) = some ⟨g, off + k, none⟩ := by rw [Option.map_some, add_plain, Nat.mul_one]
theorem row_by {F G : Nat → Prop} {w : World} {gk offk knn kcn k g : Nat} {z8 : NDV} {l : List (List UInt8 × Tr)} {t : Tr} (hkr : RwF F w (some ⟨gk, offk, none⟩) knn kcn 1 (l.map fun y => strV y.1)) (hk : k < l.length) (hFG : ∀ q, F q → G q) (hX : Has w g 29 #[.int .i64 z8.p, .bool z8.lf, .slice z8.kA z8.kn z8.kc, .slice z8.vA z8.vn z8.vc, .slice z8.dA z8.dn z8.dc]) (hg : G g) (hr : RepT G w z8 t) :
    RowB G w ⟨0, false, some ⟨gk, offk + k, none⟩, 1, kcn - k, none, 0, 0, some ⟨g, 0, none⟩, 1, 1⟩ [((kidT l k).1, t)] := by
  have e1 : knn = l.length := by have := hkr.len; simpa using this.symm
  have hroom := hkr.room
  have h1 := (hkr.back (k := k) (by omega)).front (k := 1) (by omega)
  rw [if_neg (by omega), add1_15, Nat.mul_one, Nat.mul_one] at h1
  have e2 : ((l.map fun y => strV y.1).drop k).take 1 = [((kidT l k).1, t)].map fun y => strV y.1 := by
    rw [List.drop_eq_getElem_cons (by rw [List.length_map]; exact hk)]
    have h3 := kid_some15 hk
    rw [List.getElem?_eq_getElem hk] at h3
    injection h3 with h3
    simp [h3]
  rw [e2] at h1
  exact ⟨h1.mono hFG, RwF.none_ _ _ _, [z8], RwF.of_has G hX 1 5 rfl (by decide) hg, Both.one hr⟩
structure TwoX (V w : World) (P5 P6 : Nat) (c5 c6 : Array Value) : Prop where
  bl : Below V.heap.size V w
  b5 : Has w P5 29 c5
  b6 : Has w P6 29 c6
  h5 : V.heap.size ≤ P5
  h6 : V.heap.size ≤ P6
  ne : P5 ≠ P6
set_option maxRecDepth 100000 in
set_option maxHeartbeats 16000000 in
theorem trMerge_any (F : Nat → Prop) (x : NDV) (p : Int) (l : List (List UInt8 × Tr)) (k : Nat) (w : World) (h : RepT F w x (.branch p l)) (hl : l.length ≤ 200) (hk : k + 1 < l.length) (hb1 : BndN 50 (kidT l k).2) (hb2 : BndN 50 (kidT l (k + 1)).2) (hkey : ∀ x ∈ l, x.1.length ≤ 500) (hkk : kindT (kidT l k).2 = kindT (kidT l (k + 1)).2) :
    Calls Try.prog 74 #[ndV x, .int .i64 (k : Int)] w (NodT (Fw (fun q => F q ∧ q < w.heap.size) w.heap.size) (.branch 0 (partT (mergeT l k) k)) w) := by
  obtain ⟨hp, hlf, hrow⟩ := repT_rowB.1 h.old
  obtain ⟨pn, lfn, kAn, knn, kcn, vAn, vnn, vcn, dAn, dnn, dcn⟩ := x
  simp only at hp hlf
  subst hp hlf
  obtain ⟨Fo, hFo⟩ : ∃ Fo : Nat → Prop, (fun q => F q ∧ q < w.heap.size) = Fo := ⟨_, rfl⟩
  rw [hFo] at hrow ⊢
  have hFW : ∀ q, Fo q → q < w.heap.size := fun q hq => by rw [← hFo] at hq; exact hq.2
  obtain ⟨j, hj⟩ : ∃ j, k + 1 = j := ⟨_, rfl⟩
  have hjl : j < l.length := by omega
  rw [hj] at hb2 hkk
  have hrow0 := hrow
  obtain ⟨hkr, hv, ks, hd, hdb⟩ := hrow
  simp only at hkr hv hd
  obtain ⟨e, he, hey⟩ := hdb.at_ (kid_some15 (l := l) (k := k) (by omega))
  obtain ⟨u, hu, huy⟩ := hdb.at_ (kid_some15 hjl)
  have e1 : knn = l.length := by have := hkr.len; simpa using this.symm
  have e2 : dnn = l.length := by rw [hd.lenS ndL_len (by omega), hdb.1]
  obtain rfl : vnn = 0 := hv.zero (by omega)
  obtain ⟨p1, lf1, kA1, kn1, kc1, vA1, vn1, vc1, dA1, dn1, dc1⟩ := e
  obtain ⟨p2, lf2, kA2, kn2, kc2, vA2, vn2, vc2, dA2, dn2, dc2⟩ := u
  obtain ⟨gd, offd, rfl, hgd, hdc⟩ := hd.atS ndL_len (by omega) he
  obtain ⟨gd', offd', hdA, hgd', hdc2⟩ := hd.atS ndL_len (by omega) hu
  injection hdA with hdA
  injection hdA with hdA hdB _
  subst hdA hdB
  obtain ⟨gk, offk, rfl, hgk, ck⟩ := hkr.str (kid_some15 hjl)
  have hcr := hkr.room
  obtain ⟨ka, hka⟩ : ∃ t, (kidT l k).2 = t := ⟨_, rfl⟩
  obtain ⟨kb, hkb⟩ : ∃ t, (kidT l j).2 = t := ⟨_, rfl⟩
  rw [hka] at hey hb1 hkk
  rw [hkb] at huy hb2 hkk
  have hlf1 : lf1 = kindT ka := by
    cases ka with
    | leaf pp ll => exact (repT_rowL.1 hey).2.1
    | branch pp ll => exact (repT_rowB.1 hey).2.1
  have hlf2 : lf2 = kindT kb := by
    cases kb with
    | leaf pp ll => exact (repT_rowL.1 huy).2.1
    | branch pp ll => exact (repT_rowB.1 huy).2.1
  obtain rfl : lf1 = lf2 := by rw [hlf1, hlf2, hkk]
  obtain ⟨V, hV⟩ : ∃ W, (w.alloc (.cells #[.int .i64 pn, .bool false, .slice (some ⟨gk, offk, none⟩) knn kcn, .slice vAn 0 vcn, .slice (some ⟨gd, offd, none⟩) dnn dcn] 29)).alloc (.cells #[.int .i64 0, .bool false, .slice none 0 0, .slice none 0 0, .slice none 0 0] 29) = W := ⟨_, rfl⟩
  have hB0 : Below w.heap.size w V := hV ▸ (((Below.refl _ w).alloc (Nat.le_refl _) _).alloc (by simp) _)
  have hX2 : Has V w.heap.size 29 #[.int .i64 pn, .bool false, .slice (some ⟨gk, offk, none⟩) knn kcn, .slice vAn 0 vcn, .slice (some ⟨gd, offd, none⟩) dnn dcn] := hV ▸ (Has.made w 29 _).alloc _
  have hX4 : Has V (w.heap.size + 1) 29 #[.int .i64 0, .bool false, .slice none 0 0, .slice none 0 0, .slice none 0 0] := hV ▸ (by have := Has.made (w.alloc (.cells #[.int .i64 pn, .bool false, .slice (some ⟨gk, offk, none⟩) knn kcn, .slice vAn 0 vcn, .slice (some ⟨gd, offd, none⟩) dnn dcn] 29)) 29 #[.int .i64 0, .bool false, .slice none 0 0, .slice none 0 0, .slice none 0 0]; simpa using this)
  have hlt4 := hX4.lt
  obtain ⟨P2, hP2⟩ : ∃ P, w.heap.size = P := ⟨_, rfl⟩
  obtain ⟨P4, hP4⟩ : ∃ P, P2 + 1 = P := ⟨_, rfl⟩
  rw [hP2] at hX2
  rw [hP2, hP4] at hX4 hlt4
  unfold ndV
  simp only
  have HXE : Hid (∀ w' : World, Below V.heap.size V w' → w'.cell? ⟨P2, 4, none⟩ = some (.slice (some ⟨gd, offd, none⟩) dnn dcn) ∧ (w'.cell? ⟨gd, offd + k * 5, none⟩ = some (.int .i64 p1) ∧ w'.cell? ⟨gd, offd + k * 5 + 1, none⟩ = some (.bool lf1) ∧ w'.cell? ⟨gd, offd + k * 5 + 2, none⟩ = some (.slice kA1 kn1 kc1) ∧ w'.cell? ⟨gd, offd + k * 5 + 3, none⟩ = some (.slice vA1 vn1 vc1) ∧ w'.cell? ⟨gd, offd + k * 5 + 4, none⟩ = some (.slice dA1 dn1 dc1) ∧ (w'.cell? ⟨gd, offd + j * 5, none⟩ = some (.int .i64 p2) ∧ w'.cell? ⟨gd, offd + j * 5 + 1, none⟩ = some (.bool lf1) ∧ w'.cell? ⟨gd, offd + j * 5 + 2, none⟩ = some (.slice kA2 kn2 kc2) ∧ w'.cell? ⟨gd, offd + j * 5 + 3, none⟩ = some (.slice vA2 vn2 vc2) ∧ w'.cell? ⟨gd, offd + j * 5 + 4, none⟩ = some (.slice dA2 dn2 dc2)))) := Lib.hid (fun w' hb => by
    have bb := below_step hB0 hb
    exact ⟨(hX2.below hb hX2.lt).cell 4, cell_below (hdc 0 _ rfl) bb, cell_below (hdc 1 _ rfl) bb, cell_below (hdc 2 _ rfl) bb, cell_below (hdc 3 _ rfl) bb, cell_below (hdc 4 _ rfl) bb, cell_below (hdc2 0 _ rfl) bb, cell_below (hdc2 1 _ rfl) bb, cell_below (hdc2 2 _ rfl) bb, cell_below (hdc2 3 _ rfl) bb, cell_below (hdc2 4 _ rfl) bb⟩)
  have HSWJ := Lib.hid (fun (w' : World) (hb : Below w.heap.size w w') => swap_join Fo ⟨p1, lf1, kA1, kn1, kc1, vA1, vn1, vc1, dA1, dn1, dc1⟩ ⟨p2, lf1, kA2, kn2, kc2, vA2, vn2, vc2, dA2, dn2, dc2⟩ ka kb w' (hey.stay hb) (huy.stay hb) hkk (by cases ka <;> exact Nat.le_trans hb1.1 (by decide)) (by cases kb <;> exact Nat.le_trans hb2.1 (by decide)))
  unfold ndV at HSWJ
  simp only at HSWJ
  have hcl : kn1 = cellsN ka := by
    cases ka with
    | leaf pp ll => obtain ⟨_, _, hq, _⟩ := repT_rowL.1 hey; have := hq.len; simpa [cellsN] using this.symm
    | branch pp ll => obtain ⟨_, _, hq, _⟩ := repT_rowB.1 hey; have := hq.len; simpa [cellsN] using this.symm
  rw [← hcl] at HSWJ
  have HX2 := Lib.hid hX2
  have HX4 := Lib.hid hX4
  have HB0 := Lib.hid hB0
  have HROW := Lib.hid hrow0
  have HCK := Lib.hid ck
  have HKR := Lib.hid hkr
  have HORD : Hid (w.heap.size = P2 ∧ P2 < P4 ∧ P4 < V.heap.size) := Lib.hid ⟨hP2, by omega, hlt4⟩
  have HKA := Lib.hid hka
  have HKB := Lib.hid hkb
  have HCL := Lib.hid hcl
  have HLF := Lib.hid hlf1
  have HJ := Lib.hid hj
  have HKK := Lib.hid hkk
  have HBA := Lib.hid hb1
  have HBB := Lib.hid hb2
  have HKEY := Lib.hid hkey
  have HFW := Lib.hid hFW
  have HN : Hid (l.length ≤ 200 ∧ j < l.length ∧ knn = l.length) := Lib.hid ⟨hl, hjl, e1⟩
  have hkj : (k : Int) + 1 = (j : Int) := by omega
  have i0 : (0 : Int) ≤ (k : Int) := by omega
  have i1 : (k : Int) < (dnn : Int) := by omega
  have i2 : (0 : Int) ≤ (j : Int) := by omega
  have i3 : (j : Int) < (dnn : Int) := by omega
  have i4 : (j : Int) < (knn : Int) := by omega
  have hkb2 : k ≤ 200 := by omega
  have hjw : IntKind.i64.wrap (j : Int) = (j : Int) := by rw [IntWalk.i64_in _ (by omega)]
  have hk2w : IntKind.i64.wrap ((k : Int) + 2) = (k : Int) + 2 := by rw [IntWalk.i64_in _ (by omega)]
  have sl1 : j ≤ kcn := by omega
  have sl2 : k ≤ j := by omega
  have sl3 : ¬ (kcn = k) := by omega
  have sl4 : j - k = 1 := by omega
  have hmx : Try.prog.follows .mixedOrders = true := by kernel_rfl
  have HV := Lib.hid hV
  clear h hrow0 hkr hv hd hdb he hey hu huy e1 e2 hdc hdc2 hb1 hb2 hkey hkk hB0 hX2 hX4 hlt4 hFo hgd hgd' hgk ck hka hkb hcl hlf1 hlf2 hl hk hjl hj hFW hV hcr
  go_enter Try.func74, Try.ntmps74
  go_wp2
  rw [HV.out]
  try rw [hP2]
  try rw [hP4]
  clear hP2 hP4
  go_wp2
  rename_i K hK hz
  refine wp_named (fun a0 ha0 => ?_)
  obtain ⟨M, hM⟩ : ∃ M : Act → World → Prop, M = fun a w' => ∃ P5 P6, TwoX V w' P5 P6 #[.int .i64 p1, .bool lf1, .slice kA1 kn1 kc1, .slice vA1 vn1 vc1, .slice dA1 dn1 dc1] #[.int .i64 p2, .bool lf1, .slice kA2 kn2 kc2, .slice vA2 vn2 vc2, .slice dA2 dn2 dc2] ∧ a = (((((((((((((a0.put (some 10) (.pointer (some ⟨P2, 4, none⟩))).put (some 11) (.slice (some ⟨gd, offd, none⟩) dnn dcn)).put (some 12) (.int .i64 (k : Int))).put (some 13) (.pointer (some ⟨gd, offd + k * 5, none⟩))).put (some 14) (.agg #[.int .i64 p1, .bool lf1, .slice kA1 kn1 kc1, .slice vA1 vn1 vc1, .slice dA1 dn1 dc1])).put (some 15) (.pointer (some ⟨P2, 4, none⟩))).put (some 16) (.slice (some ⟨gd, offd, none⟩) dnn dcn)).put (some 17) (.int .i64 (k : Int))).put (some 18) (.int .i64 (j : Int))).put (some 19) (.pointer (some ⟨gd, offd + j * 5, none⟩))).put (some 20) (.agg #[.int .i64 p2, .bool lf1, .slice kA2 kn2 kc2, .slice vA2 vn2 vc2, .slice dA2 dn2 dc2])).put (some 5) (.pointer (some ⟨P5, 0, none⟩))).put (some 6) (.pointer (some ⟨P6, 0, none⟩))) := ⟨_, rfl⟩
  have HMI : Hid (∀ P5 P6 w', TwoX V w' P5 P6 #[.int .i64 p1, .bool lf1, .slice kA1 kn1 kc1, .slice vA1 vn1 vc1, .slice dA1 dn1 dc1] #[.int .i64 p2, .bool lf1, .slice kA2 kn2 kc2, .slice vA2 vn2 vc2, .slice dA2 dn2 dc2] → M (((((((((((((a0.put (some 10) (.pointer (some ⟨P2, 4, none⟩))).put (some 11) (.slice (some ⟨gd, offd, none⟩) dnn dcn)).put (some 12) (.int .i64 (k : Int))).put (some 13) (.pointer (some ⟨gd, offd + k * 5, none⟩))).put (some 14) (.agg #[.int .i64 p1, .bool lf1, .slice kA1 kn1 kc1, .slice vA1 vn1 vc1, .slice dA1 dn1 dc1])).put (some 15) (.pointer (some ⟨P2, 4, none⟩))).put (some 16) (.slice (some ⟨gd, offd, none⟩) dnn dcn)).put (some 17) (.int .i64 (k : Int))).put (some 18) (.int .i64 (j : Int))).put (some 19) (.pointer (some ⟨gd, offd + j * 5, none⟩))).put (some 20) (.agg #[.int .i64 p2, .bool lf1, .slice kA2 kn2 kc2, .slice vA2 vn2 vc2, .slice dA2 dn2 dc2])).put (some 5) (.pointer (some ⟨P5, 0, none⟩))).put (some 6) (.pointer (some ⟨P6, 0, none⟩))) w') := Lib.hid (fun P5 P6 w' x1 => by rw [hM]; exact ⟨P5, P6, x1, rfl⟩)
  refine wp_held (fun w' : World => Below V.heap.size V w') M hmx ?_ ?_
  · clear hM hK
    have T0 : Below V.heap.size V V.drew := (Below.refl _ _).drew
    obtain ⟨W0, hW0⟩ : ∃ W, V.drew = W := ⟨_, rfl⟩
    rw [hW0] at T0 ⊢
    have HS0 : Hid (W0.heap.size = V.heap.size) := Lib.hid (by rw [← hW0]; rfl)
    clear hW0
    refine wpAnyH_cut (fun f l a w => f = 2 ∧ l = #[true, true, true, true, true, true, true, true, true, true, true, true, true, false, false] ∧ ∃ P5 P6, a = (((((((((((((a0.put (some 10) (.pointer (some ⟨P2, 4, none⟩))).put (some 11) (.slice (some ⟨gd, offd, none⟩) dnn dcn)).put (some 12) (.int .i64 (k : Int))).put (some 13) (.pointer (some ⟨gd, offd + k * 5, none⟩))).put (some 14) (.agg #[.int .i64 p1, .bool lf1, .slice kA1 kn1 kc1, .slice vA1 vn1 vc1, .slice dA1 dn1 dc1])).put (some 15) (.pointer (some ⟨P2, 4, none⟩))).put (some 16) (.slice (some ⟨gd, offd, none⟩) dnn dcn)).put (some 17) (.int .i64 (k : Int))).put (some 18) (.int .i64 (j : Int))).put (some 19) (.pointer (some ⟨gd, offd + j * 5, none⟩))).put (some 20) (.agg #[.int .i64 p2, .bool lf1, .slice kA2 kn2 kc2, .slice vA2 vn2 vc2, .slice dA2 dn2 dc2])).put (some 5) (.pointer (some ⟨P5, 0, none⟩))).put (some 6) (.pointer (some ⟨P6, 0, none⟩))) ∧ TwoX V w P5 P6 #[.int .i64 0, .bool false, .slice none 0 0, .slice none 0 0, .slice none 0 0] #[.int .i64 0, .bool false, .slice none 0 0, .slice none 0 0, .slice none 0 0]) ?_ ?_
    · subst ha0
      rintro f l' a W2 ⟨rfl, rfl, P5, P6, rfl, ⟨T2, B5, B6, g51, g61, hne⟩⟩
      simp only [Act.put, List.setIfInBounds_toArray, List.set_cons_zero, List.set_cons_succ]
      have q0 := B5.cell 0
      have q1 := B5.cell 1
      have q2 := B5.cell 2
      have q3 := B5.cell 3
      have q4 := B5.cell 4
      have f0 := B5.free 0
      have f1 := B5.free 1
      have f2 := B5.free 2
      have f3 := B5.free 3
      have f4 := B5.free 4
      refine wpAnyH_ready (rs := [13]) (by kernel_rfl) (by simp) ?_
      refine AllReadyH.cons (lit rfl) (fun K5 hK5 => ?_) AllReadyH.nil
      refine step_open rfl ?_
      go_simp
      have T3 := below_st5 T2 g51 (.int .i64 p1) (.bool lf1) (.slice kA1 kn1 kc1) (.slice vA1 vn1 vc1) (.slice dA1 dn1 dc1)
      have B5b := B5.st5 (.int .i64 p1) (.bool lf1) (.slice kA1 kn1 kc1) (.slice vA1 vn1 vc1) (.slice dA1 dn1 dc1)
      have B6b := B6.grown (w' := st5 W2 P5 (.int .i64 p1) (.bool lf1) (.slice kA1 kn1 kc1) (.slice vA1 vn1 vc1) (.slice dA1 dn1 dc1)) (st5_only W2 P5 _ _ _ _ _) (by intro e; injection e with e; exact hne e.symm)
      unfold st5 at T3 B6b B5b
      refine hK5.out _ _ T3 (fun _ => ?_)
      clear hK5 K5
      try simp only [List.setIfInBounds_toArray, List.set_cons_zero, List.set_cons_succ]
      clear q0 q1 q2 q3 q4 f0 f1 f2 f3 f4
      have q0 := B6b.cell 0
      have q1 := B6b.cell 1
      have q2 := B6b.cell 2
      have q3 := B6b.cell 3
      have q4 := B6b.cell 4
      have f0 := B6b.free 0
      have f1 := B6b.free 1
      have f2 := B6b.free 2
      have f3 := B6b.free 3
      have f4 := B6b.free 4
      refine wpAnyH_ready (rs := [14]) (by kernel_rfl) (by simp) ?_
      refine AllReadyH.cons (lit rfl) (fun K5 hK5 => ?_) AllReadyH.nil
      refine step_open rfl ?_
      go_simp
      have T4 := below_st5 T3 g61 (.int .i64 p2) (.bool lf1) (.slice kA2 kn2 kc2) (.slice vA2 vn2 vc2) (.slice dA2 dn2 dc2)
      have B6c := B6b.st5 (.int .i64 p2) (.bool lf1) (.slice kA2 kn2 kc2) (.slice vA2 vn2 vc2) (.slice dA2 dn2 dc2)
      have B5c := B5b.grown (st5_only _ P6 (.int .i64 p2) (.bool lf1) (.slice kA2 kn2 kc2) (.slice vA2 vn2 vc2) (.slice dA2 dn2 dc2)) (by intro e; injection e with e; exact hne e)
      unfold st5 at T4 B6c B5c
      refine hK5.out _ _ T4 (fun _ => ?_)
      clear hK5 K5
      try simp only [List.setIfInBounds_toArray, List.set_cons_zero, List.set_cons_succ]
      refine wpAnyH_done (by kernel_rfl) ?_ _
      have hfin := HMI.out P5 P6 _ ⟨T4, B5c, B6c, g51, g61, hne⟩
      simp only [Act.put, List.setIfInBounds_toArray, List.set_cons_zero, List.set_cons_succ] at hfin
      exact hfin
    · intro hcut
      subst ha0
      refine wpAnyH_take (i := 0) (v := .pointer (some ⟨P2, 4, none⟩)) (lit rfl) (by kernel_rfl) (by kernel_rfl) (by kernel_rfl) (fun _ _ _ h => h) (Or.inl ⟨by rfl, ?_⟩) T0 ?_
      · rintro w6 hb6
        go_simp
      simp only [Act.put, List.setIfInBounds_toArray, List.set_cons_zero, List.set_cons_succ]
      refine wpAnyH_take (i := 1) (v := .slice (some ⟨gd, offd, none⟩) dnn dcn) (lit rfl) (by kernel_rfl) (by kernel_rfl) (by kernel_rfl) (fun _ _ _ h => h) (Or.inl ⟨by rfl, ?_⟩) T0 ?_
      · rintro w6 hb6
        have y6 := (HXE.out w6 hb6).1
        go_simp
      simp only [Act.put, List.setIfInBounds_toArray, List.set_cons_zero, List.set_cons_succ]
      refine wpAnyH_take (i := 2) (v := .int .i64 (k : Int)) (lit rfl) (by kernel_rfl) (by kernel_rfl) (by kernel_rfl) (fun _ _ _ h => h) (Or.inl ⟨by rfl, ?_⟩) T0 ?_
      · rintro w6 hb6
        go_simp
      simp only [Act.put, List.setIfInBounds_toArray, List.set_cons_zero, List.set_cons_succ]
      refine wpAnyH_take (i := 3) (v := .pointer (some ⟨gd, offd + k * 5, none⟩)) (lit rfl) (by kernel_rfl) (by kernel_rfl) (by kernel_rfl) (fun _ _ _ h => h) (Or.inl ⟨by rfl, ?_⟩) T0 ?_
      · rintro w6 hb6
        go_simp
      simp only [Act.put, List.setIfInBounds_toArray, List.set_cons_zero, List.set_cons_succ]
      refine wpAnyH_take (i := 4) (v := .agg #[.int .i64 p1, .bool lf1, .slice kA1 kn1 kc1, .slice vA1 vn1 vc1, .slice dA1 dn1 dc1]) (lit rfl) (by kernel_rfl) (by kernel_rfl) (by kernel_rfl) (fun _ _ _ h => h) (Or.inl ⟨by rfl, ?_⟩) T0 ?_
      · rintro w6 hb6
        obtain ⟨_, y60, y61, y62, y63, y64, _⟩ := HXE.out w6 hb6
        go_simp
      simp only [Act.put, List.setIfInBounds_toArray, List.set_cons_zero, List.set_cons_succ]
      refine wpAnyH_take (i := 5) (v := .pointer (some ⟨P2, 4, none⟩)) (lit rfl) (by kernel_rfl) (by kernel_rfl) (by kernel_rfl) (fun _ _ _ h => h) (Or.inl ⟨by rfl, ?_⟩) T0 ?_
      · rintro w6 hb6
        go_simp
      simp only [Act.put, List.setIfInBounds_toArray, List.set_cons_zero, List.set_cons_succ]
      refine wpAnyH_take (i := 6) (v := .slice (some ⟨gd, offd, none⟩) dnn dcn) (lit rfl) (by kernel_rfl) (by kernel_rfl) (by kernel_rfl) (fun _ _ _ h => h) (Or.inl ⟨by rfl, ?_⟩) T0 ?_
      · rintro w6 hb6
        have y6 := (HXE.out w6 hb6).1
        go_simp
      simp only [Act.put, List.setIfInBounds_toArray, List.set_cons_zero, List.set_cons_succ]
      refine wpAnyH_take (i := 7) (v := .int .i64 (k : Int)) (lit rfl) (by kernel_rfl) (by kernel_rfl) (by kernel_rfl) (fun _ _ _ h => h) (Or.inl ⟨by rfl, ?_⟩) T0 ?_
      · rintro w6 hb6
        go_simp
      simp only [Act.put, List.setIfInBounds_toArray, List.set_cons_zero, List.set_cons_succ]
      refine wpAnyH_take (i := 8) (v := .int .i64 (j : Int)) (lit rfl) (by kernel_rfl) (by kernel_rfl) (by kernel_rfl) (fun _ _ _ h => h) (Or.inl ⟨by rfl, ?_⟩) T0 ?_
      · rintro w6 hb6
        go_simp
      simp only [Act.put, List.setIfInBounds_toArray, List.set_cons_zero, List.set_cons_succ]
      refine wpAnyH_take (i := 9) (v := .pointer (some ⟨gd, offd + j * 5, none⟩)) (lit rfl) (by kernel_rfl) (by kernel_rfl) (by kernel_rfl) (fun _ _ _ h => h) (Or.inl ⟨by rfl, ?_⟩) T0 ?_
      · rintro w6 hb6
        go_simp
      simp only [Act.put, List.setIfInBounds_toArray, List.set_cons_zero, List.set_cons_succ]
      refine wpAnyH_take (i := 10) (v := .agg #[.int .i64 p2, .bool lf1, .slice kA2 kn2 kc2, .slice vA2 vn2 vc2, .slice dA2 dn2 dc2]) (lit rfl) (by kernel_rfl) (by kernel_rfl) (by kernel_rfl) (fun _ _ _ h => h) (Or.inl ⟨by rfl, ?_⟩) T0 ?_
      · rintro w6 hb6
        obtain ⟨_, _, _, _, _, _, y60, y61, y62, y63, y64⟩ := HXE.out w6 hb6
        go_simp
      simp only [Act.put, List.setIfInBounds_toArray, List.set_cons_zero, List.set_cons_succ]
      refine wpAnyH_ready (rs := [11, 12]) (by kernel_rfl) (by simp) ?_
      refine AllReadyH.cons (lit rfl) (fun K5 hK5 => ?_) (AllReadyH.cons (lit rfl) (fun K5 hK5 => ?_) AllReadyH.nil)
      · refine step_open rfl ?_
        go_simp
        obtain ⟨W1, hW1⟩ : ∃ x, W0.alloc (.cells #[.int .i64 0, .bool false, .slice none 0 0, .slice none 0 0, .slice none 0 0] 29) = x := ⟨_, rfl⟩
        have b1 : Below W0.heap.size W0 W1 := hW1 ▸ (Below.refl _ W0).alloc (Nat.le_refl _) _
        have HZ1 : Hid (W1.heap.size = W0.heap.size + 1) := Lib.hid (by rw [← hW1]; simp)
        have B5 : Has W1 W0.heap.size 29 #[.int .i64 0, .bool false, .slice none 0 0, .slice none 0 0, .slice none 0 0] := hW1 ▸ Has.made W0 29 _
        rw [hW1]
        obtain ⟨P5, hP5⟩ : ∃ G, W0.heap.size = G := ⟨_, rfl⟩
        try rw [hP5]
        rw [hP5] at B5
        have HP5 := Lib.hid hP5
        clear hP5
        have T1 : Below V.heap.size V W1 := below_step T0 b1
        refine hK5.out _ _ T1 (fun _ => ?_)
        clear hK5 K5
        try simp only [Act.put, List.setIfInBounds_toArray, List.set_cons_zero, List.set_cons_succ]
        refine wpAnyH_ready (rs := [12]) (by kernel_rfl) (by simp) ?_
        refine AllReadyH.cons (lit rfl) (fun K5 hK5 => ?_) AllReadyH.nil
        refine step_open rfl ?_
        go_simp
        obtain ⟨W2, hW2⟩ : ∃ x, W1.alloc (.cells #[.int .i64 0, .bool false, .slice none 0 0, .slice none 0 0, .slice none 0 0] 29) = x := ⟨_, rfl⟩
        have b2 : Below W1.heap.size W1 W2 := hW2 ▸ (Below.refl _ W1).alloc (Nat.le_refl _) _
        have HZ2 : Hid (W2.heap.size = W1.heap.size + 1) := Lib.hid (by rw [← hW2]; simp)
        have B6 : Has W2 W1.heap.size 29 #[.int .i64 0, .bool false, .slice none 0 0, .slice none 0 0, .slice none 0 0] := hW2 ▸ Has.made W1 29 _
        rw [hW2]
        obtain ⟨P6, hP6⟩ : ∃ G, W1.heap.size = G := ⟨_, rfl⟩
        try rw [hP6]
        rw [hP6] at B6
        have HP6 := Lib.hid hP6
        clear hP6
        have T2 : Below V.heap.size V W2 := below_step T1 b2
        have B5 := B5.below b2 B5.lt
        refine hK5.out _ _ T2 (fun _ => ?_)
        clear hK5 K5
        try simp only [Act.put, List.setIfInBounds_toArray, List.set_cons_zero, List.set_cons_succ]
        have h56 : V.heap.size ≤ P5 ∧ V.heap.size ≤ P6 ∧ P5 ≠ P6 := by have z1 := HZ1.out; have z2 := HZ2.out; have g5 := HP5.out; have g6 := HP6.out; have ht := HS0.out; omega
        have hfin := hcut 2 _ _ W2 ⟨rfl, rfl, P5, P6, rfl, ⟨T2, B5, B6, h56.1, h56.2.1, h56.2.2⟩⟩
        simp only [Act.put, List.setIfInBounds_toArray, List.set_cons_zero, List.set_cons_succ] at hfin
        exact hfin
      · refine step_open rfl ?_
        go_simp
        obtain ⟨W1, hW1⟩ : ∃ x, W0.alloc (.cells #[.int .i64 0, .bool false, .slice none 0 0, .slice none 0 0, .slice none 0 0] 29) = x := ⟨_, rfl⟩
        have b1 : Below W0.heap.size W0 W1 := hW1 ▸ (Below.refl _ W0).alloc (Nat.le_refl _) _
        have HZ1 : Hid (W1.heap.size = W0.heap.size + 1) := Lib.hid (by rw [← hW1]; simp)
        have B6 : Has W1 W0.heap.size 29 #[.int .i64 0, .bool false, .slice none 0 0, .slice none 0 0, .slice none 0 0] := hW1 ▸ Has.made W0 29 _
        rw [hW1]
        obtain ⟨P6, hP6⟩ : ∃ G, W0.heap.size = G := ⟨_, rfl⟩
        try rw [hP6]
        rw [hP6] at B6
        have HP6 := Lib.hid hP6
        clear hP6
        have T1 : Below V.heap.size V W1 := below_step T0 b1
        refine hK5.out _ _ T1 (fun _ => ?_)
        clear hK5 K5
        try simp only [Act.put, List.setIfInBounds_toArray, List.set_cons_zero, List.set_cons_succ]
        refine wpAnyH_ready (rs := [11]) (by kernel_rfl) (by simp) ?_
        refine AllReadyH.cons (lit rfl) (fun K5 hK5 => ?_) AllReadyH.nil
        refine step_open rfl ?_
        go_simp
        obtain ⟨W2, hW2⟩ : ∃ x, W1.alloc (.cells #[.int .i64 0, .bool false, .slice none 0 0, .slice none 0 0, .slice none 0 0] 29) = x := ⟨_, rfl⟩
        have b2 : Below W1.heap.size W1 W2 := hW2 ▸ (Below.refl _ W1).alloc (Nat.le_refl _) _
        have HZ2 : Hid (W2.heap.size = W1.heap.size + 1) := Lib.hid (by rw [← hW2]; simp)
        have B5 : Has W2 W1.heap.size 29 #[.int .i64 0, .bool false, .slice none 0 0, .slice none 0 0, .slice none 0 0] := hW2 ▸ Has.made W1 29 _
        rw [hW2]
        obtain ⟨P5, hP5⟩ : ∃ G, W1.heap.size = G := ⟨_, rfl⟩
        try rw [hP5]
        rw [hP5] at B5
        have HP5 := Lib.hid hP5
        clear hP5
        have T2 : Below V.heap.size V W2 := below_step T1 b2
        have B6 := B6.below b2 B6.lt
        refine hK5.out _ _ T2 (fun _ => ?_)
        clear hK5 K5
        try simp only [Act.put, List.setIfInBounds_toArray, List.set_cons_zero, List.set_cons_succ]
        have h56 : V.heap.size ≤ P5 ∧ V.heap.size ≤ P6 ∧ P5 ≠ P6 := by have z1 := HZ1.out; have z2 := HZ2.out; have g5 := HP5.out; have g6 := HP6.out; have ht := HS0.out; omega
        have hfin := hcut 2 _ _ W2 ⟨rfl, rfl, P5, P6, rfl, ⟨T2, B5, B6, h56.1, h56.2.1, h56.2.2⟩⟩
        simp only [Act.put, List.setIfInBounds_toArray, List.set_cons_zero, List.set_cons_succ] at hfin
        exact hfin
  · intro a w' hMa
    rw [hM] at hMa
    obtain ⟨P5, P6, hTW, rfl⟩ := hMa
    clear HMI hM
    refine hK _ _ ?_
    clear hK
    subst ha0
    simp only [Act.put, List.setIfInBounds_toArray, List.set_cons_zero, List.set_cons_succ]
    have z5 := hTW.b5
    have z6 := hTW.b6
    have x50 := z5.cell 0
    have x51 := z5.cell 1
    have x52 := z5.cell 2
    have x53 := z5.cell 3
    have x54 := z5.cell 4
    have x60 := z6.cell 0
    have x61 := z6.cell 1
    have x62 := z6.cell 2
    have x63 := z6.cell 3
    have x64 := z6.cell 4
    have HTW := Lib.hid hTW
    have HBW := Lib.hid (below_step HB0.out hTW.bl)
    clear hTW z5 z6
    go_upto_region 6 with (go_at_call 65; (with_reducible refine (HSWJ.out _ HBW.out).mono ?_); rintro e8 w8 ⟨⟨p8, lf8, kA8, kn8, kc8, vA8, vn8, vc8, dA8, dn8, dc8⟩, rfl, o8, b8⟩; unfold ndV; simp only; have O8 := Lib.hid o8; have B8 := Lib.hid b8; clear o8 b8)
    obtain ⟨W8, hW8⟩ : ∃ W, w8.alloc (.cells #[.int .i64 p8, .bool lf8, .slice kA8 kn8 kc8, .slice vA8 vn8 vc8, .slice dA8 dn8 dc8] 29) = W := ⟨_, rfl⟩
    have bW8 : Below w8.heap.size w8 W8 := hW8 ▸ (Below.refl _ w8).alloc (Nat.le_refl _) _
    have T8 := below_step B8.out bW8
    have BT := below_step HTW.out.bl T8
    have X8T : Has W8 w8.heap.size 29 #[.int .i64 p8, .bool lf8, .slice kA8 kn8 kc8, .slice vA8 vn8 vc8, .slice dA8 dn8 dc8] := hW8 ▸ Has.made w8 29 _
    have y51 := (HTW.out.b5.below T8 HTW.out.b5.lt).cell 1
    clear x51
    have o8T := (O8.out.below bW8).mono HTW.out.bl.size
    have hr8 : ∀ q, NDV.has ⟨p8, lf8, kA8, kn8, kc8, vA8, vn8, vc8, dA8, dn8, dc8⟩ q → V.heap.size ≤ q ∧ q < w8.heap.size := fun q hq => by have h1 := O8.out.lt hq; have h2 := HTW.out.bl.size; omega
    have h8v : V.heap.size ≤ w8.heap.size := by have h1 := B8.out.size; have h2 := HTW.out.bl.size; omega
    rw [hW8]
    obtain ⟨P8, hP8⟩ : ∃ P, w8.heap.size = P := ⟨_, rfl⟩
    rw [hP8] at X8T hr8 h8v
    try rw [hP8]
    have H8P := Lib.hid h8v
    have x82 := X8T.cell 2
    clear hW8 bW8 T8 hP8 h8v x50 x52 x53 x54 x60 x61 x62 x63 x64 O8 B8
    have hclA := HCL.out
    have hlfA := HLF.out
    have hkkA := HKK.out
    have hbj : BndN 100 (joinT (kidT l j).1 ka kb) := bnd_join (HKEY.out _ (List.mem_of_getElem? (kid_some15 HN.out.2.1))) HKK.out HBA.out HBB.out
    have htj : joinT (kidT l (k + 1)).1 (kidT l k).2 (kidT l (k + 1)).2 = joinT (kidT l j).1 ka kb := by rw [HJ.out, HKA.out, HKB.out]
    cases ka with
    | leaf pa la =>
      cases kb with
      | branch pb lb => cases hkkA
      | leaf pb lb =>
        have hlfB : lf1 = true := hlfA
        subst hlfB
        have htj2 : joinT (kidT l j).1 (.leaf pa la) (.leaf pb lb) = .leaf 0 (la ++ lb) := rfl
        have o8T : OwnN Fo V.heap.size W8 ⟨p8, lf8, kA8, kn8, kc8, vA8, vn8, vc8, dA8, dn8, dc8⟩ (.leaf 0 (la ++ lb)) := o8T
        obtain ⟨tj, htj3⟩ : ∃ t, Tr.leaf 0 (la ++ lb) = t := ⟨_, rfl⟩
        rw [htj2, htj3] at hbj htj
        rw [htj3] at o8T
        have HTJ := Lib.hid htj
        have HBJ := Lib.hid hbj
        have HMG : Hid (swapL k (k + 2) l [((kidT l k).1, tj)] = mergeT l k) := Lib.hid (by unfold swapL mergeT; rw [htj, List.append_assoc])
        clear htj3 htj2 htj hbj hr8 hclA hlfA hkkA
        have HX8 : Hid (∀ w' : World, W8.grownBy w' (some P2) → w'.cell? ⟨P8, 0, none⟩ = some (.int .i64 p8) ∧ w'.cell? ⟨P8, 1, none⟩ = some (.bool lf8) ∧ w'.cell? ⟨P8, 2, none⟩ = some (.slice kA8 kn8 kc8) ∧ w'.cell? ⟨P8, 3, none⟩ = some (.slice vA8 vn8 vc8) ∧ w'.cell? ⟨P8, 4, none⟩ = some (.slice dA8 dn8 dc8)) := Lib.hid (fun w' hg => by
          have z := X8T.grown hg (by intro e; injection e with e; have := HORD.out; have := H8P.out; omega)
          exact ⟨z.cell 0, z.cell 1, z.cell 2, z.cell 3, z.cell 4⟩)
        have HCB : Hid (∀ w' : World, Below W8.heap.size W8 w' → w'.cell? ⟨P2, 0, none⟩ = some (.int .i64 pn) ∧ w'.cell? ⟨P2, 1, none⟩ = some (.bool false) ∧ w'.cell? ⟨P2, 2, none⟩ = some (.slice (some ⟨gk, offk, none⟩) knn kcn) ∧ w'.cell? ⟨P2, 3, none⟩ = some (.slice vAn 0 vcn) ∧ w'.cell? ⟨P2, 4, none⟩ = some (.slice (some ⟨gd, offd, none⟩) dnn dcn)) := Lib.hid (fun w' hb => by
          have z := (HX2.out.below BT HX2.out.lt).below hb (HX2.out.below BT HX2.out.lt).lt
          exact ⟨z.cell 0, z.cell 1, z.cell 2, z.cell 3, z.cell 4⟩)
        have X2T := Lib.hid (HX2.out.below BT HX2.out.lt)
        have X4T := Lib.hid (HX4.out.below BT HX4.out.lt)
        have X8L := Lib.hid X8T
        have HSW := Lib.hid (fun (w' : World) (hb : Below W8.heap.size W8 w') (hX : Has w' W8.heap.size 29 #[.int .i64 p8, .bool lf8, .slice kA8 kn8 kc8, .slice vA8 vn8 vc8, .slice dA8 dn8 dc8]) => trSwap_branch (Fw Fo V.heap.size) ⟨pn, false, some ⟨gk, offk, none⟩, knn, kcn, vAn, 0, vcn, some ⟨gd, offd, none⟩, dnn, dcn⟩ ⟨0, false, some ⟨gk, offk + k, none⟩, 1, kcn - k, none, 0, 0, some ⟨W8.heap.size, 0, none⟩, 1, 1⟩ l [((kidT l k).1, tj)] k (k + 2) w' ((HROW.out.below (below_step HB0.out (below_step BT hb))).move fun q hq hl => ⟨.inl hq, rfl⟩)
          (row_by (z8 := ⟨p8, lf8, kA8, kn8, kc8, vA8, vn8, vc8, dA8, dn8, dc8⟩) (HKR.out.below (below_step HB0.out (below_step BT hb))) (by have := HN.out; have := HJ.out; omega) (fun q hq => .inl hq) hX (.inr BT.size) (o8T.rep.stay hb)) (by have := HN.out; omega) (by simp) (by omega) (by omega))
        rw [HMG.out] at HSW
        unfold ndV at HSW
        simp only at HSW
        rw [show (((k + 2 : Nat)) : Int) = (k : Int) + 2 by omega] at HSW
        have HAT := Lib.hid (fun (A : Option Addr) (c : Nat) (w' : World) (h : RowZ w' A (cellsN tj) c (sizesT tj)) => trAtN_any (fun _ => True) default tj w' w' A c h HBJ.out)
        have HBT := Lib.hid BT
        have H8R := Lib.hid o8T
        have hC0 := HCB.out W8.drew (Below.refl _ W8).drew
        have hS0 : W8.grownBy W8.drew (some P2) := ⟨rfl, rfl, rfl, Nat.le_refl _, fun _ _ _ => rfl⟩
        have T0 : Below W8.heap.size W8 W8.drew := (Below.refl _ W8).drew
        clear BT X8T o8T
        go_wp2
        rename_i K hK
        refine wp_heldJ (fun w' : World => w'.cell? ⟨P2, 0, none⟩ = some (.int .i64 pn) ∧ w'.cell? ⟨P2, 1, none⟩ = some (.bool false) ∧ w'.cell? ⟨P2, 2, none⟩ = some (.slice (some ⟨gk, offk, none⟩) knn kcn) ∧ w'.cell? ⟨P2, 3, none⟩ = some (.slice vAn 0 vcn) ∧ w'.cell? ⟨P2, 4, none⟩ = some (.slice (some ⟨gd, offd, none⟩) dnn dcn)) (fun w' : World => W8.grownBy w' (some P2)) 14 K hmx ?_ (fun _ _ h => h)
        refine wpAnyJ_take (i := 0) (v := .agg #[.int .i64 pn, .bool false, .slice (some ⟨gk, offk, none⟩) knn kcn, .slice vAn 0 vcn, .slice (some ⟨gd, offd, none⟩) dnn dcn]) rfl (by kernel_rfl) (by kernel_rfl) (by kernel_rfl) (by kernel_rfl) (by decide) (by kernel_rfl) (fun _ _ _ h => h) (Or.inl ⟨by rfl, ?_⟩) hC0 hS0 ?_
        · rintro w6 ⟨c0, c1, c2, c3, c4⟩
          go_simp
        simp only [Act.put, List.setIfInBounds_toArray, List.set_cons_zero, List.set_cons_succ, List.getElem_toArray, List.getElem_cons_zero]
        refine wpAnyJ_takeS (i := 1) (v := .int .i64 (k : Int)) rfl (by kernel_rfl) (by kernel_rfl) (by kernel_rfl) (by decide) (fun _ _ _ h => h) (Or.inl ⟨by rfl, ?_⟩) (.inr hC0) hS0 ?_
        · rintro w6 hb6
          go_simp
        simp only [Act.put, List.setIfInBounds_toArray, List.set_cons_zero, List.set_cons_succ, List.getElem_toArray, List.getElem_cons_zero, List.getElem_cons_succ]
        refine wpAnyJ_takeS (i := 2) (v := .int .i64 (k : Int)) rfl (by kernel_rfl) (by kernel_rfl) (by kernel_rfl) (by decide) (fun _ _ _ h => h) (Or.inl ⟨by rfl, ?_⟩) (.inr hC0) hS0 ?_
        · rintro w6 hb6
          go_simp
        simp only [Act.put, List.setIfInBounds_toArray, List.set_cons_zero, List.set_cons_succ, List.getElem_toArray, List.getElem_cons_zero, List.getElem_cons_succ]
        refine wpAnyJ_takeS (i := 3) (v := .int .i64 ((k : Int) + 2)) rfl (by kernel_rfl) (by kernel_rfl) (by kernel_rfl) (by decide) (fun _ _ _ h => h) (Or.inl ⟨by rfl, ?_⟩) (.inr hC0) hS0 ?_
        · rintro w6 hb6
          go_simp
        simp only [Act.put, List.setIfInBounds_toArray, List.set_cons_zero, List.set_cons_succ, List.getElem_toArray, List.getElem_cons_zero, List.getElem_cons_succ]
        refine wpAnyJ_takeS (i := 4) (v := .pointer (some ⟨P2, 2, none⟩)) rfl (by kernel_rfl) (by kernel_rfl) (by kernel_rfl) (by decide) (fun _ _ _ h => h) (Or.inl ⟨by rfl, ?_⟩) (.inr hC0) hS0 ?_
        · rintro w6 hb6
          go_simp
        simp only [Act.put, List.setIfInBounds_toArray, List.set_cons_zero, List.set_cons_succ, List.getElem_toArray, List.getElem_cons_zero, List.getElem_cons_succ]
        refine wpAnyJ_take (i := 5) (v := .slice (some ⟨gk, offk, none⟩) knn kcn) rfl (by kernel_rfl) (by kernel_rfl) (by kernel_rfl) (by kernel_rfl) (by decide) (by kernel_rfl) (fun _ _ _ h => h) (Or.inl ⟨by rfl, ?_⟩) hC0 hS0 ?_
        · rintro w6 ⟨c0, c1, c2, c3, c4⟩
          go_simp
        simp only [Act.put, List.setIfInBounds_toArray, List.set_cons_zero, List.set_cons_succ, List.getElem_toArray, List.getElem_cons_zero, List.getElem_cons_succ]
        refine wpAnyJ_takeS (i := 6) (v := .int .i64 (k : Int)) rfl (by kernel_rfl) (by kernel_rfl) (by kernel_rfl) (by decide) (fun _ _ _ h => h) (Or.inl ⟨by rfl, ?_⟩) (.inr hC0) hS0 ?_
        · rintro w6 hb6
          go_simp
        simp only [Act.put, List.setIfInBounds_toArray, List.set_cons_zero, List.set_cons_succ, List.getElem_toArray, List.getElem_cons_zero, List.getElem_cons_succ]
        refine wpAnyJ_takeS (i := 7) (v := .int .i64 (k : Int)) rfl (by kernel_rfl) (by kernel_rfl) (by kernel_rfl) (by decide) (fun _ _ _ h => h) (Or.inl ⟨by rfl, ?_⟩) (.inr hC0) hS0 ?_
        · rintro w6 hb6
          go_simp
        simp only [Act.put, List.setIfInBounds_toArray, List.set_cons_zero, List.set_cons_succ, List.getElem_toArray, List.getElem_cons_zero, List.getElem_cons_succ]
        refine wpAnyJ_takeS (i := 8) (v := .int .i64 (j : Int)) rfl (by kernel_rfl) (by kernel_rfl) (by kernel_rfl) (by decide) (fun _ _ _ h => h) (Or.inl ⟨by rfl, ?_⟩) (.inr hC0) hS0 ?_
        · rintro w6 hb6
          go_simp
        simp only [Act.put, List.setIfInBounds_toArray, List.set_cons_zero, List.set_cons_succ, List.getElem_toArray, List.getElem_cons_zero, List.getElem_cons_succ]
        refine wpAnyJ_takeS (i := 9) (v := .slice (some ⟨gk, offk + k, none⟩) 1 (kcn - k)) rfl (by kernel_rfl) (by kernel_rfl) (by kernel_rfl) (by decide) (fun _ _ _ h => h) (Or.inl ⟨by rfl, ?_⟩) (.inr hC0) hS0 ?_
        · rintro w6 hb6
          go_simp
        simp only [Act.put, List.setIfInBounds_toArray, List.set_cons_zero, List.set_cons_succ, List.getElem_toArray, List.getElem_cons_zero, List.getElem_cons_succ]
        refine wpAnyJ_takeS (i := 10) (v := .agg #[.int .i64 p8, .bool lf8, .slice kA8 kn8 kc8, .slice vA8 vn8 vc8, .slice dA8 dn8 dc8]) rfl (by kernel_rfl) (by kernel_rfl) (by kernel_rfl) (by decide) (fun _ _ _ h => h) (Or.inl ⟨by rfl, ?_⟩) (.inr hC0) hS0 ?_
        · rintro w6 hb6
          obtain ⟨y60, y61, y62, y63, y64⟩ := HX8.out w6 hb6
          go_simp
        simp only [Act.put, List.setIfInBounds_toArray, List.set_cons_zero, List.set_cons_succ, List.getElem_toArray, List.getElem_cons_zero, List.getElem_cons_succ]
        refine wpAnyJ_one (i := 11) (by kernel_rfl) rfl (fun K5 hK5 => ?_)
        go_simp
        obtain ⟨WB, hWB⟩ : ∃ x, W8.drew.alloc (.cells #[.int .i64 p8, .bool lf8, .slice kA8 kn8 kc8, .slice vA8 vn8 vc8, .slice dA8 dn8 dc8] 29) = x := ⟨_, rfl⟩
        have bB : Below W8.drew.heap.size W8.drew WB := hWB ▸ (Below.refl _ W8.drew).alloc (Nat.le_refl _) _
        have TB : Below W8.heap.size W8 WB := T0.trans (bB.mono (Nat.le_of_eq rfl))
        have XB : Has WB W8.heap.size 29 #[.int .i64 p8, .bool lf8, .slice kA8 kn8 kc8, .slice vA8 vn8 vc8, .slice dA8 dn8 dc8] := hWB ▸ Has.made W8.drew 29 _
        try rw [hWB]
        try (have hWB' : (W8.alloc (.cells #[.int .i64 p8, .bool lf8, .slice kA8 kn8 kc8, .slice vA8 vn8 vc8, .slice dA8 dn8 dc8] 29)).drew = WB := hWB; rw [hWB'])
        have hC1 := HCB.out WB TB
        have hS1 : W8.grownBy WB (some P2) := only_of_below TB (Nat.le_refl _)
        refine hK5.out _ _ (.inr hC1) hS1 ?_
        clear hK5 K5
        refine wpAnyJ_takeS (i := 12) (v := .agg #[.int .i64 0, .bool false, .slice (some ⟨gk, offk + k, none⟩) 1 (kcn - k), .slice none 0 0, .slice (some ⟨W8.heap.size, 0, none⟩) 1 1]) rfl (by kernel_rfl) (by kernel_rfl) (by kernel_rfl) (by decide) (fun _ _ _ h => h) (Or.inl ⟨by rfl, ?_⟩) (.inr hC1) hS1 ?_
        · rintro w6 hb6
          go_simp
        simp only [Act.put, List.setIfInBounds_toArray, List.set_cons_zero, List.set_cons_succ, List.getElem_toArray, List.getElem_cons_zero, List.getElem_cons_succ]
        refine wpAnyJ_one (i := 13) (by kernel_rfl) rfl (fun K5 hK5 => ?_)
        go_simp
        go_at_call 65
        (with_reducible refine (HSW.out WB TB XB).mono ?_)
        rintro e20 w20 ⟨⟨p20, lf20, kA20, kn20, kc20, vA20, vn20, vc20, dA20, dn20, dc20⟩, ks20, rfl, hp20, hlf20, o20, b20⟩
        simp only at hp20 hlf20
        subst hp20 hlf20
        unfold ndV
        simp only
        have O20 := Lib.hid o20
        have T20 : Below W8.heap.size W8 w20 := below_step TB b20
        have hC2 := HCB.out w20 T20
        have hS2 : W8.grownBy w20 (some P2) := only_of_below T20 (Nat.le_refl _)
        have B20 := Lib.hid b20
        clear o20 b20
        go_simp
        refine hK5.out _ _ (.inr hC2) hS2 ?_
        clear hK5 K5
        refine wpAnyJ_one (i := 14) (by kernel_rfl) rfl (fun K5 hK5 => ?_)
        go_simp
        have Z2 := X2T.out.below T20 X2T.out.lt
        have f0 := Z2.free 0
        have f1 := Z2.free 1
        have f2 := Z2.free 2
        have f3 := Z2.free 3
        have f4 := Z2.free 4
        obtain ⟨q0, q1, q2, q3, q4⟩ := hC2
        have hS3 := only_store (only_store (only_store (only_store (only_store hS2 0 (.int .i64 0)) 1 (.bool false)) 2 (.slice kA20 kn20 kc20)) 3 (.slice vA20 vn20 vc20)) 4 (.slice dA20 dn20 dc20)
        go_simp
        refine hK5.out _ _ (.inl (by kernel_rfl)) hS3 ?_
        clear hK5 K5
        refine wpAnyJ_done (by kernel_rfl) ?_ _
        refine hK _ _ ?_
        obtain ⟨WX, hWX⟩ : ∃ x, ((((w20.setCell ⟨P2, 0, none⟩ (.int .i64 0)).setCell ⟨P2, 1, none⟩ (.bool false)).setCell ⟨P2, 2, none⟩ (.slice kA20 kn20 kc20)).setCell ⟨P2, 3, none⟩ (.slice vA20 vn20 vc20)).setCell ⟨P2, 4, none⟩ (.slice dA20 dn20 dc20) = x := ⟨_, rfl⟩
        have hWX' : st5 w20 P2 (.int .i64 0) (.bool false) (.slice kA20 kn20 kc20) (.slice vA20 vn20 vc20) (.slice dA20 dn20 dc20) = WX := hWX
        rw [hWX] at hS3 ⊢
        have HRN : Hid (RepT (Fw Fo V.heap.size) WX ⟨0, false, kA20, kn20, kc20, vA20, vn20, vc20, dA20, dn20, dc20⟩ (.branch 0 (mergeT l k))) := Lib.hid (hWX' ▸ by
          have hord := HORD.out
          have ht := HBT.out.size
          have htb := TB.size
          refine RepT.mono (OwnN.rep (OwnN.kept (t := .branch 0 (mergeT l k)) (P := P2) (z := ⟨0, false, kA20, kn20, kc20, vA20, vn20, vc20, dA20, dn20, dc20⟩) ⟨rfl, rfl, ks20, O20.out⟩ (st5_only w20 P2 _ _ _ _ _) (fun q hq => ?_) (not_fw HFW.out (by omega) (by omega)))) (fun q hq => ?_)
          · have h1 := OwnN.lt (t := .branch 0 (mergeT l k)) ⟨rfl, rfl, ks20, O20.out⟩ hq
            omega
          · rcases hq with hq | hq
            · exact hq
            · exact .inr (by omega))
        have Z2b : Hid (Has WX P2 29 #[.int .i64 0, .bool false, .slice kA20 kn20 kc20, .slice vA20 vn20 vc20, .slice dA20 dn20 dc20]) := Lib.hid (hWX' ▸ (X2T.out.below T20 X2T.out.lt).st5 _ _ _ _ _)
        have hg2 : w20.grownBy WX (some P2) := hWX' ▸ st5_only w20 P2 _ _ _ _ _
        have Z4b := Lib.hid ((X4T.out.below T20 X4T.out.lt).grown hg2 (by intro e; injection e with e; have := HORD.out; omega))
        have HVX : Hid (V.heap.size ≤ WX.heap.size) := Lib.hid (by have := HBT.out.size; have := T20.size; have := hg2.size; omega)
        have HBL : Hid (Below w.heap.size w WX) := Lib.hid (hWX' ▸ below_st5 (below_step HB0.out (below_step HBT.out T20)) (by have := HORD.out; omega) _ _ _ _ _)
        have z8b := (X8L.out.below T20 X8L.out.lt).grown hg2 (by intro e; injection e with e; have := HORD.out; have := H8P.out; omega)
        have x80 := z8b.cell 0
        have x81 := z8b.cell 1
        have x82 := z8b.cell 2
        have x83 := z8b.cell 3
        have x84 := z8b.cell 4
        have hr8 : RepT (fun _ => True) WX ⟨p8, lf8, kA8, kn8, kc8, vA8, vn8, vc8, dA8, dn8, dc8⟩ tj := RepT.move (fun q hq hl => ⟨trivial, (hg2.block q (Nat.lt_of_lt_of_le hl T20.size) (fun e => by injection e with e; exact (not_fw HFW.out (by have := HORD.out; omega) (by have := HORD.out; omega) : ¬ Fw Fo V.heap.size P2) (e ▸ hq))).trans (T20.block q hl)⟩) H8R.out.rep
        have HSZ := Lib.hid (fun (w' : World) (hb : Below WX.heap.size WX w') => trSizes_any _ _ _ w' (hr8.stay hb) HBJ.out)
        unfold ndV at HSZ
        simp only at HSZ
        have x20 := Z2b.out.cell 0
        have x21 := Z2b.out.cell 1
        have x22 := Z2b.out.cell 2
        have x23 := Z2b.out.cell 3
        have x24 := Z2b.out.cell 4
        have HKM := Lib.hid (show kidT (mergeT l k) k = ((kidT l k).1, tj) from by rw [kid_merge15 (by have := HN.out; have := HJ.out; omega), HTJ.out])
        obtain ⟨at', hat⟩ : ∃ a, atZ (sizesT tj) = a := ⟨_, rfl⟩
        rw [hat] at HAT
        have hatT : atT (mergeT l k) k = at' := by unfold atT; rw [HKM.out]; exact hat
        clear hg2 z8b hr8 hWX hWX' hS3 hS0 T0 hC0
        by_cases h0 : at' = 0
        · subst h0
          have HPT : Hid (partT (mergeT l k) k = mergeT l k) := Lib.hid (by unfold partT; rw [if_pos hatT])
          clear hatT hat
          simp only [Int.ofNat_zero] at HAT
          go_wp2_with (first
            | (go_at_call 42; (with_reducible refine (HSZ.out _ (Below.refl _ _)).mono ?_); rintro e21 w21 ⟨A21, c21, rfl, r21, b21⟩; have B21 := Lib.hid b21; have R21 := Lib.hid r21; clear r21 b21)
            | (go_at_call 63; (with_reducible refine (HAT.out _ _ _ R21.out).mono ?_); rintro e22 w22 ⟨rfl, b22⟩; have B22 := Lib.hid (below_step B21.out b22); have z := Z2b.out.below B22.out Z2b.out.lt; have y0 := z.cell 0; have y1 := z.cell 1; have y2 := z.cell 2; have y3 := z.cell 3; have y4 := z.cell 4; have z4 := Z4b.out.below B22.out Z4b.out.lt; have q0 := z4.cell 0; have q1 := z4.cell 1; have q2 := z4.cell 2; have q3 := z4.cell 3; have q4 := z4.cell 4; have f0 := z4.free 0; have f1 := z4.free 1; have f2 := z4.free 2; have f3 := z4.free 3; have f4 := z4.free 4; have ZZ := Lib.hid z4; clear z z4 b22))
          have XX := ZZ.out
          have XE := XX.st5 (.int .i64 0) (.bool false) (.slice kA20 kn20 kc20) (.slice vA20 vn20 vc20) (.slice dA20 dn20 dc20)
          have e0 := XE.cell 0
          have e1 := XE.cell 1
          have e2 := XE.cell 2
          have e3 := XE.cell 3
          have e4 := XE.cell 4
          unfold st5 at e0 e1 e2 e3 e4
          simp at e0 e1 e2 e3 e4
          refine ⟨rfl, .agg #[.int .i64 0, .bool false, .slice kA20 kn20 kc20, .slice vA20 vn20 vc20, .slice dA20 dn20 dc20], ?_, ⟨0, false, kA20, kn20, kc20, vA20, vn20, vc20, dA20, dn20, dc20⟩, rfl, ?_, ?_⟩
          · simp [results, Try.f74, go_sem, e0, e1, e2, e3, e4]
          · rw [HPT.out]
            refine RepT.move (fun q hq hl => ?_) HRN.out
            have hord := HORD.out
            have hne : q ≠ P4 := fun e => (not_fw HFW.out (by omega) (by omega) : ¬ Fw Fo V.heap.size P4) (e ▸ hq)
            refine ⟨?_, (heap_st5 w22 P4 _ _ _ _ _ q hne).trans (B22.out.block q hl)⟩
            rcases hq with h | h
            · exact .inl h
            · exact .inr (by omega)
          · exact below_st5 (below_step HBL.out B22.out) (by have := HORD.out; omega) _ _ _ _ _
        · have HPT : Hid (partT (mergeT l k) k = splitT (mergeT l k) k at') := Lib.hid (by unfold partT; rw [if_neg (by rw [hatT]; exact h0), hatT])
          have hain := atZ_in (l := sizesT tj) (fun h => h0 (by rw [← hat]; exact atZ_zero h))
          rw [hat, sizes_len] at hain
          have hlm := merge_len (l := l) (j := k) (by have := HN.out; have := HJ.out; omega)
          have HSP := Lib.hid (fun (w' : World) (hb : Below WX.heap.size WX w') => trSplit_any (Fw Fo V.heap.size) ⟨0, false, kA20, kn20, kc20, vA20, vn20, vc20, dA20, dn20, dc20⟩ 0 (mergeT l k) k at' w' (HRN.out.stay hb) (by have := HN.out; omega) (by have := HN.out; have := HJ.out; omega) (by rw [HKM.out]; have := cells_bnd HBJ.out; simp only; omega) hain.1 (by rw [HKM.out]; exact hain.2))
          unfold ndV at HSP
          simp only at HSP
          have h0i : ¬ ((at' : Int) = 0) := by omega
          clear hatT hat hain hlm
          go_wp2_with (first
            | (go_at_call 42; (with_reducible refine (HSZ.out _ (Below.refl _ _)).mono ?_); rintro e21 w21 ⟨A21, c21, rfl, r21, b21⟩; have B21 := Lib.hid b21; have R21 := Lib.hid r21; clear r21 b21)
            | (go_at_call 63; (with_reducible refine (HAT.out _ _ _ R21.out).mono ?_); rintro e22 w22 ⟨rfl, b22⟩; have B22 := Lib.hid (below_step B21.out b22); have z := Z2b.out.below B22.out Z2b.out.lt; have y0 := z.cell 0; have y1 := z.cell 1; have y2 := z.cell 2; have y3 := z.cell 3; have y4 := z.cell 4; clear z b22)
            | (go_at_call 73; (with_reducible refine (HSP.out _ B22.out).mono ?_); rintro e23 w23 ⟨⟨p23, lf23, kA23, kn23, kc23, vA23, vn23, vc23, dA23, dn23, dc23⟩, rfl, r23, b23⟩; unfold ndV; simp only; have B23 := Lib.hid (below_step B22.out b23); have z := Z4b.out.below B23.out Z4b.out.lt; have q0 := z.cell 0; have q1 := z.cell 1; have q2 := z.cell 2; have q3 := z.cell 3; have q4 := z.cell 4; have f0 := z.free 0; have f1 := z.free 1; have f2 := z.free 2; have f3 := z.free 3; have f4 := z.free 4; have R23 := Lib.hid r23; have ZZ := Lib.hid z; clear z r23 b23))
          have XX := ZZ.out
          have XE := XX.st5 (.int .i64 p23) (.bool lf23) (.slice kA23 kn23 kc23) (.slice vA23 vn23 vc23) (.slice dA23 dn23 dc23)
          have e0 := XE.cell 0
          have e1 := XE.cell 1
          have e2 := XE.cell 2
          have e3 := XE.cell 3
          have e4 := XE.cell 4
          unfold st5 at e0 e1 e2 e3 e4
          simp at e0 e1 e2 e3 e4
          refine ⟨rfl, .agg #[.int .i64 p23, .bool lf23, .slice kA23 kn23 kc23, .slice vA23 vn23 vc23, .slice dA23 dn23 dc23], ?_, ⟨p23, lf23, kA23, kn23, kc23, vA23, vn23, vc23, dA23, dn23, dc23⟩, rfl, ?_, ?_⟩
          · simp [results, Try.f74, go_sem, e0, e1, e2, e3, e4]
          · rw [HPT.out]
            refine RepT.move (fun q hq hl => ?_) R23.out
            have hord := HORD.out
            have h1 := HBL.out.size
            have h2 := B23.out.size
            have h3 := B22.out.size
            have hvx := HVX.out
            have hq2 : Fw Fo V.heap.size q := by
              rcases hq with hq | hq
              · exact hq.1
              · exact .inr (by omega)
            have hne : q ≠ P4 := fun e => (not_fw HFW.out (by omega) (by omega) : ¬ Fw Fo V.heap.size P4) (e ▸ hq2)
            refine ⟨?_, heap_st5 w23 P4 _ _ _ _ _ q hne⟩
            rcases hq2 with h | h
            · exact .inl h
            · exact .inr (by omega)
          · exact below_st5 (below_step HBL.out B23.out) (by have := HORD.out; omega) _ _ _ _ _
    | branch pa la =>
      cases kb with
      | leaf pb lb => cases hkkA
      | branch pb lb =>
        have hlfB : lf1 = false := hlfA
        subst hlfB
        have hkl : kn1 = la.length := hclA
        have htj2 : joinT (kidT l j).1 (.branch pa la) (.branch pb lb) = .branch 0 (la ++ keyed (kidT l j).1 lb) := rfl
        have o8T : OwnN Fo V.heap.size W8 ⟨p8, lf8, kA8, kn8, kc8, vA8, vn8, vc8, dA8, dn8, dc8⟩ (.branch 0 (la ++ lb)) := o8T
        have hkn8 : kn8 = la.length + lb.length := by have h1 := o8T.keys.1; simp only [keysT, List.length_map, List.length_append] at h1; omega
        by_cases hlb : lb = []
        · subst hlb
          have o8T : OwnN Fo V.heap.size W8 ⟨p8, lf8, kA8, kn8, kc8, vA8, vn8, vc8, dA8, dn8, dc8⟩ (.branch 0 (la ++ keyed (kidT l j).1 [])) := o8T
          obtain ⟨tj, htj3⟩ : ∃ t, Tr.branch 0 (la ++ keyed (kidT l j).1 []) = t := ⟨_, rfl⟩
          rw [htj2, htj3] at hbj htj
          rw [htj3] at o8T
          have HTJ := Lib.hid htj
          have HBJ := Lib.hid hbj
          have HMG : Hid (swapL k (k + 2) l [((kidT l k).1, tj)] = mergeT l k) := Lib.hid (by unfold swapL mergeT; rw [htj, List.append_assoc])
          have i5 : ¬ ((kn1 : Int) < (kn8 : Int)) := by simp at hkn8; omega
          have i6 : ¬ (kn1 < kn8) := by simp at hkn8; omega
          clear htj3 htj2 htj hbj hr8 hclA hlfA hkkA hkl hkn8
          have HX8 : Hid (∀ w' : World, W8.grownBy w' (some P2) → w'.cell? ⟨P8, 0, none⟩ = some (.int .i64 p8) ∧ w'.cell? ⟨P8, 1, none⟩ = some (.bool lf8) ∧ w'.cell? ⟨P8, 2, none⟩ = some (.slice kA8 kn8 kc8) ∧ w'.cell? ⟨P8, 3, none⟩ = some (.slice vA8 vn8 vc8) ∧ w'.cell? ⟨P8, 4, none⟩ = some (.slice dA8 dn8 dc8)) := Lib.hid (fun w' hg => by
            have z := X8T.grown hg (by intro e; injection e with e; have := HORD.out; have := H8P.out; omega)
            exact ⟨z.cell 0, z.cell 1, z.cell 2, z.cell 3, z.cell 4⟩)
          have HCB : Hid (∀ w' : World, Below W8.heap.size W8 w' → w'.cell? ⟨P2, 0, none⟩ = some (.int .i64 pn) ∧ w'.cell? ⟨P2, 1, none⟩ = some (.bool false) ∧ w'.cell? ⟨P2, 2, none⟩ = some (.slice (some ⟨gk, offk, none⟩) knn kcn) ∧ w'.cell? ⟨P2, 3, none⟩ = some (.slice vAn 0 vcn) ∧ w'.cell? ⟨P2, 4, none⟩ = some (.slice (some ⟨gd, offd, none⟩) dnn dcn)) := Lib.hid (fun w' hb => by
            have z := (HX2.out.below BT HX2.out.lt).below hb (HX2.out.below BT HX2.out.lt).lt
            exact ⟨z.cell 0, z.cell 1, z.cell 2, z.cell 3, z.cell 4⟩)
          have X2T := Lib.hid (HX2.out.below BT HX2.out.lt)
          have X4T := Lib.hid (HX4.out.below BT HX4.out.lt)
          have X8L := Lib.hid X8T
          have HSW := Lib.hid (fun (w' : World) (hb : Below W8.heap.size W8 w') (hX : Has w' W8.heap.size 29 #[.int .i64 p8, .bool lf8, .slice kA8 kn8 kc8, .slice vA8 vn8 vc8, .slice dA8 dn8 dc8]) => trSwap_branch (Fw Fo V.heap.size) ⟨pn, false, some ⟨gk, offk, none⟩, knn, kcn, vAn, 0, vcn, some ⟨gd, offd, none⟩, dnn, dcn⟩ ⟨0, false, some ⟨gk, offk + k, none⟩, 1, kcn - k, none, 0, 0, some ⟨W8.heap.size, 0, none⟩, 1, 1⟩ l [((kidT l k).1, tj)] k (k + 2) w' ((HROW.out.below (below_step HB0.out (below_step BT hb))).move fun q hq hl => ⟨.inl hq, rfl⟩)
            (row_by (z8 := ⟨p8, lf8, kA8, kn8, kc8, vA8, vn8, vc8, dA8, dn8, dc8⟩) (HKR.out.below (below_step HB0.out (below_step BT hb))) (by have := HN.out; have := HJ.out; omega) (fun q hq => .inl hq) hX (.inr BT.size) (o8T.rep.stay hb)) (by have := HN.out; omega) (by simp) (by omega) (by omega))
          rw [HMG.out] at HSW
          unfold ndV at HSW
          simp only at HSW
          rw [show (((k + 2 : Nat)) : Int) = (k : Int) + 2 by omega] at HSW
          have HAT := Lib.hid (fun (A : Option Addr) (c : Nat) (w' : World) (h : RowZ w' A (cellsN tj) c (sizesT tj)) => trAtN_any (fun _ => True) default tj w' w' A c h HBJ.out)
          have HBT := Lib.hid BT
          have H8R := Lib.hid o8T
          have hC0 := HCB.out W8.drew (Below.refl _ W8).drew
          have hS0 : W8.grownBy W8.drew (some P2) := ⟨rfl, rfl, rfl, Nat.le_refl _, fun _ _ _ => rfl⟩
          have T0 : Below W8.heap.size W8 W8.drew := (Below.refl _ W8).drew
          clear BT X8T o8T
          go_wp2
          rename_i K hK
          refine wp_heldJ (fun w' : World => w'.cell? ⟨P2, 0, none⟩ = some (.int .i64 pn) ∧ w'.cell? ⟨P2, 1, none⟩ = some (.bool false) ∧ w'.cell? ⟨P2, 2, none⟩ = some (.slice (some ⟨gk, offk, none⟩) knn kcn) ∧ w'.cell? ⟨P2, 3, none⟩ = some (.slice vAn 0 vcn) ∧ w'.cell? ⟨P2, 4, none⟩ = some (.slice (some ⟨gd, offd, none⟩) dnn dcn)) (fun w' : World => W8.grownBy w' (some P2)) 14 K hmx ?_ (fun _ _ h => h)
          refine wpAnyJ_take (i := 0) (v := .agg #[.int .i64 pn, .bool false, .slice (some ⟨gk, offk, none⟩) knn kcn, .slice vAn 0 vcn, .slice (some ⟨gd, offd, none⟩) dnn dcn]) rfl (by kernel_rfl) (by kernel_rfl) (by kernel_rfl) (by kernel_rfl) (by decide) (by kernel_rfl) (fun _ _ _ h => h) (Or.inl ⟨by rfl, ?_⟩) hC0 hS0 ?_
          · rintro w6 ⟨c0, c1, c2, c3, c4⟩
            go_simp
          simp only [Act.put, List.setIfInBounds_toArray, List.set_cons_zero, List.set_cons_succ, List.getElem_toArray, List.getElem_cons_zero]
          refine wpAnyJ_takeS (i := 1) (v := .int .i64 (k : Int)) rfl (by kernel_rfl) (by kernel_rfl) (by kernel_rfl) (by decide) (fun _ _ _ h => h) (Or.inl ⟨by rfl, ?_⟩) (.inr hC0) hS0 ?_
          · rintro w6 hb6
            go_simp
          simp only [Act.put, List.setIfInBounds_toArray, List.set_cons_zero, List.set_cons_succ, List.getElem_toArray, List.getElem_cons_zero, List.getElem_cons_succ]
          refine wpAnyJ_takeS (i := 2) (v := .int .i64 (k : Int)) rfl (by kernel_rfl) (by kernel_rfl) (by kernel_rfl) (by decide) (fun _ _ _ h => h) (Or.inl ⟨by rfl, ?_⟩) (.inr hC0) hS0 ?_
          · rintro w6 hb6
            go_simp
          simp only [Act.put, List.setIfInBounds_toArray, List.set_cons_zero, List.set_cons_succ, List.getElem_toArray, List.getElem_cons_zero, List.getElem_cons_succ]
          refine wpAnyJ_takeS (i := 3) (v := .int .i64 ((k : Int) + 2)) rfl (by kernel_rfl) (by kernel_rfl) (by kernel_rfl) (by decide) (fun _ _ _ h => h) (Or.inl ⟨by rfl, ?_⟩) (.inr hC0) hS0 ?_
          · rintro w6 hb6
            go_simp
          simp only [Act.put, List.setIfInBounds_toArray, List.set_cons_zero, List.set_cons_succ, List.getElem_toArray, List.getElem_cons_zero, List.getElem_cons_succ]
          refine wpAnyJ_takeS (i := 4) (v := .pointer (some ⟨P2, 2, none⟩)) rfl (by kernel_rfl) (by kernel_rfl) (by kernel_rfl) (by decide) (fun _ _ _ h => h) (Or.inl ⟨by rfl, ?_⟩) (.inr hC0) hS0 ?_
          · rintro w6 hb6
            go_simp
          simp only [Act.put, List.setIfInBounds_toArray, List.set_cons_zero, List.set_cons_succ, List.getElem_toArray, List.getElem_cons_zero, List.getElem_cons_succ]
          refine wpAnyJ_take (i := 5) (v := .slice (some ⟨gk, offk, none⟩) knn kcn) rfl (by kernel_rfl) (by kernel_rfl) (by kernel_rfl) (by kernel_rfl) (by decide) (by kernel_rfl) (fun _ _ _ h => h) (Or.inl ⟨by rfl, ?_⟩) hC0 hS0 ?_
          · rintro w6 ⟨c0, c1, c2, c3, c4⟩
            go_simp
          simp only [Act.put, List.setIfInBounds_toArray, List.set_cons_zero, List.set_cons_succ, List.getElem_toArray, List.getElem_cons_zero, List.getElem_cons_succ]
          refine wpAnyJ_takeS (i := 6) (v := .int .i64 (k : Int)) rfl (by kernel_rfl) (by kernel_rfl) (by kernel_rfl) (by decide) (fun _ _ _ h => h) (Or.inl ⟨by rfl, ?_⟩) (.inr hC0) hS0 ?_
          · rintro w6 hb6
            go_simp
          simp only [Act.put, List.setIfInBounds_toArray, List.set_cons_zero, List.set_cons_succ, List.getElem_toArray, List.getElem_cons_zero, List.getElem_cons_succ]
          refine wpAnyJ_takeS (i := 7) (v := .int .i64 (k : Int)) rfl (by kernel_rfl) (by kernel_rfl) (by kernel_rfl) (by decide) (fun _ _ _ h => h) (Or.inl ⟨by rfl, ?_⟩) (.inr hC0) hS0 ?_
          · rintro w6 hb6
            go_simp
          simp only [Act.put, List.setIfInBounds_toArray, List.set_cons_zero, List.set_cons_succ, List.getElem_toArray, List.getElem_cons_zero, List.getElem_cons_succ]
          refine wpAnyJ_takeS (i := 8) (v := .int .i64 (j : Int)) rfl (by kernel_rfl) (by kernel_rfl) (by kernel_rfl) (by decide) (fun _ _ _ h => h) (Or.inl ⟨by rfl, ?_⟩) (.inr hC0) hS0 ?_
          · rintro w6 hb6
            go_simp
          simp only [Act.put, List.setIfInBounds_toArray, List.set_cons_zero, List.set_cons_succ, List.getElem_toArray, List.getElem_cons_zero, List.getElem_cons_succ]
          refine wpAnyJ_takeS (i := 9) (v := .slice (some ⟨gk, offk + k, none⟩) 1 (kcn - k)) rfl (by kernel_rfl) (by kernel_rfl) (by kernel_rfl) (by decide) (fun _ _ _ h => h) (Or.inl ⟨by rfl, ?_⟩) (.inr hC0) hS0 ?_
          · rintro w6 hb6
            go_simp
          simp only [Act.put, List.setIfInBounds_toArray, List.set_cons_zero, List.set_cons_succ, List.getElem_toArray, List.getElem_cons_zero, List.getElem_cons_succ]
          refine wpAnyJ_takeS (i := 10) (v := .agg #[.int .i64 p8, .bool lf8, .slice kA8 kn8 kc8, .slice vA8 vn8 vc8, .slice dA8 dn8 dc8]) rfl (by kernel_rfl) (by kernel_rfl) (by kernel_rfl) (by decide) (fun _ _ _ h => h) (Or.inl ⟨by rfl, ?_⟩) (.inr hC0) hS0 ?_
          · rintro w6 hb6
            obtain ⟨y60, y61, y62, y63, y64⟩ := HX8.out w6 hb6
            go_simp
          simp only [Act.put, List.setIfInBounds_toArray, List.set_cons_zero, List.set_cons_succ, List.getElem_toArray, List.getElem_cons_zero, List.getElem_cons_succ]
          refine wpAnyJ_one (i := 11) (by kernel_rfl) rfl (fun K5 hK5 => ?_)
          go_simp
          obtain ⟨WB, hWB⟩ : ∃ x, W8.drew.alloc (.cells #[.int .i64 p8, .bool lf8, .slice kA8 kn8 kc8, .slice vA8 vn8 vc8, .slice dA8 dn8 dc8] 29) = x := ⟨_, rfl⟩
          have bB : Below W8.drew.heap.size W8.drew WB := hWB ▸ (Below.refl _ W8.drew).alloc (Nat.le_refl _) _
          have TB : Below W8.heap.size W8 WB := T0.trans (bB.mono (Nat.le_of_eq rfl))
          have XB : Has WB W8.heap.size 29 #[.int .i64 p8, .bool lf8, .slice kA8 kn8 kc8, .slice vA8 vn8 vc8, .slice dA8 dn8 dc8] := hWB ▸ Has.made W8.drew 29 _
          try rw [hWB]
          try (have hWB' : (W8.alloc (.cells #[.int .i64 p8, .bool lf8, .slice kA8 kn8 kc8, .slice vA8 vn8 vc8, .slice dA8 dn8 dc8] 29)).drew = WB := hWB; rw [hWB'])
          have hC1 := HCB.out WB TB
          have hS1 : W8.grownBy WB (some P2) := only_of_below TB (Nat.le_refl _)
          refine hK5.out _ _ (.inr hC1) hS1 ?_
          clear hK5 K5
          refine wpAnyJ_takeS (i := 12) (v := .agg #[.int .i64 0, .bool false, .slice (some ⟨gk, offk + k, none⟩) 1 (kcn - k), .slice none 0 0, .slice (some ⟨W8.heap.size, 0, none⟩) 1 1]) rfl (by kernel_rfl) (by kernel_rfl) (by kernel_rfl) (by decide) (fun _ _ _ h => h) (Or.inl ⟨by rfl, ?_⟩) (.inr hC1) hS1 ?_
          · rintro w6 hb6
            go_simp
          simp only [Act.put, List.setIfInBounds_toArray, List.set_cons_zero, List.set_cons_succ, List.getElem_toArray, List.getElem_cons_zero, List.getElem_cons_succ]
          refine wpAnyJ_one (i := 13) (by kernel_rfl) rfl (fun K5 hK5 => ?_)
          go_simp
          go_at_call 65
          (with_reducible refine (HSW.out WB TB XB).mono ?_)
          rintro e20 w20 ⟨⟨p20, lf20, kA20, kn20, kc20, vA20, vn20, vc20, dA20, dn20, dc20⟩, ks20, rfl, hp20, hlf20, o20, b20⟩
          simp only at hp20 hlf20
          subst hp20 hlf20
          unfold ndV
          simp only
          have O20 := Lib.hid o20
          have T20 : Below W8.heap.size W8 w20 := below_step TB b20
          have hC2 := HCB.out w20 T20
          have hS2 : W8.grownBy w20 (some P2) := only_of_below T20 (Nat.le_refl _)
          have B20 := Lib.hid b20
          clear o20 b20
          go_simp
          refine hK5.out _ _ (.inr hC2) hS2 ?_
          clear hK5 K5
          refine wpAnyJ_one (i := 14) (by kernel_rfl) rfl (fun K5 hK5 => ?_)
          go_simp
          have Z2 := X2T.out.below T20 X2T.out.lt
          have f0 := Z2.free 0
          have f1 := Z2.free 1
          have f2 := Z2.free 2
          have f3 := Z2.free 3
          have f4 := Z2.free 4
          obtain ⟨q0, q1, q2, q3, q4⟩ := hC2
          have hS3 := only_store (only_store (only_store (only_store (only_store hS2 0 (.int .i64 0)) 1 (.bool false)) 2 (.slice kA20 kn20 kc20)) 3 (.slice vA20 vn20 vc20)) 4 (.slice dA20 dn20 dc20)
          go_simp
          refine hK5.out _ _ (.inl (by kernel_rfl)) hS3 ?_
          clear hK5 K5
          refine wpAnyJ_done (by kernel_rfl) ?_ _
          refine hK _ _ ?_
          obtain ⟨WX, hWX⟩ : ∃ x, ((((w20.setCell ⟨P2, 0, none⟩ (.int .i64 0)).setCell ⟨P2, 1, none⟩ (.bool false)).setCell ⟨P2, 2, none⟩ (.slice kA20 kn20 kc20)).setCell ⟨P2, 3, none⟩ (.slice vA20 vn20 vc20)).setCell ⟨P2, 4, none⟩ (.slice dA20 dn20 dc20) = x := ⟨_, rfl⟩
          have hWX' : st5 w20 P2 (.int .i64 0) (.bool false) (.slice kA20 kn20 kc20) (.slice vA20 vn20 vc20) (.slice dA20 dn20 dc20) = WX := hWX
          rw [hWX] at hS3 ⊢
          have HRN : Hid (RepT (Fw Fo V.heap.size) WX ⟨0, false, kA20, kn20, kc20, vA20, vn20, vc20, dA20, dn20, dc20⟩ (.branch 0 (mergeT l k))) := Lib.hid (hWX' ▸ by
            have hord := HORD.out
            have ht := HBT.out.size
            have htb := TB.size
            refine RepT.mono (OwnN.rep (OwnN.kept (t := .branch 0 (mergeT l k)) (P := P2) (z := ⟨0, false, kA20, kn20, kc20, vA20, vn20, vc20, dA20, dn20, dc20⟩) ⟨rfl, rfl, ks20, O20.out⟩ (st5_only w20 P2 _ _ _ _ _) (fun q hq => ?_) (not_fw HFW.out (by omega) (by omega)))) (fun q hq => ?_)
            · have h1 := OwnN.lt (t := .branch 0 (mergeT l k)) ⟨rfl, rfl, ks20, O20.out⟩ hq
              omega
            · rcases hq with hq | hq
              · exact hq
              · exact .inr (by omega))
          have Z2b : Hid (Has WX P2 29 #[.int .i64 0, .bool false, .slice kA20 kn20 kc20, .slice vA20 vn20 vc20, .slice dA20 dn20 dc20]) := Lib.hid (hWX' ▸ (X2T.out.below T20 X2T.out.lt).st5 _ _ _ _ _)
          have hg2 : w20.grownBy WX (some P2) := hWX' ▸ st5_only w20 P2 _ _ _ _ _
          have Z4b := Lib.hid ((X4T.out.below T20 X4T.out.lt).grown hg2 (by intro e; injection e with e; have := HORD.out; omega))
          have HVX : Hid (V.heap.size ≤ WX.heap.size) := Lib.hid (by have := HBT.out.size; have := T20.size; have := hg2.size; omega)
          have HBL : Hid (Below w.heap.size w WX) := Lib.hid (hWX' ▸ below_st5 (below_step HB0.out (below_step HBT.out T20)) (by have := HORD.out; omega) _ _ _ _ _)
          have z8b := (X8L.out.below T20 X8L.out.lt).grown hg2 (by intro e; injection e with e; have := HORD.out; have := H8P.out; omega)
          have x80 := z8b.cell 0
          have x81 := z8b.cell 1
          have x82 := z8b.cell 2
          have x83 := z8b.cell 3
          have x84 := z8b.cell 4
          have hr8 : RepT (fun _ => True) WX ⟨p8, lf8, kA8, kn8, kc8, vA8, vn8, vc8, dA8, dn8, dc8⟩ tj := RepT.move (fun q hq hl => ⟨trivial, (hg2.block q (Nat.lt_of_lt_of_le hl T20.size) (fun e => by injection e with e; exact (not_fw HFW.out (by have := HORD.out; omega) (by have := HORD.out; omega) : ¬ Fw Fo V.heap.size P2) (e ▸ hq))).trans (T20.block q hl)⟩) H8R.out.rep
          have HSZ := Lib.hid (fun (w' : World) (hb : Below WX.heap.size WX w') => trSizes_any _ _ _ w' (hr8.stay hb) HBJ.out)
          unfold ndV at HSZ
          simp only at HSZ
          have x20 := Z2b.out.cell 0
          have x21 := Z2b.out.cell 1
          have x22 := Z2b.out.cell 2
          have x23 := Z2b.out.cell 3
          have x24 := Z2b.out.cell 4
          have HKM := Lib.hid (show kidT (mergeT l k) k = ((kidT l k).1, tj) from by rw [kid_merge15 (by have := HN.out; have := HJ.out; omega), HTJ.out])
          obtain ⟨at', hat⟩ : ∃ a, atZ (sizesT tj) = a := ⟨_, rfl⟩
          rw [hat] at HAT
          have hatT : atT (mergeT l k) k = at' := by unfold atT; rw [HKM.out]; exact hat
          clear hg2 z8b hr8 hWX hWX' hS3 hS0 T0 hC0
          by_cases h0 : at' = 0
          · subst h0
            have HPT : Hid (partT (mergeT l k) k = mergeT l k) := Lib.hid (by unfold partT; rw [if_pos hatT])
            clear hatT hat
            simp only [Int.ofNat_zero] at HAT
            go_wp2_with (first
              | (go_at_call 42; (with_reducible refine (HSZ.out _ (Below.refl _ _)).mono ?_); rintro e21 w21 ⟨A21, c21, rfl, r21, b21⟩; have B21 := Lib.hid b21; have R21 := Lib.hid r21; clear r21 b21)
              | (go_at_call 63; (with_reducible refine (HAT.out _ _ _ R21.out).mono ?_); rintro e22 w22 ⟨rfl, b22⟩; have B22 := Lib.hid (below_step B21.out b22); have z := Z2b.out.below B22.out Z2b.out.lt; have y0 := z.cell 0; have y1 := z.cell 1; have y2 := z.cell 2; have y3 := z.cell 3; have y4 := z.cell 4; have z4 := Z4b.out.below B22.out Z4b.out.lt; have q0 := z4.cell 0; have q1 := z4.cell 1; have q2 := z4.cell 2; have q3 := z4.cell 3; have q4 := z4.cell 4; have f0 := z4.free 0; have f1 := z4.free 1; have f2 := z4.free 2; have f3 := z4.free 3; have f4 := z4.free 4; have ZZ := Lib.hid z4; clear z z4 b22))
            have XX := ZZ.out
            have XE := XX.st5 (.int .i64 0) (.bool false) (.slice kA20 kn20 kc20) (.slice vA20 vn20 vc20) (.slice dA20 dn20 dc20)
            have e0 := XE.cell 0
            have e1 := XE.cell 1
            have e2 := XE.cell 2
            have e3 := XE.cell 3
            have e4 := XE.cell 4
            unfold st5 at e0 e1 e2 e3 e4
            simp at e0 e1 e2 e3 e4
            refine ⟨rfl, .agg #[.int .i64 0, .bool false, .slice kA20 kn20 kc20, .slice vA20 vn20 vc20, .slice dA20 dn20 dc20], ?_, ⟨0, false, kA20, kn20, kc20, vA20, vn20, vc20, dA20, dn20, dc20⟩, rfl, ?_, ?_⟩
            · simp [results, Try.f74, go_sem, e0, e1, e2, e3, e4]
            · rw [HPT.out]
              refine RepT.move (fun q hq hl => ?_) HRN.out
              have hord := HORD.out
              have hne : q ≠ P4 := fun e => (not_fw HFW.out (by omega) (by omega) : ¬ Fw Fo V.heap.size P4) (e ▸ hq)
              refine ⟨?_, (heap_st5 w22 P4 _ _ _ _ _ q hne).trans (B22.out.block q hl)⟩
              rcases hq with h | h
              · exact .inl h
              · exact .inr (by omega)
            · exact below_st5 (below_step HBL.out B22.out) (by have := HORD.out; omega) _ _ _ _ _
          · have HPT : Hid (partT (mergeT l k) k = splitT (mergeT l k) k at') := Lib.hid (by unfold partT; rw [if_neg (by rw [hatT]; exact h0), hatT])
            have hain := atZ_in (l := sizesT tj) (fun h => h0 (by rw [← hat]; exact atZ_zero h))
            rw [hat, sizes_len] at hain
            have hlm := merge_len (l := l) (j := k) (by have := HN.out; have := HJ.out; omega)
            have HSP := Lib.hid (fun (w' : World) (hb : Below WX.heap.size WX w') => trSplit_any (Fw Fo V.heap.size) ⟨0, false, kA20, kn20, kc20, vA20, vn20, vc20, dA20, dn20, dc20⟩ 0 (mergeT l k) k at' w' (HRN.out.stay hb) (by have := HN.out; omega) (by have := HN.out; have := HJ.out; omega) (by rw [HKM.out]; have := cells_bnd HBJ.out; simp only; omega) hain.1 (by rw [HKM.out]; exact hain.2))
            unfold ndV at HSP
            simp only at HSP
            have h0i : ¬ ((at' : Int) = 0) := by omega
            clear hatT hat hain hlm
            go_wp2_with (first
              | (go_at_call 42; (with_reducible refine (HSZ.out _ (Below.refl _ _)).mono ?_); rintro e21 w21 ⟨A21, c21, rfl, r21, b21⟩; have B21 := Lib.hid b21; have R21 := Lib.hid r21; clear r21 b21)
              | (go_at_call 63; (with_reducible refine (HAT.out _ _ _ R21.out).mono ?_); rintro e22 w22 ⟨rfl, b22⟩; have B22 := Lib.hid (below_step B21.out b22); have z := Z2b.out.below B22.out Z2b.out.lt; have y0 := z.cell 0; have y1 := z.cell 1; have y2 := z.cell 2; have y3 := z.cell 3; have y4 := z.cell 4; clear z b22)
              | (go_at_call 73; (with_reducible refine (HSP.out _ B22.out).mono ?_); rintro e23 w23 ⟨⟨p23, lf23, kA23, kn23, kc23, vA23, vn23, vc23, dA23, dn23, dc23⟩, rfl, r23, b23⟩; unfold ndV; simp only; have B23 := Lib.hid (below_step B22.out b23); have z := Z4b.out.below B23.out Z4b.out.lt; have q0 := z.cell 0; have q1 := z.cell 1; have q2 := z.cell 2; have q3 := z.cell 3; have q4 := z.cell 4; have f0 := z.free 0; have f1 := z.free 1; have f2 := z.free 2; have f3 := z.free 3; have f4 := z.free 4; have R23 := Lib.hid r23; have ZZ := Lib.hid z; clear z r23 b23))
            have XX := ZZ.out
            have XE := XX.st5 (.int .i64 p23) (.bool lf23) (.slice kA23 kn23 kc23) (.slice vA23 vn23 vc23) (.slice dA23 dn23 dc23)
            have e0 := XE.cell 0
            have e1 := XE.cell 1
            have e2 := XE.cell 2
            have e3 := XE.cell 3
            have e4 := XE.cell 4
            unfold st5 at e0 e1 e2 e3 e4
            simp at e0 e1 e2 e3 e4
            refine ⟨rfl, .agg #[.int .i64 p23, .bool lf23, .slice kA23 kn23 kc23, .slice vA23 vn23 vc23, .slice dA23 dn23 dc23], ?_, ⟨p23, lf23, kA23, kn23, kc23, vA23, vn23, vc23, dA23, dn23, dc23⟩, rfl, ?_, ?_⟩
            · simp [results, Try.f74, go_sem, e0, e1, e2, e3, e4]
            · rw [HPT.out]
              refine RepT.move (fun q hq hl => ?_) R23.out
              have hord := HORD.out
              have h1 := HBL.out.size
              have h2 := B23.out.size
              have h3 := B22.out.size
              have hvx := HVX.out
              have hq2 : Fw Fo V.heap.size q := by
                rcases hq with hq | hq
                · exact hq.1
                · exact .inr (by omega)
              have hne : q ≠ P4 := fun e => (not_fw HFW.out (by omega) (by omega) : ¬ Fw Fo V.heap.size P4) (e ▸ hq2)
              refine ⟨?_, heap_st5 w23 P4 _ _ _ _ _ q hne⟩
              rcases hq2 with h | h
              · exact .inl h
              · exact .inr (by omega)
            · exact below_st5 (below_step HBL.out B23.out) (by have := HORD.out; omega) _ _ _ _ _
        · have hlb0 : 0 < lb.length := List.length_pos_iff.2 hlb
          obtain ⟨g8, cp8, hform, hg81, hg82⟩ := o8T.keys.form (by simp only; omega)
          simp only at hform
          injection hform with hA8 _ hc8
          subst hA8 hc8
          have hng : ¬ Fo g8 := fun h => by have := HFW.out _ h; have := HB0.out.size; omega
          have hg8 := hr8 g8 (.inl rfl)
          obtain ⟨ky, hky⟩ : ∃ s : ByteArray, (⟨(kidT l j).1.toArray⟩ : ByteArray) = s := ⟨_, rfl⟩
          have hck := cell_below HCK.out (below_step HB0.out BT)
          rw [hky] at hck
          have hx2 := HX2.out.below BT HX2.out.lt
          have hgkl : gk < w.heap.size := World.block_lt_of_cell? w _ HCK.out
          have HX7 : Hid (∀ w6 : World, W8.grownBy w6 (some g8) → w6.cell? ⟨P8, 2, none⟩ = some (.slice (some ⟨g8, 0, none⟩) kn8 kc8) ∧ w6.cell? ⟨P2, 2, none⟩ = some (.slice (some ⟨gk, offk, none⟩) knn kcn) ∧ w6.cell? ⟨gk, offk + j, none⟩ = some (.string ky)) := Lib.hid (fun w6 hg => by
            have hord := HORD.out
            have hB := HB0.out.size
            exact ⟨(X8T.grown hg (by intro e; injection e with e; omega)).cell 2, (hx2.grown hg (by intro e; injection e with e; omega)).cell 2, (cell_same (p := ⟨gk, offk + j, none⟩) (hg.block gk (by have := BT.size; omega) (fun e => by injection e with e; omega))).trans hck⟩)
          have i5 : (kn1 : Int) < (kn8 : Int) := by omega
          have i6 : kn1 < kn8 := by omega
          have i7 : (0 : Int) ≤ (kn1 : Int) := by omega
          have hkc : w'.heap.size = w'.heap.size := rfl
          have hc9 : W8.cell? ⟨g8, kn1, none⟩ = some (strV ((keysT (.branch 0 (la ++ lb))).getD kn1 [])) := by
            rw [o8T.keys.cellAt kn1 (by simp only; omega), List.getElem?_map, List.getD_eq_getElem?_getD, List.getElem?_eq_getElem (by simp [keysT]; omega)]
            rfl
          obtain ⟨vo, hvo⟩ : ∃ v, strV ((keysT (.branch 0 (la ++ lb))).getD kn1 []) = v := ⟨_, rfl⟩
          rw [hvo] at hc9
          have hf9 := o8T.keys.frozenAt kn1
          have hS0 : W8.grownBy W8.drew (some g8) := ⟨rfl, rfl, rfl, Nat.le_refl _, fun _ _ _ => rfl⟩
          have HC9 : Hid (W8.drew.cell? ⟨g8, kn1, none⟩ = some vo) := Lib.hid hc9
          have HF9 : Hid (W8.drew.frozen? ⟨g8, kn1, none⟩ = false) := Lib.hid hf9
          have HO8 := Lib.hid o8T
          have HKY := Lib.hid hky
          have HX8T := Lib.hid X8T
          have HBT8 := Lib.hid BT
          have HKL := Lib.hid hkl
          have HG8 := Lib.hid hg8
          have HNG := Lib.hid hng
          have HTJ0 := Lib.hid htj
          have HBJ0 := Lib.hid hbj
          have HTJ2 := Lib.hid htj2
          clear hr8 hclA hlfA hkkA hkn8 hlb hlb0 hg81 hg82 hck hx2 hgkl hkc hc9 hf9 hky hvo o8T X8T BT hkl hg8 hng htj hbj htj2
          go_wp2
          first | (rename_i K hK; refine wp_held (fun w6 : World => W8.grownBy w6 (some g8)) K hmx ?_ (fun _ _ h => h)) | (rename_i K hK hz; refine wp_held (fun w6 : World => W8.grownBy w6 (some g8)) K hmx ?_ (fun _ _ h => h))
          obtain ⟨Wd, hWd⟩ : ∃ W, W8.drew = W := ⟨_, rfl⟩
          have HWd := Lib.hid hWd
          have q9 := HC9.out
          have f9 := HF9.out
          rw [hWd] at hS0 q9 f9 ⊢
          clear hWd
          refine wpAnyH_take (i := 0) (v := .pointer (some ⟨P8, 2, none⟩)) (lit rfl) (by kernel_rfl) (by kernel_rfl) (by kernel_rfl) (fun _ _ _ h => h) (Or.inl ⟨by rfl, ?_⟩) hS0 ?_
          · rintro w6 hb6
            go_simp
          simp only [Act.put, List.setIfInBounds_toArray, List.set_cons_zero, List.set_cons_succ]
          refine wpAnyH_take (i := 1) (v := .slice (some ⟨g8, 0, none⟩) kn8 kc8) (lit rfl) (by kernel_rfl) (by kernel_rfl) (by kernel_rfl) (fun _ _ _ h => h) (Or.inl ⟨by rfl, ?_⟩) hS0 ?_
          · rintro w6 hb6
            have y6 := (HX7.out w6 hb6).1
            go_simp
          simp only [Act.put, List.setIfInBounds_toArray, List.set_cons_zero, List.set_cons_succ]
          refine wpAnyH_take (i := 2) (v := .int .i64 (kn1 : Int)) (lit rfl) (by kernel_rfl) (by kernel_rfl) (by kernel_rfl) (fun _ _ _ h => h) (Or.inl ⟨by rfl, ?_⟩) hS0 ?_
          · rintro w6 hb6
            go_simp
          simp only [Act.put, List.setIfInBounds_toArray, List.set_cons_zero, List.set_cons_succ]
          refine wpAnyH_take (i := 3) (v := .pointer (some ⟨P2, 2, none⟩)) (lit rfl) (by kernel_rfl) (by kernel_rfl) (by kernel_rfl) (fun _ _ _ h => h) (Or.inl ⟨by rfl, ?_⟩) hS0 ?_
          · rintro w6 hb6
            go_simp
          simp only [Act.put, List.setIfInBounds_toArray, List.set_cons_zero, List.set_cons_succ]
          refine wpAnyH_take (i := 4) (v := .slice (some ⟨gk, offk, none⟩) knn kcn) (lit rfl) (by kernel_rfl) (by kernel_rfl) (by kernel_rfl) (fun _ _ _ h => h) (Or.inl ⟨by rfl, ?_⟩) hS0 ?_
          · rintro w6 hb6
            have y6 := (HX7.out w6 hb6).2.1
            go_simp
          simp only [Act.put, List.setIfInBounds_toArray, List.set_cons_zero, List.set_cons_succ]
          refine wpAnyH_take (i := 5) (v := .int .i64 (k : Int)) (lit rfl) (by kernel_rfl) (by kernel_rfl) (by kernel_rfl) (fun _ _ _ h => h) (Or.inl ⟨by rfl, ?_⟩) hS0 ?_
          · rintro w6 hb6
            go_simp
          simp only [Act.put, List.setIfInBounds_toArray, List.set_cons_zero, List.set_cons_succ]
          refine wpAnyH_take (i := 6) (v := .int .i64 (j : Int)) (lit rfl) (by kernel_rfl) (by kernel_rfl) (by kernel_rfl) (fun _ _ _ h => h) (Or.inl ⟨by rfl, ?_⟩) hS0 ?_
          · rintro w6 hb6
            go_simp
          simp only [Act.put, List.setIfInBounds_toArray, List.set_cons_zero, List.set_cons_succ]
          refine wpAnyH_take (i := 7) (v := .pointer (some ⟨gk, offk + j, none⟩)) (lit rfl) (by kernel_rfl) (by kernel_rfl) (by kernel_rfl) (fun _ _ _ h => h) (Or.inl ⟨by rfl, ?_⟩) hS0 ?_
          · rintro w6 hb6
            go_simp
          simp only [Act.put, List.setIfInBounds_toArray, List.set_cons_zero, List.set_cons_succ]
          refine wpAnyH_take (i := 8) (v := .string ky) (lit rfl) (by kernel_rfl) (by kernel_rfl) (by kernel_rfl) (fun _ _ _ h => h) (Or.inl ⟨by rfl, ?_⟩) hS0 ?_
          · rintro w6 hb6
            have y6 := (HX7.out w6 hb6).2.2
            go_simp
          simp only [Act.put, List.setIfInBounds_toArray, List.set_cons_zero, List.set_cons_succ]
          refine wpAnyH_take (i := 9) (v := .pointer (some ⟨g8, kn1, none⟩)) (lit rfl) (by kernel_rfl) (by kernel_rfl) (by kernel_rfl) (fun _ _ _ h => h) (Or.inl ⟨by rfl, ?_⟩) hS0 ?_
          · rintro w6 hb6
            go_simp
          simp only [Act.put, List.setIfInBounds_toArray, List.set_cons_zero, List.set_cons_succ]
          refine wpAnyH_ready (rs := [10]) (by kernel_rfl) (by simp) ?_
          refine AllReadyH.cons (lit rfl) (fun K5 hK5 => ?_) AllReadyH.nil
          refine step_open rfl ?_
          go_simp
          have hS1 := only_store hS0 kn1 (.string ky)
          go_simp
          refine hK5.out _ _ hS1 (fun _ => ?_)
          clear hK5 K5
          refine wpAnyH_done (by kernel_rfl) ?_ _
          refine hK _ _ ?_
          have hbd : Below W8.heap.size W8 Wd := HWd.out ▸ (Below.refl _ W8).drew
          have o8T := OwnN.rekey (HO8.out.below hbd) rfl HNG.out (kidT l j).1
          rw [← HKL.out, HKY.out] at o8T
          obtain ⟨W9, hW9⟩ : ∃ x, Wd.setCell ⟨g8, kn1, none⟩ (.string ky) = x := ⟨_, rfl⟩
          have hgg : W8.grownBy W9 (some g8) := hW9 ▸ hS1
          rw [hW9] at o8T ⊢
          have BT : Below V.heap.size V W9 := hW9 ▸ (below_step HBT8.out hbd).setCell (p := ⟨g8, kn1, none⟩) HG8.out.1 _
          have X8T := HX8T.out.grown hgg (by intro e; injection e with e; have := HG8.out; omega)
          have htj := HTJ0.out
          have hbj := HBJ0.out
          obtain ⟨tj, htj3⟩ : ∃ t, Tr.branch 0 (la ++ keyed (kidT l j).1 lb) = t := ⟨_, rfl⟩
          rw [HTJ2.out, htj3] at hbj htj
          rw [htj3] at o8T
          have HTJ := Lib.hid htj
          have HBJ := Lib.hid hbj
          have HMG : Hid (swapL k (k + 2) l [((kidT l k).1, tj)] = mergeT l k) := Lib.hid (by unfold swapL mergeT; rw [htj, List.append_assoc])
          clear htj3 htj hbj hgg hbd hW9 hS1 hS0 y51 x82
          have HX8 : Hid (∀ w' : World, W9.grownBy w' (some P2) → w'.cell? ⟨P8, 0, none⟩ = some (.int .i64 p8) ∧ w'.cell? ⟨P8, 1, none⟩ = some (.bool lf8) ∧ w'.cell? ⟨P8, 2, none⟩ = some (.slice (some ⟨g8, 0, none⟩) kn8 kc8) ∧ w'.cell? ⟨P8, 3, none⟩ = some (.slice vA8 vn8 vc8) ∧ w'.cell? ⟨P8, 4, none⟩ = some (.slice dA8 dn8 dc8)) := Lib.hid (fun w' hg => by
            have z := X8T.grown hg (by intro e; injection e with e; have := HORD.out; have := H8P.out; omega)
            exact ⟨z.cell 0, z.cell 1, z.cell 2, z.cell 3, z.cell 4⟩)
          have HCB : Hid (∀ w' : World, Below W9.heap.size W9 w' → w'.cell? ⟨P2, 0, none⟩ = some (.int .i64 pn) ∧ w'.cell? ⟨P2, 1, none⟩ = some (.bool false) ∧ w'.cell? ⟨P2, 2, none⟩ = some (.slice (some ⟨gk, offk, none⟩) knn kcn) ∧ w'.cell? ⟨P2, 3, none⟩ = some (.slice vAn 0 vcn) ∧ w'.cell? ⟨P2, 4, none⟩ = some (.slice (some ⟨gd, offd, none⟩) dnn dcn)) := Lib.hid (fun w' hb => by
            have z := (HX2.out.below BT HX2.out.lt).below hb (HX2.out.below BT HX2.out.lt).lt
            exact ⟨z.cell 0, z.cell 1, z.cell 2, z.cell 3, z.cell 4⟩)
          have X2T := Lib.hid (HX2.out.below BT HX2.out.lt)
          have X4T := Lib.hid (HX4.out.below BT HX4.out.lt)
          have X8L := Lib.hid X8T
          have HSW := Lib.hid (fun (w' : World) (hb : Below W9.heap.size W9 w') (hX : Has w' W9.heap.size 29 #[.int .i64 p8, .bool lf8, .slice (some ⟨g8, 0, none⟩) kn8 kc8, .slice vA8 vn8 vc8, .slice dA8 dn8 dc8]) => trSwap_branch (Fw Fo V.heap.size) ⟨pn, false, some ⟨gk, offk, none⟩, knn, kcn, vAn, 0, vcn, some ⟨gd, offd, none⟩, dnn, dcn⟩ ⟨0, false, some ⟨gk, offk + k, none⟩, 1, kcn - k, none, 0, 0, some ⟨W9.heap.size, 0, none⟩, 1, 1⟩ l [((kidT l k).1, tj)] k (k + 2) w' ((HROW.out.below (below_step HB0.out (below_step BT hb))).move fun q hq hl => ⟨.inl hq, rfl⟩)
            (row_by (z8 := ⟨p8, lf8, (some ⟨g8, 0, none⟩), kn8, kc8, vA8, vn8, vc8, dA8, dn8, dc8⟩) (HKR.out.below (below_step HB0.out (below_step BT hb))) (by have := HN.out; have := HJ.out; omega) (fun q hq => .inl hq) hX (.inr BT.size) (o8T.rep.stay hb)) (by have := HN.out; omega) (by simp) (by omega) (by omega))
          rw [HMG.out] at HSW
          unfold ndV at HSW
          simp only at HSW
          rw [show (((k + 2 : Nat)) : Int) = (k : Int) + 2 by omega] at HSW
          have HAT := Lib.hid (fun (A : Option Addr) (c : Nat) (w' : World) (h : RowZ w' A (cellsN tj) c (sizesT tj)) => trAtN_any (fun _ => True) default tj w' w' A c h HBJ.out)
          have HBT := Lib.hid BT
          have H8R := Lib.hid o8T
          have hC0 := HCB.out W9.drew (Below.refl _ W9).drew
          have hS0 : W9.grownBy W9.drew (some P2) := ⟨rfl, rfl, rfl, Nat.le_refl _, fun _ _ _ => rfl⟩
          have T0 : Below W9.heap.size W9 W9.drew := (Below.refl _ W9).drew
          clear BT X8T o8T
          go_wp2
          rename_i K hK
          refine wp_heldJ (fun w' : World => w'.cell? ⟨P2, 0, none⟩ = some (.int .i64 pn) ∧ w'.cell? ⟨P2, 1, none⟩ = some (.bool false) ∧ w'.cell? ⟨P2, 2, none⟩ = some (.slice (some ⟨gk, offk, none⟩) knn kcn) ∧ w'.cell? ⟨P2, 3, none⟩ = some (.slice vAn 0 vcn) ∧ w'.cell? ⟨P2, 4, none⟩ = some (.slice (some ⟨gd, offd, none⟩) dnn dcn)) (fun w' : World => W9.grownBy w' (some P2)) 14 K hmx ?_ (fun _ _ h => h)
          refine wpAnyJ_take (i := 0) (v := .agg #[.int .i64 pn, .bool false, .slice (some ⟨gk, offk, none⟩) knn kcn, .slice vAn 0 vcn, .slice (some ⟨gd, offd, none⟩) dnn dcn]) rfl (by kernel_rfl) (by kernel_rfl) (by kernel_rfl) (by kernel_rfl) (by decide) (by kernel_rfl) (fun _ _ _ h => h) (Or.inl ⟨by rfl, ?_⟩) hC0 hS0 ?_
          · rintro w6 ⟨c0, c1, c2, c3, c4⟩
            go_simp
          simp only [Act.put, List.setIfInBounds_toArray, List.set_cons_zero, List.set_cons_succ, List.getElem_toArray, List.getElem_cons_zero]
          refine wpAnyJ_takeS (i := 1) (v := .int .i64 (k : Int)) rfl (by kernel_rfl) (by kernel_rfl) (by kernel_rfl) (by decide) (fun _ _ _ h => h) (Or.inl ⟨by rfl, ?_⟩) (.inr hC0) hS0 ?_
          · rintro w6 hb6
            go_simp
          simp only [Act.put, List.setIfInBounds_toArray, List.set_cons_zero, List.set_cons_succ, List.getElem_toArray, List.getElem_cons_zero, List.getElem_cons_succ]
          refine wpAnyJ_takeS (i := 2) (v := .int .i64 (k : Int)) rfl (by kernel_rfl) (by kernel_rfl) (by kernel_rfl) (by decide) (fun _ _ _ h => h) (Or.inl ⟨by rfl, ?_⟩) (.inr hC0) hS0 ?_
          · rintro w6 hb6
            go_simp
          simp only [Act.put, List.setIfInBounds_toArray, List.set_cons_zero, List.set_cons_succ, List.getElem_toArray, List.getElem_cons_zero, List.getElem_cons_succ]
          refine wpAnyJ_takeS (i := 3) (v := .int .i64 ((k : Int) + 2)) rfl (by kernel_rfl) (by kernel_rfl) (by kernel_rfl) (by decide) (fun _ _ _ h => h) (Or.inl ⟨by rfl, ?_⟩) (.inr hC0) hS0 ?_
          · rintro w6 hb6
            go_simp
          simp only [Act.put, List.setIfInBounds_toArray, List.set_cons_zero, List.set_cons_succ, List.getElem_toArray, List.getElem_cons_zero, List.getElem_cons_succ]
          refine wpAnyJ_takeS (i := 4) (v := .pointer (some ⟨P2, 2, none⟩)) rfl (by kernel_rfl) (by kernel_rfl) (by kernel_rfl) (by decide) (fun _ _ _ h => h) (Or.inl ⟨by rfl, ?_⟩) (.inr hC0) hS0 ?_
          · rintro w6 hb6
            go_simp
          simp only [Act.put, List.setIfInBounds_toArray, List.set_cons_zero, List.set_cons_succ, List.getElem_toArray, List.getElem_cons_zero, List.getElem_cons_succ]
          refine wpAnyJ_take (i := 5) (v := .slice (some ⟨gk, offk, none⟩) knn kcn) rfl (by kernel_rfl) (by kernel_rfl) (by kernel_rfl) (by kernel_rfl) (by decide) (by kernel_rfl) (fun _ _ _ h => h) (Or.inl ⟨by rfl, ?_⟩) hC0 hS0 ?_
          · rintro w6 ⟨c0, c1, c2, c3, c4⟩
            go_simp
          simp only [Act.put, List.setIfInBounds_toArray, List.set_cons_zero, List.set_cons_succ, List.getElem_toArray, List.getElem_cons_zero, List.getElem_cons_succ]
          refine wpAnyJ_takeS (i := 6) (v := .int .i64 (k : Int)) rfl (by kernel_rfl) (by kernel_rfl) (by kernel_rfl) (by decide) (fun _ _ _ h => h) (Or.inl ⟨by rfl, ?_⟩) (.inr hC0) hS0 ?_
          · rintro w6 hb6
            go_simp
          simp only [Act.put, List.setIfInBounds_toArray, List.set_cons_zero, List.set_cons_succ, List.getElem_toArray, List.getElem_cons_zero, List.getElem_cons_succ]
          refine wpAnyJ_takeS (i := 7) (v := .int .i64 (k : Int)) rfl (by kernel_rfl) (by kernel_rfl) (by kernel_rfl) (by decide) (fun _ _ _ h => h) (Or.inl ⟨by rfl, ?_⟩) (.inr hC0) hS0 ?_
          · rintro w6 hb6
            go_simp
          simp only [Act.put, List.setIfInBounds_toArray, List.set_cons_zero, List.set_cons_succ, List.getElem_toArray, List.getElem_cons_zero, List.getElem_cons_succ]
          refine wpAnyJ_takeS (i := 8) (v := .int .i64 (j : Int)) rfl (by kernel_rfl) (by kernel_rfl) (by kernel_rfl) (by decide) (fun _ _ _ h => h) (Or.inl ⟨by rfl, ?_⟩) (.inr hC0) hS0 ?_
          · rintro w6 hb6
            go_simp
          simp only [Act.put, List.setIfInBounds_toArray, List.set_cons_zero, List.set_cons_succ, List.getElem_toArray, List.getElem_cons_zero, List.getElem_cons_succ]
          refine wpAnyJ_takeS (i := 9) (v := .slice (some ⟨gk, offk + k, none⟩) 1 (kcn - k)) rfl (by kernel_rfl) (by kernel_rfl) (by kernel_rfl) (by decide) (fun _ _ _ h => h) (Or.inl ⟨by rfl, ?_⟩) (.inr hC0) hS0 ?_
          · rintro w6 hb6
            go_simp
          simp only [Act.put, List.setIfInBounds_toArray, List.set_cons_zero, List.set_cons_succ, List.getElem_toArray, List.getElem_cons_zero, List.getElem_cons_succ]
          refine wpAnyJ_takeS (i := 10) (v := .agg #[.int .i64 p8, .bool lf8, .slice (some ⟨g8, 0, none⟩) kn8 kc8, .slice vA8 vn8 vc8, .slice dA8 dn8 dc8]) rfl (by kernel_rfl) (by kernel_rfl) (by kernel_rfl) (by decide) (fun _ _ _ h => h) (Or.inl ⟨by rfl, ?_⟩) (.inr hC0) hS0 ?_
          · rintro w6 hb6
            obtain ⟨y60, y61, y62, y63, y64⟩ := HX8.out w6 hb6
            go_simp
          simp only [Act.put, List.setIfInBounds_toArray, List.set_cons_zero, List.set_cons_succ, List.getElem_toArray, List.getElem_cons_zero, List.getElem_cons_succ]
          refine wpAnyJ_one (i := 11) (by kernel_rfl) rfl (fun K5 hK5 => ?_)
          go_simp
          obtain ⟨WB, hWB⟩ : ∃ x, W9.drew.alloc (.cells #[.int .i64 p8, .bool lf8, .slice (some ⟨g8, 0, none⟩) kn8 kc8, .slice vA8 vn8 vc8, .slice dA8 dn8 dc8] 29) = x := ⟨_, rfl⟩
          have bB : Below W9.drew.heap.size W9.drew WB := hWB ▸ (Below.refl _ W9.drew).alloc (Nat.le_refl _) _
          have TB : Below W9.heap.size W9 WB := T0.trans (bB.mono (Nat.le_of_eq rfl))
          have XB : Has WB W9.heap.size 29 #[.int .i64 p8, .bool lf8, .slice (some ⟨g8, 0, none⟩) kn8 kc8, .slice vA8 vn8 vc8, .slice dA8 dn8 dc8] := hWB ▸ Has.made W9.drew 29 _
          try rw [hWB]
          try (have hWB' : (W9.alloc (.cells #[.int .i64 p8, .bool lf8, .slice (some ⟨g8, 0, none⟩) kn8 kc8, .slice vA8 vn8 vc8, .slice dA8 dn8 dc8] 29)).drew = WB := hWB; rw [hWB'])
          have hC1 := HCB.out WB TB
          have hS1 : W9.grownBy WB (some P2) := only_of_below TB (Nat.le_refl _)
          refine hK5.out _ _ (.inr hC1) hS1 ?_
          clear hK5 K5
          refine wpAnyJ_takeS (i := 12) (v := .agg #[.int .i64 0, .bool false, .slice (some ⟨gk, offk + k, none⟩) 1 (kcn - k), .slice none 0 0, .slice (some ⟨W9.heap.size, 0, none⟩) 1 1]) rfl (by kernel_rfl) (by kernel_rfl) (by kernel_rfl) (by decide) (fun _ _ _ h => h) (Or.inl ⟨by rfl, ?_⟩) (.inr hC1) hS1 ?_
          · rintro w6 hb6
            go_simp
          simp only [Act.put, List.setIfInBounds_toArray, List.set_cons_zero, List.set_cons_succ, List.getElem_toArray, List.getElem_cons_zero, List.getElem_cons_succ]
          refine wpAnyJ_one (i := 13) (by kernel_rfl) rfl (fun K5 hK5 => ?_)
          go_simp
          go_at_call 65
          (with_reducible refine (HSW.out WB TB XB).mono ?_)
          rintro e20 w20 ⟨⟨p20, lf20, kA20, kn20, kc20, vA20, vn20, vc20, dA20, dn20, dc20⟩, ks20, rfl, hp20, hlf20, o20, b20⟩
          simp only at hp20 hlf20
          subst hp20 hlf20
          unfold ndV
          simp only
          have O20 := Lib.hid o20
          have T20 : Below W9.heap.size W9 w20 := below_step TB b20
          have hC2 := HCB.out w20 T20
          have hS2 : W9.grownBy w20 (some P2) := only_of_below T20 (Nat.le_refl _)
          have B20 := Lib.hid b20
          clear o20 b20
          go_simp
          refine hK5.out _ _ (.inr hC2) hS2 ?_
          clear hK5 K5
          refine wpAnyJ_one (i := 14) (by kernel_rfl) rfl (fun K5 hK5 => ?_)
          go_simp
          have Z2 := X2T.out.below T20 X2T.out.lt
          have f0 := Z2.free 0
          have f1 := Z2.free 1
          have f2 := Z2.free 2
          have f3 := Z2.free 3
          have f4 := Z2.free 4
          obtain ⟨q0, q1, q2, q3, q4⟩ := hC2
          have hS3 := only_store (only_store (only_store (only_store (only_store hS2 0 (.int .i64 0)) 1 (.bool false)) 2 (.slice kA20 kn20 kc20)) 3 (.slice vA20 vn20 vc20)) 4 (.slice dA20 dn20 dc20)
          go_simp
          refine hK5.out _ _ (.inl (by kernel_rfl)) hS3 ?_
          clear hK5 K5
          refine wpAnyJ_done (by kernel_rfl) ?_ _
          refine hK _ _ ?_
          obtain ⟨WX, hWX⟩ : ∃ x, ((((w20.setCell ⟨P2, 0, none⟩ (.int .i64 0)).setCell ⟨P2, 1, none⟩ (.bool false)).setCell ⟨P2, 2, none⟩ (.slice kA20 kn20 kc20)).setCell ⟨P2, 3, none⟩ (.slice vA20 vn20 vc20)).setCell ⟨P2, 4, none⟩ (.slice dA20 dn20 dc20) = x := ⟨_, rfl⟩
          have hWX' : st5 w20 P2 (.int .i64 0) (.bool false) (.slice kA20 kn20 kc20) (.slice vA20 vn20 vc20) (.slice dA20 dn20 dc20) = WX := hWX
          rw [hWX] at hS3 ⊢
          have HRN : Hid (RepT (Fw Fo V.heap.size) WX ⟨0, false, kA20, kn20, kc20, vA20, vn20, vc20, dA20, dn20, dc20⟩ (.branch 0 (mergeT l k))) := Lib.hid (hWX' ▸ by
            have hord := HORD.out
            have ht := HBT.out.size
            have htb := TB.size
            refine RepT.mono (OwnN.rep (OwnN.kept (t := .branch 0 (mergeT l k)) (P := P2) (z := ⟨0, false, kA20, kn20, kc20, vA20, vn20, vc20, dA20, dn20, dc20⟩) ⟨rfl, rfl, ks20, O20.out⟩ (st5_only w20 P2 _ _ _ _ _) (fun q hq => ?_) (not_fw HFW.out (by omega) (by omega)))) (fun q hq => ?_)
            · have h1 := OwnN.lt (t := .branch 0 (mergeT l k)) ⟨rfl, rfl, ks20, O20.out⟩ hq
              omega
            · rcases hq with hq | hq
              · exact hq
              · exact .inr (by omega))
          have Z2b : Hid (Has WX P2 29 #[.int .i64 0, .bool false, .slice kA20 kn20 kc20, .slice vA20 vn20 vc20, .slice dA20 dn20 dc20]) := Lib.hid (hWX' ▸ (X2T.out.below T20 X2T.out.lt).st5 _ _ _ _ _)
          have hg2 : w20.grownBy WX (some P2) := hWX' ▸ st5_only w20 P2 _ _ _ _ _
          have Z4b := Lib.hid ((X4T.out.below T20 X4T.out.lt).grown hg2 (by intro e; injection e with e; have := HORD.out; omega))
          have HVX : Hid (V.heap.size ≤ WX.heap.size) := Lib.hid (by have := HBT.out.size; have := T20.size; have := hg2.size; omega)
          have HBL : Hid (Below w.heap.size w WX) := Lib.hid (hWX' ▸ below_st5 (below_step HB0.out (below_step HBT.out T20)) (by have := HORD.out; omega) _ _ _ _ _)
          have z8b := (X8L.out.below T20 X8L.out.lt).grown hg2 (by intro e; injection e with e; have := HORD.out; have := H8P.out; omega)
          have x80 := z8b.cell 0
          have x81 := z8b.cell 1
          have x82 := z8b.cell 2
          have x83 := z8b.cell 3
          have x84 := z8b.cell 4
          have hr8 : RepT (fun _ => True) WX ⟨p8, lf8, (some ⟨g8, 0, none⟩), kn8, kc8, vA8, vn8, vc8, dA8, dn8, dc8⟩ tj := RepT.move (fun q hq hl => ⟨trivial, (hg2.block q (Nat.lt_of_lt_of_le hl T20.size) (fun e => by injection e with e; exact (not_fw HFW.out (by have := HORD.out; omega) (by have := HORD.out; omega) : ¬ Fw Fo V.heap.size P2) (e ▸ hq))).trans (T20.block q hl)⟩) H8R.out.rep
          have HSZ := Lib.hid (fun (w' : World) (hb : Below WX.heap.size WX w') => trSizes_any _ _ _ w' (hr8.stay hb) HBJ.out)
          unfold ndV at HSZ
          simp only at HSZ
          have x20 := Z2b.out.cell 0
          have x21 := Z2b.out.cell 1
          have x22 := Z2b.out.cell 2
          have x23 := Z2b.out.cell 3
          have x24 := Z2b.out.cell 4
          have HKM := Lib.hid (show kidT (mergeT l k) k = ((kidT l k).1, tj) from by rw [kid_merge15 (by have := HN.out; have := HJ.out; omega), HTJ.out])
          obtain ⟨at', hat⟩ : ∃ a, atZ (sizesT tj) = a := ⟨_, rfl⟩
          rw [hat] at HAT
          have hatT : atT (mergeT l k) k = at' := by unfold atT; rw [HKM.out]; exact hat
          clear hg2 z8b hr8 hWX hWX' hS3 hS0 T0 hC0
          by_cases h0 : at' = 0
          · subst h0
            have HPT : Hid (partT (mergeT l k) k = mergeT l k) := Lib.hid (by unfold partT; rw [if_pos hatT])
            clear hatT hat
            simp only [Int.ofNat_zero] at HAT
            go_wp2_with (first
              | (go_at_call 42; (with_reducible refine (HSZ.out _ (Below.refl _ _)).mono ?_); rintro e21 w21 ⟨A21, c21, rfl, r21, b21⟩; have B21 := Lib.hid b21; have R21 := Lib.hid r21; clear r21 b21)
              | (go_at_call 63; (with_reducible refine (HAT.out _ _ _ R21.out).mono ?_); rintro e22 w22 ⟨rfl, b22⟩; have B22 := Lib.hid (below_step B21.out b22); have z := Z2b.out.below B22.out Z2b.out.lt; have y0 := z.cell 0; have y1 := z.cell 1; have y2 := z.cell 2; have y3 := z.cell 3; have y4 := z.cell 4; have z4 := Z4b.out.below B22.out Z4b.out.lt; have q0 := z4.cell 0; have q1 := z4.cell 1; have q2 := z4.cell 2; have q3 := z4.cell 3; have q4 := z4.cell 4; have f0 := z4.free 0; have f1 := z4.free 1; have f2 := z4.free 2; have f3 := z4.free 3; have f4 := z4.free 4; have ZZ := Lib.hid z4; clear z z4 b22))
            have XX := ZZ.out
            have XE := XX.st5 (.int .i64 0) (.bool false) (.slice kA20 kn20 kc20) (.slice vA20 vn20 vc20) (.slice dA20 dn20 dc20)
            have e0 := XE.cell 0
            have e1 := XE.cell 1
            have e2 := XE.cell 2
            have e3 := XE.cell 3
            have e4 := XE.cell 4
            unfold st5 at e0 e1 e2 e3 e4
            simp at e0 e1 e2 e3 e4
            refine ⟨rfl, .agg #[.int .i64 0, .bool false, .slice kA20 kn20 kc20, .slice vA20 vn20 vc20, .slice dA20 dn20 dc20], ?_, ⟨0, false, kA20, kn20, kc20, vA20, vn20, vc20, dA20, dn20, dc20⟩, rfl, ?_, ?_⟩
            · simp [results, Try.f74, go_sem, e0, e1, e2, e3, e4]
            · rw [HPT.out]
              refine RepT.move (fun q hq hl => ?_) HRN.out
              have hord := HORD.out
              have hne : q ≠ P4 := fun e => (not_fw HFW.out (by omega) (by omega) : ¬ Fw Fo V.heap.size P4) (e ▸ hq)
              refine ⟨?_, (heap_st5 w22 P4 _ _ _ _ _ q hne).trans (B22.out.block q hl)⟩
              rcases hq with h | h
              · exact .inl h
              · exact .inr (by omega)
            · exact below_st5 (below_step HBL.out B22.out) (by have := HORD.out; omega) _ _ _ _ _
          · have HPT : Hid (partT (mergeT l k) k = splitT (mergeT l k) k at') := Lib.hid (by unfold partT; rw [if_neg (by rw [hatT]; exact h0), hatT])
            have hain := atZ_in (l := sizesT tj) (fun h => h0 (by rw [← hat]; exact atZ_zero h))
            rw [hat, sizes_len] at hain
            have hlm := merge_len (l := l) (j := k) (by have := HN.out; have := HJ.out; omega)
            have HSP := Lib.hid (fun (w' : World) (hb : Below WX.heap.size WX w') => trSplit_any (Fw Fo V.heap.size) ⟨0, false, kA20, kn20, kc20, vA20, vn20, vc20, dA20, dn20, dc20⟩ 0 (mergeT l k) k at' w' (HRN.out.stay hb) (by have := HN.out; omega) (by have := HN.out; have := HJ.out; omega) (by rw [HKM.out]; have := cells_bnd HBJ.out; simp only; omega) hain.1 (by rw [HKM.out]; exact hain.2))
            unfold ndV at HSP
            simp only at HSP
            have h0i : ¬ ((at' : Int) = 0) := by omega
            clear hatT hat hain hlm
            go_wp2_with (first
              | (go_at_call 42; (with_reducible refine (HSZ.out _ (Below.refl _ _)).mono ?_); rintro e21 w21 ⟨A21, c21, rfl, r21, b21⟩; have B21 := Lib.hid b21; have R21 := Lib.hid r21; clear r21 b21)
              | (go_at_call 63; (with_reducible refine (HAT.out _ _ _ R21.out).mono ?_); rintro e22 w22 ⟨rfl, b22⟩; have B22 := Lib.hid (below_step B21.out b22); have z := Z2b.out.below B22.out Z2b.out.lt; have y0 := z.cell 0; have y1 := z.cell 1; have y2 := z.cell 2; have y3 := z.cell 3; have y4 := z.cell 4; clear z b22)
              | (go_at_call 73; (with_reducible refine (HSP.out _ B22.out).mono ?_); rintro e23 w23 ⟨⟨p23, lf23, kA23, kn23, kc23, vA23, vn23, vc23, dA23, dn23, dc23⟩, rfl, r23, b23⟩; unfold ndV; simp only; have B23 := Lib.hid (below_step B22.out b23); have z := Z4b.out.below B23.out Z4b.out.lt; have q0 := z.cell 0; have q1 := z.cell 1; have q2 := z.cell 2; have q3 := z.cell 3; have q4 := z.cell 4; have f0 := z.free 0; have f1 := z.free 1; have f2 := z.free 2; have f3 := z.free 3; have f4 := z.free 4; have R23 := Lib.hid r23; have ZZ := Lib.hid z; clear z r23 b23))
            have XX := ZZ.out
            have XE := XX.st5 (.int .i64 p23) (.bool lf23) (.slice kA23 kn23 kc23) (.slice vA23 vn23 vc23) (.slice dA23 dn23 dc23)
            have e0 := XE.cell 0
            have e1 := XE.cell 1
            have e2 := XE.cell 2
            have e3 := XE.cell 3
            have e4 := XE.cell 4
            unfold st5 at e0 e1 e2 e3 e4
            simp at e0 e1 e2 e3 e4
            refine ⟨rfl, .agg #[.int .i64 p23, .bool lf23, .slice kA23 kn23 kc23, .slice vA23 vn23 vc23, .slice dA23 dn23 dc23], ?_, ⟨p23, lf23, kA23, kn23, kc23, vA23, vn23, vc23, dA23, dn23, dc23⟩, rfl, ?_, ?_⟩
            · simp [results, Try.f74, go_sem, e0, e1, e2, e3, e4]
            · rw [HPT.out]
              refine RepT.move (fun q hq hl => ?_) R23.out
              have hord := HORD.out
              have h1 := HBL.out.size
              have h2 := B23.out.size
              have h3 := B22.out.size
              have hvx := HVX.out
              have hq2 : Fw Fo V.heap.size q := by
                rcases hq with hq | hq
                · exact hq.1
                · exact .inr (by omega)
              have hne : q ≠ P4 := fun e => (not_fw HFW.out (by omega) (by omega) : ¬ Fw Fo V.heap.size P4) (e ▸ hq2)
              refine ⟨?_, heap_st5 w23 P4 _ _ _ _ _ q hne⟩
              rcases hq2 with h | h
              · exact .inl h
              · exact .inr (by omega)
            · exact below_st5 (below_step HBL.out B23.out) (by have := HORD.out; omega) _ _ _ _ _
end Go.Proofs.Ytpaklhifnndeoaa
