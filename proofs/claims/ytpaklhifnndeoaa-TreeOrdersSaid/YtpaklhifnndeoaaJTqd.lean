import Derived.Test.YtpaklhifnndeoaaJ07
/- Of a claim's texts, joined: Tqd. No statement but in the last. -/
namespace Go.Proofs.Ytpaklhifnndeoaa
open Go.RowKit
set_option linter.unusedVariables false

theorem set_mid {α : Type} (A m B : List α) {r : Nat} (hr : r < m.length) (v : α) : (A ++ (m ++ B)).set (A.length + r) v = A ++ (m.set r v ++ B) := by
  rw [List.set_append_right _ _ (by omega), show A.length + r - A.length = r by omega, List.set_append_left _ _ hr]
theorem set_mid0 {α : Type} (A m B : List α) (hr : 0 < m.length) (v : α) : (A ++ (m ++ B)).set A.length v = A ++ (m.set 0 v ++ B) := set_mid A m B hr v
theorem flatS_mid {α : Type} {f : α → List Value} {l : List α} {i : Nat} {e : α} (h : l[i]? = some e) : flatS f l = flatS f (l.take i) ++ (f e ++ flatS f (l.drop (i + 1))) := by
  have hi := (List.getElem?_eq_some_iff.1 h).1
  have h2 := (List.getElem?_eq_some_iff.1 h).2
  rw [← flatS_cons, ← flatS_app, ← h2, ← List.drop_eq_getElem_cons hi, List.take_append_drop]
theorem flatS_put {α : Type} {f : α → List Value} {l : List α} {i : Nat} {e : α} (h : l[i]? = some e) (x : α) : flatS f (l.set i x) = flatS f (l.take i) ++ (f x ++ flatS f (l.drop (i + 1))) := by
  have hi := (List.getElem?_eq_some_iff.1 h).1
  rw [List.set_eq_take_append_cons_drop, if_pos hi, flatS_app, flatS_cons]
theorem flatS_takelen {α : Type} {f : α → List Value} {s : Nat} (hs : ∀ e, (f e).length = s) {l : List α} {i : Nat} {e : α} (h : l[i]? = some e) : (flatS f (l.take i)).length = i * s := by
  have hi := (List.getElem?_eq_some_iff.1 h).1
  rw [flatS_len hs, List.length_take, Nat.min_eq_left (by omega)]
theorem ve_put {l : List VE} {i : Nat} {e : VE} (h : l[i]? = some e) (a : Option Addr) (n c : Nat) : (flatS veL l).set (i * 2 + 1) (.slice a n c) = flatS veL (l.set i ⟨e.d, a, n, c⟩) := by
  rw [flatS_mid h, flatS_put h, ← flatS_takelen veL_len h, set_mid _ _ _ (by rw [veL_len]; omega)]
  rfl
theorem nd_put {l : List NDV} {i : Nat} {e : NDV} (h : l[i]? = some e) (x : NDV) : (((((flatS ndL l).set (i * 5) (.int .i64 x.p)).set (i * 5 + 1) (.bool x.lf)).set (i * 5 + 2) (.slice x.kA x.kn x.kc)).set (i * 5 + 3) (.slice x.vA x.vn x.vc)).set (i * 5 + 4) (.slice x.dA x.dn x.dc) = flatS ndL (l.set i x) := by
  rw [flatS_mid h, flatS_put h, ← flatS_takelen ndL_len h]
  rw [set_mid0 _ _ _ (by rw [ndL_len]; omega), set_mid _ _ _ (by rw [List.length_set, ndL_len]; omega), set_mid _ _ _ (by rw [List.length_set, List.length_set, ndL_len]; omega), set_mid _ _ _ (by rw [List.length_set, List.length_set, List.length_set, ndL_len]; omega), set_mid _ _ _ (by rw [List.length_set, List.length_set, List.length_set, List.length_set, ndL_len]; omega)]
  rfl
/-! A row of pages in memory of its own. -/
theorem eqnil15_yes (n c : Nat) (w : World) : (binOp .eql 48 (.slice none n c) (.slice none 0 0)).run Try.prog w = .ok (.bool true) w := Lib.run_eql_slice_nil w 48 3 none n c 0 0 Try.underlying48
theorem eqnil15_no (a : Addr) (n c : Nat) (w : World) : (binOp .eql 48 (.slice (some a) n c) (.slice none 0 0)).run Try.prog w = .ok (.bool false) w := Lib.run_eql_slice_nil w 48 3 (some a) n c 0 0 Try.underlying48
theorem own_newZ15 (w : World) : (w.alloc (.cells #[] 3)).ownsRow w.heap.size 3 1 (.slice (some ⟨w.heap.size, 0, none⟩) 0 0) 0 ([] : List Value) := World.ownsRow_made w #[] 0 (Nat.le_refl _) (by decide) rfl
theorem RwF.z {F : Nat → Prop} {w : World} {A : Option Addr} {n c : Nat} {l : List Int} (h : RwF F w A n c 1 (l.map (Value.int .i64))) : RowZ w A n c l :=
  ⟨by have := h.len; simpa using this.symm, fun hx => by obtain ⟨g, off, h1, _, h2⟩ := h.reads hx; exact ⟨g, off, h1, h2⟩, h.nil, h.room, h.most⟩
set_option maxRecDepth 100000 in
theorem cloneZ15_any (A : Option Addr) (n c : Nat) (l : List Int) (w : World) (h : RowZ w A n c l) (hn : n ≤ 1000000) : Calls Try.prog 66 #[.slice A n c] w (fun e w' => ∃ A' n' c', e = .returned (.slice A' n' c') ∧ RwF (fun g => w.heap.size ≤ g) w' A' n' c' 1 (l.map (Value.int .i64)) ∧ Below w.heap.size w w') := by
  rcases A with _ | a
  · have hc0 := h.nil rfl
    have hn0 : n = 0 := by have := h.room; omega
    have h0 : l = [] := List.length_eq_zero_iff.1 (by have := h.len; omega)
    clear h
    subst h0
    subst hn0
    subst hc0
    have hq := eqnil15_yes 0 0
    go_enter Try.func66, Try.ntmps66
    go_wp2
    go_ret
    exact ⟨none, 0, 0, rfl, RwF.none_ _ _ _, Below.refl _ _⟩
  · have HL := Lib.hid h.len
    have HC := Lib.hid (h.below ((Below.refl w.heap.size w).alloc (Nat.le_refl _) (.cells #[] 3)))
    clear h
    obtain ⟨i0, hi, hz0, hz1, hz2⟩ := info_parts int_info13
    have hq := eqnil15_no a n c
    go_enter Try.func66, Try.ntmps66
    go_wp2_with (at_builtin; (refine wpList_append_zs rfl _ _ 48 rfl w.heap.size 3 i0 Try.underlying48 hi hz0 hz1 hz2 _ 0 [] rfl (own_newZ15 w) _ n _ l rfl HL.out HC.out.nil HC.out.reads (by omega) (by simp) ?_; intro v3 w3 h7 h8; rw [Nat.zero_add, List.nil_append] at h7; have O3 := Lib.hid h7; have B3 := Lib.hid (below_own14 ((Below.refl w.heap.size w).alloc (Nat.le_refl _) (.cells #[] 3)) h8 (own_newZ15 w) (by simp)); clear h7 h8))
    go_ret
    obtain ⟨A2, c2, rfl, hr⟩ := RwF.own O3.out
    exact ⟨A2, n, c2, rfl, hr, B3.out⟩
def NodT (F : Nat → Prop) (t : Tr) (w : World) (e : Ending) (w' : World) : Prop := ∃ x, e = .returned (ndV x) ∧ RepT F w' x t ∧ Below w.heap.size w w'
structure OwI (nd z : Array Value) (w W : World) (P1 P2 P3 : Nat) : Prop where
  b1 : Has W P1 29 nd
  b2 : Has W P2 29 #[.int .i64 0, .bool false, .slice none 0 0, .slice none 0 0, .slice none 0 0]
  b3 : Has W P3 29 z
  bl : Below w.heap.size w W
theorem OwI.grown {nd z : Array Value} {w W W' : World} {P1 P2 P3 B : Nat} {b : Option Nat} (h : OwI nd z w W P1 P2 P3) (hg : W.grownBy W' b) (hB : W.heap.size ≤ B) (hw : w.heap.size ≤ W.heap.size) (hne : ∀ k, b = some k → k ≠ P1 ∧ k ≠ P2 ∧ k ≠ P3 ∧ w.heap.size ≤ k) : OwI nd z w W' P1 P2 P3 :=
  ⟨h.b1.grown hg (by intro e; exact (hne _ (by first | exact e | exact e.symm)).1 rfl), h.b2.grown hg (by intro e; exact (hne _ (by first | exact e | exact e.symm)).2.1 rfl), h.b3.grown hg (by intro e; exact (hne _ (by first | exact e | exact e.symm)).2.2.1 rfl), h.bl.grown hg hw (fun k hk => (hne k hk).2.2.2)⟩
theorem OwI.below {nd z : Array Value} {w W W' : World} {P1 P2 P3 : Nat} (h : OwI nd z w W P1 P2 P3) (hb : Below W.heap.size W W') : OwI nd z w W' P1 P2 P3 :=
  ⟨h.b1.below hb h.b1.lt, h.b2.below hb h.b2.lt, h.b3.below hb h.b3.lt, below_step h.bl hb⟩
theorem own_other {w : World} {b b' s s' n n' g c' : Nat} {e e' : TypeId} {v : Value} {xs xs' : List Value} (h : w.ownsRow b e s v n xs) (h' : w.ownsRow b' e' s' (.slice (some ⟨g, 0, none⟩) n' c') n' xs') (hne : e' ≠ e) (i : Nat) (u : Value) : (w.setCell ⟨g, i, none⟩ u).ownsRow b e s v n xs := by
  rcases h'.2 with ⟨h1, _⟩ | ⟨g', cap, cur, h1, _, hc, _⟩
  · cases h1
  · injection h1 with h1 _ _
    injection h1 with h1
    injection h1 with h1
    subst h1
    exact ownCell15 h (show Has w g e' cur from hc) hne i u
set_option maxRecDepth 100000 in
set_option maxHeartbeats 8000000 in
theorem trOwn_leaf (F : Nat → Prop) (p : Int) (l : List Lf) (x : NDV) (w : World) (h : RepT F w x (.leaf p l)) (hn : l.length ≤ 1000) (hpg : ∀ y ∈ l, y.pg.length ≤ 1000) : Calls Try.prog 45 #[ndV x] w (NodT (fun g => w.heap.size ≤ g) (.leaf p l) w) := by
  obtain ⟨hp, hlf, hrow⟩ := repT_rowL.1 h.old
  obtain ⟨xp, lf, kA0, kn0, kc0, vA0, vn0, vc0, dA0, dn0, dc0⟩ := x
  simp only at hp hlf
  subst hp hlf
  obtain ⟨W, hW⟩ : ∃ W, (w.alloc (.cells #[.int .i64 xp, .bool true, .slice kA0 kn0 kc0, .slice vA0 vn0 vc0, .slice dA0 dn0 dc0] 29)).alloc (.cells #[.int .i64 0, .bool false, .slice none 0 0, .slice none 0 0, .slice none 0 0] 29) = W := ⟨_, rfl⟩
  have hB0 : Below w.heap.size w W := hW ▸ (((Below.refl _ w).alloc (Nat.le_refl _) _).alloc (by simp) _)
  have hX1 : Has W w.heap.size 29 #[.int .i64 xp, .bool true, .slice kA0 kn0 kc0, .slice vA0 vn0 vc0, .slice dA0 dn0 dc0] := hW ▸ (Has.made w 29 _).alloc _
  have hX2 : Has W (w.heap.size + 1) 29 #[.int .i64 0, .bool false, .slice none 0 0, .slice none 0 0, .slice none 0 0] := hW ▸ (by have := Has.made (w.alloc (.cells #[.int .i64 xp, .bool true, .slice kA0 kn0 kc0, .slice vA0 vn0 vc0, .slice dA0 dn0 dc0] 29)) 29 #[.int .i64 0, .bool false, .slice none 0 0, .slice none 0 0, .slice none 0 0]; simpa using this)
  have hsw := trSwap_leaf (fun g => F g ∧ g < w.heap.size) ⟨xp, true, kA0, kn0, kc0, vA0, vn0, vc0, dA0, dn0, dc0⟩ ⟨0, false, none, 0, 0, none, 0, 0, none, 0, 0⟩ l [] 0 0 W (hrow.below hB0) (row_zeroL _ _ _ _) hn (by simp) (Nat.le_refl _) (by omega)
  rw [show swapL 0 0 l [] = l from by simp [swapL]] at hsw
  unfold ndV at hsw ⊢
  simp only [Int.ofNat_zero] at hsw ⊢
  have HSW := Lib.hid hsw
  have x10 := hX1.cell 0
  have x11 := hX1.cell 1
  have x12 := hX1.cell 2
  have x13 := hX1.cell 3
  have x14 := hX1.cell 4
  obtain ⟨P1, hP1⟩ : ∃ P, w.heap.size = P := ⟨_, rfl⟩
  obtain ⟨P2, hP2⟩ : ∃ P, P1 + 1 = P := ⟨_, rfl⟩
  rw [hP1] at hX1 x10 x11 x12 x13 x14
  rw [hP1, hP2] at hX2
  have HB0 := Lib.hid hB0
  have HX1 := Lib.hid hX1
  have HX2 := Lib.hid hX2
  have HORD : Hid (w.heap.size = P1 ∧ P1 < P2) := Lib.hid ⟨hP1, by omega⟩
  have HN := Lib.hid hn
  have hmx : Try.prog.follows .mixedOrders = true := by kernel_rfl
  clear h hrow hX1 hX2 hB0 hsw hn
  go_enter Try.func45, Try.ntmps45
  go_wp2_with (go_at_call 65; (with_reducible refine HSW.out.mono ?_); rintro e1 w1 ⟨⟨zp, zlf, kA1, kn1, kc1, vA1, vn1, vc1, dA1, dn1, dc1⟩, us0, rfl, rfl, rfl, o1, b1⟩; unfold ndV; simp only; have O1 := Lib.hid o1; have B1 := Lib.hid b1; have z1 := (HX1.out.below b1 HX1.out.lt); have Z1 := Lib.hid z1; have Z2 := Lib.hid (HX2.out.below b1 HX2.out.lt); have y10 : (w1.alloc (.cells #[.int .i64 0, .bool true, .slice kA1 kn1 kc1, .slice vA1 vn1 vc1, .slice dA1 dn1 dc1] 29)).cell? ⟨P1, 0, none⟩ = some (.int .i64 xp) := (z1.alloc _).cell 0; clear o1 b1 z1)
  obtain ⟨W3, hW3⟩ : ∃ W, w1.alloc (.cells #[.int .i64 xp, .bool true, .slice kA1 kn1 kc1, .slice vA1 vn1 vc1, .slice dA1 dn1 dc1] 29) = W := ⟨_, rfl⟩
  have b3 : Below w1.heap.size w1 W3 := hW3 ▸ (Below.refl _ w1).alloc (Nat.le_refl _) _
  have hI0 : OwI #[.int .i64 xp, .bool true, .slice kA0 kn0 kc0, .slice vA0 vn0 vc0, .slice dA0 dn0 dc0] #[.int .i64 xp, .bool true, .slice kA1 kn1 kc1, .slice vA1 vn1 vc1, .slice dA1 dn1 dc1] w W3 P1 P2 w1.heap.size := ⟨Z1.out.below b3 Z1.out.lt, Z2.out.below b3 Z2.out.lt, hW3 ▸ Has.made w1 29 _, below_step (below_step HB0.out B1.out) b3⟩
  have ho3 := O1.out.below b3
  rw [hW3]
  obtain ⟨P3, hP3⟩ : ∃ P, w1.heap.size = P := ⟨_, rfl⟩
  rw [hP3] at hI0 ⊢
  have HO3 := Lib.hid ho3
  have HLT : Hid (∀ k, (Value.slice dA1 dn1 dc1).ownBlock = some k → k < P3) := Lib.hid (fun k hk => by rw [← hP3]; exact (O1.out.kid.lt k hk).2)
  have HI0 := Lib.hid hI0
  have hq1 := Z1.out.lt
  have hq2 := Z2.out.lt
  have hq3 : W.heap.size ≤ P3 := by rw [← hP3]; exact B1.out.size
  have hq4 := HI0.out.b3.lt
  have hq5 := HX2.out.lt
  have HORD3 : Hid (w.heap.size = P1 ∧ P1 < P2 ∧ P2 < W.heap.size ∧ W.heap.size ≤ P3 ∧ P3 < W3.heap.size) := Lib.hid ⟨HORD.out.1, HORD.out.2, hq5, hq3, hq4⟩
  clear hW3 b3 hI0 ho3 y10 hP3 hq1 hq2 hq3 hq4 hq5 O1 Z1 Z2 B1 HX1 HX2 HB0 x10 x11 x12 x13 x14 HSW hW hP1 hP2
  clear w1
  obtain rfl : dn1 = 0 := (RwF.ofOwn HO3.out.kid).zero (by omega)
  have hlv : vn1 = l.length := by
    have e1 := (RwF.ofOwn HO3.out.val).lenS veL_len (by omega)
    have e2 := HO3.out.both.1
    simp only at e1
    omega
  have HLV := Lib.hid hlv
  have hvb : vn1 ≤ 1000 := by have := HN.out; omega
  have HPG := Lib.hid hpg
  clear hlv hpg
  go_loopw [17] (fun i wr => ∃ (k : Nat) (us : List VE), k ≤ vn1 ∧ i = .int .i64 (k : Int) ∧ OwI #[.int .i64 xp, .bool true, .slice kA0 kn0 kc0, .slice vA0 vn0 vc0, .slice dA0 dn0 dc0] #[.int .i64 xp, .bool true, .slice kA1 kn1 kc1, .slice vA1 vn1 vc1, .slice dA1 0 dc1] w wr P1 P2 P3 ∧ wr.ownsRow W.heap.size 9 1 (.slice kA1 kn1 kc1) kn1 (l.map fun y => strV y.k) ∧ wr.ownsRow W.heap.size 84 2 (.slice vA1 vn1 vc1) vn1 (flatS veL us) ∧ wr.ownsRow W.heap.size 29 5 (.slice dA1 0 dc1) 0 [] ∧ W3.heap.size ≤ wr.heap.size ∧ us.length = l.length ∧ ∀ (j : Nat) v y, us[j]? = some v → l[j]? = some y → ValR (fun q => if j < k then W3.heap.size ≤ q else q < w.heap.size) wr v y) (fun i _ => vn1 - (intOf i).toNat)
  case atStart => exact ⟨0, us0, Nat.zero_le _, rfl, HI0.out, HO3.out.key, HO3.out.val, HO3.out.kid, Nat.le_refl _, HO3.out.both.1, fun j v y h1 h2 => by have h3 := HO3.out.both.2 j v y h1 h2; exact ⟨h3.1, h3.2.mono fun q hq => by rw [if_neg (by omega)]; exact hq.2⟩⟩
  case round =>
    obtain ⟨k, us, hkk, rfl, hI, hok, hov, hod, hsz, hul, hbo⟩ := hrel
    have HI := Lib.hid hI
    have HOK := Lib.hid hok
    have HOV := Lib.hid hov
    have HOD := Lib.hid hod
    have HUL := Lib.hid hul
    have HBO := Lib.hid hbo
    have HSZ := Lib.hid hsz
    by_cases hlt : k < vn1
    · obtain ⟨g, cp, hform, hg1, hg2⟩ := hov.form (by omega)
      injection hform with hA _ hc
      subst hA hc
      obtain ⟨v, hv⟩ : ∃ v, us[k]? = some v := ⟨_, List.getElem?_eq_getElem (by rw [hul, ← HLV.out]; exact hlt)⟩
      obtain ⟨y, hy⟩ : ∃ y, l[k]? = some y := ⟨_, List.getElem?_eq_getElem (by rw [← HLV.out]; exact hlt)⟩
      have hvy := hbo k v y hv hy
      have c0 : wr.cell? ⟨g, k * 2, none⟩ = some (.string ⟨v.d.toArray⟩) := by rw [hov.cellAt (k * 2) (by omega)]; exact (flatS_at veL_len hv (r := 0) (by omega)).trans rfl
      have c1 : wr.cell? ⟨g, k * 2 + 1, none⟩ = some (.slice v.pa v.pn v.pc) := by rw [hov.cellAt (k * 2 + 1) (by omega)]; exact (flatS_at veL_len hv (r := 1) (by omega)).trans rfl
      obtain ⟨sd, hsd⟩ : ∃ s : ByteArray, (⟨v.d.toArray⟩ : ByteArray) = s := ⟨_, rfl⟩
      rw [hsd] at c0
      have i0 : (0 : Int) ≤ (k : Int) := by omega
      have i1 : (k : Int) < (vn1 : Int) := by omega
      obtain ⟨V5, hV5⟩ : ∃ W, wr.alloc (.cells #[.string sd, .slice v.pa v.pn v.pc] 84) = W := ⟨_, rfl⟩
      have b5 : Below wr.heap.size wr V5 := hV5 ▸ (Below.refl _ wr).alloc (Nat.le_refl _) _
      have hX5 : Has V5 wr.heap.size 84 #[.string sd, .slice v.pa v.pn v.pc] := hV5 ▸ Has.made wr 84 _
      have hI5 := hI.below b5
      have hg3 : g ≠ P3 := by
        intro e
        subst e
        rcases hov.2 with ⟨h, _⟩ | ⟨g', cap, cur, h, _, hc, _⟩
        · cases h
        · injection h with h _ _
          injection h with h
          injection h with h
          subst h
          exact hI.b3.apart (show Has wr g 84 cur from hc) (by decide) rfl
      have hpn : v.pn ≤ 1000 := by
        have h1 := hvy.2.len
        have h2 := HPG.out y (List.mem_of_getElem? hy)
        simp at h1
        omega
      have HB5 := Lib.hid b5
      have HX5 := Lib.hid hX5
      have HI5 := Lib.hid hI5
      have HV5 := Lib.hid hV5
      have HVY := Lib.hid hvy
      have HKV := Lib.hid hv
      have HKY := Lib.hid hy
      have HSD := Lib.hid hsd
      have hpa : Hid (g ≠ P3 ∧ g < wr.heap.size ∧ W.heap.size ≤ g) := Lib.hid ⟨hg3, hg2, hg1⟩
      clear hI hok hov hod hul hbo hvy hv hy b5 hX5 hI5 hV5 hsz hsd hg3 hg1 hg2
      go_wp2
      rw [HV5.out]
      obtain ⟨P5, hP5⟩ : ∃ P, wr.heap.size = P := ⟨_, rfl⟩
      rw [hP5] at HX5 hpa ⊢
      have HXL : Hid (∀ w' : World, V5.grownBy w' (some g) → w'.cell? ⟨P3, 3, none⟩ = some (.slice (some ⟨g, 0, none⟩) vn1 vc1) ∧ w'.cell? ⟨P5, 1, none⟩ = some (.slice v.pa v.pn v.pc)) := Lib.hid (fun w' hb => ⟨(HI5.out.b3.grown hb (by intro e; injection e with e; exact hpa.out.1 e.symm)).cell 3, (HX5.out.grown hb (by intro e; injection e with e; have := hpa.out.2.1; omega)).cell 1⟩)
      have hS0 : V5.grownBy V5.drew (some g) := ⟨rfl, rfl, rfl, Nat.le_refl _, fun _ _ _ => rfl⟩
      have hT0 : Below V5.heap.size V5 V5.drew := (Below.refl _ V5).drew
      have HP5 := Lib.hid hP5
      have hgl : g < W3.heap.size := (HO3.out.val.lt g rfl).2
      have HGL := Lib.hid hgl
      clear hP5 hgl c0 c1
      go_wp2
      rename_i K hK hz
      refine wp_heldN (fun w' : World => V5.grownBy w' (some g)) hmx ?_
      obtain ⟨Wd, hWd⟩ : ∃ W, V5.drew = W := ⟨_, rfl⟩
      rw [hWd] at hS0 hT0 ⊢
      have HWS : Hid (Wd.heap.size = V5.heap.size) := Lib.hid (by rw [← hWd]; rfl)
      clear hWd
      refine wpAnyH_take (i := 0) (v := .pointer (some ⟨P3, 3, none⟩)) (lit rfl) (by kernel_rfl) (by kernel_rfl) (by kernel_rfl) (fun _ _ _ h => h) (Or.inl ⟨by rfl, ?_⟩) hS0 ?_
      · rintro w6 hb6
        go_simp
      simp only [Act.put, List.setIfInBounds_toArray, List.set_cons_zero, List.set_cons_succ]
      refine wpAnyH_take (i := 1) (v := .slice (some ⟨g, 0, none⟩) vn1 vc1) (lit rfl) (by kernel_rfl) (by kernel_rfl) (by kernel_rfl) (fun _ _ _ h => h) (Or.inl ⟨by rfl, ?_⟩) hS0 ?_
      · rintro w6 hb6
        have y6 := (HXL.out w6 hb6).1
        go_simp
      simp only [Act.put, List.setIfInBounds_toArray, List.set_cons_zero, List.set_cons_succ]
      refine wpAnyH_take (i := 2) (v := .int .i64 (k : Int)) (lit rfl) (by kernel_rfl) (by kernel_rfl) (by kernel_rfl) (fun _ _ _ h => h) (Or.inl ⟨by rfl, ?_⟩) hS0 ?_
      · rintro w6 hb6
        go_simp
      simp only [Act.put, List.setIfInBounds_toArray, List.set_cons_zero, List.set_cons_succ]
      refine wpAnyH_take (i := 3) (v := .pointer (some ⟨P5, 1, none⟩)) (lit rfl) (by kernel_rfl) (by kernel_rfl) (by kernel_rfl) (fun _ _ _ h => h) (Or.inl ⟨by rfl, ?_⟩) hS0 ?_
      · rintro w6 hb6
        go_simp
      simp only [Act.put, List.setIfInBounds_toArray, List.set_cons_zero, List.set_cons_succ]
      refine wpAnyH_take (i := 4) (v := .slice v.pa v.pn v.pc) (lit rfl) (by kernel_rfl) (by kernel_rfl) (by kernel_rfl) (fun _ _ _ h => h) (Or.inl ⟨by rfl, ?_⟩) hS0 ?_
      · rintro w6 hb6
        have y6 := (HXL.out w6 hb6).2
        go_simp
      simp only [Act.put, List.setIfInBounds_toArray, List.set_cons_zero, List.set_cons_succ]
      refine wpAnyH_ready (rs := [5]) (by kernel_rfl) (by simp) ?_
      refine AllReadyH.cons (lit rfl) (fun K5 hK5 => ?_) AllReadyH.nil
      refine step_open rfl ?_
      go_simp
      go_at_call 66
      have hz7 := (RwF.below (And.right HVY.out) (below_step HB5.out hT0)).z
      (with_reducible refine (cloneZ15_any _ _ _ y.pg Wd hz7 (by omega)).mono ?_)
      rintro e7 w7 ⟨A7, n7, c7, rfl, r7, b7⟩
      have hT1 : Below V5.heap.size V5 w7 := below_step hT0 b7
      have hS1 : V5.grownBy w7 (some g) := only_of_below hT1 (Nat.le_refl _)
      have R7 := Lib.hid r7
      clear r7 b7
      go_simp
      refine hK5.out _ _ hS1 (fun _ => ?_)
      clear hK5 K5
      refine wpAnyH_take (i := 6) (v := .pointer (some ⟨g, k * 2, none⟩)) (lit rfl) (by kernel_rfl) (by kernel_rfl) (by kernel_rfl) (fun _ _ _ h => h) (Or.inl ⟨by rfl, ?_⟩) hS1 ?_
      · rintro w6 hb6
        go_simp
      simp only [Act.put, List.setIfInBounds_toArray, List.set_cons_zero, List.set_cons_succ]
      refine wpAnyH_take (i := 7) (v := .pointer (some ⟨g, k * 2 + 1, none⟩)) (lit rfl) (by kernel_rfl) (by kernel_rfl) (by kernel_rfl) (fun _ _ _ h => h) (Or.inl ⟨by rfl, ?_⟩) hS1 ?_
      · rintro w6 hb6
        go_simp
      simp only [Act.put, List.setIfInBounds_toArray, List.set_cons_zero, List.set_cons_succ]
      refine wpAnyH_ready (rs := [8]) (by kernel_rfl) (by simp) ?_
      refine AllReadyH.cons (lit rfl) (fun K5 hK5 => ?_) AllReadyH.nil
      refine step_open rfl ?_
      go_simp
      have ho7 := ownBelow15 HOV.out (below_step HB5.out hT1)
      have q0 : w7.cell? ⟨g, k * 2 + 1, none⟩ = some (.slice v.pa v.pn v.pc) := (ho7.cellAt _ (by omega)).trans ((flatS_at veL_len HKV.out (r := 1) (by omega)).trans rfl)
      have q1 := ho7.frozenAt (k * 2 + 1)
      have hS2 := only_store hS1 (k * 2 + 1) (.slice A7 n7 c7)
      go_simp
      refine hK5.out _ _ hS2 (fun _ => ?_)
      clear hK5 K5
      refine wpAnyH_done (by kernel_rfl) ?_ _
      refine hK _ _ ?_
      have hst := (ho7.stored (k * 2 + 1) (.slice A7 n7 c7))
      rw [ve_put HKV.out] at hst
      have hb7 : Below wr.heap.size wr w7 := below_step HB5.out hT1
      have hord := HORD3.out
      have hpp := hpa.out
      have hP5b : wr.heap.size = P5 := HP5.out
      have hWsz := HWS.out
      have hsz := HSZ.out
      have h8 := HB5.out.size
      have HI8 := Lib.hid ((HI.out.below hb7).grown hst.2 (Nat.le_refl _) (by have := hb7.size; omega) (fun q hq => by injection hq with hq; subst hq; omega))
      have HOK8 := Lib.hid (own_other (ownBelow15 HOK.out hb7) ho7 (by decide) (k * 2 + 1) (.slice A7 n7 c7))
      have HOD8 := Lib.hid (own_other (ownBelow15 HOD.out hb7) ho7 (by decide) (k * 2 + 1) (.slice A7 n7 c7))
      have HOV8 := Lib.hid hst.1
      have HSZ8 : Hid (W3.heap.size ≤ (w7.setCell ⟨g, k * 2 + 1, none⟩ (.slice A7 n7 c7)).heap.size) := Lib.hid (by have := hst.2.size; have := hb7.size; omega)
      have HBO8 : Hid (∀ (j : Nat) v' y', (us.set k ⟨v.d, A7, n7, c7⟩)[j]? = some v' → l[j]? = some y' → ValR (fun q => if j < k + 1 then W3.heap.size ≤ q else q < w.heap.size) (w7.setCell ⟨g, k * 2 + 1, none⟩ (.slice A7 n7 c7)) v' y') := Lib.hid (fun j v' y' h1 h2 => by
        by_cases hj : j = k
        · subst hj
          rw [List.getElem?_set_self (by have := (List.getElem?_eq_some_iff.1 HKV.out).1; exact this)] at h1
          injection h1 with h1
          subst h1
          rw [HKY.out] at h2
          injection h2 with h2
          subst h2
          exact ⟨And.left HVY.out, R7.out.move fun q hq hl => ⟨by rw [if_pos (by omega)]; omega, Below.heap_setCell w7 ⟨g, j * 2 + 1, none⟩ _ q (by show q ≠ g; omega)⟩⟩
        · rw [List.getElem?_set_ne (by omega)] at h1
          have h3 := HBO.out j v' y' h1 h2
          refine ⟨h3.1, h3.2.move fun q hq hl => ?_⟩
          have hgl2 := HGL.out
          by_cases hjk : j < k
          · rw [if_pos hjk] at hq
            rw [if_pos (by omega)]
            exact ⟨hq, (Below.heap_setCell w7 ⟨g, k * 2 + 1, none⟩ _ q (by show q ≠ g; omega)).trans (hb7.block q hl)⟩
          · rw [if_neg hjk] at hq
            rw [if_neg (by omega)]
            exact ⟨hq, (Below.heap_setCell w7 ⟨g, k * 2 + 1, none⟩ _ q (by show q ≠ g; omega)).trans (hb7.block q hl)⟩)
      clear hst ho7 q0 q1 hb7 hord hpp hP5b hWsz hsz h8 hS2 hT1 hS0 hT0
      go_wp2
      go_roundw
      case rel => exact ⟨k + 1, _, by omega, by go_num, HI8.out, HOK8.out, HOV8.out, HOD8.out, HSZ8.out, by rw [List.length_set]; exact HUL.out, HBO8.out⟩
      case measure => simp [intOf]; omega
    · have hkn : k = vn1 := by omega
      have i1 : ¬ (k : Int) < (vn1 : Int) := by omega
      have x30 := hI.b3.cell 0
      have x31 := hI.b3.cell 1
      have x32 := hI.b3.cell 2
      have x33 := hI.b3.cell 3
      have x34 := hI.b3.cell 4
      have x20 := hI.b2.cell 0
      have x21 := hI.b2.cell 1
      have x22 := hI.b2.cell 2
      have x23 := hI.b2.cell 3
      have x24 := hI.b2.cell 4
      have f20 := hI.b2.free 0
      have f21 := hI.b2.free 1
      have f22 := hI.b2.free 2
      have f23 := hI.b2.free 3
      have f24 := hI.b2.free 4
      have XE := hI.b2.st5 (.int .i64 xp) (.bool true) (.slice kA1 kn1 kc1) (.slice vA1 vn1 vc1) (.slice dA1 0 dc1)
      have e0 := XE.cell 0
      have e1 := XE.cell 1
      have e2 := XE.cell 2
      have e3 := XE.cell 3
      have e4 := XE.cell 4
      unfold st5 at e0 e1 e2 e3 e4
      simp at e0 e1 e2 e3 e4
      have hfin : NodT (fun q => w.heap.size ≤ q) (.leaf xp l) w (.returned (ndV ⟨xp, true, kA1, kn1, kc1, vA1, vn1, vc1, dA1, 0, dc1⟩)) (st5 wr P2 (.int .i64 xp) (.bool true) (.slice kA1 kn1 kc1) (.slice vA1 vn1 vc1) (.slice dA1 0 dc1)) := by
        have hord := HORD3.out
        have hL := HLV.out
        have hrow : RowL (fun q => W.heap.size ≤ q) wr ⟨xp, true, kA1, kn1, kc1, vA1, vn1, vc1, dA1, 0, dc1⟩ l := ⟨RwF.ofOwn hok, ⟨us, RwF.ofOwn hov, ⟨hul, fun j v y h1 h2 => by
          have h3 := hbo j v y h1 h2
          have hj := (List.getElem?_eq_some_iff.1 h2).1
          exact ⟨h3.1, h3.2.mono fun q hq => by rw [if_pos (by omega)] at hq; omega⟩⟩⟩, RwF.ofOwn hod⟩
        exact ⟨_, rfl, repT_rowL.2 ⟨rfl, rfl, hrow.move fun q hq hl => ⟨by omega, heap_st5 wr P2 _ _ _ _ _ q (by omega)⟩⟩, below_st5 hI.bl (by omega) _ _ _ _ _⟩
      have HFIN := Lib.hid hfin
      clear hfin XE hkn HI HOK HOV HOD HUL HBO HSZ hI hok hov hod hsz hul hbo
      obtain ⟨wo, hwo⟩ : ∃ wo : World, wo = wr := ⟨_, rfl⟩
      subst hwo
      go_wp2
      go_loopw [34] (fun i wr => i = .int .i64 0 ∧ wr = wo) (fun _ _ => 0)
      case atStart => exact ⟨rfl, rfl⟩
      case round =>
        obtain ⟨rfl, rfl⟩ := hrel
        go_wp2
        refine ⟨rfl, .agg #[.int .i64 xp, .bool true, .slice kA1 kn1 kc1, .slice vA1 vn1 vc1, .slice dA1 0 dc1], ?_, ?_⟩
        · simp [results, Try.f45, go_sem, e0, e1, e2, e3, e4]
        · exact HFIN.out
def sta5 (w : World) (P i : Nat) (a b c d e : Value) : World := ((((w.setCell ⟨P, i, none⟩ a).setCell ⟨P, i + 1, none⟩ b).setCell ⟨P, i + 2, none⟩ c).setCell ⟨P, i + 3, none⟩ d).setCell ⟨P, i + 4, none⟩ e
theorem heap_sta (w : World) (P i : Nat) (a b c d e : Value) (q : Nat) (hq : q ≠ P) : (sta5 w P i a b c d e).heap[q]? = w.heap[q]? :=
  (Below.heap_setCell _ ⟨P, i + 4, none⟩ e q hq).trans ((Below.heap_setCell _ ⟨P, i + 3, none⟩ d q hq).trans ((Below.heap_setCell _ ⟨P, i + 2, none⟩ c q hq).trans ((Below.heap_setCell _ ⟨P, i + 1, none⟩ b q hq).trans (Below.heap_setCell w ⟨P, i, none⟩ a q hq))))
theorem own_put5 {w : World} {B n c g k : Nat} {us : List NDV} {v : NDV} (h : w.ownsRow B 29 5 (.slice (some ⟨g, 0, none⟩) n c) n (flatS ndL us)) (hv : us[k]? = some v) (x : NDV) : (sta5 w g (k * 5) (.int .i64 x.p) (.bool x.lf) (.slice x.kA x.kn x.kc) (.slice x.vA x.vn x.vc) (.slice x.dA x.dn x.dc)).ownsRow B 29 5 (.slice (some ⟨g, 0, none⟩) n c) n (flatS ndL (us.set k x)) ∧ w.grownBy (sta5 w g (k * 5) (.int .i64 x.p) (.bool x.lf) (.slice x.kA x.kn x.kc) (.slice x.vA x.vn x.vc) (.slice x.dA x.dn x.dc)) (some g) := by
  have h1 := h.stored (k * 5) (.int .i64 x.p)
  have h2 := h1.1.stored (k * 5 + 1) (.bool x.lf)
  have h3 := h2.1.stored (k * 5 + 2) (.slice x.kA x.kn x.kc)
  have h4 := h3.1.stored (k * 5 + 3) (.slice x.vA x.vn x.vc)
  have h5 := h4.1.stored (k * 5 + 4) (.slice x.dA x.dn x.dc)
  rw [← nd_put hv x]
  exact ⟨h5.1, only_store (only_store (only_store (only_store (only_store (only_refl w g) _ _) _ _) _ _) _ _) _ _⟩
theorem own_far5 {w : World} {b b' s s' n n' g c' : Nat} {e e' : TypeId} {v : Value} {xs xs' : List Value} (h : w.ownsRow b e s v n xs) (h' : w.ownsRow b' e' s' (.slice (some ⟨g, 0, none⟩) n' c') n' xs') (hne : e' ≠ e) (i : Nat) (v0 v1 v2 v3 v4 : Value) : (sta5 w g i v0 v1 v2 v3 v4).ownsRow b e s v n xs := by
  have h1 := own_other h h' hne i v0
  have g1 := (h'.stored i v0).1
  have h2 := own_other h1 g1 hne (i + 1) v1
  have g2 := (g1.stored (i + 1) v1).1
  have h3 := own_other h2 g2 hne (i + 2) v2
  have g3 := (g2.stored (i + 2) v2).1
  have h4 := own_other h3 g3 hne (i + 3) v3
  have g4 := (g3.stored (i + 3) v3).1
  exact own_other h4 g4 hne (i + 4) v4
set_option maxRecDepth 100000 in
set_option maxHeartbeats 8000000 in
theorem trOwn_branch (F : Nat → Prop) (p : Int) (l : List (List UInt8 × Tr)) (x : NDV) (w : World) (h : RepT F w x (.branch p l)) (hn : l.length ≤ 1000) (ih : ∀ y ∈ l, ∀ (F : Nat → Prop) (x : NDV) (w : World), RepT F w x y.2 → Calls Try.prog 45 #[ndV x] w (NodT (fun g => w.heap.size ≤ g) y.2 w)) : Calls Try.prog 45 #[ndV x] w (NodT (fun g => w.heap.size ≤ g) (.branch p l) w) := by
  obtain ⟨hp, hlf, hrow⟩ := repT_rowB.1 h.old
  obtain ⟨xp, lf, kA0, kn0, kc0, vA0, vn0, vc0, dA0, dn0, dc0⟩ := x
  simp only at hp hlf
  subst hp hlf
  obtain ⟨W, hW⟩ : ∃ W, (w.alloc (.cells #[.int .i64 xp, .bool false, .slice kA0 kn0 kc0, .slice vA0 vn0 vc0, .slice dA0 dn0 dc0] 29)).alloc (.cells #[.int .i64 0, .bool false, .slice none 0 0, .slice none 0 0, .slice none 0 0] 29) = W := ⟨_, rfl⟩
  have hB0 : Below w.heap.size w W := hW ▸ (((Below.refl _ w).alloc (Nat.le_refl _) _).alloc (by simp) _)
  have hX1 : Has W w.heap.size 29 #[.int .i64 xp, .bool false, .slice kA0 kn0 kc0, .slice vA0 vn0 vc0, .slice dA0 dn0 dc0] := hW ▸ (Has.made w 29 _).alloc _
  have hX2 : Has W (w.heap.size + 1) 29 #[.int .i64 0, .bool false, .slice none 0 0, .slice none 0 0, .slice none 0 0] := hW ▸ (by have := Has.made (w.alloc (.cells #[.int .i64 xp, .bool false, .slice kA0 kn0 kc0, .slice vA0 vn0 vc0, .slice dA0 dn0 dc0] 29)) 29 #[.int .i64 0, .bool false, .slice none 0 0, .slice none 0 0, .slice none 0 0]; simpa using this)
  have hsw := trSwap_branch (fun g => F g ∧ g < w.heap.size) ⟨xp, false, kA0, kn0, kc0, vA0, vn0, vc0, dA0, dn0, dc0⟩ ⟨0, false, none, 0, 0, none, 0, 0, none, 0, 0⟩ l [] 0 0 W (hrow.below hB0) (row_zeroB _ _ _ _) hn (by simp) (Nat.le_refl _) (by omega)
  rw [show swapL 0 0 l [] = l from by simp [swapL]] at hsw
  unfold ndV at hsw ⊢
  simp only [Int.ofNat_zero] at hsw ⊢
  have HSW := Lib.hid hsw
  have x10 := hX1.cell 0
  have x11 := hX1.cell 1
  have x12 := hX1.cell 2
  have x13 := hX1.cell 3
  have x14 := hX1.cell 4
  obtain ⟨P1, hP1⟩ : ∃ P, w.heap.size = P := ⟨_, rfl⟩
  obtain ⟨P2, hP2⟩ : ∃ P, P1 + 1 = P := ⟨_, rfl⟩
  rw [hP1] at hX1 x10 x11 x12 x13 x14
  rw [hP1, hP2] at hX2
  have HB0 := Lib.hid hB0
  have HX1 := Lib.hid hX1
  have HX2 := Lib.hid hX2
  have HORD : Hid (w.heap.size = P1 ∧ P1 < P2) := Lib.hid ⟨hP1, by omega⟩
  have HN := Lib.hid hn
  have hmx : Try.prog.follows .mixedOrders = true := by kernel_rfl
  clear h hrow hX1 hX2 hB0 hsw hn
  go_enter Try.func45, Try.ntmps45
  go_wp2_with (go_at_call 65; (with_reducible refine HSW.out.mono ?_); rintro e1 w1 ⟨⟨zp, zlf, kA1, kn1, kc1, vA1, vn1, vc1, dA1, dn1, dc1⟩, ks0, rfl, rfl, rfl, o1, b1⟩; unfold ndV; simp only; have O1 := Lib.hid o1; have B1 := Lib.hid b1; have z1 := (HX1.out.below b1 HX1.out.lt); have Z1 := Lib.hid z1; have Z2 := Lib.hid (HX2.out.below b1 HX2.out.lt); have y10 : (w1.alloc (.cells #[.int .i64 0, .bool false, .slice kA1 kn1 kc1, .slice vA1 vn1 vc1, .slice dA1 dn1 dc1] 29)).cell? ⟨P1, 0, none⟩ = some (.int .i64 xp) := (z1.alloc _).cell 0; clear o1 b1 z1)
  obtain ⟨W3, hW3⟩ : ∃ W, w1.alloc (.cells #[.int .i64 xp, .bool false, .slice kA1 kn1 kc1, .slice vA1 vn1 vc1, .slice dA1 dn1 dc1] 29) = W := ⟨_, rfl⟩
  have b3 : Below w1.heap.size w1 W3 := hW3 ▸ (Below.refl _ w1).alloc (Nat.le_refl _) _
  have hI0 : OwI #[.int .i64 xp, .bool false, .slice kA0 kn0 kc0, .slice vA0 vn0 vc0, .slice dA0 dn0 dc0] #[.int .i64 xp, .bool false, .slice kA1 kn1 kc1, .slice vA1 vn1 vc1, .slice dA1 dn1 dc1] w W3 P1 P2 w1.heap.size := ⟨Z1.out.below b3 Z1.out.lt, Z2.out.below b3 Z2.out.lt, hW3 ▸ Has.made w1 29 _, below_step (below_step HB0.out B1.out) b3⟩
  have ho3 := O1.out.below b3
  rw [hW3]
  obtain ⟨P3, hP3⟩ : ∃ P, w1.heap.size = P := ⟨_, rfl⟩
  rw [hP3] at hI0 ⊢
  have HO3 := Lib.hid ho3
  have HLT : Hid (∀ k, (Value.slice dA1 dn1 dc1).ownBlock = some k → k < P3) := Lib.hid (fun k hk => by rw [← hP3]; exact (O1.out.kid.lt k hk).2)
  have HI0 := Lib.hid hI0
  have hq1 := Z1.out.lt
  have hq2 := Z2.out.lt
  have hq3 : W.heap.size ≤ P3 := by rw [← hP3]; exact B1.out.size
  have hq4 := HI0.out.b3.lt
  have hq5 := HX2.out.lt
  have HORD3 : Hid (w.heap.size = P1 ∧ P1 < P2 ∧ P2 < W.heap.size ∧ W.heap.size ≤ P3 ∧ P3 < W3.heap.size) := Lib.hid ⟨HORD.out.1, HORD.out.2, hq5, hq3, hq4⟩
  clear hW3 b3 hI0 ho3 y10 hP3 hq1 hq2 hq3 hq4 hq5 O1 Z1 Z2 B1 HX1 HX2 HB0 x10 x11 x12 x13 x14 HSW hW hP1 hP2
  clear w1
  obtain rfl : vn1 = 0 := (RwF.ofOwn HO3.out.val).zero (by omega)
  rw [show (((0 : Nat) : Int)) = 0 from rfl]
  have hlv : dn1 = l.length := by
    have e1 := (RwF.ofOwn HO3.out.kid).lenS ndL_len (by omega)
    have e2 := HO3.out.both.1
    simp only at e1
    omega
  have HLV := Lib.hid hlv
  have hvb : dn1 ≤ 1000 := by have := HN.out; omega
  have HIH0 := Lib.hid ih
  have z34 := HI0.out.b3.cell 4
  have HNE : Hid (∀ (g : Nat), dA1 = some ⟨g, 0, none⟩ → g ≠ P3) := Lib.hid (fun g e1 => by
    subst e1
    exact Nat.ne_of_lt (HLT.out g rfl))
  clear hlv ih
  go_loopw [17] (fun i wr => i = .int .i64 0 ∧ wr = W3) (fun _ _ => 0)
  case atStart => exact ⟨rfl, rfl⟩
  case round =>
    obtain ⟨rfl, rfl⟩ := hrel
    obtain ⟨wo, hwo⟩ : ∃ wo : World, wo = wr := ⟨_, rfl⟩
    subst hwo
    go_wp2
    clear z34
    go_loopw [34] (fun i wr => ∃ (k : Nat) (us : List NDV), k ≤ dn1 ∧ i = .int .i64 (k : Int) ∧ OwI #[.int .i64 xp, .bool false, .slice kA0 kn0 kc0, .slice vA0 vn0 vc0, .slice dA0 dn0 dc0] #[.int .i64 xp, .bool false, .slice kA1 kn1 kc1, .slice vA1 0 vc1, .slice dA1 dn1 dc1] w wr P1 P2 P3 ∧ wr.ownsRow W.heap.size 9 1 (.slice kA1 kn1 kc1) kn1 (l.map fun y => strV y.1) ∧ wr.ownsRow W.heap.size 84 2 (.slice vA1 0 vc1) 0 [] ∧ wr.ownsRow W.heap.size 29 5 (.slice dA1 dn1 dc1) dn1 (flatS ndL us) ∧ wo.heap.size ≤ wr.heap.size ∧ us.length = l.length ∧ ∀ (j : Nat) v (y : List UInt8 × Tr), us[j]? = some v → l[j]? = some y → RepT (fun q => if j < k then wo.heap.size ≤ q else q < w.heap.size) wr v y.2) (fun i _ => dn1 - (intOf i).toNat)
    case atStart => exact ⟨0, ks0, Nat.zero_le _, rfl, HI0.out, HO3.out.key, HO3.out.val, HO3.out.kid, Nat.le_refl _, HO3.out.both.1, fun j v y h1 h2 => by have h3 := HO3.out.both.2 j v y h1 h2; exact RepT.mono h3 fun q hq => by rw [if_neg (by omega)]; exact hq.2⟩
    case round =>
      obtain ⟨k, us, hkk, rfl, hI, hok, hov, hod, hsz, hul, hbo⟩ := hrel
      have HI := Lib.hid hI
      have HOK := Lib.hid hok
      have HOV := Lib.hid hov
      have HOD := Lib.hid hod
      have HUL := Lib.hid hul
      have HBO := Lib.hid hbo
      have HSZ := Lib.hid hsz
      by_cases hlt : k < dn1
      · obtain ⟨g, cp, hform, hg1, hg2⟩ := hod.form (by omega)
        injection hform with hA _ hc
        subst hA hc
        obtain ⟨v, hv⟩ : ∃ v, us[k]? = some v := ⟨_, List.getElem?_eq_getElem (by rw [hul, ← HLV.out]; exact hlt)⟩
        obtain ⟨y, hy⟩ : ∃ y, l[k]? = some y := ⟨_, List.getElem?_eq_getElem (by rw [← HLV.out]; exact hlt)⟩
        have hvy := hbo k v y hv hy
        obtain ⟨ep, elf, ekA, ekn, ekc, evA, evn, evc, edA, edn, edc⟩ := v
        have c0 : wr.cell? ⟨g, k * 5, none⟩ = some (.int .i64 ep) := by rw [hod.cellAt (k * 5) (by omega)]; exact (flatS_at ndL_len hv (r := 0) (by omega)).trans rfl
        have c1 : wr.cell? ⟨g, k * 5 + 1, none⟩ = some (.bool elf) := by rw [hod.cellAt (k * 5 + 1) (by omega)]; exact (flatS_at ndL_len hv (r := 1) (by omega)).trans rfl
        have c2 : wr.cell? ⟨g, k * 5 + 2, none⟩ = some (.slice ekA ekn ekc) := by rw [hod.cellAt (k * 5 + 2) (by omega)]; exact (flatS_at ndL_len hv (r := 2) (by omega)).trans rfl
        have c3 : wr.cell? ⟨g, k * 5 + 3, none⟩ = some (.slice evA evn evc) := by rw [hod.cellAt (k * 5 + 3) (by omega)]; exact (flatS_at ndL_len hv (r := 3) (by omega)).trans rfl
        have c4 : wr.cell? ⟨g, k * 5 + 4, none⟩ = some (.slice edA edn edc) := by rw [hod.cellAt (k * 5 + 4) (by omega)]; exact (flatS_at ndL_len hv (r := 4) (by omega)).trans rfl
        have i0 : (0 : Int) ≤ (k : Int) := by omega
        have i1 : (k : Int) < (dn1 : Int) := by omega
        obtain ⟨V5, hV5⟩ : ∃ W, wr.alloc (.cells #[.int .i64 ep, .bool elf, .slice ekA ekn ekc, .slice evA evn evc, .slice edA edn edc] 29) = W := ⟨_, rfl⟩
        have b5 : Below wr.heap.size wr V5 := hV5 ▸ (Below.refl _ wr).alloc (Nat.le_refl _) _
        have hX5 : Has V5 wr.heap.size 29 #[.int .i64 ep, .bool elf, .slice ekA ekn ekc, .slice evA evn evc, .slice edA edn edc] := hV5 ▸ Has.made wr 29 _
        have hI5 := hI.below b5
        have hgl : g < wo.heap.size := (HO3.out.kid.lt g rfl).2
        have hg3 : g ≠ P3 := HNE.out g rfl
        have HB5 := Lib.hid b5
        have HX5 := Lib.hid hX5
        have HI5 := Lib.hid hI5
        have HV5 := Lib.hid hV5
        have HVY := Lib.hid hvy
        have HKV := Lib.hid hv
        have HKY := Lib.hid hy
        have HIH := Lib.hid (fun (w' : World) (hb : Below wr.heap.size wr w') => HIH0.out y (List.mem_of_getElem? hy) _ _ w' (RepT.stay hvy hb))
        unfold ndV at HIH
        simp only at HIH
        have hpa : Hid (g ≠ P3 ∧ g < wr.heap.size ∧ W.heap.size ≤ g) := Lib.hid ⟨hg3, hg2, hg1⟩
        have HGL := Lib.hid hgl
        clear hI hok hov hod hul hbo hvy hv hy b5 hX5 hI5 hV5 hsz hg3 hg1 hg2 hgl
        go_wp2
        rw [HV5.out]
        obtain ⟨P5, hP5⟩ : ∃ P, wr.heap.size = P := ⟨_, rfl⟩
        rw [hP5] at HX5 hpa ⊢
        have HXL : Hid (∀ w' : World, V5.grownBy w' (some g) → w'.cell? ⟨P3, 4, none⟩ = some (.slice (some ⟨g, 0, none⟩) dn1 dc1) ∧ w'.cell? ⟨P5, 0, none⟩ = some (.int .i64 ep) ∧ w'.cell? ⟨P5, 1, none⟩ = some (.bool elf) ∧ w'.cell? ⟨P5, 2, none⟩ = some (.slice ekA ekn ekc) ∧ w'.cell? ⟨P5, 3, none⟩ = some (.slice evA evn evc) ∧ w'.cell? ⟨P5, 4, none⟩ = some (.slice edA edn edc)) := Lib.hid (fun w' hb => by
          have z5 := HX5.out.grown hb (by intro e; injection e with e; have := hpa.out.2.1; omega)
          exact ⟨(HI5.out.b3.grown hb (by intro e; injection e with e; exact hpa.out.1 e.symm)).cell 4, z5.cell 0, z5.cell 1, z5.cell 2, z5.cell 3, z5.cell 4⟩)
        have hS0 : V5.grownBy V5.drew (some g) := ⟨rfl, rfl, rfl, Nat.le_refl _, fun _ _ _ => rfl⟩
        have hT0 : Below V5.heap.size V5 V5.drew := (Below.refl _ V5).drew
        have HP5 := Lib.hid hP5
        clear hP5 c0 c1 c2 c3 c4
        go_wp2
        rename_i K hK hz
        refine wp_heldN (fun w' : World => V5.grownBy w' (some g)) hmx ?_
        obtain ⟨Wd, hWd⟩ : ∃ W, V5.drew = W := ⟨_, rfl⟩
        rw [hWd] at hS0 hT0 ⊢
        have HWS : Hid (Wd.heap.size = V5.heap.size) := Lib.hid (by rw [← hWd]; rfl)
        clear hWd
        refine wpAnyH_take (i := 0) (v := .pointer (some ⟨P3, 4, none⟩)) (lit rfl) (by kernel_rfl) (by kernel_rfl) (by kernel_rfl) (fun _ _ _ h => h) (Or.inl ⟨by rfl, ?_⟩) hS0 ?_
        · rintro w6 hb6
          go_simp
        simp only [Act.put, List.setIfInBounds_toArray, List.set_cons_zero, List.set_cons_succ]
        refine wpAnyH_take (i := 1) (v := .slice (some ⟨g, 0, none⟩) dn1 dc1) (lit rfl) (by kernel_rfl) (by kernel_rfl) (by kernel_rfl) (fun _ _ _ h => h) (Or.inl ⟨by rfl, ?_⟩) hS0 ?_
        · rintro w6 hb6
          have y6 := (HXL.out w6 hb6).1
          go_simp
        simp only [Act.put, List.setIfInBounds_toArray, List.set_cons_zero, List.set_cons_succ]
        refine wpAnyH_take (i := 2) (v := .int .i64 (k : Int)) (lit rfl) (by kernel_rfl) (by kernel_rfl) (by kernel_rfl) (fun _ _ _ h => h) (Or.inl ⟨by rfl, ?_⟩) hS0 ?_
        · rintro w6 hb6
          go_simp
        simp only [Act.put, List.setIfInBounds_toArray, List.set_cons_zero, List.set_cons_succ]
        refine wpAnyH_take (i := 3) (v := .agg #[.int .i64 ep, .bool elf, .slice ekA ekn ekc, .slice evA evn evc, .slice edA edn edc]) (lit rfl) (by kernel_rfl) (by kernel_rfl) (by kernel_rfl) (fun _ _ _ h => h) (Or.inl ⟨by rfl, ?_⟩) hS0 ?_
        · rintro w6 hb6
          obtain ⟨_, y60, y61, y62, y63, y64⟩ := HXL.out w6 hb6
          go_simp
        simp only [Act.put, List.setIfInBounds_toArray, List.set_cons_zero, List.set_cons_succ]
        refine wpAnyH_ready (rs := [4]) (by kernel_rfl) (by simp) ?_
        refine AllReadyH.cons (lit rfl) (fun K5 hK5 => ?_) AllReadyH.nil
        refine step_open rfl ?_
        go_simp
        go_at_call 45
        (with_reducible refine (HIH.out Wd (below_step HB5.out hT0)).mono ?_)
        rintro e7 w7 ⟨⟨np, nlf, nkA, nkn, nkc, nvA, nvn, nvc, ndA, ndn, ndc⟩, rfl, r7, b7⟩
        unfold ndV
        simp only
        have hT1 : Below V5.heap.size V5 w7 := below_step hT0 b7
        have hS1 : V5.grownBy w7 (some g) := only_of_below hT1 (Nat.le_refl _)
        have R7 := Lib.hid r7
        clear r7 b7
        go_simp
        refine hK5.out _ _ hS1 (fun _ => ?_)
        clear hK5 K5
        refine wpAnyH_take (i := 5) (v := .pointer (some ⟨g, k * 5, none⟩)) (lit rfl) (by kernel_rfl) (by kernel_rfl) (by kernel_rfl) (fun _ _ _ h => h) (Or.inl ⟨by rfl, ?_⟩) hS1 ?_
        · rintro w6 hb6
          go_simp
        simp only [Act.put, List.setIfInBounds_toArray, List.set_cons_zero, List.set_cons_succ]
        refine wpAnyH_ready (rs := [6]) (by kernel_rfl) (by simp) ?_
        refine AllReadyH.cons (lit rfl) (fun K5 hK5 => ?_) AllReadyH.nil
        refine step_open rfl ?_
        go_simp
        have ho7 := ownBelow15 HOD.out (below_step HB5.out hT1)
        have q0 : w7.cell? ⟨g, k * 5, none⟩ = some (.int .i64 ep) := (ho7.cellAt _ (by omega)).trans ((flatS_at ndL_len HKV.out (r := 0) (by omega)).trans rfl)
        have q1 : w7.cell? ⟨g, k * 5 + 1, none⟩ = some (.bool elf) := (ho7.cellAt _ (by omega)).trans ((flatS_at ndL_len HKV.out (r := 1) (by omega)).trans rfl)
        have q2 : w7.cell? ⟨g, k * 5 + 2, none⟩ = some (.slice ekA ekn ekc) := (ho7.cellAt _ (by omega)).trans ((flatS_at ndL_len HKV.out (r := 2) (by omega)).trans rfl)
        have q3 : w7.cell? ⟨g, k * 5 + 3, none⟩ = some (.slice evA evn evc) := (ho7.cellAt _ (by omega)).trans ((flatS_at ndL_len HKV.out (r := 3) (by omega)).trans rfl)
        have q4 : w7.cell? ⟨g, k * 5 + 4, none⟩ = some (.slice edA edn edc) := (ho7.cellAt _ (by omega)).trans ((flatS_at ndL_len HKV.out (r := 4) (by omega)).trans rfl)
        have u0 := ho7.frozenAt (k * 5)
        have u1 := ho7.frozenAt (k * 5 + 1)
        have u2 := ho7.frozenAt (k * 5 + 2)
        have u3 := ho7.frozenAt (k * 5 + 3)
        have u4 := ho7.frozenAt (k * 5 + 4)
        have hS2 := only_store (only_store (only_store (only_store (only_store hS1 (k * 5) (.int .i64 np)) (k * 5 + 1) (.bool nlf)) (k * 5 + 2) (.slice nkA nkn nkc)) (k * 5 + 3) (.slice nvA nvn nvc)) (k * 5 + 4) (.slice ndA ndn ndc)
        go_simp
        refine hK5.out _ _ hS2 (fun _ => ?_)
        clear hK5 K5
        refine wpAnyH_done (by kernel_rfl) ?_ _
        refine hK _ _ ?_
        have hb7 : Below wr.heap.size wr w7 := below_step HB5.out hT1
        have hst := own_put5 ho7 HKV.out ⟨np, nlf, nkA, nkn, nkc, nvA, nvn, nvc, ndA, ndn, ndc⟩
        simp only at hst
        have hord := HORD3.out
        have hpp := hpa.out
        have hP5b : wr.heap.size = P5 := HP5.out
        have hWsz := HWS.out
        have hsz := HSZ.out
        have h8 := HB5.out.size
        have hgl2 := HGL.out
        have hk8 := own_far5 (ownBelow15 HOK.out hb7) ho7 (by decide) (k * 5) (.int .i64 np) (.bool nlf) (.slice nkA nkn nkc) (.slice nvA nvn nvc) (.slice ndA ndn ndc)
        have hv8 := own_far5 (ownBelow15 HOV.out hb7) ho7 (by decide) (k * 5) (.int .i64 np) (.bool nlf) (.slice nkA nkn nkc) (.slice nvA nvn nvc) (.slice ndA ndn ndc)
        have hh8 := fun q (hq : q ≠ g) => heap_sta w7 g (k * 5) (.int .i64 np) (.bool nlf) (.slice nkA nkn nkc) (.slice nvA nvn nvc) (.slice ndA ndn ndc) q hq
        unfold sta5 at hst hk8 hv8 hh8
        obtain ⟨W8, hW8⟩ : ∃ W, ((((w7.setCell ⟨g, k * 5, none⟩ (.int .i64 np)).setCell ⟨g, k * 5 + 1, none⟩ (.bool nlf)).setCell ⟨g, k * 5 + 2, none⟩ (.slice nkA nkn nkc)).setCell ⟨g, k * 5 + 3, none⟩ (.slice nvA nvn nvc)).setCell ⟨g, k * 5 + 4, none⟩ (.slice ndA ndn ndc) = W := ⟨_, rfl⟩
        rw [hW8] at hst hk8 hv8 hh8 hS2 ⊢
        have HI8 := Lib.hid ((HI.out.below hb7).grown hst.2 (Nat.le_refl _) (by have := hb7.size; omega) (fun q hq => by injection hq with hq; subst hq; omega))
        have HOK8 := Lib.hid hk8
        have HOV8 := Lib.hid hv8
        have HOD8 := Lib.hid hst.1
        have HSZ8 : Hid (wo.heap.size ≤ W8.heap.size) := Lib.hid (by have := hst.2.size; have := hb7.size; omega)
        have HBO8 : Hid (∀ (j : Nat) v' (y' : List UInt8 × Tr), (us.set k ⟨np, nlf, nkA, nkn, nkc, nvA, nvn, nvc, ndA, ndn, ndc⟩)[j]? = some v' → l[j]? = some y' → RepT (fun q => if j < k + 1 then wo.heap.size ≤ q else q < w.heap.size) W8 v' y'.2) := Lib.hid (fun j v' y' h1 h2 => by
          by_cases hj : j = k
          · subst hj
            rw [List.getElem?_set_self (by have := (List.getElem?_eq_some_iff.1 HKV.out).1; exact this)] at h1
            injection h1 with h1
            subst h1
            rw [HKY.out] at h2
            injection h2 with h2
            subst h2
            exact RepT.move (fun q hq hl => ⟨by rw [if_pos (by omega)]; omega, hh8 q (by omega)⟩) R7.out
          · rw [List.getElem?_set_ne (by omega)] at h1
            have h3 := HBO.out j v' y' h1 h2
            refine RepT.move (fun q hq hl => ?_) h3
            by_cases hjk : j < k
            · rw [if_pos hjk] at hq
              rw [if_pos (by omega)]
              exact ⟨hq, (hh8 q (by omega)).trans (hb7.block q hl)⟩
            · rw [if_neg hjk] at hq
              rw [if_neg (by omega)]
              exact ⟨hq, (hh8 q (by omega)).trans (hb7.block q hl)⟩)
        clear hst ho7 q0 q1 q2 q3 q4 u0 u1 u2 u3 u4 hb7 hord hpp hP5b hWsz hsz h8 hS2 hT1 hS0 hT0 hk8 hv8 hh8 hW8 hgl2
        go_wp2
        go_roundw
        case rel => exact ⟨k + 1, _, by omega, by go_num, HI8.out, HOK8.out, HOV8.out, HOD8.out, HSZ8.out, by rw [List.length_set]; exact HUL.out, HBO8.out⟩
        case measure => simp [intOf]; omega
      · have hkn : k = dn1 := by omega
        have i1 : ¬ (k : Int) < (dn1 : Int) := by omega
        have x30 := hI.b3.cell 0
        have x31 := hI.b3.cell 1
        have x32 := hI.b3.cell 2
        have x33 := hI.b3.cell 3
        have x34 := hI.b3.cell 4
        have x20 := hI.b2.cell 0
        have x21 := hI.b2.cell 1
        have x22 := hI.b2.cell 2
        have x23 := hI.b2.cell 3
        have x24 := hI.b2.cell 4
        have f20 := hI.b2.free 0
        have f21 := hI.b2.free 1
        have f22 := hI.b2.free 2
        have f23 := hI.b2.free 3
        have f24 := hI.b2.free 4
        have XE := hI.b2.st5 (.int .i64 xp) (.bool false) (.slice kA1 kn1 kc1) (.slice vA1 0 vc1) (.slice dA1 dn1 dc1)
        have e0 := XE.cell 0
        have e1 := XE.cell 1
        have e2 := XE.cell 2
        have e3 := XE.cell 3
        have e4 := XE.cell 4
        unfold st5 at e0 e1 e2 e3 e4
        simp at e0 e1 e2 e3 e4
        have hfin : NodT (fun q => w.heap.size ≤ q) (.branch xp l) w (.returned (ndV ⟨xp, false, kA1, kn1, kc1, vA1, 0, vc1, dA1, dn1, dc1⟩)) (st5 wr P2 (.int .i64 xp) (.bool false) (.slice kA1 kn1 kc1) (.slice vA1 0 vc1) (.slice dA1 dn1 dc1)) := by
          have hord := HORD3.out
          have hL := HLV.out
          have hrow : RowB (fun q => W.heap.size ≤ q) wr ⟨xp, false, kA1, kn1, kc1, vA1, 0, vc1, dA1, dn1, dc1⟩ l := ⟨RwF.ofOwn hok, RwF.ofOwn hov, us, RwF.ofOwn hod, ⟨hul, fun j v y h1 h2 => by
            have h3 := hbo j v y h1 h2
            have hj := (List.getElem?_eq_some_iff.1 h2).1
            exact RepT.mono h3 fun q hq => by rw [if_pos (by omega)] at hq; omega⟩⟩
          exact ⟨_, rfl, repT_rowB.2 ⟨rfl, rfl, hrow.move fun q hq hl => ⟨by omega, heap_st5 wr P2 _ _ _ _ _ q (by omega)⟩⟩, below_st5 hI.bl (by omega) _ _ _ _ _⟩
        have HFIN := Lib.hid hfin
        clear hfin XE hkn HI HOK HOV HOD HUL HBO HSZ hI hok hov hod hsz hul hbo
        go_wp2
        refine ⟨rfl, .agg #[.int .i64 xp, .bool false, .slice kA1 kn1 kc1, .slice vA1 0 vc1, .slice dA1 dn1 dc1], ?_, ?_⟩
        · simp [results, Try.f45, go_sem, e0, e1, e2, e3, e4]
        · exact HFIN.out
inductive SmlT : Tr → Prop where
  | leaf (p : Int) (l : List Lf) (h1 : l.length ≤ 1000) (h2 : ∀ y ∈ l, y.pg.length ≤ 1000) : SmlT (.leaf p l)
  | branch (p : Int) (l : List (List UInt8 × Tr)) (h1 : l.length ≤ 1000) (h3 : ∀ x ∈ l, SmlT x.2) : SmlT (.branch p l)
theorem trOwn_any : ∀ (t : Tr) (hs : SmlT t) (F : Nat → Prop) (x : NDV) (w : World), RepT F w x t → Calls Try.prog 45 #[ndV x] w (NodT (fun g => w.heap.size ≤ g) t w) := by
  intro t
  induction t using Tr.ind with
  | hl p l =>
    intro hs F x w h
    cases hs with
    | leaf _ _ h1 h2 => exact trOwn_leaf F p l x w h h1 h2
  | hb p l ih =>
    intro hs F x w h
    cases hs with
    | branch _ _ h1 h3 => exact trOwn_branch F p l x w h h1 (fun y hy F x w hr => ih y hy (h3 y hy) F x w hr)
end Go.Proofs.Ytpaklhifnndeoaa
