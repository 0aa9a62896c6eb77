import Derived.Test.YtpaklhifnndeoaaJ15
import Derived.Test.YtpaklhifnndeoaaJ05
/- Of a claim's texts, joined: Tpc Tpd Tqn Tqo Tqp. No statement but in the last. -/
section
namespace Go.Proofs.Ytpaklhifnndeoaa
open Go.RowKit
set_option linter.unusedVariables false

end Go.Proofs.Ytpaklhifnndeoaa
end

section
namespace Go.Proofs.Ytpaklhifnndeoaa
open Go.RowKit
set_option linter.unusedVariables false

end Go.Proofs.Ytpaklhifnndeoaa
end

section
namespace Go.Proofs.Ytpaklhifnndeoaa
open Go.RowKit
set_option linter.unusedVariables false

inductive RisT (s : List UInt8) : Tr → Prop where
  | leaf (p : Int) (l : List Lf) (h : RisL l) : RisT s (.leaf p l)
  | branch (p : Int) (l : List (List UInt8 × Tr)) (h : RisT s (kidT l (wayT l s)).2) : RisT s (.branch p l)
structure PutX (Fo : Nat → Prop) (V w : World) (P8 : Nat) (z8 : NDV) (t8 : Tr) : Prop where
  bl : Below V.heap.size V w
  b8 : Has w P8 29 #[.int .i64 z8.p, .bool z8.lf, .slice z8.kA z8.kn z8.kc, .slice z8.vA z8.vn z8.vc, .slice z8.dA z8.dn z8.dc]
  h8 : V.heap.size ≤ P8
  rep : RepT (Fw Fo V.heap.size) w z8 t8
set_option maxRecDepth 100000 in
set_option maxHeartbeats 16000000 in
theorem trPut_in (c : Lf) (hpg : c.pg = []) : ∀ (t : Tr) (F : Nat → Prop) (x : NDV) (w : World), RepT F w x t → PutB c t → RisT c.k t → Calls Try.prog 44 #[ndV x, .string ⟨c.k.toArray⟩, .string ⟨c.d.toArray⟩] w (NodT (Fw (fun q => F q ∧ q < w.heap.size) w.heap.size) (putT c t) w) := by
  intro t
  induction t using Tr.ind with
  | hl p l =>
    intro F x w h hb hris
    rw [putT]
    have hl : l.length ≤ 100 := by cases hb; assumption
    have hrl : RisL l := by cases hris; assumption
    obtain ⟨Fo, hFo⟩ : ∃ Fo : Nat → Prop, (fun q => F q ∧ q < w.heap.size) = Fo := ⟨_, rfl⟩
    have hrep := h.old
    rw [hFo] at hrep ⊢
    have hFW : ∀ q, Fo q → q < w.heap.size := fun q hq => by rw [← hFo] at hq; exact hq.2
    obtain ⟨hp, hlf, _⟩ := repT_rowL.1 hrep
    obtain ⟨V, hV⟩ : ∃ W, (w.alloc (.cells #[.int .i64 x.p, .bool x.lf, .slice x.kA x.kn x.kc, .slice x.vA x.vn x.vc, .slice x.dA x.dn x.dc] 29)).alloc (.cells #[.int .i64 0, .bool false, .slice none 0 0, .slice none 0 0, .slice none 0 0] 29) = W := ⟨_, rfl⟩
    have hB0 : Below w.heap.size w V := hV ▸ (((Below.refl _ w).alloc (Nat.le_refl _) _).alloc (by simp) _)
    have hX3 : Has V w.heap.size 29 #[.int .i64 x.p, .bool x.lf, .slice x.kA x.kn x.kc, .slice x.vA x.vn x.vc, .slice x.dA x.dn x.dc] := hV ▸ (Has.made w 29 _).alloc _
    have hX6 : Has V (w.heap.size + 1) 29 #[.int .i64 0, .bool false, .slice none 0 0, .slice none 0 0, .slice none 0 0] := hV ▸ (by have := Has.made (w.alloc (.cells #[.int .i64 x.p, .bool x.lf, .slice x.kA x.kn x.kc, .slice x.vA x.vn x.vc, .slice x.dA x.dn x.dc] 29)) 29 #[.int .i64 0, .bool false, .slice none 0 0, .slice none 0 0, .slice none 0 0]; simpa using this)
    have HPI := Lib.hid (trPutIn_any Fo x p l c V (hrep.stay hB0) (by omega) hrl hpg)
    obtain ⟨P3, hP3⟩ : ∃ P, w.heap.size = P := ⟨_, rfl⟩
    obtain ⟨P6, hP6⟩ : ∃ P, P3 + 1 = P := ⟨_, rfl⟩
    rw [hP3] at hX3
    rw [hP3, hP6] at hX6
    obtain ⟨sk, hsk⟩ : ∃ s : ByteArray, (⟨c.k.toArray⟩ : ByteArray) = s := ⟨_, rfl⟩
    obtain ⟨sv, hsv⟩ : ∃ s : ByteArray, (⟨c.d.toArray⟩ : ByteArray) = s := ⟨_, rfl⟩
    rw [hsk, hsv] at HPI ⊢
    have hlf1 : x.lf = true := hlf
    unfold ndV at HPI ⊢
    have x30 := hX3.cell 0
    have x31 : V.cell? ⟨P3, 1, none⟩ = some (.bool x.lf) := hX3.cell 1
    have x32 := hX3.cell 2
    have x33 := hX3.cell 3
    have x34 := hX3.cell 4
    rw [hlf1] at x31
    have HX6 := Lib.hid hX6
    have HB0 := Lib.hid hB0
    have HFW := Lib.hid hFW
    have HORD : Hid (w.heap.size = P3 ∧ P3 < P6) := Lib.hid ⟨hP3, by omega⟩
    obtain ⟨xp, xlf, xkA, xkn, xkc, xvA, xvn, xvc, xdA, xdn, xdc⟩ := x
    simp only at hlf1 hV HPI x30 x31 x32 x33 x34 ⊢
    subst hlf1
    clear h hb hris hrep hFo hFW hp hlf hX3 hX6 hB0 hsk hsv hrl hl
    go_enter Try.func44, Try.ntmps44
    go_wp2_with (go_at_call 64; (with_reducible refine HPI.out.mono ?_); rintro e8 w8 ⟨⟨p8, lf8, kA8, kn8, kc8, vA8, vn8, vc8, dA8, dn8, dc8⟩, rfl, r8, b8⟩; unfold ndV; simp only; have R8 := Lib.hid r8; have B8 := Lib.hid b8; have z6 := HX6.out.below b8 HX6.out.lt; have q0 := z6.cell 0; have q1 := z6.cell 1; have q2 := z6.cell 2; have q3 := z6.cell 3; have q4 := z6.cell 4; have f0 := z6.free 0; have f1 := z6.free 1; have f2 := z6.free 2; have f3 := z6.free 3; have f4 := z6.free 4; have Z6 := Lib.hid z6; clear r8 b8 z6)
    have XE := Z6.out.st5 (.int .i64 p8) (.bool lf8) (.slice kA8 kn8 kc8) (.slice vA8 vn8 vc8) (.slice dA8 dn8 dc8)
    have e0 := XE.cell 0
    have e1 := XE.cell 1
    have e2 := XE.cell 2
    have e3 := XE.cell 3
    have e4 := XE.cell 4
    unfold st5 at e0 e1 e2 e3 e4
    simp at e0 e1 e2 e3 e4
    have hord := HORD.out
    refine ⟨rfl, .agg #[.int .i64 p8, .bool lf8, .slice kA8 kn8 kc8, .slice vA8 vn8 vc8, .slice dA8 dn8 dc8], ?_, ⟨p8, lf8, kA8, kn8, kc8, vA8, vn8, vc8, dA8, dn8, dc8⟩, rfl, ?_, ?_⟩
    · simp [results, Try.f44, go_sem, e0, e1, e2, e3, e4]
    · exact rep_box R8.out (fun q hq => hq.1) HFW.out (by omega) HX6.out.lt _ _ _ _ _
    · exact below_st5 (below_step HB0.out B8.out) (by omega) _ _ _ _ _
  | hb p l ih =>
    intro F x w h hb hris
    obtain ⟨hl0, hl1, hl2, hev, hpk, hbp⟩ : l ≠ [] ∧ l.length ≤ 100 ∧ (∀ x ∈ l, x.1.length ≤ 500 ∧ BndN 50 x.2) ∧ evenT l ∧ PutB c (kidT l (wayT l c.k)).2 ∧ BndN 50 (putT c (kidT l (wayT l c.k)).2) := by
      cases hb with
      | branch p l h0 h1 h2 h3 h4 h5 => exact ⟨h0, h1, h2, h3, h4, h5⟩
    have hrk : RisT c.k (kidT l (wayT l c.k)).2 := by cases hris; assumption
    rw [putT_branch c p hl0]
    have hwl := wayT_lt c.k hl0
    obtain ⟨k, hkw⟩ : ∃ k, wayT l c.k = k := ⟨_, rfl⟩
    rw [hkw] at hwl hpk hbp hrk ⊢
    obtain ⟨Fo, hFo⟩ : ∃ Fo : Nat → Prop, (fun q => F q ∧ q < w.heap.size) = Fo := ⟨_, rfl⟩
    have hrep := h.old
    rw [hFo] at hrep ⊢
    have hFW : ∀ q, Fo q → q < w.heap.size := fun q hq => by rw [← hFo] at hq; exact hq.2
    obtain ⟨hp, hlf, hrow⟩ := repT_rowB.1 hrep
    have HROW := Lib.hid hrow
    have HKO := Lib.hid (fun (w' : World) (hb : Below w.heap.size w w') => trKidsOf_branch Fo x p l w' (hrep.stay hb))
    obtain ⟨hkr, hv, ks, hd, hdb⟩ := hrow
    have HWY := Lib.hid (fun (w' : World) (hb : Below w.heap.size w w') => trWay_any Fo x l c.k w' (hkr.below hb) (by omega))
    rw [hkw] at HWY
    obtain ⟨pn, lfn, kAn, knn, kcn, vAn, vnn, vcn, dAn, dnn, dcn⟩ := x
    simp only at hp hlf hkr hv hd
    subst hp hlf
    obtain ⟨e, he, hey⟩ := hdb.at_ (kid_some15 hwl)
    have e1 : knn = l.length := by have := hkr.len; simpa using this.symm
    have e2 : dnn = l.length := by rw [hd.lenS ndL_len (by omega), hdb.1]
    obtain rfl : vnn = 0 := hv.zero (by omega)
    obtain ⟨p1, lf1, kA1, kn1, kc1, vA1, vn1, vc1, dA1, dn1, dc1⟩ := e
    obtain ⟨gd, offd, rfl, hgd, hdc⟩ := hd.atS ndL_len (by omega) he
    obtain ⟨gk, offk, rfl, hgk, ck⟩ := hkr.str (kid_some15 hwl)
    have hroom := hkr.room
    obtain ⟨t8, ht8⟩ : ∃ t, putT c (kidT l k).2 = t := ⟨_, rfl⟩
    have hkind : kindT t8 = kindT (kidT l k).2 := by rw [← ht8]; exact kind_put c _
    have HIH := Lib.hid (fun (w' : World) (hb : Below w.heap.size w w') => ih _ (kid_mem hwl) Fo _ w' (hey.stay hb) hpk hrk)
    rw [ht8] at HIH hbp ⊢
    have HME := Lib.hid (fun (z : NDV) (w' : World) (G : Nat → Prop) (hr : RepT G w' z (.branch 0 (l.set k ((kidT l k).1, t8)))) => trMend_in G z 0 (l.set k ((kidT l k).1, t8)) k w' hr (by rw [List.length_set]; omega) (by rw [List.length_set]; exact hwl) (fun x hx => by
      rcases List.mem_or_eq_of_mem_set hx with hx | rfl
      · exact (hl2 x hx).2
      · exact hbp) (fun x hx => by
      rcases List.mem_or_eq_of_mem_set hx with hx | rfl
      · exact (hl2 x hx).1
      · exact (hl2 _ (kid_mem hwl)).1) (even_set hev hwl hkind))
    obtain ⟨sk, hsk⟩ : ∃ s : ByteArray, (⟨c.k.toArray⟩ : ByteArray) = s := ⟨_, rfl⟩
    obtain ⟨sv, hsv⟩ : ∃ s : ByteArray, (⟨c.d.toArray⟩ : ByteArray) = s := ⟨_, rfl⟩
    rw [hsk, hsv] at HIH ⊢
    rw [hsk] at HWY
    unfold ndV at HIH HKO HWY HME ⊢
    simp only at HIH HKO HWY HME ⊢
    obtain ⟨V, hV⟩ : ∃ W, (w.alloc (.cells #[.int .i64 pn, .bool false, .slice (some ⟨gk, offk, none⟩) knn kcn, .slice vAn 0 vcn, .slice (some ⟨gd, offd, none⟩) dnn dcn] 29)).alloc (.cells #[.int .i64 0, .bool false, .slice none 0 0, .slice none 0 0, .slice none 0 0] 29) = W := ⟨_, rfl⟩
    have hB0 : Below w.heap.size w V := hV ▸ (((Below.refl _ w).alloc (Nat.le_refl _) _).alloc (by simp) _)
    have hX3 : Has V w.heap.size 29 #[.int .i64 pn, .bool false, .slice (some ⟨gk, offk, none⟩) knn kcn, .slice vAn 0 vcn, .slice (some ⟨gd, offd, none⟩) dnn dcn] := hV ▸ (Has.made w 29 _).alloc _
    have hX6 : Has V (w.heap.size + 1) 29 #[.int .i64 0, .bool false, .slice none 0 0, .slice none 0 0, .slice none 0 0] := hV ▸ (by have := Has.made (w.alloc (.cells #[.int .i64 pn, .bool false, .slice (some ⟨gk, offk, none⟩) knn kcn, .slice vAn 0 vcn, .slice (some ⟨gd, offd, none⟩) dnn dcn] 29)) 29 #[.int .i64 0, .bool false, .slice none 0 0, .slice none 0 0, .slice none 0 0]; simpa using this)
    have hlt6 := hX6.lt
    obtain ⟨P3, hP3⟩ : ∃ P, w.heap.size = P := ⟨_, rfl⟩
    obtain ⟨P6, hP6⟩ : ∃ P, P3 + 1 = P := ⟨_, rfl⟩
    rw [hP3] at hX3
    rw [hP3, hP6] at hX6 hlt6
    obtain ⟨j, hj⟩ : ∃ j, k + 1 = j := ⟨_, rfl⟩
    have HCK := Lib.hid (fun (w' : World) (bb : Below w.heap.size w w') => (⟨cell_below (hdc 0 _ rfl) bb, cell_below (hdc 1 _ rfl) bb, cell_below (hdc 2 _ rfl) bb, cell_below (hdc 3 _ rfl) bb, cell_below (hdc 4 _ rfl) bb⟩ : w'.cell? ⟨gd, offd + k * 5, none⟩ = some (.int .i64 p1) ∧ w'.cell? ⟨gd, offd + k * 5 + 1, none⟩ = some (.bool lf1) ∧ w'.cell? ⟨gd, offd + k * 5 + 2, none⟩ = some (.slice kA1 kn1 kc1) ∧ w'.cell? ⟨gd, offd + k * 5 + 3, none⟩ = some (.slice vA1 vn1 vc1) ∧ w'.cell? ⟨gd, offd + k * 5 + 4, none⟩ = some (.slice dA1 dn1 dc1)))
    have HX3a := Lib.hid hX3
    have HX6a := Lib.hid hX6
    have HB0 := Lib.hid hB0
    have HFW := Lib.hid hFW
    have HKR := Lib.hid hkr
    have HORD : Hid (w.heap.size = P3 ∧ P3 < P6) := Lib.hid ⟨hP3, by omega⟩
    have HN : Hid (k < l.length ∧ l.length ≤ 100 ∧ knn = l.length) := Lib.hid ⟨hwl, hl1, e1⟩
    have HJ := Lib.hid hj
    have hkj : (k : Int) + 1 = (j : Int) := by omega
    have hjw : IntKind.i64.wrap (j : Int) = (j : Int) := by rw [IntWalk.i64_in _ (by omega)]
    have sl1 : j ≤ kcn := by omega
    have sl2 : k ≤ j := by omega
    have sl3 : ¬ (kcn = k) := by omega
    have sl4 : j - k = 1 := by omega
    have i0 : (0 : Int) ≤ (k : Int) := by omega
    have i2 : (k : Int) < (dnn : Int) := by omega
    have i3 : ¬ ((l.length : Int) ≤ (k : Int)) := by omega
    have i4 : ¬ (l.length ≤ k) := by omega
    have hkb : k ≤ 100 := by omega
    have x30 := hX3.cell 0
    have x31 := hX3.cell 1
    have x32 := hX3.cell 2
    have x33 := hX3.cell 3
    have x34 := hX3.cell 4
    have hmx : Try.prog.follows .mixedOrders = true := by kernel_rfl
    clear h hb hris hrep hFo hFW hkr hv hd hdb he hey hdc hgd hgk ck hl0 hl1 hl2 hev hpk hbp hrk hwl hkw ih ht8 hkind hsk hsv hX3 hX6 hB0 hlt6 hj e1 e2 hroom
    go_enter Try.func44, Try.ntmps44
    go_wp2_with (first
      | (go_at_call 32; (with_reducible refine (HWY.out _ HB0.out).mono ?_); rintro e7 w7 ⟨rfl, b7⟩; have B7 := Lib.hid (below_step HB0.out b7); have Q7 := Lib.hid b7; have z := HX3a.out.below b7 HX3a.out.lt; have y0 := z.cell 0; have y1 := z.cell 1; have y2 := z.cell 2; have y3 := z.cell 3; have y4 := z.cell 4; clear z b7)
      | (go_at_call 47; (with_reducible refine (HKO.out _ B7.out).mono ?_); rintro e9 V2 ⟨rfl, b9⟩; have HBV := Lib.hid (below_step B7.out b9); have Q9 := Lib.hid (below_step Q7.out b9); have u0 := (HX3a.out.below Q9.out HX3a.out.lt).cell 4; obtain ⟨c0, c1, c2, c3, c4⟩ := HCK.out _ HBV.out; clear b9)
      | (go_at_call 44; (with_reducible refine (HIH.out _ HBV.out).mono ?_); rintro e8 w8 ⟨⟨p8, lf8, kA8, kn8, kc8, vA8, vn8, vc8, dA8, dn8, dc8⟩, rfl, r8, b8⟩; unfold ndV; simp only; have R8 := Lib.hid r8; have B8 := Lib.hid b8; clear r8 b8))
    obtain ⟨w', hw'⟩ : ∃ W, w8.alloc (.cells #[.int .i64 p8, .bool lf8, .slice kA8 kn8 kc8, .slice vA8 vn8 vc8, .slice dA8 dn8 dc8] 29) = W := ⟨_, rfl⟩
    have bw : Below w8.heap.size w8 w' := hw' ▸ (Below.refl _ w8).alloc (Nat.le_refl _) _
    have hPX : PutX Fo V2 w' w8.heap.size ⟨p8, lf8, kA8, kn8, kc8, vA8, vn8, vc8, dA8, dn8, dc8⟩ t8 := ⟨below_step B8.out bw, hw' ▸ Has.made w8 29 _, B8.out.size, (RepT.mono R8.out fun q hq => hq.elim (fun h => .inl h.1) .inr).stay bw⟩
    rw [hw']
    obtain ⟨P8, hP8⟩ : ∃ P, w8.heap.size = P := ⟨_, rfl⟩
    rw [hP8] at hPX
    try rw [hP8]
    clear hw' hP8 bw u0 c0 c1 c2 c3 c4 R8 B8
    clear w8
    have HX3 := Lib.hid (HX3a.out.below Q9.out HX3a.out.lt)
    have HX6 := Lib.hid (HX6a.out.below Q9.out HX6a.out.lt)
    have HVL : Hid (w.heap.size ≤ P6 ∧ P6 < V2.heap.size) := Lib.hid ⟨by have := HORD.out; omega, HX6.out.lt⟩
    have HME := Lib.hid (fun (w' : World) (z : NDV) (hr : RepT (Fw Fo V2.heap.size) w' z (.branch 0 (l.set k ((kidT l k).1, t8)))) => HME.out z w' _ hr)
    clear HX3a HX6a x30 x31 x32 x33 x34 hV hP3 hP6 B7 Q7 Q9 y0 y1 y2 y3 y4 HB0 HCK
    have hX3T := HX3.out.below hPX.bl HX3.out.lt
    have HX6T := Lib.hid (HX6.out.below hPX.bl HX6.out.lt)
    have HPX := Lib.hid hPX
    obtain ⟨WT, hWT⟩ : ∃ W, w' = W := ⟨_, rfl⟩
    subst hWT
    have HXT : Hid (∀ w6 : World, w'.grownBy w6 (some P6) → w6.cell? ⟨P3, 0, none⟩ = some (.int .i64 pn) ∧ w6.cell? ⟨P3, 1, none⟩ = some (.bool false) ∧ w6.cell? ⟨P3, 2, none⟩ = some (.slice (some ⟨gk, offk, none⟩) knn kcn) ∧ w6.cell? ⟨P3, 3, none⟩ = some (.slice vAn 0 vcn) ∧ w6.cell? ⟨P3, 4, none⟩ = some (.slice (some ⟨gd, offd, none⟩) dnn dcn) ∧ w6.cell? ⟨P8, 0, none⟩ = some (.int .i64 p8) ∧ w6.cell? ⟨P8, 1, none⟩ = some (.bool lf8) ∧ w6.cell? ⟨P8, 2, none⟩ = some (.slice kA8 kn8 kc8) ∧ w6.cell? ⟨P8, 3, none⟩ = some (.slice vA8 vn8 vc8) ∧ w6.cell? ⟨P8, 4, none⟩ = some (.slice dA8 dn8 dc8)) := Lib.hid (fun w6 hb => by
      have z3 := hX3T.grown hb (by intro e; injection e with e; have := HORD.out; omega)
      have z8 := hPX.b8.grown hb (by intro e; injection e with e; have := HORD.out; have := hPX.h8; have := HVL.out; omega)
      exact ⟨z3.cell 0, z3.cell 1, z3.cell 2, z3.cell 3, z3.cell 4, z8.cell 0, z8.cell 1, z8.cell 2, z8.cell 3, z8.cell 4⟩)
    have HSW := Lib.hid (fun (w2 : World) (Pd : Nat) (hb : Below w'.heap.size w' w2) (hPd : w'.heap.size ≤ Pd) (hX : Has w2 Pd 29 #[.int .i64 p8, .bool lf8, .slice kA8 kn8 kc8, .slice vA8 vn8 vc8, .slice dA8 dn8 dc8]) => trSwap_branch (Fw Fo V2.heap.size) ⟨pn, false, some ⟨gk, offk, none⟩, knn, kcn, vAn, 0, vcn, some ⟨gd, offd, none⟩, dnn, dcn⟩ ⟨0, false, some ⟨gk, offk + k, none⟩, 1, kcn - k, none, 0, 0, some ⟨Pd, 0, none⟩, 1, 1⟩ l [((kidT l k).1, t8)] k (k + 1) w2 ((HROW.out.below (below_step HBV.out (below_step hPX.bl hb))).move fun q hq hl => ⟨.inl hq, rfl⟩)
      (row_by (z8 := ⟨p8, lf8, kA8, kn8, kc8, vA8, vn8, vc8, dA8, dn8, dc8⟩) (HKR.out.below (below_step HBV.out (below_step hPX.bl hb))) HN.out.1 (fun q hq => .inl hq) hX (.inr (Nat.le_trans hPX.bl.size hPd)) (hPX.rep.stay hb)) (by have := HN.out; omega) (by simp) (by omega) (by omega))
    rw [show swapL k (k + 1) l [((kidT l k).1, t8)] = l.set k ((kidT l k).1, t8) from (set_parts HN.out.1 _).symm, HJ.out] at HSW
    unfold ndV at HSW
    simp only at HSW
    have hS0 : w'.grownBy w'.drew (some P6) := ⟨rfl, rfl, rfl, Nat.le_refl _, fun _ _ _ => rfl⟩
    have hT0 : Below w'.heap.size w' w'.drew := (Below.refl _ w').drew
    clear hPX hX3T
    go_wp2
    first | (rename_i K hK; refine wp_held (fun w6 : World => w'.grownBy w6 (some P6)) K hmx ?_ (fun _ _ h => h)) | (rename_i K hK hz; refine wp_held (fun w6 : World => w'.grownBy w6 (some P6)) K hmx ?_ (fun _ _ h => h))
    obtain ⟨Wd, hWd⟩ : ∃ W, w'.drew = W := ⟨_, rfl⟩
    rw [hWd] at hS0 hT0 ⊢
    have HWD : Hid (Wd.heap.size = w'.heap.size) := Lib.hid (by rw [← hWd]; rfl)
    clear hWd
    refine wpAnyH_take (i := 0) (v := .agg #[.int .i64 pn, .bool false, .slice (some ⟨gk, offk, none⟩) knn kcn, .slice vAn 0 vcn, .slice (some ⟨gd, offd, none⟩) dnn dcn]) (lit rfl) (by kernel_rfl) (by kernel_rfl) (by kernel_rfl) (fun _ _ _ h => h) (Or.inl ⟨by rfl, ?_⟩) hS0 ?_
    · rintro w6 hb6
      obtain ⟨y60, y61, y62, y63, y64, _⟩ := HXT.out w6 hb6
      go_simp
    simp only [Act.put, List.setIfInBounds_toArray, List.set_cons_zero, List.set_cons_succ]
    refine wpAnyH_take (i := 1) (v := .int .i64 (k : Int)) (lit rfl) (by kernel_rfl) (by kernel_rfl) (by kernel_rfl) (fun _ _ _ h => h) (Or.inl ⟨by rfl, ?_⟩) hS0 ?_
    · rintro w6 hb6
      go_simp
    simp only [Act.put, List.setIfInBounds_toArray, List.set_cons_zero, List.set_cons_succ]
    refine wpAnyH_take (i := 2) (v := .int .i64 (k : Int)) (lit rfl) (by kernel_rfl) (by kernel_rfl) (by kernel_rfl) (fun _ _ _ h => h) (Or.inl ⟨by rfl, ?_⟩) hS0 ?_
    · rintro w6 hb6
      go_simp
    simp only [Act.put, List.setIfInBounds_toArray, List.set_cons_zero, List.set_cons_succ]
    refine wpAnyH_take (i := 3) (v := .int .i64 (j : Int)) (lit rfl) (by kernel_rfl) (by kernel_rfl) (by kernel_rfl) (fun _ _ _ h => h) (Or.inl ⟨by rfl, ?_⟩) hS0 ?_
    · rintro w6 hb6
      go_simp
    simp only [Act.put, List.setIfInBounds_toArray, List.set_cons_zero, List.set_cons_succ]
    refine wpAnyH_take (i := 4) (v := .pointer (some ⟨P3, 2, none⟩)) (lit rfl) (by kernel_rfl) (by kernel_rfl) (by kernel_rfl) (fun _ _ _ h => h) (Or.inl ⟨by rfl, ?_⟩) hS0 ?_
    · rintro w6 hb6
      go_simp
    simp only [Act.put, List.setIfInBounds_toArray, List.set_cons_zero, List.set_cons_succ]
    refine wpAnyH_take (i := 5) (v := .slice (some ⟨gk, offk, none⟩) knn kcn) (lit rfl) (by kernel_rfl) (by kernel_rfl) (by kernel_rfl) (fun _ _ _ h => h) (Or.inl ⟨by rfl, ?_⟩) hS0 ?_
    · rintro w6 hb6
      obtain ⟨_, _, y62, _⟩ := HXT.out w6 hb6
      go_simp
    simp only [Act.put, List.setIfInBounds_toArray, List.set_cons_zero, List.set_cons_succ]
    refine wpAnyH_take (i := 6) (v := .int .i64 (k : Int)) (lit rfl) (by kernel_rfl) (by kernel_rfl) (by kernel_rfl) (fun _ _ _ h => h) (Or.inl ⟨by rfl, ?_⟩) hS0 ?_
    · rintro w6 hb6
      go_simp
    simp only [Act.put, List.setIfInBounds_toArray, List.set_cons_zero, List.set_cons_succ]
    refine wpAnyH_take (i := 7) (v := .int .i64 (k : Int)) (lit rfl) (by kernel_rfl) (by kernel_rfl) (by kernel_rfl) (fun _ _ _ h => h) (Or.inl ⟨by rfl, ?_⟩) hS0 ?_
    · rintro w6 hb6
      go_simp
    simp only [Act.put, List.setIfInBounds_toArray, List.set_cons_zero, List.set_cons_succ]
    refine wpAnyH_take (i := 8) (v := .int .i64 (j : Int)) (lit rfl) (by kernel_rfl) (by kernel_rfl) (by kernel_rfl) (fun _ _ _ h => h) (Or.inl ⟨by rfl, ?_⟩) hS0 ?_
    · rintro w6 hb6
      go_simp
    simp only [Act.put, List.setIfInBounds_toArray, List.set_cons_zero, List.set_cons_succ]
    refine wpAnyH_take (i := 9) (v := .slice (some ⟨gk, offk + k, none⟩) 1 (kcn - k)) (lit rfl) (by kernel_rfl) (by kernel_rfl) (by kernel_rfl) (fun _ _ _ h => h) (Or.inl ⟨by rfl, ?_⟩) hS0 ?_
    · rintro w6 hb6
      go_simp
    simp only [Act.put, List.setIfInBounds_toArray, List.set_cons_zero, List.set_cons_succ]
    refine wpAnyH_take (i := 10) (v := .agg #[.int .i64 p8, .bool lf8, .slice kA8 kn8 kc8, .slice vA8 vn8 vc8, .slice dA8 dn8 dc8]) (lit rfl) (by kernel_rfl) (by kernel_rfl) (by kernel_rfl) (fun _ _ _ h => h) (Or.inl ⟨by rfl, ?_⟩) hS0 ?_
    · rintro w6 hb6
      obtain ⟨_, _, _, _, _, y60, y61, y62, y63, y64⟩ := HXT.out w6 hb6
      go_simp
    simp only [Act.put, List.setIfInBounds_toArray, List.set_cons_zero, List.set_cons_succ]
    refine wpAnyH_take (i := 14) (v := .int .i64 (k : Int)) (lit rfl) (by kernel_rfl) (by kernel_rfl) (by kernel_rfl) (fun _ _ _ h => h) (Or.inl ⟨by rfl, ?_⟩) hS0 ?_
    · rintro w6 hb6
      go_simp
    simp only [Act.put, List.setIfInBounds_toArray, List.set_cons_zero, List.set_cons_succ]
    refine wpAnyH_ready (rs := [11]) (by kernel_rfl) (by simp) ?_
    refine AllReadyH.cons (lit rfl) (fun K5 hK5 => ?_) AllReadyH.nil
    refine step_open rfl ?_
    go_simp
    obtain ⟨WB, hWB⟩ : ∃ x, Wd.alloc (.cells #[.int .i64 p8, .bool lf8, .slice kA8 kn8 kc8, .slice vA8 vn8 vc8, .slice dA8 dn8 dc8] 29) = x := ⟨_, rfl⟩
    have bB : Below Wd.heap.size Wd WB := hWB ▸ (Below.refl _ Wd).alloc (Nat.le_refl _) _
    have TB : Below w'.heap.size w' WB := below_step hT0 bB
    have XB : Has WB Wd.heap.size 29 #[.int .i64 p8, .bool lf8, .slice kA8 kn8 kc8, .slice vA8 vn8 vc8, .slice dA8 dn8 dc8] := hWB ▸ Has.made Wd 29 _
    rw [hWB]
    obtain ⟨Pd, hPd⟩ : ∃ G, Wd.heap.size = G := ⟨_, rfl⟩
    try rw [hPd]
    rw [hPd] at XB
    have HPD : Hid (w'.heap.size ≤ Pd) := Lib.hid (by have := HWD.out; omega)
    clear hPd hWB
    have hS1 : w'.grownBy WB (some P6) := only_of_below TB (Nat.le_refl _)
    refine hK5.out _ _ hS1 (fun _ => ?_)
    clear hK5 K5
    refine wpAnyH_take (i := 12) (v := .agg #[.int .i64 0, .bool false, .slice (some ⟨gk, offk + k, none⟩) 1 (kcn - k), .slice none 0 0, .slice (some ⟨Pd, 0, none⟩) 1 1]) (lit rfl) (by kernel_rfl) (by kernel_rfl) (by kernel_rfl) (fun _ _ _ h => h) (Or.inl ⟨by rfl, ?_⟩) hS1 ?_
    · rintro w6 hb6
      go_simp
    simp only [Act.put, List.setIfInBounds_toArray, List.set_cons_zero, List.set_cons_succ]
    refine wpAnyH_ready (rs := [13]) (by kernel_rfl) (by simp) ?_
    refine AllReadyH.cons (lit rfl) (fun K5 hK5 => ?_) AllReadyH.nil
    refine step_open rfl ?_
    go_simp
    go_at_call 65
    (with_reducible refine (HSW.out WB Pd TB HPD.out XB).mono ?_)
    rintro e20 w20 ⟨⟨p20, lf20, kA20, kn20, kc20, vA20, vn20, vc20, dA20, dn20, dc20⟩, ks20, rfl, hp20, hlf20, o20, b20⟩
    simp only at hp20 hlf20
    subst hp20 hlf20
    unfold ndV
    simp only
    have T20 : Below w'.heap.size w' w20 := below_step TB b20
    have hr20 : RepT (Fw Fo V2.heap.size) w20 ⟨0, false, kA20, kn20, kc20, vA20, vn20, vc20, dA20, dn20, dc20⟩ (.branch 0 (l.set k ((kidT l k).1, t8))) := RepT.mono (OwnN.rep (t := .branch 0 (l.set k ((kidT l k).1, t8))) ⟨rfl, rfl, ks20, o20⟩) fun q hq => hq.elim (fun h => h) (fun h => .inr (by have h1 := TB.size; have h2 := HPX.out.bl.size; omega))
    have hS2 : w'.grownBy w20 (some P6) := only_of_below T20 (Nat.le_refl _)
    have HR20 := Lib.hid hr20
    clear o20 b20 hr20
    go_simp
    refine hK5.out _ _ hS2 (fun _ => ?_)
    clear hK5 K5
    refine wpAnyH_ready (rs := [15]) (by kernel_rfl) (by simp) ?_
    refine AllReadyH.cons (lit rfl) (fun K5 hK5 => ?_) AllReadyH.nil
    refine step_open rfl ?_
    go_simp
    go_at_call 54
    (with_reducible refine (HME.out _ _ HR20.out).mono ?_)
    rintro e21 w21 ⟨⟨p21, lf21, kA21, kn21, kc21, vA21, vn21, vc21, dA21, dn21, dc21⟩, rfl, r21, b21⟩
    unfold ndV
    simp only
    have R21 := Lib.hid r21
    have T21 : Below w'.heap.size w' w21 := below_step T20 b21
    have hS3 : w'.grownBy w21 (some P6) := only_of_below T21 (Nat.le_refl _)
    have Z6 := (HX6T.out.below T21 HX6T.out.lt)
    clear r21 b21
    go_simp
    refine hK5.out _ _ hS3 (fun _ => ?_)
    clear hK5 K5
    refine wpAnyH_ready (rs := [16]) (by kernel_rfl) (by simp) ?_
    refine AllReadyH.cons (lit rfl) (fun K5 hK5 => ?_) AllReadyH.nil
    refine step_open rfl ?_
    go_simp
    have q0 := Z6.cell 0
    have q1 := Z6.cell 1
    have q2 := Z6.cell 2
    have q3 := Z6.cell 3
    have q4 := Z6.cell 4
    have f0 := Z6.free 0
    have f1 := Z6.free 1
    have f2 := Z6.free 2
    have f3 := Z6.free 3
    have f4 := Z6.free 4
    have hS4 := only_store (only_store (only_store (only_store (only_store hS3 0 (.int .i64 p21)) 1 (.bool lf21)) 2 (.slice kA21 kn21 kc21)) 3 (.slice vA21 vn21 vc21)) 4 (.slice dA21 dn21 dc21)
    go_simp
    refine hK5.out _ _ hS4 (fun _ => ?_)
    clear hK5 K5
    refine wpAnyH_done (by kernel_rfl) ?_ _
    refine hK _ _ ?_
    go_wp2
    have XE := Z6.st5 (.int .i64 p21) (.bool lf21) (.slice kA21 kn21 kc21) (.slice vA21 vn21 vc21) (.slice dA21 dn21 dc21)
    have e0 := XE.cell 0
    have e1 := XE.cell 1
    have e2 := XE.cell 2
    have e3 := XE.cell 3
    have e4 := XE.cell 4
    unfold st5 at e0 e1 e2 e3 e4
    simp at e0 e1 e2 e3 e4
    have hord := HORD.out
    have hvl := HVL.out
    refine ⟨rfl, .agg #[.int .i64 p21, .bool lf21, .slice kA21 kn21 kc21, .slice vA21 vn21 vc21, .slice dA21 dn21 dc21], ?_, ⟨p21, lf21, kA21, kn21, kc21, vA21, vn21, vc21, dA21, dn21, dc21⟩, rfl, ?_, ?_⟩
    · simp [results, Try.f44, go_sem, e0, e1, e2, e3, e4]
    · refine rep_box (G := Fo) (S0 := V2.heap.size) (RepT.mono R21.out fun q hq => hq.elim (fun h => h.1) (fun h => .inr ?_)) (fun q hq => hq) HFW.out (by omega) hvl.2 _ _ _ _ _
      have h1 := T20.size
      have h2 := HPX.out.bl.size
      omega
    · exact below_st5 (below_step HBV.out (below_step HPX.out.bl T21)) (by omega) _ _ _ _ _
end Go.Proofs.Ytpaklhifnndeoaa
end

section
namespace Go.Proofs.Ytpaklhifnndeoaa
open Go.RowKit
set_option linter.unusedVariables false

theorem rep_new {G : Nat → Prop} {w' : World} {P S0 B : Nat} {z : NDV} {t : Tr} (hr : RepT (Fw G S0) w' z t) (hG : ∀ q, G q → P < q) (hP : P < S0) (hB : B ≤ P) (a b c d e : Value) : RepT (fun q => B ≤ q) (st5 w' P a b c d e) z t :=
  RepT.move (fun q hq hl => by
    have h1 : P < q := hq.elim (hG q) (fun h => by omega)
    exact ⟨by omega, heap_st5 w' P _ _ _ _ _ q (by omega)⟩) hr
set_option maxRecDepth 100000 in
set_option maxHeartbeats 4000000 in
theorem trPut_any (c : Lf) (hpg : c.pg = []) (t : Tr) (F : Nat → Prop) (x : NDV) (w : World) (h : RepT F w x t) (hs : SmlT t) (hb : PutB c t) (hr : RisT c.k t) (htb : TopB (putT c t)) :
    Calls Try.prog 17 #[ndV x, .string ⟨c.k.toArray⟩, .string ⟨c.d.toArray⟩] w (NodT (fun g => w.heap.size ≤ g) (topT (putT c t)) w) := by
  obtain ⟨V, hV⟩ : ∃ W, (w.alloc (.cells #[.int .i64 x.p, .bool x.lf, .slice x.kA x.kn x.kc, .slice x.vA x.vn x.vc, .slice x.dA x.dn x.dc] 29)).alloc (.cells #[.int .i64 0, .bool false, .slice none 0 0, .slice none 0 0, .slice none 0 0] 29) = W := ⟨_, rfl⟩
  have hB0 : Below w.heap.size w V := hV ▸ (((Below.refl _ w).alloc (Nat.le_refl _) _).alloc (by simp) _)
  have hX3 : Has V w.heap.size 29 #[.int .i64 x.p, .bool x.lf, .slice x.kA x.kn x.kc, .slice x.vA x.vn x.vc, .slice x.dA x.dn x.dc] := hV ▸ (Has.made w 29 _).alloc _
  have hX6 : Has V (w.heap.size + 1) 29 #[.int .i64 0, .bool false, .slice none 0 0, .slice none 0 0, .slice none 0 0] := hV ▸ (by have := Has.made (w.alloc (.cells #[.int .i64 x.p, .bool x.lf, .slice x.kA x.kn x.kc, .slice x.vA x.vn x.vc, .slice x.dA x.dn x.dc] 29)) 29 #[.int .i64 0, .bool false, .slice none 0 0, .slice none 0 0, .slice none 0 0]; simpa using this)
  have HOW := Lib.hid (trOwn_any t hs F x V (h.stay hB0))
  obtain ⟨xp, xlf, xkA, xkn, xkc, xvA, xvn, xvc, xdA, xdn, xdc⟩ := x
  unfold ndV at HOW ⊢
  simp only at HOW hX3 hV ⊢
  obtain ⟨P3, hP3⟩ : ∃ P, w.heap.size = P := ⟨_, rfl⟩
  obtain ⟨P6, hP6⟩ : ∃ P, P3 + 1 = P := ⟨_, rfl⟩
  rw [hP3] at hX3
  rw [hP3, hP6] at hX6
  have HPU := Lib.hid (fun (w' : World) (z : NDV) (hrr : RepT (fun g => V.heap.size ≤ g) w' z t) => trPut_in c hpg t _ z w' hrr hb hr)
  have HTP := Lib.hid (fun (w' : World) (G : Nat → Prop) (z : NDV) (hr : RepT G w' z (putT c t)) => trTop_in _ z (putT c t) w' hr htb)
  obtain ⟨sk, hsk⟩ : ∃ s : ByteArray, (⟨c.k.toArray⟩ : ByteArray) = s := ⟨_, rfl⟩
  obtain ⟨sv, hsv⟩ : ∃ s : ByteArray, (⟨c.d.toArray⟩ : ByteArray) = s := ⟨_, rfl⟩
  rw [hsk, hsv] at HPU ⊢
  unfold ndV at HPU HTP
  clear hb hr htb hsk hsv
  have x30 := hX3.cell 0
  have x31 := hX3.cell 1
  have x32 := hX3.cell 2
  have x33 := hX3.cell 3
  have x34 := hX3.cell 4
  have HX6 := Lib.hid hX6
  have HB0 := Lib.hid hB0
  have HORD : Hid (w.heap.size = P3 ∧ P3 < P6 ∧ P6 < V.heap.size) := Lib.hid ⟨hP3, by omega, hX6.lt⟩
  clear h hs hX3 hX6 hB0
  go_enter Try.func17, Try.ntmps17
  go_wp2_with (first
    | (go_at_call 45; (with_reducible refine HOW.out.mono ?_); rintro e7 w7 ⟨⟨p7, lf7, kA7, kn7, kc7, vA7, vn7, vc7, dA7, dn7, dc7⟩, rfl, r7, b7⟩; unfold ndV; simp only; have R7 := Lib.hid r7; have B7 := Lib.hid b7; clear r7 b7)
    | (go_at_call 44; (with_reducible refine (HPU.out _ _ R7.out).mono ?_); rintro e8 w8 ⟨⟨p8, lf8, kA8, kn8, kc8, vA8, vn8, vc8, dA8, dn8, dc8⟩, rfl, r8, b8⟩; unfold ndV; simp only; have R8 := Lib.hid r8; have B8 := Lib.hid (below_step B7.out b8); clear r8 b8)
    | (go_at_call 43; (with_reducible refine (HTP.out _ _ _ R8.out).mono ?_); rintro e9 w9 ⟨⟨p9, lf9, kA9, kn9, kc9, vA9, vn9, vc9, dA9, dn9, dc9⟩, rfl, r9, b9⟩; unfold ndV; simp only; have R9 := Lib.hid r9; have B9 := Lib.hid (below_step B8.out b9); have BB := B9.out; have z6 := HX6.out.below BB HX6.out.lt; have q0 := z6.cell 0; have q1 := z6.cell 1; have q2 := z6.cell 2; have q3 := z6.cell 3; have q4 := z6.cell 4; have f0 := z6.free 0; have f1 := z6.free 1; have f2 := z6.free 2; have f3 := z6.free 3; have f4 := z6.free 4; have Z6 := Lib.hid z6; clear z6; clear r9 b9 BB))
  have XE := Z6.out.st5 (.int .i64 p9) (.bool lf9) (.slice kA9 kn9 kc9) (.slice vA9 vn9 vc9) (.slice dA9 dn9 dc9)
  have e0 := XE.cell 0
  have e1 := XE.cell 1
  have e2 := XE.cell 2
  have e3 := XE.cell 3
  have e4 := XE.cell 4
  unfold st5 at e0 e1 e2 e3 e4
  simp at e0 e1 e2 e3 e4
  have hord := HORD.out
  refine ⟨rfl, .agg #[.int .i64 p9, .bool lf9, .slice kA9 kn9 kc9, .slice vA9 vn9 vc9, .slice dA9 dn9 dc9], ?_, ⟨p9, lf9, kA9, kn9, kc9, vA9, vn9, vc9, dA9, dn9, dc9⟩, rfl, ?_, ?_⟩
  · simp [results, Try.f17, go_sem, e0, e1, e2, e3, e4]
  · exact rep_new R9.out (fun q hq => hq.1.elim (fun h => by have := h.1; omega) (fun h => by have := B7.out.size; omega)) (by have := B8.out.size; omega) (by omega) _ _ _ _ _
  · exact below_st5 (below_step HB0.out B9.out) (by omega) _ _ _ _ _
end Go.Proofs.Ytpaklhifnndeoaa
end

section
namespace Go.Proofs.Ytpaklhifnndeoaa
open Go.RowKit
set_option linter.unusedVariables false

def okKs (a : List UInt8) : List (List UInt8) → Bool
  | [] => true
  | k :: l => Op.bytesLess a k && decide (k.length ≤ 16) && okKs k l
set_option maxRecDepth 100000 in
set_option maxHeartbeats 1000000 in
theorem trAreKeys_any (F : Nat → Prop) (A : Option Addr) (n c : Nat) (K : List (List UInt8)) (w : World) (h : RwF F w A n c 1 (K.map fun y => strV y)) (hn : n ≤ 1000000) (hb : ∀ y ∈ K, y.length ≤ 1000) :
    Calls Try.prog 89 #[.slice A n c] w fun e w' => e = .returned (.bool (okKs [] K)) ∧ w = w' := by
  have HA := Lib.hid h
  have HN : Hid (n = K.length) := Lib.hid (by have := h.len; simpa using this.symm)
  have HBB := Lib.hid hb
  obtain ⟨r, hr⟩ : ∃ r, okKs [] K = r := ⟨_, rfl⟩
  have HR := Lib.hid hr
  rw [hr]
  clear h hr hb
  go_enter Try.func89, Try.ntmps89
  go_wp2
  go_loopw [3, 8] (fun s i wr => wr = w ∧ ∃ (k : Nat) (ah : ByteArray), k ≤ n ∧ i = .int .i64 k ∧ s = .string ah ∧ okKs ah.toList (K.drop k) = r) (fun _ i _ => n - (intOf i).toNat)
  case atStart => exact ⟨rfl, 0, ⟨#[]⟩, Nat.zero_le _, rfl, rfl, by rw [show (⟨#[]⟩ : ByteArray).toList = [] from Go.ByteArray.toList_mk []]; exact HR.out⟩
  case round =>
    obtain ⟨rfl, k, ah, hk, rfl, rfl, hj⟩ := hrel
    by_cases hlt : k < n
    · have hkl : k < K.length := by rw [← HN.out]; exact hlt
      obtain ⟨y, hy⟩ : ∃ y, K[k]? = some y := ⟨_, List.getElem?_eq_getElem hkl⟩
      obtain ⟨g, off, rfl, _, ck⟩ := HA.out.str (g := fun y => y) hy
      have hyb := HBB.out y (List.mem_of_getElem? hy)
      have hdr : K.drop k = y :: K.drop (k + 1) := by
        rw [List.drop_eq_getElem_cons hkl]
        rw [List.getElem?_eq_getElem hkl] at hy
        injection hy with hy
        rw [hy]
      rw [hdr] at hj
      obtain ⟨sk, hsk⟩ : ∃ sk : ByteArray, (⟨y.toArray⟩ : ByteArray) = sk := ⟨_, rfl⟩
      have hkl2 : y = sk.toList := by rw [← hsk]; exact (Go.ByteArray.toList_mk _).symm
      have hsz : sk.size = y.length := by rw [← hsk]; exact size_list _
      rw [hsk] at ck
      obtain ⟨m, hm⟩ : ∃ m, y.length = m := ⟨_, rfl⟩
      rw [hm] at hsz hyb
      unfold okKs at hj
      rw [hm] at hj
      have i0 : (0 : Int) ≤ (k : Int) := by omega
      have i1 : (k : Int) < (n : Int) := by omega
      by_cases hlow : Op.bytesLess ah.toList sk.toList = true
      · obtain ⟨f0, f1⟩ := le_no hlow
        rw [hkl2, hlow] at hj
        by_cases hm2 : m ≤ 16
        · have hJ : Hid (okKs sk.toList (K.drop (k + 1)) = r) := Lib.hid (by rw [← hj]; simp [hm2])
          have i5 : ¬ (16 < m) := by omega
          have i6 : ¬ ((16 : Int) < (m : Int)) := by omega
          clear hj hlow hy hdr hsk hkl2 hm hkl
          go_wp2
          go_roundw
          case rel => exact ⟨trivial, k + 1, sk, by omega, by go_num, rfl, hJ.out⟩
          case measure => simp [intOf]; omega
        · have hJ : Hid (false = r) := Lib.hid (by rw [← hj]; simp [hm2])
          have i5 : 16 < m := by omega
          have i6 : (16 : Int) < (m : Int) := by omega
          clear hj hlow hy hdr hsk hkl2 hm hkl
          go_wp2
          go_ret
          exact ⟨by rw [← hJ.out]; rfl, rfl⟩
      · have hbl2 : Op.bytesLess ah.toList sk.toList = false := by simpa using hlow
        have hJ : Hid (false = r) := Lib.hid (by rw [← hj, hkl2, hbl2]; rfl)
        rcases le_yes hbl2 with f0 | ⟨f0, f1⟩
        · clear hj hlow hy hdr hsk hkl2 hm hkl hbl2
          go_wp2
          go_ret
          exact ⟨by rw [← hJ.out]; rfl, rfl⟩
        · clear hj hlow hy hdr hsk hkl2 hm hkl hbl2
          go_wp2
          go_ret
          exact ⟨by rw [← hJ.out]; rfl, rfl⟩
    · obtain rfl : k = n := by omega
      have hJ : Hid (true = r) := Lib.hid (by rw [← hj, List.drop_of_length_le (by rw [HN.out]; omega)]; rfl)
      clear hj
      go_wp2
      go_ret
      exact ⟨by rw [← hJ.out]; rfl, rfl⟩
def badV (d : Nat) (pn : Nat) : Bool := decide (400 < d) || (decide (0 < pn) && decide (needN (d : Int) = 0))
theorem trAreVals1_any (d : List UInt8) (a : Option Addr) (pn pc : Nat) (w : World) (hd : d.length ≤ 1000) (hp : pn ≤ 1000) :
    Calls Try.prog 96 #[.agg #[.string ⟨d.toArray⟩, .slice a pn pc]] w fun e w' => e = .returned (.bool (badV d.length pn)) ∧ Below w.heap.size w w' := by
  obtain ⟨sd, hsd⟩ : ∃ s : ByteArray, (⟨d.toArray⟩ : ByteArray) = s := ⟨_, rfl⟩
  have hsz : sd.size = d.length := by rw [← hsd]; exact size_list _
  rw [hsd]
  clear hsd
  obtain ⟨n', hn'⟩ : ∃ n', d.length = n' := ⟨_, rfl⟩
  rw [hn'] at hsz hd ⊢
  clear hn'
  obtain ⟨W, hW⟩ : ∃ W, w.alloc (.cells #[.string sd, .slice a pn pc] 84) = W := ⟨_, rfl⟩
  have HB : Hid (Below w.heap.size w W) := Lib.hid (hW ▸ (Below.refl _ w).alloc (Nat.le_refl _) _)
  have hX := hW ▸ Has.made w 84 #[.string sd, .slice a pn pc]
  have x0 : W.cell? ⟨w.heap.size, 0, none⟩ = some (.string sd) := hX.cell 0
  have x1 : W.cell? ⟨w.heap.size, 1, none⟩ = some (.slice a pn pc) := hX.cell 1
  have HND := Lib.hid (fun w1 => hNeed_any (n' : Int) w1)
  obtain ⟨nd, hnd⟩ : ∃ z, needN (n' : Int) = z := ⟨_, rfl⟩
  rw [hnd] at HND
  clear hX
  by_cases h1 : 400 < n'
  · have HR : Hid (badV n' pn = true) := Lib.hid (by unfold badV; simp [h1])
    have h1i : (400 : Int) < (n' : Int) := by omega
    go_enter Try.func96, Try.ntmps96
    go_wp2
    go_ret
    exact ⟨by rw [HR.out]; rfl, HB.out⟩
  · have h1i : ¬ (400 : Int) < (n' : Int) := by omega
    by_cases h2 : 0 < pn
    · have h2i : (0 : Int) < (pn : Int) := by omega
      by_cases h3 : nd = 0
      · subst h3
        have HR : Hid (badV n' pn = true) := Lib.hid (by unfold badV; rw [hnd]; simp [h2])
        clear hnd
        go_enter Try.func96, Try.ntmps96
        go_wp2_with (go_at_call 97; (with_reducible refine (HND.out _).mono ?_); rintro e8 w8 ⟨rfl, rfl⟩)
        go_ret
        exact ⟨by rw [HR.out]; rfl, HB.out⟩
      · have HR : Hid (badV n' pn = false) := Lib.hid (by unfold badV; rw [hnd]; simp [h1, h3])
        have h3i : ((nd : Int) == 0) = false := by simpa using h3
        clear hnd
        go_enter Try.func96, Try.ntmps96
        go_wp2_with (go_at_call 97; (with_reducible refine (HND.out _).mono ?_); rintro e8 w8 ⟨rfl, rfl⟩)
        go_ret
        exact ⟨by rw [HR.out]; rfl, HB.out⟩
    · have HR : Hid (badV n' pn = false) := Lib.hid (by unfold badV; simp [h1, h2])
      have h2i : ¬ (0 : Int) < (pn : Int) := by omega
      go_enter Try.func96, Try.ntmps96
      go_wp2
      go_ret
      exact ⟨by rw [HR.out]; rfl, HB.out⟩
def okVs (l : List Lf) : Bool := !l.any fun x => badV x.d.length x.pg.length
set_option maxRecDepth 100000 in
set_option maxHeartbeats 1000000 in
theorem idxFV_any (F : Nat → Prop) (A : Option Addr) (n c : Nat) (l : List Lf) (vs : List VE) (w : World) (h : RwF F w A n c 2 (flatS veL vs)) (hb : Both (ValR F w) vs l) (hn : n ≤ 1000000) (hd : ∀ x ∈ l, x.d.length ≤ 1000 ∧ x.pg.length ≤ 1000) :
    Calls Try.prog 101 #[.slice A n c, .func (.func 96) #[] #[]] w fun e w' => (∃ z : Int, e = .returned (.int .i64 z) ∧ decide (0 ≤ z) = !okVs l) ∧ Below w.heap.size w w' := by
  have HA := Lib.hid h
  have HB := Lib.hid hb
  have HN : Hid (n = l.length) := Lib.hid (by rw [h.lenS veL_len (by omega), hb.1])
  have HD := Lib.hid hd
  clear h hb hd
  go_enter Try.func101, Try.ntmps101
  go_wp2
  go_loopw [8] (fun i wr => ∃ k : Nat, k ≤ n ∧ i = .int .i64 k ∧ (∀ (j : Nat) (x : Lf), j < k → l[j]? = some x → badV x.d.length x.pg.length = false) ∧ Below w.heap.size w wr) (fun i _ => n - (intOf i).toNat)
  case atStart => exact ⟨0, Nat.zero_le _, rfl, fun j x hj => absurd hj (by omega), Below.refl _ _⟩
  case round =>
    obtain ⟨k, hk, rfl, hj, hbl⟩ := hrel
    have HJ := Lib.hid hj
    have HBL := Lib.hid hbl
    clear hj hbl
    by_cases hlt : k < n
    · obtain ⟨x, hx⟩ : ∃ x, l[k]? = some x := ⟨_, List.getElem?_eq_getElem (by rw [← HN.out]; exact hlt)⟩
      obtain ⟨v, hv, hvx⟩ := HB.out.at_ hx
      obtain ⟨g, off, rfl, _, hvc⟩ := (HA.out.below HBL.out).atS veL_len (by omega) hv
      have v0 : wr.cell? ⟨g, off + k * 2, none⟩ = some (.string ⟨v.d.toArray⟩) := hvc 0 _ rfl
      have v1 : wr.cell? ⟨g, off + k * 2 + 1, none⟩ = some (.slice v.pa v.pn v.pc) := hvc 1 _ rfl
      have hpn : v.pn = x.pg.length := by have := (And.right hvx).len; simpa using this.symm
      have hdx := HD.out x (List.mem_of_getElem? hx)
      have HC := Lib.hid (trAreVals1_any v.d v.pa v.pn v.pc wr (by rw [And.left hvx]; exact hdx.1) (by rw [hpn]; exact hdx.2))
      rw [And.left hvx, hpn] at HC
      rw [And.left hvx] at v0
      rw [hpn] at v1
      have HX := Lib.hid hx
      obtain ⟨sd, hsd⟩ : ∃ s : ByteArray, (⟨x.d.toArray⟩ : ByteArray) = s := ⟨_, rfl⟩
      rw [hsd] at v0 HC
      have i0 : (0 : Int) ≤ (k : Int) := by omega
      have i1 : (k : Int) < (n : Int) := by omega
      clear hv hvx hvc hpn hdx hx hsd
      by_cases hbad : badV x.d.length x.pg.length = true
      · have HF : Hid (decide ((0 : Int) ≤ (k : Int)) = !okVs l) := Lib.hid (by
          have : l.any (fun x => badV x.d.length x.pg.length) = true := List.any_eq_true.2 ⟨x, List.mem_of_getElem? HX.out, hbad⟩
          unfold okVs
          rw [this]
          simp)
        rw [hbad] at HC
        clear hbad
        go_wp2_with (go_at_call 96; (with_reducible refine HC.out.mono ?_); rintro e1 w1 ⟨rfl, b1⟩; have B1 := Lib.hid (below_step HBL.out b1); clear b1)
        go_ret
        exact ⟨⟨_, rfl, HF.out⟩, B1.out⟩
      · have hbad : badV x.d.length x.pg.length = false := by simpa using hbad
        rw [hbad] at HC
        have HF := Lib.hid hbad
        clear hbad
        go_wp2_with (go_at_call 96; (with_reducible refine HC.out.mono ?_); rintro e1 w1 ⟨rfl, b1⟩; have B1 := Lib.hid (below_step HBL.out b1); clear b1)
        go_roundw
        case rel => exact ⟨k + 1, by omega, by go_num, fun j u hj hu => by
          by_cases e : j = k
          · subst e
            rw [HX.out] at hu
            injection hu with hu
            subst hu
            exact HF.out
          · exact HJ.out j u (by omega) hu, B1.out⟩
        case measure => simp [intOf]; omega
    · obtain rfl : k = n := by omega
      have HF : Hid (decide ((0 : Int) ≤ -1) = !okVs l) := Lib.hid (by
        have : l.any (fun x => badV x.d.length x.pg.length) = false := List.any_eq_false.2 fun x hx => by
          obtain ⟨j, hj⟩ := List.getElem?_of_mem hx
          rw [HJ.out j x (by rw [HN.out]; exact (List.getElem?_eq_some_iff.1 hj).1) hj]
          decide
        unfold okVs
        rw [this]
        decide)
      go_wp2
      go_ret
      exact ⟨⟨_, rfl, HF.out⟩, HBL.out⟩
theorem contV_any (F : Nat → Prop) (A : Option Addr) (n c : Nat) (l : List Lf) (vs : List VE) (w : World) (h : RwF F w A n c 2 (flatS veL vs)) (hb : Both (ValR F w) vs l) (hn : n ≤ 1000000) (hd : ∀ x ∈ l, x.d.length ≤ 1000 ∧ x.pg.length ≤ 1000) :
    Calls Try.prog 95 #[.slice A n c, .func (.func 96) #[] #[]] w fun e w' => e = .returned (.bool (!okVs l)) ∧ Below w.heap.size w w' := by
  have HQ := Lib.hid (idxFV_any F A n c l vs w h hb hn hd)
  obtain ⟨r, hr⟩ : ∃ r, (!okVs l) = r := ⟨_, rfl⟩
  rw [hr] at HQ ⊢
  clear h hb hd hr
  go_enter Try.func95, Try.ntmps95
  go_wp2_with (go_at_call 101; (with_reducible refine HQ.out.mono ?_); rintro e1 w1 ⟨⟨z, rfl, hz⟩, b1⟩; have B1 := Lib.hid b1; have HZ := Lib.hid hz; clear b1 hz)
  go_ret
  exact ⟨by rw [← HZ.out]; rfl, B1.out⟩
theorem trAreVals_any (F : Nat → Prop) (A : Option Addr) (n c : Nat) (l : List Lf) (vs : List VE) (w : World) (h : RwF F w A n c 2 (flatS veL vs)) (hb : Both (ValR F w) vs l) (hn : n ≤ 1000000) (hd : ∀ x ∈ l, x.d.length ≤ 1000 ∧ x.pg.length ≤ 1000) :
    Calls Try.prog 90 #[.slice A n c] w fun e w' => e = .returned (.bool (okVs l)) ∧ Below w.heap.size w w' := by
  have HQ := Lib.hid (contV_any F A n c l vs w h hb hn hd)
  obtain ⟨r, hr⟩ : ∃ r, okVs l = r := ⟨_, rfl⟩
  rw [hr] at HQ ⊢
  clear h hb hd hr
  go_enter Try.func90, Try.ntmps90
  go_wp2_with (go_at_call 95; (with_reducible refine HQ.out.mono ?_); rintro e1 w1 ⟨rfl, b1⟩; have B1 := Lib.hid b1; clear b1)
  go_ret
  exact ⟨by cases r <;> rfl, B1.out⟩
end Go.Proofs.Ytpaklhifnndeoaa
end
