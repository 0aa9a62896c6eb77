import Derived.Test.YtglkmpglpddfdaaGreatDoorJCpa
import Derived.Test.YtglkmpglpddfdaaGreatDoorJPag
import Derived.Recover
import Derived.Defers
import Derived.Deep.RegionWith
import Derived.Deep.RegionHeld
import Derived.Test.YtglkmpglpddfdaaGreatDoorJ07
import Derived.Deep.RegionHeld3
/- Of a claim's texts, joined: Cpb Cpc Laka. No statement but in the last. -/
section
namespace Go.Proofs.YtglkmpglpddfdaaGreatDoor
open Go.RowKit
set_option linter.unusedVariables false

abbrev We := List UInt8 × Nat × Nat
def wE (x : We) : List Value := [.string ⟨x.1.toArray⟩, .int .i64 (x.2.1 : Int), .int .i64 (x.2.2 : Int)]
def cellsE (l : List We) : List Value := l.flatMap wE
theorem cellsE_len (l : List We) : (cellsE l).length = l.length * 3 := by
  induction l with
  | nil => rfl
  | cons x l ih => simp [cellsE, wE] at ih ⊢; omega
theorem cellsE_drop (x : We) (l : List We) : (cellsE (x :: l)).drop 3 = cellsE l := rfl
structure ArgE (w : World) (A : Option Addr) (n c : Nat) (l : List We) : Prop where
  len : n = l.length
  row : Row w 119 0 A (cellsE l)
  room : n ≤ c
  most : c ≤ maxLen
def PKx (w : World) (base P : Nat) (vn vu vq vg : Value) (A : Option Addr) (n k : Nat) (c : Cf) (ln : Nat) (l : List We) (en : Nat) : Prop :=
  Has w P 75 #[vn, vu, vq, vg, .int .i64 (ln : Int), .slice A n k, .int .i64 (en : Int)] ∧ base ≤ P ∧ w.ownsRow base 9 1 vn c.names.length (c.names.map strV) ∧ w.ownsRow base 37 1 vu c.up.length (c.up.map u64V) ∧
    w.ownsRow base 3 1 vq c.quotas.length (c.quotas.map (Value.int .i64)) ∧ w.ownsRow base 45 3 vg c.grants.length (cellsG c.grants) ∧ ArgE w A n k l
def PK (w : World) (base P : Nat) (c : Cf) (ln : Nat) (l : List We) (en : Nat) : Prop := ∃ vn vu vq vg A n k, PKx w base P vn vu vq vg A n k c ln l en
theorem ArgE.below {w w' : World} {A : Option Addr} {n c : Nat} {l : List We} (h : ArgE w A n c l) (hb : Below w.heap.size w w') : ArgE w' A n c l := ⟨h.len, h.row.below hb, h.room, h.most⟩
theorem PKx.below {w w' : World} {base P : Nat} {vn vu vq vg : Value} {A : Option Addr} {n k : Nat} {c : Cf} {ln : Nat} {l : List We} {en : Nat} (h : PKx w base P vn vu vq vg A n k c ln l en) (hb : Below w.heap.size w w') : PKx w' base P vn vu vq vg A n k c ln l en := by
  obtain ⟨h1, h2, h3, h4, h5, h6, h7⟩ := h
  exact ⟨h1.below hb h1.lt, h2, own_bel h3 hb, own_bel h4 hb, own_bel h5 hb, own_bel h6 hb, h7.below hb⟩
theorem PK.below {w w' : World} {base P : Nat} {c : Cf} {ln : Nat} {l : List We} {en : Nat} (h : PK w base P c ln l en) (hb : Below w.heap.size w w') : PK w' base P c ln l en := by
  obtain ⟨vn, vu, vq, vg, A, n, k, h⟩ := h
  exact ⟨vn, vu, vq, vg, A, n, k, h.below hb⟩

theorem below_more {B : Nat} {a b c : World} (h : Below B a b) (hb : B ≤ a.heap.size) (k : Below b.heap.size b c) : Below B a c := h.trans (k.mono (Nat.le_trans hb h.size))
def FailEnd (ln at_ : Nat) (base : Nat) (w : World) (e : Ending) (w' : World) : Prop := e = .panicked [{ v := .iface 39 (.agg #[.int .i64 (ln : Int), .int .i64 (at_ : Int)]), recovered := false }] ∧ Below base w w'
theorem fail_any (P ln at_ : Nat) (w : World) (h4 : w.cell? ⟨P, 4, none⟩ = some (.int .i64 (ln : Int))) :
    Calls Tryz.prog 82 #[.pointer (some ⟨P, 0, none⟩), .int .i64 (at_ : Int)] w (FailEnd ln at_ w.heap.size w) := by
  go_enter Tryz.func82, Tryz.ntmps82
  go_wp2
  exact ⟨rfl, rfl, Below.refl _ _⟩

set_option maxRecDepth 100000 in
theorem take_nil {base P ln en : Nat} {c : Cf} (w : World) (h : PK w base P c ln [] en) (hb : base ≤ w.heap.size) :
    Calls Tryz.prog 79 #[.pointer (some ⟨P, 0, none⟩)] w (FailEnd ln en base w) := by
  obtain ⟨vn, vu, vq, vg, A, n, k, hP, hbp, _, _, _, _, hE⟩ := h
  obtain rfl : n = 0 := hE.len
  have hB1 : Below w.heap.size w (w.alloc (.cells #[.string ⟨#[]⟩, .int .i64 0, .int .i64 0] 119)) := (Below.refl _ w).alloc (Nat.le_refl _) _
  have hP1 := hP.below hB1 hP.lt
  obtain ⟨W, hW⟩ : ∃ W, w.alloc (.cells #[.string ⟨#[]⟩, .int .i64 0, .int .i64 0] 119) = W := ⟨_, rfl⟩
  rw [hW] at hB1 hP1
  have c4 : W.cell? ⟨P, 4, none⟩ = some (.int .i64 (ln : Int)) := by rw [hP1.cell]; simp
  have c5 : W.cell? ⟨P, 5, none⟩ = some (.slice A 0 k) := by rw [hP1.cell]; simp
  have c6 : W.cell? ⟨P, 6, none⟩ = some (.int .i64 (en : Int)) := by rw [hP1.cell]; simp
  have HF := Lib.hid (fail_any P ln en W c4)
  have HB := Lib.hid (hB1.mono hb)
  clear hP hP1 hE hB1
  go_enter Tryz.func79, Tryz.ntmps79
  go_wp2_with (go_at_call 82; (with_reducible refine HF.out.mono ?_); rintro e w1 ⟨rfl, h1⟩; have B1 := Lib.hid h1; clear h1)
  exact ⟨rfl, rfl, below_more HB.out hb B1.out⟩

theorem own_keep {w : World} {b g : Nat} {e t : TypeId} {s n : Nat} {v : Value} {xs : List Value} {cs : Array Value} (h : w.ownsRow b e s v n xs) (hg : Has w g t cs) (hne : e ≠ t) (i : Nat) (u : Value) : (w.setCell ⟨g, i, none⟩ u).ownsRow b e s v n xs := own_store h hg hne i u
theorem setCell_has {w : World} {g : Nat} {t : TypeId} {cs : Array Value} (h : Has w g t cs) (i : Nat) (u : Value) (ds : Array Value) (hd : cs.setIfInBounds i u = ds) : Has (w.setCell ⟨g, i, none⟩ u) g t ds := hd ▸ h.store i u
theorem only_new {a w : World} {g Y : Nat} (h : a.grownBy w (some g)) (hY : a.heap.size ≤ Y) (i : Nat) (u : Value) : a.grownBy (w.setCell ⟨Y, i, none⟩ u) (some g) :=
  ⟨h.os, h.tape, h.output, by simpa [World.setCell] using h.size, fun j hj hne => (Below.heap_setCell w _ u j (fun e => by
    have e2 : j = Y := e
    omega)).trans (h.block j hj hne)⟩
theorem only_drew {a w : World} {r : Option Nat} (h : a.grownBy w r) : a.grownBy w.drew r := ⟨h.os, h.tape, h.output, h.size, h.block⟩
theorem take_fin {base P ln en n k' Y g off' a b : Nat} {c : Cf} {l : List We} {w V V1 V2 V3 V4 V5 : World} {vn vu vq vg sv v0 v1 v2 : Value} {A' : Option Addr}
    (hP : Has V P 75 #[vn, vu, vq, vg, .int .i64 (ln : Int), sv, .int .i64 (en : Int)]) (hbp : base ≤ P)
    (o1 : V.ownsRow base 9 1 vn c.names.length (c.names.map strV)) (o2 : V.ownsRow base 37 1 vu c.up.length (c.up.map u64V)) (o3 : V.ownsRow base 3 1 vq c.quotas.length (c.quotas.map (Value.int .i64))) (o4 : V.ownsRow base 45 3 vg c.grants.length (cellsG c.grants))
    (hY : Has V Y 119 #[.string ⟨#[]⟩, .int .i64 0, .int .i64 0]) (hbY : base ≤ Y) (hB : Below base w V) (hBw : Below w.heap.size w V) (hYw : w.heap.size ≤ Y) (hn : n = l.length) (hk : n ≤ k') (hm : k' ≤ maxLen)
    (hR : l = [] ∨ ∃ cs, A' = some ⟨g, off', none⟩ ∧ Has V g 119 cs ∧ g ≠ Y ∧ ∀ j u, (cellsE l)[j]? = some u → cs[off' + j]? = some u)
    (h1 : V.setCell ⟨P, 5, none⟩ (.slice A' n k') = V1) (h2 : V1.setCell ⟨P, 6, none⟩ (.int .i64 (b : Int)) = V2) (h3 : V2.setCell ⟨Y, 0, none⟩ v0 = V3) (h4 : V3.setCell ⟨Y, 1, none⟩ v1 = V4) (h5 : V4.setCell ⟨Y, 2, none⟩ v2 = V5) :
    Has V5.drew Y 119 #[v0, v1, v2] ∧ PK V5.drew base P c ln l b ∧ Below base w V5.drew ∧ w.grownBy V5.drew (some P) := by
  have hG : w.grownBy V5.drew (some P) := by
    have := only_new (only_new (only_new (only_store (only_store (only_of_below (g := P) hBw (Nat.le_refl _)) 5 (.slice A' n k')) 6 (.int .i64 (b : Int))) hYw 0 v0) hYw 1 v1) hYw 2 v2
    rw [h1, h2, h3, h4, h5] at this
    exact only_drew this
  have nYP : Y ≠ P := hY.apart hP (by decide)
  have p1 := setCell_has hP 5 (.slice A' n k') _ rfl
  have y1 := hY.away (p := ⟨P, 5, none⟩) nYP (.slice A' n k')
  have b1 := hB.setCell (p := ⟨P, 5, none⟩) hbp (.slice A' n k')
  have q1 := own_keep o1 hP (by decide) 5 (.slice A' n k')
  have q2 := own_keep o2 hP (by decide) 5 (.slice A' n k')
  have q3 := own_keep o3 hP (by decide) 5 (.slice A' n k')
  have q4 := own_keep o4 hP (by decide) 5 (.slice A' n k')
  have hR1 : l = [] ∨ ∃ cs, A' = some ⟨g, off', none⟩ ∧ Has V1 g 119 cs ∧ g ≠ Y ∧ ∀ j u, (cellsE l)[j]? = some u → cs[off' + j]? = some u := hR.imp id (fun ⟨cs, r1, r2, r3, r4⟩ => ⟨cs, r1, h1 ▸ r2.away (p := ⟨P, 5, none⟩) (r2.apart hP (by decide)) _, r3, r4⟩)
  rw [h1] at p1 y1 b1 q1 q2 q3 q4
  clear o1 o2 o3 o4 hP hY hB hR h1
  have p2 := setCell_has p1 6 (.int .i64 (b : Int)) _ rfl
  have y2 := y1.away (p := ⟨P, 6, none⟩) nYP (.int .i64 (b : Int))
  have b2 := b1.setCell (p := ⟨P, 6, none⟩) hbp (.int .i64 (b : Int))
  have r1 := own_keep q1 p1 (by decide) 6 (.int .i64 (b : Int))
  have r2 := own_keep q2 p1 (by decide) 6 (.int .i64 (b : Int))
  have r3 := own_keep q3 p1 (by decide) 6 (.int .i64 (b : Int))
  have r4 := own_keep q4 p1 (by decide) 6 (.int .i64 (b : Int))
  have hR2 : l = [] ∨ ∃ cs, A' = some ⟨g, off', none⟩ ∧ Has V2 g 119 cs ∧ g ≠ Y ∧ ∀ j u, (cellsE l)[j]? = some u → cs[off' + j]? = some u := hR1.imp id (fun ⟨cs, r1, r2, r3, r4⟩ => ⟨cs, r1, h2 ▸ r2.away (p := ⟨P, 6, none⟩) (r2.apart p1 (by decide)) _, r3, r4⟩)
  rw [h2] at p2 y2 b2 r1 r2 r3 r4
  clear q1 q2 q3 q4 p1 y1 b1 hR1 h2
  have step : ∀ {U U' : World} {i : Nat} {u : Value} {cs ds : Array Value}, U.setCell ⟨Y, i, none⟩ u = U' → Has U Y 119 cs → cs.setIfInBounds i u = ds →
      ∀ {ps : Array Value}, Has U P 75 ps → Below base w U → (∀ {e : TypeId} {s m : Nat} {v : Value} {xs : List Value}, e ≠ 119 → U.ownsRow base e s v m xs → U'.ownsRow base e s v m xs) ∧ Has U' Y 119 ds ∧ Has U' P 75 ps ∧ Below base w U' ∧
        ∀ cs' g', g' ≠ Y → Has U g' 119 cs' → Has U' g' 119 cs' := by
    intro U U' i u cs ds hU hy hd ps hp hb
    subst hU
    exact ⟨fun hne ho => own_keep ho hy hne i u, setCell_has hy i u ds hd, hp.away (p := ⟨Y, i, none⟩) nYP.symm u, hb.setCell (p := ⟨Y, i, none⟩) hbY u, fun cs' g' hg hh => hh.away (p := ⟨Y, i, none⟩) hg u⟩
  obtain ⟨k3, y3, p3, b3, g3⟩ := step h3 y2 (ds := #[v0, .int .i64 0, .int .i64 0]) (by simp) p2 b2
  obtain ⟨k4, y4, p4, b4, g4⟩ := step h4 y3 (ds := #[v0, v1, .int .i64 0]) (by simp) p3 b3
  obtain ⟨k5, y5, p5, b5, g5⟩ := step h5 y4 (ds := #[v0, v1, v2]) (by simp) p4 b4
  refine ⟨y5.drew, ⟨vn, vu, vq, vg, A', n, k', ?_, hbp, k5 (by decide) (k4 (by decide) (k3 (by decide) r1)), k5 (by decide) (k4 (by decide) (k3 (by decide) r2)), k5 (by decide) (k4 (by decide) (k3 (by decide) r3)), k5 (by decide) (k4 (by decide) (k3 (by decide) r4)), ⟨hn, ?_, hk, hm⟩⟩, b5.drew, hG⟩
  · have e : ((#[vn, vu, vq, vg, .int .i64 (ln : Int), sv, .int .i64 (en : Int)] : Array Value).setIfInBounds 5 (.slice A' n k')).setIfInBounds 6 (.int .i64 (b : Int)) = #[vn, vu, vq, vg, .int .i64 (ln : Int), .slice A' n k', .int .i64 (b : Int)] := by simp
    rw [e] at p5
    exact p5.drew
  · rcases hR2 with rfl | ⟨cs, rfl, hg, hgY, hc⟩
    · exact Row.empty
    · exact fun _ => ⟨g, off', cs, rfl, Nat.zero_le _, g5 _ _ hgY (g4 _ _ hgY (g3 _ _ hgY hg)), hc⟩
set_option maxRecDepth 100000 in
set_option maxHeartbeats 4000000 in
theorem take_cons {base P ln en : Nat} {c : Cf} {x : We} {l : List We} (w : World) (h : PK w base P c ln (x :: l) en) (hb : base ≤ w.heap.size) :
    Calls Tryz.prog 79 #[.pointer (some ⟨P, 0, none⟩)] w fun e w' => e = .returned (.agg #[.string ⟨x.1.toArray⟩, .int .i64 (x.2.1 : Int), .int .i64 (x.2.2 : Int)]) ∧ PK w' base P c ln l x.2.2 ∧ Below base w w' ∧ w.grownBy w' (some P) := by
  obtain ⟨t, a, b⟩ := x
  obtain ⟨vn, vu, vq, vg, A, n, k, hP, hbp, o1, o2, o3, o4, hE⟩ := h
  obtain ⟨g, off, cs, rfl, _, hg, hcs⟩ := hE.row (by rw [cellsE_len]; simp)
  have hn := hE.len
  obtain ⟨n, rfl⟩ : ∃ m, n = m + 1 := ⟨n - 1, by simp at hn; omega⟩
  have hkr := hE.room
  have hkm := hE.most
  have hB1 : Below w.heap.size w (w.alloc (.cells #[.string ⟨#[]⟩, .int .i64 0, .int .i64 0] 119)) := (Below.refl _ w).alloc (Nat.le_refl _) _
  obtain ⟨W, hW⟩ : ∃ W, w.alloc (.cells #[.string ⟨#[]⟩, .int .i64 0, .int .i64 0] 119) = W := ⟨_, rfl⟩
  rw [hW] at hB1
  have hP1 := hP.below hB1 hP.lt
  have hg1 := hg.below hB1 hg.lt
  have c4 : W.cell? ⟨P, 4, none⟩ = some (.int .i64 (ln : Int)) := by rw [hP1.cell]; simp
  have c5 : W.cell? ⟨P, 5, none⟩ = some (.slice (some ⟨g, off, none⟩) (n + 1 : Nat) k) := by rw [hP1.cell]; simp
  have c6 : W.cell? ⟨P, 6, none⟩ = some (.int .i64 (en : Int)) := by rw [hP1.cell]; simp
  have g0 : W.cell? ⟨g, off, none⟩ = some (.string ⟨t.toArray⟩) := by rw [hg1.cell]; exact hcs 0 _ (by simp [cellsE, wE])
  have g1 : W.cell? ⟨g, off + 1, none⟩ = some (.int .i64 (a : Int)) := by rw [hg1.cell]; exact hcs 1 _ (by simp [cellsE, wE])
  have g2 : W.cell? ⟨g, off + 2, none⟩ = some (.int .i64 (b : Int)) := by rw [hg1.cell]; exact hcs 2 _ (by simp [cellsE, wE])
  have hB2 : Below W.heap.size W (W.alloc (.cells #[.string ⟨t.toArray⟩, .int .i64 (a : Int), .int .i64 (b : Int)] 119)) := (Below.refl _ W).alloc (Nat.le_refl _) _
  have hX2 := Has.made W 119 #[.string ⟨t.toArray⟩, .int .i64 (a : Int), .int .i64 (b : Int)]
  have hY2 := (show Has W w.heap.size 119 _ from hW ▸ Has.made w 119 #[.string ⟨#[]⟩, .int .i64 0, .int .i64 0]).alloc (.cells #[.string ⟨t.toArray⟩, .int .i64 (a : Int), .int .i64 (b : Int)] 119)
  obtain ⟨V, hV⟩ : ∃ V, W.alloc (.cells #[.string ⟨t.toArray⟩, .int .i64 (a : Int), .int .i64 (b : Int)] 119) = V := ⟨_, rfl⟩
  rw [hV] at hB2 hX2 hY2
  have hP2 := hP1.below hB2 hP1.lt
  have d5 : V.cell? ⟨P, 5, none⟩ = some (.slice (some ⟨g, off, none⟩) (n + 1 : Nat) k) := by rw [hP2.cell]; simp
  have d6 : V.cell? ⟨P, 6, none⟩ = some (.int .i64 (en : Int)) := by rw [hP2.cell]; simp
  have x0 : V.cell? ⟨W.heap.size, 0, none⟩ = some (.string ⟨t.toArray⟩) := by rw [hX2.cell]; simp
  have x1 : V.cell? ⟨W.heap.size, 1, none⟩ = some (.int .i64 (a : Int)) := by rw [hX2.cell]; simp
  have y0 : V.cell? ⟨w.heap.size, 0, none⟩ = some (.string ⟨#[]⟩) := by rw [hY2.cell]; simp
  have y1 : V.cell? ⟨w.heap.size, 1, none⟩ = some (.int .i64 0) := by rw [hY2.cell]; simp
  have y2 : V.cell? ⟨w.heap.size, 2, none⟩ = some (.int .i64 0) := by rw [hY2.cell]; simp
  have z0 : V.frozen? ⟨w.heap.size, 0, none⟩ = false := hY2.free 0
  have z1 : V.frozen? ⟨w.heap.size, 1, none⟩ = false := hY2.free 1
  have z2 : V.frozen? ⟨w.heap.size, 2, none⟩ = false := hY2.free 2
  have nPY : P ≠ w.heap.size := by have := hP.lt; omega
  have nXY : w.heap.size ≠ W.heap.size := by rw [← hW]; simp
  have x2 : V.cell? ⟨W.heap.size, 2, none⟩ = some (.int .i64 (b : Int)) := by rw [hX2.cell]; simp
  have f5 : V.frozen? ⟨P, 5, none⟩ = false := hP2.free 5
  have f6 : V.frozen? ⟨P, 6, none⟩ = false := hP2.free 6
  have nPX : P ≠ W.heap.size := by have := hP1.lt; omega
  have hBV := hB1.trans (hB2.mono hB1.size)
  have hg2 := hg1.below hB2 hg1.lt
  have hgY : g ≠ w.heap.size := by have := hg.lt; omega
  have hln : n = l.length := by simpa using hn
  have hFin := Lib.hid (fun (k' off' : Nat) (A' : Option Addr) (V1 V2 V3 V4 V5 : World) (h1 : l.length ≤ k') (h2 : k' ≤ maxLen) (h3 : l = [] ∨ ∃ cs, A' = some ⟨g, off', none⟩ ∧ Has V g 119 cs ∧ g ≠ w.heap.size ∧ ∀ j u, (cellsE l)[j]? = some u → cs[off' + j]? = some u) q1 q2 q3 q4 q5 =>
    take_fin (a := a) (b := b) (n := n) (k' := k') (A' := A') (V1 := V1) (V2 := V2) (V3 := V3) (V4 := V4) (V5 := V5) (v0 := .string ⟨t.toArray⟩) (v1 := .int .i64 (a : Int)) (v2 := .int .i64 (b : Int)) hP2 hbp (own_bel (own_bel o1 hB1) hB2) (own_bel (own_bel o2 hB1) hB2) (own_bel (own_bel o3 hB1) hB2) (own_bel (own_bel o4 hB1) hB2) hY2 hb (hBV.mono hb) hBV (Nat.le_refl _) hln (by omega) h2 h3 q1 q2 q3 q4 q5)
  have hF1 := Lib.hid (fun (h1 : k = 1) (V1 V2 V3 V4 V5 : World) => hFin.out 0 0 (some ⟨g, off, none⟩) V1 V2 V3 V4 V5 (by omega) (by omega) (.inl (List.eq_nil_of_length_eq_zero (by omega))))
  have hF2 := Lib.hid (fun (h1 : ¬ k = 1) (V1 V2 V3 V4 V5 : World) => hFin.out (k - 1) (off + 3) (some ⟨g, off + 3, none⟩) V1 V2 V3 V4 V5 (by omega) (by omega) (.inr ⟨cs, rfl, hg2, hgY, fun j u hj => by rw [Nat.add_assoc]; exact hcs _ u (by rw [← cellsE_drop (t, a, b) l, List.getElem?_drop] at hj; exact hj)⟩))
  clear hFin hcs hg2 hgY hBV hY2 hX2 hP2 hP1 hg1 hB1 hB2 o1 o2 o3 o4 hg hE hP hbp
  have hF : Hid (n = l.length) := Lib.hid hln
  clear hn hb hln
  by_cases hk1 : k = 1
  · obtain rfl : n = 0 := by omega
    subst hk1
    clear hkr hkm
    go_enter Tryz.func79, Tryz.ntmps79
    go_wp2
    go_region_with (fail)
    all_goals go_wp2
    all_goals
      obtain ⟨e1, e2, e3, e4⟩ := hF1.out (by first | rfl | trivial) _ _ _ _ _ rfl rfl rfl rfl rfl
      refine bodyPost_ret (results_cell_row rfl _ _ w.heap.size 119 _ (0, 0) _ rfl e1 Tryz.underlying119 rfl (by kernel_rfl)) rfl ?_
      exact ⟨rfl, e2, e3, e4⟩
  · go_enter Tryz.func79, Tryz.ntmps79
    go_wp2
    go_region_with (fail)
    all_goals go_wp2
    all_goals
      obtain ⟨e1, e2, e3, e4⟩ := hF2.out hk1 _ _ _ _ _ rfl rfl rfl rfl rfl
      refine bodyPost_ret (results_cell_row rfl _ _ w.heap.size 119 _ (0, 0) _ rfl e1 Tryz.underlying119 rfl (by kernel_rfl)) rfl ?_
      exact ⟨rfl, e2, e3, e4⟩

end Go.Proofs.YtglkmpglpddfdaaGreatDoor
end

section
namespace Go.Proofs.YtglkmpglpddfdaaGreatDoor
open Go.RowKit
set_option linter.unusedVariables false

theorem pk_names {w : World} {base P ln en : Nat} {c : Cf} {l : List We} (h : PK w base P c ln l en) : ∃ A n k, w.cell? ⟨P, 0, none⟩ = some (.slice A n k) ∧ ArgT w A n k c.names := by
  obtain ⟨vn, vu, vq, vg, A, n, k, hP, hbp, o1, _⟩ := h
  obtain ⟨A', k', rfl, hT⟩ := argT_own o1 rfl
  exact ⟨A', _, k', by rw [hP.cell]; simp, hT⟩
theorem pk_line {w : World} {base P ln en : Nat} {c : Cf} {l : List We} (h : PK w base P c ln l en) : w.cell? ⟨P, 4, none⟩ = some (.int .i64 (ln : Int)) := by
  obtain ⟨vn, vu, vq, vg, A, n, k, hP, _⟩ := h
  rw [hP.cell]; simp
set_option maxRecDepth 100000 in
set_option maxHeartbeats 1000000 in
theorem find_any {base P ln en : Nat} {c : Cf} {l : List We} (t : List UInt8) (a b : Int) (w : World) (h : PK w base P c ln l en) (hn : c.names.length ≤ 1000) :
    Calls Tryz.prog 116 #[.pointer (some ⟨P, 0, none⟩), .agg #[.string ⟨t.toArray⟩, .int .i64 a, .int .i64 b]] w (IntEnd (findN c.names t) w) := by
  obtain ⟨A, n, k, c0, hT⟩ := pk_names h
  have hn' : n ≤ 1000000 := by have := hT.len; omega
  have hB1 : Below w.heap.size w (w.alloc (.cells #[.string ⟨t.toArray⟩, .int .i64 a, .int .i64 b] 119)) := (Below.refl _ w).alloc (Nat.le_refl _) _
  have hX := Has.made w 119 #[.string ⟨t.toArray⟩, .int .i64 a, .int .i64 b]
  obtain ⟨W, hW⟩ : ∃ W, w.alloc (.cells #[.string ⟨t.toArray⟩, .int .i64 a, .int .i64 b] 119) = W := ⟨_, rfl⟩
  rw [hW] at hB1 hX
  have HI := Lib.hid (fun w1 (hb : Below w.heap.size w w1) => indexS_any A n k c.names t w1 (hT.below hb) hn')
  have hPl : P < w.heap.size := World.block_lt_of_cell? w _ c0
  have HC := Lib.hid (fun w1 (hb : Below W.heap.size W w1) => show w1.cell? ⟨P, 0, none⟩ = some (.slice A n k) ∧ w1.cell? ⟨w.heap.size, 0, none⟩ = some (.string ⟨t.toArray⟩) from
    ⟨((hB1.trans (hb.mono hB1.size)).cell (p := ⟨P, 0, none⟩) hPl).trans c0, by rw [(hX.below hb hX.lt).cell]; simp⟩)
  have HB := Lib.hid hB1
  have hS := HC.out W.drew (Below.refl _ _).drew
  have BD := Lib.hid (hB1.drew)
  have hmx : Tryz.prog.follows .mixedOrders = true := by kernel_rfl
  clear h hT hB1 hX c0
  generalize findN c.names t = x at HI ⊢
  go_enter Tryz.func116, Tryz.ntmps116
  go_wp2
  rename_i K hK
  refine wp_held (fun w' : World => w'.cell? ⟨P, 0, none⟩ = some (.slice A n k) ∧ w'.cell? ⟨w.heap.size, 0, none⟩ = some (.string ⟨t.toArray⟩)) K hmx ?_ (fun _ _ h => h)
  refine wpAnyH_take (i := 0) (v := .pointer (some ⟨P, 0, none⟩)) rfl (by kernel_rfl) (by kernel_rfl) (by kernel_rfl) (fun _ _ _ h => h) (Or.inl ⟨by rfl, ?_⟩) hS ?_
  · rintro w6 ⟨b0, b1⟩
    go_simp
  simp only [Act.put, List.setIfInBounds_toArray, List.set_cons_zero, List.set_cons_succ, List.getElem_toArray, List.getElem_cons_zero]
  refine wpAnyH_take (i := 1) (v := .pointer (some ⟨P, 0, none⟩)) rfl (by kernel_rfl) (by kernel_rfl) (by kernel_rfl) (fun _ _ _ h => h) (Or.inl ⟨by rfl, ?_⟩) hS ?_
  · rintro w6 ⟨b0, b1⟩
    go_simp
  simp only [Act.put, List.setIfInBounds_toArray, List.set_cons_zero, List.set_cons_succ, List.getElem_toArray, List.getElem_cons_zero, List.getElem_cons_succ]
  refine wpAnyH_take (i := 2) (v := .pointer (some ⟨P, 0, none⟩)) rfl (by kernel_rfl) (by kernel_rfl) (by kernel_rfl) (fun _ _ _ h => h) (Or.inl ⟨by rfl, ?_⟩) hS ?_
  · rintro w6 ⟨b0, b1⟩
    go_simp
  simp only [Act.put, List.setIfInBounds_toArray, List.set_cons_zero, List.set_cons_succ, List.getElem_toArray, List.getElem_cons_zero, List.getElem_cons_succ]
  refine wpAnyH_take (i := 3) (v := .pointer (some ⟨P, 0, none⟩)) rfl (by kernel_rfl) (by kernel_rfl) (by kernel_rfl) (fun _ _ _ h => h) (Or.inl ⟨by rfl, ?_⟩) hS ?_
  · rintro w6 ⟨b0, b1⟩
    go_simp
  simp only [Act.put, List.setIfInBounds_toArray, List.set_cons_zero, List.set_cons_succ, List.getElem_toArray, List.getElem_cons_zero, List.getElem_cons_succ]
  refine wpAnyH_take (i := 4) (v := .slice A n k) rfl (by kernel_rfl) (by kernel_rfl) (by kernel_rfl) (fun _ _ _ h => h) (Or.inl ⟨by rfl, ?_⟩) hS ?_
  · rintro w6 ⟨b0, b1⟩
    go_simp
  simp only [Act.put, List.setIfInBounds_toArray, List.set_cons_zero, List.set_cons_succ, List.getElem_toArray, List.getElem_cons_zero, List.getElem_cons_succ]
  refine wpAnyH_take (i := 5) (v := .pointer (some ⟨w.heap.size, 0, none⟩)) rfl (by kernel_rfl) (by kernel_rfl) (by kernel_rfl) (fun _ _ _ h => h) (Or.inl ⟨by rfl, ?_⟩) hS ?_
  · rintro w6 ⟨b0, b1⟩
    go_simp
  simp only [Act.put, List.setIfInBounds_toArray, List.set_cons_zero, List.set_cons_succ, List.getElem_toArray, List.getElem_cons_zero, List.getElem_cons_succ]
  refine wpAnyH_take (i := 6) (v := .string ⟨t.toArray⟩) rfl (by kernel_rfl) (by kernel_rfl) (by kernel_rfl) (fun _ _ _ h => h) (Or.inl ⟨by rfl, ?_⟩) hS ?_
  · rintro w6 ⟨b0, b1⟩
    go_simp
  simp only [Act.put, List.setIfInBounds_toArray, List.set_cons_zero, List.set_cons_succ, List.getElem_toArray, List.getElem_cons_zero, List.getElem_cons_succ]
  refine wpAnyH_ready (rs := [7]) (by kernel_rfl) (by simp) ?_
  refine AllReadyH.cons rfl (fun K5 hK5 => ?_) AllReadyH.nil
  go_simp
  go_at_call 108
  refine (HI.out _ BD.out).mono ?_
  rintro e w1 ⟨rfl, rfl⟩
  refine hK5.out _ _ hS (fun _ => ?_)
  clear hK5 K5
  refine wpAnyH_take (i := 8) (v := .int .i64 x) rfl (by kernel_rfl) (by kernel_rfl) (by kernel_rfl) (fun _ _ _ h => h) (Or.inl ⟨by rfl, ?_⟩) hS ?_
  · rintro w6 ⟨b0, b1⟩
    go_simp
  simp only [Act.put, List.setIfInBounds_toArray, List.set_cons_zero, List.set_cons_succ, List.getElem_toArray, List.getElem_cons_zero, List.getElem_cons_succ]
  refine wpAnyH_done (by kernel_rfl) ?_ _
  refine hK _ _ ?_
  go_wp2
  go_ret
  exact ⟨rfl, BD.out⟩

theorem box_word {w1 w2 : World} {s : ByteArray} {a b : Int} (hb : Below (w1.alloc (.cells #[.string s, .int .i64 a, .int .i64 b] 119)).heap.size (w1.alloc (.cells #[.string s, .int .i64 a, .int .i64 b] 119)) w2) :
    w2.cell? ⟨w1.heap.size, 0, none⟩ = some (.string s) ∧ w2.cell? ⟨w1.heap.size, 1, none⟩ = some (.int .i64 a) ∧ w2.cell? ⟨w1.heap.size, 2, none⟩ = some (.int .i64 b) := by
  have k := (Has.made w1 119 #[.string s, .int .i64 a, .int .i64 b]).below hb (Has.made _ _ _).lt
  rw [k.cell, k.cell, k.cell]
  simp
set_option maxRecDepth 100000 in
set_option maxHeartbeats 1000000 in
theorem known_nil {base P ln en : Nat} {c : Cf} (w : World) (h : PK w base P c ln [] en) (hb : base ≤ w.heap.size) :
    Calls Tryz.prog 81 #[.pointer (some ⟨P, 0, none⟩)] w (FailEnd ln en base w) := by
  have HT := Lib.hid (take_nil w h hb)
  clear h
  go_enter Tryz.func81, Tryz.ntmps81
  go_wp2_with (go_at_call 79; (with_reducible refine HT.out.mono ?_); rintro e w1 ⟨rfl, h1⟩; have B1 := Lib.hid h1; clear h1)
  exact ⟨rfl, rfl, B1.out⟩
set_option maxRecDepth 100000 in
set_option maxHeartbeats 1000000 in
theorem known_bad {base P ln en : Nat} {c : Cf} {x : We} {l : List We} (w : World) (h : PK w base P c ln (x :: l) en) (hb : base ≤ w.heap.size) (hn : c.names.length ≤ 1000) (hx : findN c.names x.1 < 0) :
    Calls Tryz.prog 81 #[.pointer (some ⟨P, 0, none⟩)] w (FailEnd ln x.2.1 base w) := by
  have HT := Lib.hid (take_cons w h hb)
  obtain ⟨t, a, b⟩ := x
  have HF := Lib.hid (fun w1 (h1 : PK w1 base P c ln l b) => find_any t a b w1 h1 hn)
  have HFl := Lib.hid (fun w1 h4 => fail_any P ln a w1 h4)
  have hx' : decide (findN c.names t < 0) = true := by simpa using hx
  clear h hx
  generalize findN c.names t = z at HF hx'
  go_enter Tryz.func81, Tryz.ntmps81
  go_wp2_with (first
    | (go_at_call 79; (with_reducible refine HT.out.mono ?_); rintro e w1 ⟨rfl, h1, h2, hg1⟩; have B1 := Lib.hid h2; have bA := Lib.hid ((Below.refl w1.heap.size w1).alloc (Nat.le_refl _) (.cells #[.string ⟨t.toArray⟩, .int .i64 (a : Int), .int .i64 (b : Int)] 119)); have P1 := Lib.hid (h1.below bA.out); clear h1 h2 hg1)
    | (go_at_call 116; (with_reducible refine (HF.out _ P1.out).mono ?_); rintro e w2 ⟨rfl, h2⟩; have hc := box_word h2; have c4 := pk_line (P1.out.below h2); have B2 := Lib.hid (below_more B1.out hb (below_step bA.out h2)); obtain ⟨q0, q1, q2⟩ := hc; clear h2)
    | (go_at_call 82; (with_reducible refine (HFl.out _ c4).mono ?_); rintro e w3 ⟨rfl, h3⟩; have B3 := Lib.hid (below_more B2.out hb h3); clear h3))
  exact ⟨rfl, rfl, B3.out⟩
set_option maxRecDepth 100000 in
set_option maxHeartbeats 1000000 in
theorem known_good {base P ln en : Nat} {c : Cf} {x : We} {l : List We} (w : World) (h : PK w base P c ln (x :: l) en) (hb : base ≤ w.heap.size) (hn : c.names.length ≤ 1000) (hx : ¬ findN c.names x.1 < 0) :
    Calls Tryz.prog 81 #[.pointer (some ⟨P, 0, none⟩)] w fun e w' => e = .returned (.int .i64 (findN c.names x.1)) ∧ PK w' base P c ln l x.2.2 ∧ Below base w w' := by
  have HT := Lib.hid (take_cons w h hb)
  obtain ⟨t, a, b⟩ := x
  have HF := Lib.hid (fun w1 (h1 : PK w1 base P c ln l b) => find_any t a b w1 h1 hn)
  have hx' : decide (findN c.names t < 0) = false := by simpa using hx
  clear h hx
  generalize findN c.names t = z at HF hx'
  go_enter Tryz.func81, Tryz.ntmps81
  go_wp2_with (first
    | (go_at_call 79; (with_reducible refine HT.out.mono ?_); rintro e w1 ⟨rfl, h1, h2, hg1⟩; have B1 := Lib.hid h2; have bA := Lib.hid ((Below.refl w1.heap.size w1).alloc (Nat.le_refl _) (.cells #[.string ⟨t.toArray⟩, .int .i64 (a : Int), .int .i64 (b : Int)] 119)); have P1 := Lib.hid (h1.below bA.out); clear h1 h2 hg1)
    | (go_at_call 116; (with_reducible refine (HF.out _ P1.out).mono ?_); rintro e w2 ⟨rfl, h2⟩; have P2 := Lib.hid (P1.out.below h2); have B2 := Lib.hid (below_more B1.out hb (below_step bA.out h2)); clear h2))
  go_ret
  exact ⟨rfl, P2.out, B2.out⟩

end Go.Proofs.YtglkmpglpddfdaaGreatDoor
end

section
namespace Go.Proofs.YtglkmpglpddfdaaGreatDoor
open Go.RowKit
set_option linter.unusedVariables false

def isLab (n : Nat) (c : Int) : Bool := decide (0 ≤ c ∧ c < n ∧ n ≤ 64)
theorem isLabel_any (A : Option Addr) (n k : Nat) (c : Int) (w : World) :
    Calls Tryz.prog 77 #[.slice A n k, .int .i64 c] w fun e w' => e = .returned (.bool (isLab n c)) ∧ w = w' := by
  by_cases h0 : 0 ≤ c
  · by_cases h1 : c < n
    · by_cases h2 : n ≤ 64
      · rw [show isLab n c = true by simp [isLab]; omega]
        go_enter Tryz.func77, Tryz.ntmps77
        go_wp2
        go_ret
        exact ⟨ret_bool (by simp; omega), rfl⟩
      · rw [show isLab n c = false by simp [isLab]; omega]
        go_enter Tryz.func77, Tryz.ntmps77
        go_wp2
        go_ret
        exact ⟨ret_bool (by simp; omega), rfl⟩
    · rw [show isLab n c = false by simp [isLab]; omega]
      go_enter Tryz.func77, Tryz.ntmps77
      go_wp2
      go_ret
      exact ⟨rfl, rfl⟩
  · rw [show isLab n c = false by simp [isLab]; omega]
    go_enter Tryz.func77, Tryz.ntmps77
    go_wp2
    go_ret
    exact ⟨rfl, rfl⟩

theorem wrap_of {x : Int} (h0 : 0 ≤ x) (h : x < 18446744073709551616) : IntKind.u64.wrap x = x := by
  rw [IntKind.wrap_u64]
  omega
theorem labels_num (n : Nat) (hn : n ≤ 64) : IntKind.u64.wrap (IntKind.u64.wrap (2 ^ n) - 1) = ((2 ^ n - 1 : Nat) : Int) := by
  by_cases h : n = 64
  · subst h
    rfl
  · have h1 : (2 : Nat) ^ n ≤ 2 ^ 63 := Nat.pow_le_pow_right (by omega) (by omega)
    have h2 : 0 < (2 : Nat) ^ n := Nat.pow_pos (by omega)
    have e : (2 : Int) ^ n = ((2 ^ n : Nat) : Int) := by simp
    rw [e]
    generalize 2 ^ n = y at h1 h2
    have w1 : IntKind.u64.wrap (y : Int) = (y : Int) := wrap_of (by omega) (by omega)
    have w2 : IntKind.u64.wrap ((y : Int) - 1) = (y : Int) - 1 := wrap_of (by omega) (by omega)
    rw [w1, w2]
    omega
theorem labels_any (A : Option Addr) (n k : Nat) (w : World) (hn : n ≤ 64) :
    Calls Tryz.prog 83 #[.slice A n k] w fun e w' => e = .returned (.int .u64 ((2 ^ n - 1 : Nat) : Int)) ∧ w = w' := by
  go_enter Tryz.func83, Tryz.ntmps83
  go_wp2
  go_ret
  exact ⟨ret_u64 (labels_num n hn), rfl⟩

/-! What a label may flow to, as bits. -/
theorem above_in (up : List Nat) (i : Nat) (h : up.length ≤ 64) (hi : i < up.length) (hx : up[i] < 2 ^ 64) : up[i] &&& (2 ^ up.length - 1) = aboveN up (i : Int) := by
  unfold aboveN
  apply bits_eq
  intro j
  rw [Nat.testBit_and, Nat.testBit_two_pow_sub_one]
  by_cases hj : j < up.length
  · rw [leqZ_at h hi hj]
    simp [hj]
  · simp [hj]
theorem above_out (up : List Nat) (a : Int) (h : isLab up.length a = false) : aboveN up a = 0 := by
  unfold aboveN
  symm
  apply bits_eq
  intro j
  rw [leqZ_out (by simp [isLab] at h; omega)]
  simp
theorem aboveN_lt (up : List Nat) (a : Int) (h : up.length ≤ 64) : aboveN up a < 2 ^ 64 := Nat.lt_of_lt_of_le (mask_lt _ _) (Nat.pow_le_pow_right (by omega) h)
theorem aboveN_bit (up : List Nat) (a : Int) (j : Nat) : (aboveN up a).testBit j = leqZ up a j := by
  unfold aboveN
  rw [mask_bit]
  by_cases hj : j < up.length
  · simp [hj]
  · rw [leqZ_out (by omega)]
    simp
theorem mask_none {p : Nat → Bool} {n : Nat} (h : ∀ i, p i = false) : mask p n = 0 := by
  symm
  apply bits_eq
  intro i
  simp [h]
theorem aboveN_lt64 (up : List Nat) (a : Int) : aboveN up a < 2 ^ 64 := by
  by_cases h : up.length ≤ 64
  · exact aboveN_lt up a h
  · unfold aboveN
    rw [mask_none fun i => leqZ_out (by omega)]
    decide
set_option maxHeartbeats 1000000 in
theorem above_any (up : List Nat) (A : Option Addr) (n k : Nat) (a : Int) (w : World) (h : ArgU w A n k up) :
    Calls Tryz.prog 49 #[.slice A n k, .int .i64 a] w fun e w' => e = .returned (.int .u64 (aboveN up a : Int)) ∧ Below w.heap.size w w' := by
  have HL := Lib.hid (fun w1 => isLabel_any A n k a w1)
  have hlen := h.len
  by_cases hl : isLab n a = true
  · have ha : 0 ≤ a ∧ a < n ∧ n ≤ 64 := by simpa [isLab] using hl
    obtain ⟨i, rfl⟩ : ∃ i : Nat, a = i := ⟨a.toNat, by omega⟩
    have hi : i < up.length := by omega
    obtain ⟨g, off, rfl, hc⟩ := h.reads.at_ hi
    have hx := h.big up[i] (List.getElem_mem hi)
    have HE := Lib.hid (above_in up i (by omega) hi hx)
    have HB := Lib.hid (fun w1 => labels_any (some ⟨g, off, none⟩) n k w1 ha.2.2)
    rw [← hlen] at HE
    rw [hl] at HL
    generalize up[i] = x at hc hx HE
    generalize aboveN up (i : Int) = r at HE
    have HX := Lib.hid hx
    have HY : Hid (2 ^ n - 1 < 2 ^ 64) := Lib.hid (by
      have := Nat.pow_le_pow_right (n := 2) (by omega) ha.2.2
      have := Nat.pow_pos (n := n) (show 0 < 2 by omega)
      omega)
    generalize 2 ^ n - 1 = y at HB HE HY
    have hi0 : (0 : Int) ≤ (i : Int) := by omega
    have hi1 : (i : Int) < (n : Int) := by omega
    clear h hx hlen hi hl ha
    go_enter Tryz.func49, Tryz.ntmps49
    go_wp2_with (go_at_call 77; refine (HL.out _).mono ?_; rintro e w' ⟨rfl, rfl⟩)
    have hcd : w.drew.cell? ⟨g, off + i, none⟩ = some (.int .u64 (x : Int)) := hc
    go_region_held3 (fun w' => w'.cell? ⟨g, off + i, none⟩ = some (.int .u64 (x : Int))) (first | go_keep | exact hcd | assumption) (first | (go_at_call 83; refine (HB.out _).mono ?_; rintro e w' ⟨rfl, rfl⟩))
    go_wp2
    go_ret
    exact ⟨ret_u64 (by rw [u64_and_nat x y HX.out HY.out, HE.out]), (Below.refl _ _).drew⟩
  · have hl2 : isLab n a = false := by simpa using hl
    have HE := Lib.hid (above_out up a (by rw [← hlen]; exact hl2))
    rw [hl2] at HL
    clear h hlen hl hl2
    go_enter Tryz.func49, Tryz.ntmps49
    go_wp2_with (go_at_call 77; refine (HL.out _).mono ?_; rintro e w' ⟨rfl, rfl⟩)
    go_ret
    exact ⟨ret_u64 (by rw [HE.out]; rfl), Below.refl _ _⟩


theorem shr_bit (x j : Nat) {v : Bool} (hx : x < 2 ^ 64) (hE : Hid (x.testBit j = v)) (hH : Hid ((x / 2 ^ j % 2 == 1) = x.testBit j)) : (bits .and .u64 ((x : Int) / 2 ^ j) 1 == 1) = v := by
  have e : (x : Int) / 2 ^ j = ((x / 2 ^ j : Nat) : Int) := by simp
  have hlt : x / 2 ^ j < 2 ^ 64 := Nat.lt_of_le_of_lt (Nat.div_le_self _ _) hx
  have := u64_and_nat (x / 2 ^ j) 1 hlt (by decide)
  rw [e]
  have e1 : ((1 : Nat) : Int) = 1 := rfl
  rw [e1] at this
  rw [this, Nat.and_one_is_mod, ← hE.out, ← hH.out, Bool.eq_iff_iff]
  simp
  omega
set_option maxHeartbeats 1000000 in
theorem leq_any (up : List Nat) (A : Option Addr) (n k : Nat) (a b : Int) (w : World) (h : ArgU w A n k up) :
    Calls Tryz.prog 42 #[.slice A n k, .int .i64 a, .int .i64 b] w (BoolEnd (leqZ up a b) w) := by
  have HL := Lib.hid (fun w1 => isLabel_any A n k b w1)
  have hlen := h.len
  by_cases hl : isLab n b = true
  · have hb : 0 ≤ b ∧ b < n ∧ n ≤ 64 := by simpa [isLab] using hl
    obtain ⟨j, rfl⟩ : ∃ j : Nat, b = j := ⟨b.toNat, by omega⟩
    have HA := Lib.hid (above_any up A n k a w h)
    have HE := Lib.hid (aboveN_bit up a j)
    have hx := aboveN_lt up a (by omega)
    rw [hl] at HL
    have HH := Lib.hid (half_bit (aboveN up a) j)
    generalize aboveN up a = x at HA HE HH hx
    clear h hlen hl
    go_enter Tryz.func42, Tryz.ntmps42
    go_wp2_with (first | (go_at_call 77; refine (HL.out _).mono ?_; rintro e w' ⟨rfl, rfl⟩) | (go_at_call 49; refine HA.out.mono ?_; rintro e w1 ⟨rfl, h1⟩; have B1 := Lib.hid h1; clear h1))
    go_ret
    exact ⟨ret_bool (shr_bit x j hx HE HH), B1.out⟩
  · have hl2 : isLab n b = false := by simpa using hl
    rw [hl2] at HL
    have HE := Lib.hid (leqZ_out (up := up) (a := a) (b := b) (by simp [isLab] at hl2; omega))
    clear h hlen hl hl2
    go_enter Tryz.func42, Tryz.ntmps42
    go_wp2_with (go_at_call 77; refine (HL.out _).mono ?_; rintro e w' ⟨rfl, rfl⟩)
    go_ret
    exact ⟨ret_bool HE.out.symm, Below.refl _ _⟩


theorem shl_num (k : Nat) (hk : k < 64) : IntKind.u64.wrap (2 ^ k) = ((2 ^ k : Nat) : Int) := by
  have h1 : (2 : Nat) ^ k ≤ 2 ^ 63 := Nat.pow_le_pow_right (by omega) (by omega)
  have e : (2 : Int) ^ k = ((2 ^ k : Nat) : Int) := by simp
  rw [e]
  generalize 2 ^ k = y at h1
  exact wrap_of (by omega) (by omega)
theorem or_pow (m k : Nat) (hm : m < 2 ^ k) (hk : k < 64) : bits .or .u64 (m : Int) (IntKind.u64.wrap (2 ^ k)) = ((m + 2 ^ k : Nat) : Int) := by
  have h1 : (2 : Nat) ^ k ≤ 2 ^ 63 := Nat.pow_le_pow_right (by omega) (by omega)
  rw [shl_num k hk, u64_or_nat m (2 ^ k) (by omega) (by omega)]
  have := Nat.two_pow_add_eq_or_of_lt hm 1
  rw [Nat.mul_one] at this
  rw [Nat.or_comm, ← this, Nat.add_comm]
set_option maxHeartbeats 1000000 in
theorem down_any (up : List Nat) (A : Option Addr) (n c : Nat) (a : Int) (w : World) (h : ArgU w A n c up) (hn : n ≤ 1000000) :
    Calls Tryz.prog 106 #[.slice A n c, .int .i64 a] w (U64End (downN up a) w) := by
  have HL := Lib.hid (fun (i : Int) (w1 : World) (h1 : Below w.heap.size w w1) => leq_any up A n c i a w1 (h.below h1))
  have HN := Lib.hid h.len
  clear h
  go_enter Tryz.func106, Tryz.ntmps106
  go_wp2
  go_loopw [5, 9] (fun v i wr => ∃ k : Nat, k ≤ n ∧ i = .int .i64 k ∧ v = .int .u64 (mask (fun i => leqZ up i a) k : Int) ∧ Below w.heap.size w wr) (fun _ i _ => n - (intOf i).toNat)
  case atStart => exact ⟨0, Nat.zero_le _, rfl, rfl, Below.refl _ _⟩
  case round =>
    obtain ⟨k, hk, rfl, rfl, hB⟩ := hrel
    have HB := Lib.hid hB
    clear hB
    by_cases hlt : k < n
    · have HC := Lib.hid (HL.out (k : Int) wr HB.out)
      have HM := Lib.hid (mask_more (fun i => leqZ up i a) k)
      have hml := mask_lt (fun i => leqZ up i a) k
      have ho : leqZ up k a = true → k < 64 := fun hh => by
        obtain ⟨_, _, h3⟩ := leqZ_iff.1 hh
        have := (lq_iff.1 h3).1
        have := HN.out
        omega
      have HOR := Lib.hid (or_pow (mask (fun i => leqZ up i a) k) k hml)
      generalize mask (fun i => leqZ up i a) k = m at HM HOR ⊢
      clear hml
      generalize leqZ up k a = v at HC HM ho
      cases v
      · clear ho HOR
        go_wp2_with (go_at_call 42; refine HC.out.mono ?_; rintro e w1 ⟨rfl, h1⟩; have B1 := Lib.hid (below_step HB.out h1); clear h1)
        go_roundw
        case rel => exact ⟨k + 1, by omega, by go_num, u64_eq' (by rw [HM.out]; simp), B1.out⟩
        case measure => simp [intOf]; omega
      · have hk64 := ho rfl
        have HS := Lib.hid (HOR.out hk64)
        rw [if_pos rfl] at HM
        clear ho HOR
        go_wp2_with (go_at_call 42; refine HC.out.mono ?_; rintro e w1 ⟨rfl, h1⟩; have B1 := Lib.hid (below_step HB.out h1); clear h1)
        go_roundw
        case rel => exact ⟨k + 1, by omega, by go_num, u64_eq' (by rw [HM.out]; exact HS.out), B1.out⟩
        case measure => simp [intOf]; omega
    · obtain rfl : k = n := by omega
      have e : mask (fun i => leqZ up i a) k = downN up a := by unfold downN; rw [HN.out]
      rw [e]
      clear e
      obtain ⟨w5, hw5⟩ : ∃ w5 : World, w5 = wr := ⟨_, rfl⟩
      subst hw5
      go_wp2
      go_ret
      exact ⟨rfl, HB.out⟩

def downs (up : List Nat) (p : Nat) : List Nat := (List.range up.length).map fun i : Nat => if i < p then downN up (i : Int) else 0
theorem downs_len (up : List Nat) (p : Nat) : (downs up p).length = up.length := by simp [downs]
theorem downs_next (up : List Nat) (p : Nat) : downs up (p + 1) = (downs up p).set p (downN up (p : Int)) := by
  apply List.ext_getElem (by simp [downs])
  intro i h1 h2
  rw [List.getElem_set]
  simp only [downs, List.getElem_map, List.getElem_range]
  by_cases e : p = i
  · subst e; simp
  · rw [if_neg e]
    by_cases h : i < p
    · rw [if_pos h, if_pos (by omega)]
    · rw [if_neg h, if_neg (by omega)]
theorem downs_zero (up : List Nat) : downs up 0 = List.replicate up.length 0 := by
  apply List.ext_getElem (by simp [downs])
  intro i h1 h2
  simp [downs]

end Go.Proofs.YtglkmpglpddfdaaGreatDoor
end
