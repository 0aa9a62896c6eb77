import Derived.Test.YtpaklhifnndeoaaJTqq
/- Of a claim's texts, joined: Tqr. No statement but in the last. -/
namespace Go.Proofs.Ytpaklhifnndeoaa
open Go.RowKit
set_option linter.unusedVariables false

structure Ext where
  lo : List UInt8
  hi : List UInt8
  h : Nat
deriving Inhabited
def lowT (t : Tr) : Bool := decide (sumZ (sizesT t) < 30)
def whM (k : Nat) (wh e : Ext) : Ext := if k = 0 then ⟨e.lo, [], e.h + 1⟩ else wh
def stepM (K : List (List UInt8)) (k : Nat) (wh : Ext) (p : Option Ext) (lo : Bool) : Option Ext := match p with
  | none => none
  | some e => if lo = true ∨ betwT e.lo e.hi K k = false then none else if e.h + 1 = (whM k wh e).h then some ⟨(whM k wh e).lo, e.hi, (whM k wh e).h⟩ else none
def foldM (K : List (List UInt8)) : Nat → Ext → List (Option Ext × Bool) → Option Ext
  | _, wh, [] => some wh
  | k, wh, x :: r => match stepM K k wh x.1 x.2 with
    | none => none
    | some e => foldM K (k + 1) e r
def measT : Tr → Option Ext
  | .leaf p l => if soundT (.leaf p l) then some ⟨(l.getD 0 default).k, (l.getD (l.length - 1) default).k, 0⟩ else none
  | .branch p l => if soundT (.branch p l) then foldM (l.map (·.1)) 0 ⟨[], [], 0⟩ (l.attach.map fun x => (measT x.1.2, lowT x.1.2)) else none
termination_by t => SizeOf.sizeOf t
decreasing_by exact Tr.small x.2
theorem measT_leaf (p : Int) (l : List Lf) : measT (.leaf p l) = if soundT (.leaf p l) then some ⟨(l.getD 0 default).k, (l.getD (l.length - 1) default).k, 0⟩ else none := by rw [measT]
def partsM (l : List (List UInt8 × Tr)) : List (Option Ext × Bool) := l.map fun x => (measT x.2, lowT x.2)
theorem measT_branch (p : Int) (l : List (List UInt8 × Tr)) : measT (.branch p l) = if soundT (.branch p l) then foldM (l.map (·.1)) 0 ⟨[], [], 0⟩ (partsM l) else none := by
  rw [measT]
  have h : (l.attach.map fun x => (measT x.1.2, lowT x.1.2)) = partsM l := by
    have h2 := List.attach_map_val (l := l) (f := fun (x : List UInt8 × Tr) => (measT x.2, lowT x.2))
    exact h2
  rw [h]
inductive DepT : Nat → Tr → Prop where
  | leaf (n : Nat) (p : Int) (l : List Lf) : DepT n (.leaf p l)
  | branch (n : Nat) (p : Int) (l : List (List UInt8 × Tr)) (h : ∀ x ∈ l, DepT n x.2) : DepT (n + 1) (.branch p l)
theorem foldM_h {K : List (List UInt8)} {m : Nat} : ∀ (r : List (Option Ext × Bool)) (k : Nat) (wh e : Ext), wh.h ≤ m → (∀ x ∈ r, ∀ e, x.1 = some e → e.h + 1 ≤ m) → foldM K k wh r = some e → e.h ≤ m
  | [], k, wh, e, h1, _, h => by
    injection h with h
    rw [← h]
    exact h1
  | x :: r, k, wh, e, h1, h2, h => by
    unfold foldM at h
    cases hs : stepM K k wh x.1 x.2 with
    | none => rw [hs] at h; cases h
    | some e' =>
      rw [hs] at h
      refine foldM_h r (k + 1) e' e ?_ (fun y hy => h2 y (List.mem_cons_of_mem _ hy)) h
      unfold stepM at hs
      cases hx : x.1 with
      | none => rw [hx] at hs; cases hs
      | some e'' =>
        have h3 := h2 x (List.mem_cons_self ..) e'' hx
        rw [hx] at hs
        simp only at hs
        split at hs
        · cases hs
        · split at hs
          · injection hs with hs
            rename_i h5
            rw [← hs]
            simp only
            omega
          · cases hs
theorem meas_dep : ∀ (t : Tr) (n : Nat) (e : Ext), DepT n t → measT t = some e → e.h ≤ n := by
  intro t
  induction t using Tr.ind with
  | hl p l =>
    intro n e _ h
    rw [measT_leaf] at h
    split at h
    · injection h with h
      rw [← h]
      exact Nat.zero_le _
    · cases h
  | hb p l ih =>
    intro n e hd h
    rw [measT_branch] at h
    cases hd with
    | branch n p l hd =>
      split at h
      · refine foldM_h _ _ _ _ (Nat.zero_le _) (fun x hx e' he' => ?_) h
        obtain ⟨y, hy, rfl⟩ := List.mem_map.1 hx
        have := ih y hy n e' (hd y hy) he'
        omega
      · cases h
def extL (e : Ext) : Array Value := #[.string ⟨e.lo.toArray⟩, .string ⟨e.hi.toArray⟩, .int .i64 (e.h : Int)]
def tellM (r : Option Ext) : Value := match r with
  | some e => .tuple #[.agg #[.string ⟨e.lo.toArray⟩, .string ⟨e.hi.toArray⟩, .int .i64 (e.h : Int)], .bool true]
  | none => .tuple #[.agg #[.string ⟨#[]⟩, .string ⟨#[]⟩, .int .i64 0], .bool false]
theorem has_st3 {w : World} {P : Nat} {t : TypeId} {a0 b0 c0 : Value} (h : Has w P t #[a0, b0, c0]) (a b c : Value) : Has (((w.setCell ⟨P, 0, none⟩ a).setCell ⟨P, 1, none⟩ b).setCell ⟨P, 2, none⟩ c) P t #[a, b, c] := by
  have := ((h.store 0 a).store 1 b).store 2 c
  simpa using this
theorem below_st3 {B : Nat} {w0 w : World} {P : Nat} (h : Below B w0 w) (hP : B ≤ P) (a b c : Value) : Below B w0 (((w.setCell ⟨P, 0, none⟩ a).setCell ⟨P, 1, none⟩ b).setCell ⟨P, 2, none⟩ c) :=
  ((h.setCell (p := ⟨P, 0, none⟩) hP a).setCell (p := ⟨P, 1, none⟩) hP b).setCell (p := ⟨P, 2, none⟩) hP c
theorem last15 {α : Type} [Inhabited α] {l : List α} {m : Nat} (h : m < l.length) : l[m]? = some (l.getD m default) := by
  rw [List.getD_eq_getElem?_getD, List.getElem?_eq_getElem h]
  rfl
set_option maxRecDepth 100000 in
set_option maxHeartbeats 8000000 in
theorem trMeasure_leaf (F : Nat → Prop) (x : NDV) (p : Int) (l : List Lf) (w : World) (h : RepT F w x (.leaf p l)) (hb : BndN 100 (.leaf p l)) (hpg : ∀ y ∈ l, y.pg.length ≤ 1000) :
    Calls Try.prog 50 #[ndV x] w fun e w' => e = .returned (tellM (measT (.leaf p l))) ∧ Below w.heap.size w w' := by
  obtain ⟨hp, hlf, hk, _⟩ := repT_rowL.1 h
  obtain ⟨V, hV⟩ : ∃ W, (w.alloc (.cells #[.int .i64 x.p, .bool x.lf, .slice x.kA x.kn x.kc, .slice x.vA x.vn x.vc, .slice x.dA x.dn x.dc] 29)).alloc (.cells #[.string ⟨#[]⟩, .string ⟨#[]⟩, .int .i64 0] 88) = W := ⟨_, rfl⟩
  have hB0 : Below w.heap.size w V := hV ▸ (((Below.refl _ w).alloc (Nat.le_refl _) _).alloc (by simp) _)
  have hX1 : Has V w.heap.size 29 #[.int .i64 x.p, .bool x.lf, .slice x.kA x.kn x.kc, .slice x.vA x.vn x.vc, .slice x.dA x.dn x.dc] := hV ▸ (Has.made w 29 _).alloc _
  have hX2 : Has V (w.heap.size + 1) 88 #[.string ⟨#[]⟩, .string ⟨#[]⟩, .int .i64 0] := hV ▸ (by have := Has.made (w.alloc (.cells #[.int .i64 x.p, .bool x.lf, .slice x.kA x.kn x.kc, .slice x.vA x.vn x.vc, .slice x.dA x.dn x.dc] 29)) 88 #[.string ⟨#[]⟩, .string ⟨#[]⟩, .int .i64 0]; simpa using this)
  obtain ⟨P1, hP1⟩ : ∃ P, w.heap.size = P := ⟨_, rfl⟩
  obtain ⟨P2, hP2⟩ : ∃ P, P1 + 1 = P := ⟨_, rfl⟩
  rw [hP1] at hX1
  rw [hP1, hP2] at hX2
  have HSO := Lib.hid (trIsSound_leaf F x p l V (h.stay hB0) hb hpg)
  have hkV := hk.below hB0
  obtain ⟨xp, xlf, kA, kn, kc, vA, vn, vc, dA, dn, dc⟩ := x
  simp only at hp hlf hk hkV hV hX1
  subst hp hlf
  unfold ndV at HSO ⊢
  simp only at HSO ⊢
  have e1 : kn = l.length := by have := hk.len; simpa using this.symm
  rw [measT_leaf]
  have x10 := hX1.cell 0
  have x11 := hX1.cell 1
  have x12 := hX1.cell 2
  have x13 := hX1.cell 3
  have x14 := hX1.cell 4
  have HX1 := Lib.hid hX1
  have HX2 := Lib.hid hX2
  have HB0 := Lib.hid hB0
  have HORD : Hid (w.heap.size = P1 ∧ P1 < P2) := Lib.hid ⟨hP1, by omega⟩
  have hl1 : l.length ≤ 100 := hb.1
  have hmx : Try.prog.follows .mixedOrders = true := by kernel_rfl
  obtain ⟨b, hsb⟩ : ∃ b, soundT (.leaf xp l) = b := ⟨_, rfl⟩
  rw [hsb] at HSO ⊢
  cases b
  · rw [if_neg (by decide)]
    clear h hb hpg hk hkV hX1 hX2 hB0 hsb e1 hl1
    go_enter Try.func50, Try.ntmps50
    go_wp2_with (go_at_call 67; (with_reducible refine HSO.out.mono ?_); rintro e6 w6 ⟨rfl, b6⟩; have B6 := Lib.hid b6; have z := HX2.out.below b6 HX2.out.lt; have q0 := z.cell 0; have q1 := z.cell 1; have q2 := z.cell 2; have f0 := z.free 0; have f1 := z.free 1; have f2 := z.free 2; have Z2 := Lib.hid z; clear b6 z)
    have XE := has_st3 Z2.out (.string ⟨#[]⟩) (.string ⟨#[]⟩) (.int .i64 0)
    have e0 := XE.cell 0
    have e1 := XE.cell 1
    have e2 := XE.cell 2
    simp at e0 e1 e2
    have hord := HORD.out
    refine ⟨rfl, .tuple #[.agg #[.string ⟨#[]⟩, .string ⟨#[]⟩, .int .i64 0], .bool false], ?_, rfl, ?_⟩
    · simp [results, Try.f50, go_sem, e0, e1, e2]
    · exact below_st3 (below_step HB0.out B6.out) (by omega) _ _ _
  · rw [if_pos rfl]
    have h0 : 0 < l.length := by
      have hq : soundT (.leaf xp l) = (decide (sumZ (sizesT (Tr.leaf xp l)) ≤ 122) && (decide (0 < l.length) && (okKs [] (l.map (·.k)) && okVs l))) := rfl
      rw [hq] at hsb
      simp only [Bool.and_eq_true, decide_eq_true_eq] at hsb
      exact hsb.2.1
    obtain ⟨m, hm⟩ : ∃ m, l.length - 1 = m := ⟨_, rfl⟩
    rw [hm]
    obtain ⟨gk, offk, rfl, _, c0⟩ := hkV.str (last15 h0)
    obtain ⟨gk', offk', hgg, _, c1⟩ := hkV.str (last15 (m := m) (by omega))
    injection hgg with hgg
    injection hgg with hg1 hg2 _
    subst hg1 hg2
    rw [Nat.add_zero] at c0
    obtain ⟨s0, hs0⟩ : ∃ s : ByteArray, (⟨(l.getD 0 default).k.toArray⟩ : ByteArray) = s := ⟨_, rfl⟩
    obtain ⟨s1, hs1⟩ : ∃ s : ByteArray, (⟨(l.getD m default).k.toArray⟩ : ByteArray) = s := ⟨_, rfl⟩
    rw [hs0] at c0
    rw [hs1] at c1
    have HC0 := Lib.hid c0
    have HGL : Hid (gk < w.heap.size) := Lib.hid (by
      obtain ⟨g3, o3, e3, _, c3⟩ := hk.str (last15 h0)
      injection e3 with e3
      injection e3 with e3 _ _
      subst e3
      exact World.block_lt_of_cell? w _ c3)
    have HC1 := Lib.hid c1
    have HTL : Hid (tellM (some ⟨(l.getD 0 default).k, (l.getD m default).k, 0⟩) = .tuple #[.agg #[.string s0, .string s1, .int .i64 0], .bool true]) := Lib.hid (by unfold tellM; simp only; rw [hs0, hs1]; rfl)
    rw [HTL.out]
    have hmi : (kn : Int) - 1 = (m : Int) := by omega
    have hmw : IntKind.i64.wrap (m : Int) = (m : Int) := by rw [IntWalk.i64_in _ (by omega)]
    have i0 : (0 : Int) ≤ (m : Int) := by omega
    have i1 : (m : Int) < (kn : Int) := by omega
    have i2 : (0 : Int) < (kn : Int) := by omega
    have i3 : ¬ (kn = 0) := by omega
    clear h hb hpg hk hkV hX1 hX2 hB0 hsb e1 hl1 h0 hm hs0 hs1 c0 c1 HTL
    go_enter Try.func50, Try.ntmps50
    go_wp2_with (go_at_call 67; (with_reducible refine HSO.out.mono ?_); rintro e6 w6 ⟨rfl, b6⟩; have B6 := Lib.hid b6; have z := HX2.out.below b6 HX2.out.lt; have z1 := HX1.out.below b6 HX1.out.lt; have y1 := z1.cell 1; have Z1 := Lib.hid z1; have Z2 := Lib.hid z; clear b6 z z1)
    have HXM : Hid (∀ w' : World, Below P2 w6 w' → w'.cell? ⟨P1, 2, none⟩ = some (.slice (some ⟨gk, offk, none⟩) kn kc) ∧ w'.cell? ⟨gk, offk, none⟩ = some (.string s0) ∧ w'.cell? ⟨gk, offk + m, none⟩ = some (.string s1)) := Lib.hid (fun w' hb => by
      have hl : gk < w.heap.size := HGL.out
      have hord := HORD.out
      have hq : w'.heap[gk]? = V.heap[gk]? := (hb.block gk (by omega)).trans (B6.out.block gk (by have := HB0.out.size; omega))
      exact ⟨(Z1.out.below hb (by omega)).cell 2, (cell_same (p := ⟨gk, offk, none⟩) hq).trans HC0.out, (cell_same (p := ⟨gk, offk + m, none⟩) hq).trans HC1.out⟩)
    have hS0 : Below P2 w6 w6.drew := (Below.refl _ w6).drew
    go_wp2
    first | (rename_i K hK; refine wp_held (fun w' : World => Below P2 w6 w') K hmx ?_ (fun _ _ h => h)) | (rename_i K hK hz; refine wp_held (fun w' : World => Below P2 w6 w') K hmx ?_ (fun _ _ h => h))
    have ZD := Z2.out.drew
    obtain ⟨Wd, hWd⟩ : ∃ X, w6.drew = X := ⟨_, rfl⟩
    have HDD : Hid (Below w6.heap.size w6 Wd) := Lib.hid (hWd ▸ (Below.refl _ w6).drew)
    rw [hWd] at hS0 ZD ⊢
    clear hWd
    refine wpAnyH_take (i := 0) (v := .pointer (some ⟨P1, 2, none⟩)) (lit rfl) (by kernel_rfl) (by kernel_rfl) (by kernel_rfl) (fun _ _ _ h => h) (Or.inl ⟨by rfl, ?_⟩) hS0 ?_
    · rintro w6_ hb6
      go_simp
    simp only [Act.put, List.setIfInBounds_toArray, List.set_cons_zero, List.set_cons_succ]
    refine wpAnyH_take (i := 1) (v := .slice (some ⟨gk, offk, none⟩) kn kc) (lit rfl) (by kernel_rfl) (by kernel_rfl) (by kernel_rfl) (fun _ _ _ h => h) (Or.inl ⟨by rfl, ?_⟩) hS0 ?_
    · rintro w6_ hb6
      have y6 := (HXM.out w6_ hb6).1
      go_simp
    simp only [Act.put, List.setIfInBounds_toArray, List.set_cons_zero, List.set_cons_succ]
    refine wpAnyH_take (i := 2) (v := .pointer (some ⟨gk, offk, none⟩)) (lit rfl) (by kernel_rfl) (by kernel_rfl) (by kernel_rfl) (fun _ _ _ h => h) (Or.inl ⟨by rfl, ?_⟩) hS0 ?_
    · rintro w6_ hb6
      go_simp
    simp only [Act.put, List.setIfInBounds_toArray, List.set_cons_zero, List.set_cons_succ]
    refine wpAnyH_take (i := 3) (v := .string s0) (lit rfl) (by kernel_rfl) (by kernel_rfl) (by kernel_rfl) (fun _ _ _ h => h) (Or.inl ⟨by rfl, ?_⟩) hS0 ?_
    · rintro w6_ hb6
      have y6 := (HXM.out w6_ hb6).2.1
      go_simp
    simp only [Act.put, List.setIfInBounds_toArray, List.set_cons_zero, List.set_cons_succ]
    refine wpAnyH_take (i := 4) (v := .pointer (some ⟨P1, 2, none⟩)) (lit rfl) (by kernel_rfl) (by kernel_rfl) (by kernel_rfl) (fun _ _ _ h => h) (Or.inl ⟨by rfl, ?_⟩) hS0 ?_
    · rintro w6_ hb6
      go_simp
    simp only [Act.put, List.setIfInBounds_toArray, List.set_cons_zero, List.set_cons_succ]
    refine wpAnyH_take (i := 5) (v := .slice (some ⟨gk, offk, none⟩) kn kc) (lit rfl) (by kernel_rfl) (by kernel_rfl) (by kernel_rfl) (fun _ _ _ h => h) (Or.inl ⟨by rfl, ?_⟩) hS0 ?_
    · rintro w6_ hb6
      have y6 := (HXM.out w6_ hb6).1
      go_simp
    simp only [Act.put, List.setIfInBounds_toArray, List.set_cons_zero, List.set_cons_succ]
    refine wpAnyH_take (i := 6) (v := .pointer (some ⟨P1, 2, none⟩)) (lit rfl) (by kernel_rfl) (by kernel_rfl) (by kernel_rfl) (fun _ _ _ h => h) (Or.inl ⟨by rfl, ?_⟩) hS0 ?_
    · rintro w6_ hb6
      go_simp
    simp only [Act.put, List.setIfInBounds_toArray, List.set_cons_zero, List.set_cons_succ]
    refine wpAnyH_take (i := 7) (v := .slice (some ⟨gk, offk, none⟩) kn kc) (lit rfl) (by kernel_rfl) (by kernel_rfl) (by kernel_rfl) (fun _ _ _ h => h) (Or.inl ⟨by rfl, ?_⟩) hS0 ?_
    · rintro w6_ hb6
      have y6 := (HXM.out w6_ hb6).1
      go_simp
    simp only [Act.put, List.setIfInBounds_toArray, List.set_cons_zero, List.set_cons_succ]
    refine wpAnyH_take (i := 8) (v := .int .i64 (kn : Int)) (lit rfl) (by kernel_rfl) (by kernel_rfl) (by kernel_rfl) (fun _ _ _ h => h) (Or.inl ⟨by rfl, ?_⟩) hS0 ?_
    · rintro w6_ hb6
      go_simp
    simp only [Act.put, List.setIfInBounds_toArray, List.set_cons_zero, List.set_cons_succ]
    refine wpAnyH_take (i := 9) (v := .int .i64 (m : Int)) (lit rfl) (by kernel_rfl) (by kernel_rfl) (by kernel_rfl) (fun _ _ _ h => h) (Or.inl ⟨by rfl, ?_⟩) hS0 ?_
    · rintro w6_ hb6
      go_simp
    simp only [Act.put, List.setIfInBounds_toArray, List.set_cons_zero, List.set_cons_succ]
    refine wpAnyH_take (i := 10) (v := .pointer (some ⟨gk, offk + m, none⟩)) (lit rfl) (by kernel_rfl) (by kernel_rfl) (by kernel_rfl) (fun _ _ _ h => h) (Or.inl ⟨by rfl, ?_⟩) hS0 ?_
    · rintro w6_ hb6
      go_simp
    simp only [Act.put, List.setIfInBounds_toArray, List.set_cons_zero, List.set_cons_succ]
    refine wpAnyH_take (i := 11) (v := .string s1) (lit rfl) (by kernel_rfl) (by kernel_rfl) (by kernel_rfl) (fun _ _ _ h => h) (Or.inl ⟨by rfl, ?_⟩) hS0 ?_
    · rintro w6_ hb6
      have y6 := (HXM.out w6_ hb6).2.2
      go_simp
    simp only [Act.put, List.setIfInBounds_toArray, List.set_cons_zero, List.set_cons_succ]
    refine wpAnyH_take (i := 12) (v := .agg #[.string s0, .string s1, .int .i64 0]) (lit rfl) (by kernel_rfl) (by kernel_rfl) (by kernel_rfl) (fun _ _ _ h => h) (Or.inl ⟨by rfl, ?_⟩) hS0 ?_
    · rintro w6_ hb6
      go_simp
    simp only [Act.put, List.setIfInBounds_toArray, List.set_cons_zero, List.set_cons_succ]
    refine wpAnyH_ready (rs := [13]) (by kernel_rfl) (by simp) ?_
    refine AllReadyH.cons (lit rfl) (fun K5 hK5 => ?_) AllReadyH.nil
    refine step_open rfl ?_
    go_simp
    have q0 := ZD.cell 0
    have q1 := ZD.cell 1
    have q2 := ZD.cell 2
    have f0 := ZD.free 0
    have f1 := ZD.free 1
    have f2 := ZD.free 2
    have hS1 := below_st3 hS0 (Nat.le_refl _) (.string s0) (.string s1) (.int .i64 0)
    go_simp
    refine hK5.out _ _ hS1 (fun _ => ?_)
    clear hK5 K5
    refine wpAnyH_take (i := 14) (v := .bool true) (lit rfl) (by kernel_rfl) (by kernel_rfl) (by kernel_rfl) (fun _ _ _ h => h) (Or.inl ⟨by rfl, ?_⟩) hS1 ?_
    · rintro w6_ hb6
      go_simp
    simp only [Act.put, List.setIfInBounds_toArray, List.set_cons_zero, List.set_cons_succ]
    refine wpAnyH_done (by kernel_rfl) ?_ _
    refine hK _ _ ?_
    go_wp2
    have XE := has_st3 ZD (.string s0) (.string s1) (.int .i64 0)
    have e0 := XE.cell 0
    have e1 := XE.cell 1
    have e2 := XE.cell 2
    simp at e0 e1 e2
    have hord := HORD.out
    refine ⟨rfl, .tuple #[.agg #[.string s0, .string s1, .int .i64 0], .bool true], ?_, rfl, ?_⟩
    · simp [results, Try.f50, go_sem, e0, e1, e2]
    · exact below_st3 (below_step HB0.out (below_step B6.out HDD.out)) (by omega) _ _ _
end Go.Proofs.Ytpaklhifnndeoaa
