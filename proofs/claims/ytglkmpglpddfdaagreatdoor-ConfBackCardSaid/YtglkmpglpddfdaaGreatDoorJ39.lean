import Derived.Test.YtglkmpglpddfdaaGreatDoorJSrh
import Derived.Test.YtglkmpglpddfdaaGreatDoorJ11
import Derived.Lib.ReflectliteSwap
import Derived.Shelf.GgSortFunc.Slice
import Derived.Sort.AssemblyPlain
import Derived.Shelf.GgSortFunc.Small
import Derived.Test.YtglkmpglpddfdaaGreatDoorJ31
import Derived.Lib.SliceRun
/- Of a claim's texts, joined: Sri Srj Srk Srm Srn. No statement but in the last. -/
section
namespace Go.Proofs.YtglkmpglpddfdaaGreatDoor
open Go.RowKit Go.Sort
set_option linter.unusedVariables false

instance : Inhabited G := ⟨⟨0, 0, 0⟩⟩
theorem sg_len (l : List G) : (cellsG l).length = l.length * 3 := by
  induction l with
  | nil => rfl
  | cons g l ih => simp only [cellsG, List.flatMap_cons, List.length_append, List.length_cons] at ih ⊢; rw [ih]; simp [gC]; omega
theorem sg_at : ∀ (l : List G) (k q : Nat), q < 3 → (cellsG l)[k * 3 + q]? = l[k]?.bind (fun g => (gC g)[q]?)
  | [], k, q, h => by simp [cellsG]
  | y :: l, 0, q, h => by
    simp only [cellsG, List.flatMap_cons, Nat.zero_mul, Nat.zero_add, List.getElem?_cons_zero, Option.bind_some]
    rw [List.getElem?_append_left (by simpa [gC] using h)]
  | y :: l, k + 1, q, h => by
    have := sg_at l k q h
    simp only [cellsG, List.flatMap_cons, List.getElem?_cons_succ] at this ⊢
    rw [List.getElem?_append_right (by simp [gC]; omega), show (k + 1) * 3 + q - (gC y).length = k * 3 + q by simp [gC]; omega]
    exact this
theorem sg_keep {w w' : World} {p : Addr} {v : Value} (h : w.cell? p = some v) (hb : Below w.heap.size w w') : w'.cell? p = some v := (hb.cell (World.block_lt_of_cell? w p h)).trans h
structure SI (w0 : World) (base blk n cap : Nat) (d : Array G) (W : World) : Prop where
  row : W.ownsRow base 45 3 (.slice (some ⟨blk, 0, none⟩) n cap) n (cellsG d.toList)
  gr : w0.grownBy W (some blk)
section
variable {w0 W W' : World} {base blk n cap B : Nat} {d : Array G}
theorem SI.size (h : SI w0 base blk n cap d W) : d.size = n := by
  have := h.row.1
  rw [sg_len, Array.length_toList] at this
  omega
theorem SI.has (h : SI w0 base blk n cap d W) : ∃ cur, Has W blk 45 cur ∧ n * 3 ≤ cur.size ∧ cur.toList.take (n * 3) = cellsG d.toList ∧ base ≤ blk := by
  rcases h.row.2 with ⟨hv, _⟩ | ⟨g, c, cur, hv, hb, hg, hnc, _, hcs, hcur⟩
  · cases hv
  · injection hv with hA _ hc
    injection hA with hA
    injection hA with hA
    subst hA hc
    exact ⟨cur, hg, by rw [hcs]; exact Nat.mul_le_mul_right 3 hnc, hcur, hb⟩
theorem SI.at_ (h : SI w0 base blk n cap d W) {i : Nat} (hi : i < n) : W.cell? ⟨blk, i * 3, none⟩ = some (.int .i64 d[i]!.a) ∧ W.cell? ⟨blk, i * 3 + 1, none⟩ = some (.int .i64 d[i]!.f) ∧ W.cell? ⟨blk, i * 3 + 2, none⟩ = some (.int .i64 d[i]!.t) := by
  obtain ⟨cur, hg, hs, hc, _⟩ := h.has
  have hd : d.toList[i]? = some d[i]! := by
    have : i < d.size := by rw [h.size]; exact hi
    simp [this]
  have q : ∀ j (hj : j < 3) u, (gC d[i]!)[j]? = some u → W.cell? ⟨blk, i * 3 + j, none⟩ = some u := fun j hj u hu => by
    rw [hg.cell]
    have h1 := sg_at d.toList i j hj
    rw [hd, ← hc, List.getElem?_take] at h1
    rw [if_pos (by omega)] at h1
    rw [← Array.getElem?_toList, h1]
    exact hu
  exact ⟨q 0 (by omega) _ rfl, q 1 (by omega) _ rfl, q 2 (by omega) _ rfl⟩
theorem SI.below (h : SI w0 base blk n cap d W) (hb : Below W.heap.size W W') : SI w0 base blk n cap d W' := by
  obtain ⟨cur, hg, _⟩ := h.has
  refine ⟨⟨h.row.1, ?_⟩, gb_trans h.gr (gb_below hb _)⟩
  rcases h.row.2 with hv | ⟨g, c, cu, hv, h1, h2, h3⟩
  · exact .inl hv
  · exact .inr ⟨g, c, cu, hv, h1, (hb.block g (Array.getElem?_eq_some_iff.1 h2).1).trans h2, h3⟩
theorem SI.away (h : SI w0 base blk n cap d W) (hblk : blk < w0.heap.size) {q : Nat} (hq : w0.heap.size ≤ q) (u : Value) : SI w0 base blk n cap d (W.setCell ⟨q, 0, none⟩ u) := by
  refine ⟨⟨h.row.1, ?_⟩, ⟨h.gr.os, h.gr.tape, h.gr.output, by have := h.gr.size; simp [World.setCell]; exact this, fun i hi hr => (Below.heap_setCell W ⟨q, 0, none⟩ u i (by show i ≠ q; omega)).trans (h.gr.block i hi hr)⟩⟩
  rcases h.row.2 with hv | ⟨g, c, cu, hv, h1, h2, h3⟩
  · exact .inl hv
  · refine .inr ⟨g, c, cu, hv, h1, (Below.heap_setCell W ⟨q, 0, none⟩ u g ?_).trans h2, h3⟩
    injection hv with hA _ _
    injection hA with hA
    injection hA with hA
    show g ≠ q
    omega
set_option maxRecDepth 100000 in
set_option maxHeartbeats 4000000 in
theorem clo_any (hless : ∀ (x y : G) (w : World), Calls Tryz.prog 21 #[.agg #[.int .i64 x.a, .int .i64 x.f, .int .i64 x.t], .agg #[.int .i64 y.a, .int .i64 y.f, .int .i64 y.t]] w fun e w' => e = .returned (.bool (lessG x y)) ∧ Below w.heap.size w w')
    (hB : W.cell? ⟨B, 3, none⟩ = some (.slice (some ⟨blk, 0, none⟩) n cap)) (h : SI w0 base blk n cap d W) (i j : Nat) (hi : i < n) (hj : j < n) :
    Calls Tryz.prog 20 #[.int .i64 (i : Int), .int .i64 (j : Int), .pointer (some ⟨B, 0, none⟩)] W fun e w' => e = .returned (.bool (lessG d[i]! d[j]!)) ∧ Below W.heap.size W w' := by
  obtain ⟨a1, a2, a3⟩ := h.at_ hi
  obtain ⟨b1, b2, b3⟩ := h.at_ hj
  generalize d[i]! = x at a1 a2 a3
  generalize d[j]! = y at b1 b2 b3
  have HL := Lib.hid (hless x y)
  have hmx : Tryz.prog.follows .mixedOrders = true := by kernel_rfl
  have i1 : (i : Int) < (n : Int) := by omega
  have i2 : (0 : Int) ≤ (i : Int) := by omega
  have j1 : (j : Int) < (n : Int) := by omega
  have j2 : (0 : Int) ≤ (j : Int) := by omega
  have hS : (fun w' : World => w'.cell? ⟨B, 3, none⟩ = some (.slice (some ⟨blk, 0, none⟩) n cap) ∧ (w'.cell? ⟨blk, i * 3, none⟩ = some (.int .i64 x.a) ∧ w'.cell? ⟨blk, i * 3 + 1, none⟩ = some (.int .i64 x.f) ∧ w'.cell? ⟨blk, i * 3 + 2, none⟩ = some (.int .i64 x.t)) ∧ w'.cell? ⟨blk, j * 3, none⟩ = some (.int .i64 y.a) ∧ w'.cell? ⟨blk, j * 3 + 1, none⟩ = some (.int .i64 y.f) ∧ w'.cell? ⟨blk, j * 3 + 2, none⟩ = some (.int .i64 y.t)) W.drew := ⟨hB, ⟨a1, a2, a3⟩, b1, b2, b3⟩
  clear h hless
  go_enter Tryz.func20, Tryz.ntmps20
  go_wp2
  rename_i K hK
  refine wp_held (fun w' : World => w'.cell? ⟨B, 3, none⟩ = some (.slice (some ⟨blk, 0, none⟩) n cap) ∧ (w'.cell? ⟨blk, i * 3, none⟩ = some (.int .i64 x.a) ∧ w'.cell? ⟨blk, i * 3 + 1, none⟩ = some (.int .i64 x.f) ∧ w'.cell? ⟨blk, i * 3 + 2, none⟩ = some (.int .i64 x.t)) ∧ w'.cell? ⟨blk, j * 3, none⟩ = some (.int .i64 y.a) ∧ w'.cell? ⟨blk, j * 3 + 1, none⟩ = some (.int .i64 y.f) ∧ w'.cell? ⟨blk, j * 3 + 2, none⟩ = some (.int .i64 y.t)) K hmx ?_ (fun _ _ h => h)
  refine wpAnyH_take (i := 0) (v := .pointer (some ⟨B, 3, none⟩)) rfl (by kernel_rfl) (by kernel_rfl) (by kernel_rfl) (fun _ _ _ h => h) (Or.inl ⟨by rfl, ?_⟩) hS ?_
  · rintro w6 ⟨s0, ⟨s1, s2, s3⟩, s4, s5, s6⟩
    go_simp
  simp only [Act.put, List.setIfInBounds_toArray, List.set_cons_zero, List.set_cons_succ, List.getElem_toArray, List.getElem_cons_zero]
  refine wpAnyH_take (i := 1) (v := .slice (some ⟨blk, 0, none⟩) n cap) rfl (by kernel_rfl) (by kernel_rfl) (by kernel_rfl) (fun _ _ _ h => h) (Or.inl ⟨by rfl, ?_⟩) hS ?_
  · rintro w6 ⟨s0, ⟨s1, s2, s3⟩, s4, s5, s6⟩
    go_simp
  simp only [Act.put, List.setIfInBounds_toArray, List.set_cons_zero, List.set_cons_succ, List.getElem_toArray, List.getElem_cons_zero, List.getElem_cons_succ]
  refine wpAnyH_take (i := 2) (v := .int .i64 (i : Int)) rfl (by kernel_rfl) (by kernel_rfl) (by kernel_rfl) (fun _ _ _ h => h) (Or.inl ⟨by rfl, ?_⟩) hS ?_
  · rintro w6 ⟨s0, ⟨s1, s2, s3⟩, s4, s5, s6⟩
    go_simp
  simp only [Act.put, List.setIfInBounds_toArray, List.set_cons_zero, List.set_cons_succ, List.getElem_toArray, List.getElem_cons_zero, List.getElem_cons_succ]
  refine wpAnyH_take (i := 3) (v := .pointer (some ⟨blk, i * 3, none⟩)) rfl (by kernel_rfl) (by kernel_rfl) (by kernel_rfl) (fun _ _ _ h => h) (Or.inl ⟨by rfl, ?_⟩) hS ?_
  · rintro w6 ⟨s0, ⟨s1, s2, s3⟩, s4, s5, s6⟩
    go_simp
  simp only [Act.put, List.setIfInBounds_toArray, List.set_cons_zero, List.set_cons_succ, List.getElem_toArray, List.getElem_cons_zero, List.getElem_cons_succ]
  refine wpAnyH_take (i := 4) (v := .agg #[.int .i64 x.a, .int .i64 x.f, .int .i64 x.t]) rfl (by kernel_rfl) (by kernel_rfl) (by kernel_rfl) (fun _ _ _ h => h) (Or.inl ⟨by rfl, ?_⟩) hS ?_
  · rintro w6 ⟨s0, ⟨s1, s2, s3⟩, s4, s5, s6⟩
    go_simp
  simp only [Act.put, List.setIfInBounds_toArray, List.set_cons_zero, List.set_cons_succ, List.getElem_toArray, List.getElem_cons_zero, List.getElem_cons_succ]
  refine wpAnyH_take (i := 5) (v := .pointer (some ⟨B, 3, none⟩)) rfl (by kernel_rfl) (by kernel_rfl) (by kernel_rfl) (fun _ _ _ h => h) (Or.inl ⟨by rfl, ?_⟩) hS ?_
  · rintro w6 ⟨s0, ⟨s1, s2, s3⟩, s4, s5, s6⟩
    go_simp
  simp only [Act.put, List.setIfInBounds_toArray, List.set_cons_zero, List.set_cons_succ, List.getElem_toArray, List.getElem_cons_zero, List.getElem_cons_succ]
  refine wpAnyH_take (i := 6) (v := .slice (some ⟨blk, 0, none⟩) n cap) rfl (by kernel_rfl) (by kernel_rfl) (by kernel_rfl) (fun _ _ _ h => h) (Or.inl ⟨by rfl, ?_⟩) hS ?_
  · rintro w6 ⟨s0, ⟨s1, s2, s3⟩, s4, s5, s6⟩
    go_simp
  simp only [Act.put, List.setIfInBounds_toArray, List.set_cons_zero, List.set_cons_succ, List.getElem_toArray, List.getElem_cons_zero, List.getElem_cons_succ]
  refine wpAnyH_take (i := 7) (v := .int .i64 (j : Int)) rfl (by kernel_rfl) (by kernel_rfl) (by kernel_rfl) (fun _ _ _ h => h) (Or.inl ⟨by rfl, ?_⟩) hS ?_
  · rintro w6 ⟨s0, ⟨s1, s2, s3⟩, s4, s5, s6⟩
    go_simp
  simp only [Act.put, List.setIfInBounds_toArray, List.set_cons_zero, List.set_cons_succ, List.getElem_toArray, List.getElem_cons_zero, List.getElem_cons_succ]
  refine wpAnyH_take (i := 8) (v := .pointer (some ⟨blk, j * 3, none⟩)) rfl (by kernel_rfl) (by kernel_rfl) (by kernel_rfl) (fun _ _ _ h => h) (Or.inl ⟨by rfl, ?_⟩) hS ?_
  · rintro w6 ⟨s0, ⟨s1, s2, s3⟩, s4, s5, s6⟩
    go_simp
  simp only [Act.put, List.setIfInBounds_toArray, List.set_cons_zero, List.set_cons_succ, List.getElem_toArray, List.getElem_cons_zero, List.getElem_cons_succ]
  refine wpAnyH_take (i := 9) (v := .agg #[.int .i64 y.a, .int .i64 y.f, .int .i64 y.t]) rfl (by kernel_rfl) (by kernel_rfl) (by kernel_rfl) (fun _ _ _ h => h) (Or.inl ⟨by rfl, ?_⟩) hS ?_
  · rintro w6 ⟨s0, ⟨s1, s2, s3⟩, s4, s5, s6⟩
    go_simp
  simp only [Act.put, List.setIfInBounds_toArray, List.set_cons_zero, List.set_cons_succ, List.getElem_toArray, List.getElem_cons_zero, List.getElem_cons_succ]
  refine wpAnyH_ready (rs := [10]) (by kernel_rfl) (by simp) ?_
  refine AllReadyH.cons rfl (fun K5 hK5 => ?_) AllReadyH.nil
  go_simp
  go_at_call 21
  (with_reducible refine (HL.out _).mono ?_)
  rintro e w2 ⟨rfl, h2⟩
  have B2 := Lib.hid h2
  have hS2 : (fun w' : World => w'.cell? ⟨B, 3, none⟩ = some (.slice (some ⟨blk, 0, none⟩) n cap) ∧ (w'.cell? ⟨blk, i * 3, none⟩ = some (.int .i64 x.a) ∧ w'.cell? ⟨blk, i * 3 + 1, none⟩ = some (.int .i64 x.f) ∧ w'.cell? ⟨blk, i * 3 + 2, none⟩ = some (.int .i64 x.t)) ∧ w'.cell? ⟨blk, j * 3, none⟩ = some (.int .i64 y.a) ∧ w'.cell? ⟨blk, j * 3 + 1, none⟩ = some (.int .i64 y.f) ∧ w'.cell? ⟨blk, j * 3 + 2, none⟩ = some (.int .i64 y.t)) w2 := ⟨sg_keep hS.1 h2, ⟨sg_keep hS.2.1.1 h2, sg_keep hS.2.1.2.1 h2, sg_keep hS.2.1.2.2 h2⟩, sg_keep hS.2.2.1 h2, sg_keep hS.2.2.2.1 h2, sg_keep hS.2.2.2.2 h2⟩
  clear h2
  refine hK5.out _ _ hS2 (fun _ => ?_)
  clear hK5 K5
  refine wpAnyH_take (i := 11) (v := .bool (lessG x y)) rfl (by kernel_rfl) (by kernel_rfl) (by kernel_rfl) (fun _ _ _ h => h) (Or.inl ⟨by rfl, ?_⟩) hS2 ?_
  · rintro w6 ⟨s0, ⟨s1, s2, s3⟩, s4, s5, s6⟩
    go_simp
  simp only [Act.put, List.setIfInBounds_toArray, List.set_cons_zero, List.set_cons_succ, List.getElem_toArray, List.getElem_cons_zero, List.getElem_cons_succ]
  refine wpAnyH_done (by kernel_rfl) ?_ _
  refine hK _ _ ?_
  go_wp2
  go_ret
  exact ⟨rfl, (Below.refl _ W).drew.trans B2.out⟩
end

end Go.Proofs.YtglkmpglpddfdaaGreatDoor
end

section
namespace Go.Proofs.YtglkmpglpddfdaaGreatDoor
open Go.RowKit Go.Sort
set_option linter.unusedVariables false

theorem sg_sets {g : Nat} {t : TypeId} : ∀ (vs : List Value) (o : Nat) (w : World) (cs : Array Value), Has w g t cs → ∃ cs', Has (w.setCells g o vs) g t cs' ∧ cs'.size = cs.size ∧ (∀ x, x ≠ g → (w.setCells g o vs).heap[x]? = w.heap[x]?) ∧ (w.setCells g o vs).heap.size = w.heap.size ∧ (w.setCells g o vs).os = w.os ∧ (w.setCells g o vs).tape = w.tape ∧ (w.setCells g o vs).output = w.output
  | [], o, w, cs, h => ⟨cs, h, rfl, fun _ _ => rfl, rfl, rfl, rfl, rfl⟩
  | v :: r, o, w, cs, h => by
    obtain ⟨cs', h1, h2, h3, h4, h5, h6, h7⟩ := sg_sets r (o + 1) (w.setCell ⟨g, o, none⟩ v) _ (h.store o v)
    exact ⟨cs', h1, h2.trans (by simp), fun x hx => (h3 x hx).trans (Below.heap_setCell w ⟨g, o, none⟩ v x hx), h4.trans (by simp [World.setCell]), h5, h6, h7⟩
noncomputable def sgE : TypeInfo := (Tryz.prog.info? 45).get (by kernel_rfl)
noncomputable def sgT : TypeInfo := (Tryz.prog.info? 26).get (by kernel_rfl)
theorem sgE_is : Tryz.prog.info? 45 = some sgE := by kernel_rfl
theorem sgE_size : sgE.size = 3 := by kernel_rfl
theorem swp9_run (args : Array Value) (W : World) : (callFunc 92 args).run Tryz.prog W = ((Extern.ReflectliteSwapper.swap false args).run Tryz.prog W).andThen fun v w' => .ok (.value v) w' :=
  run_callFunc_extern Tryz.func92 (by kernel_rfl) (by kernel_rfl) (by kernel_rfl) (e := Extern.ReflectliteSwapper.swap false) (by kernel_rfl) args W
theorem swp_at (d : Array G) (i j k : Nat) (hi : i < d.size) (hj : j < d.size) : (swp d i j).toList[k]? = if k = j then some d[i]! else if k = i then some d[j]! else d.toList[k]? := by
  unfold swp
  rw [Array.toList_setIfInBounds, Array.toList_setIfInBounds, List.getElem?_set]
  by_cases h1 : j = k
  · subst h1
    simp [hj]
  · rw [if_neg h1, if_neg (fun e => h1 e.symm), List.getElem?_set]
    by_cases h2 : i = k
    · subst h2
      simp [hi]
    · rw [if_neg h2, if_neg (fun e => h2 e.symm)]
section
variable {w0 W W' : World} {base blk n cap B : Nat} {d : Array G}
set_option maxHeartbeats 2000000 in
theorem SI.swap (h : SI w0 base blk n cap d W) (i j : Nat) (hi : i < n) (hj : j < n) :
    ∃ W', (callFunc 92 (#[.int .i64 (i : Int), .int .i64 (j : Int)] ++ #[.slice (some ⟨blk, 0, none⟩) n cap, typeHandle Tryz.prog 45])).run Tryz.prog W = .ok (.value (.tuple #[])) W' ∧ SI w0 base blk n cap (swp d i j) W' ∧ W.grownBy W' (some blk) := by
  obtain ⟨cur, hg, hs, hc, hb⟩ := h.has
  have hsz := h.size
  obtain ⟨a1, a2, a3⟩ := h.at_ hi
  obtain ⟨b1, b2, b3⟩ := h.at_ hj
  have cX : ∀ k v, (gC d[i]!)[k]? = some v → W.cell? ⟨blk, i * 3 + k, none⟩ = some v := fun k v hk => by
    match k, hk with
    | 0, hk => simp [gC] at hk; subst hk; exact a1
    | 1, hk => simp [gC] at hk; subst hk; exact a2
    | 2, hk => simp [gC] at hk; subst hk; exact a3
    | k + 3, hk => simp [gC] at hk
  have cY : ∀ k v, (gC d[j]!)[k]? = some v → W.cell? ⟨blk, j * 3 + k, none⟩ = some v := fun k v hk => by
    match k, hk with
    | 0, hk => simp [gC] at hk; subst hk; exact b1
    | 1, hk => simp [gC] at hk; subst hk; exact b2
    | 2, hk => simp [gC] at hk; subst hk; exact b3
    | k + 3, hk => simp [gC] at hk
  have hrun := Lib.run_swap_cells (P := Tryz.prog) false 45 sgE sgE_is (fun _ => by kernel_rfl) blk 0 n cap i j hi hj (gC d[i]!) (gC d[j]!) (by rw [sgE_size]; rfl) (by rw [sgE_size]; rfl) (by intro v hv; simp [gC] at hv; rcases hv with rfl | rfl | rfl <;> rfl) (by intro v hv; simp [gC] at hv; rcases hv with rfl | rfl | rfl <;> rfl) W
    (fun k v hk => by rw [sgE_size, Nat.zero_add]; exact cX k v hk) (fun k v hk => by rw [sgE_size, Nat.zero_add]; exact cY k v hk) (fun k _ => hg.free _) (fun k _ => hg.free _)
  simp only [sgE_size, Nat.zero_add] at hrun
  obtain ⟨c1, g1, s1, o1, z1, r1, r2, r3⟩ := sg_sets (gC d[j]!) (i * 3) W cur hg
  obtain ⟨c2, g2, s2, o2, z2, q1, q2, q3⟩ := sg_sets (gC d[i]!) (j * 3) (W.setCells blk (i * 3) (gC d[j]!)) c1 g1
  have hgr : W.grownBy ((W.setCells blk (i * 3) (gC d[j]!)).setCells blk (j * 3) (gC d[i]!)) (some blk) :=
    ⟨q1.trans r1, q2.trans r2, q3.trans r3, by rw [z2, z1]; exact Nat.le_refl _, fun x _ hx => (o2 x (fun e => hx (by rw [e]))).trans (o1 x (fun e => hx (by rw [e])))⟩
  refine ⟨(W.setCells blk (i * 3) (gC d[j]!)).setCells blk (j * 3) (gC d[i]!), ?_, ⟨⟨?_, ?_⟩, gb_trans h.gr hgr⟩, hgr⟩
  · have e1 := swp9_run #[.int .i64 i, .int .i64 j, .slice (some ⟨blk, 0, none⟩) n cap, typeHandle Tryz.prog 45] W
    rw [hrun] at e1
    exact e1
  · have := hsz
    rw [sg_len, Array.length_toList, swp_size]
    omega
  · rcases h.row.2 with ⟨hv, _⟩ | ⟨g, cc, cu, hv, hbb, hgg, hnc, hcm, hcs, hcur⟩
    · cases hv
    · injection hv with hA _ hcc
      injection hA with hA
      injection hA with hA
      subst hA hcc
      have hcu : cu = cur := by
        have e1 : W.heap[blk]? = some (.cells cu 45 (0, 0)) := hgg
        have e2 : W.heap[blk]? = some (.cells cur 45 (0, 0)) := hg
        exact (Obj.cells.inj (Option.some.inj (e1.symm.trans e2))).1
      subst hcu
      refine .inr ⟨blk, cap, c2, rfl, hbb, g2, hnc, hcm, by rw [s2, s1]; exact hcs, ?_⟩
      apply List.ext_getElem?
      intro m
      rw [List.getElem?_take, Array.getElem?_toList]
      have hm : m = m / 3 * 3 + m % 3 := by omega
      have hm3 : m % 3 < 3 := Nat.mod_lt _ (by omega)
      have hR : (cellsG (swp d i j).toList)[m]? = (swp d i j).toList[m / 3]?.bind (fun g => (gC g)[m % 3]?) := by
        conv => lhs; rw [hm]
        exact sg_at _ _ _ hm3
      rw [hR, swp_at d i j (m / 3) (by omega) (by omega)]
      have hcell := g2.cell m
      have hsome : ∀ (o : Nat) (w : World) (c : Array Value), Has w blk 45 c → c.size = cu.size → o < n → ∀ q, q < 3 → (w.cell? ⟨blk, o * 3 + q, none⟩).isSome = true := fun o w c hc hcz ho q hq => by
        rw [hc.cell]
        have : o * 3 + q < c.size := by rw [hcz]; omega
        simp [this]
      by_cases hmn : m < n * 3
      · rw [if_pos hmn, ← hcell]
        by_cases h1 : m / 3 = j
        · rw [if_pos h1]
          have := World.cell?_setCells_in blk (gC d[i]!) (j * 3) (W.setCells blk (i * 3) (gC d[j]!)) (fun q hq => hsome j _ c1 g1 s1 hj q (by simpa [gC] using hq)) (m % 3) (by simpa [gC] using hm3)
          rw [show j * 3 + m % 3 = m by omega] at this
          rw [this]
          simp
        · rw [if_neg h1]
          rw [World.cell?_setCells_out blk (gC d[i]!) (j * 3) _ ⟨blk, m, none⟩ (fun _ _ => by show m < j * 3 ∨ j * 3 + 3 ≤ m; omega)]
          by_cases h2 : m / 3 = i
          · rw [if_pos h2]
            have := World.cell?_setCells_in blk (gC d[j]!) (i * 3) W (fun q hq => hsome i W cu hg rfl hi q (by simpa [gC] using hq)) (m % 3) (by simpa [gC] using hm3)
            rw [show i * 3 + m % 3 = m by omega] at this
            rw [this]
            simp
          · rw [if_neg h2, World.cell?_setCells_out blk (gC d[j]!) (i * 3) _ ⟨blk, m, none⟩ (fun _ _ => by show m < i * 3 ∨ i * 3 + 3 ≤ m; omega), hg.cell]
            have h3 := sg_at d.toList (m / 3) (m % 3) hm3
            rw [← hm, ← hc, List.getElem?_take, if_pos hmn, Array.getElem?_toList] at h3
            exact h3
      · rw [if_neg hmn, if_neg (by omega), if_neg (by omega), List.getElem?_eq_none (by rw [Array.length_toList]; omega)]
        rfl
end

end Go.Proofs.YtglkmpglpddfdaaGreatDoor
end

section
namespace Go.Proofs.YtglkmpglpddfdaaGreatDoor
open Go.RowKit Go.Sort
set_option linter.unusedVariables false

def LessC : Prop := ∀ (x y : G) (w : World), Calls Tryz.prog 21 #[.agg #[.int .i64 x.a, .int .i64 x.f, .int .i64 x.t], .agg #[.int .i64 y.a, .int .i64 y.f, .int .i64 y.t]] w fun e w' => e = .returned (.bool (lessG x y)) ∧ Below w.heap.size w w'
theorem swo_less : SWO lessG where
  irrefl x := by simp [lessG]
  trans x y z := by
    simp only [lessG]
    intro h1 h2
    repeat' split at h1
    all_goals repeat' split at h2
    all_goals repeat' split
    all_goals simp_all
    all_goals omega
  ntrans x y z := by
    simp only [lessG]
    intro h1 h2
    repeat' split at h1
    all_goals repeat' split at h2
    all_goals repeat' split
    all_goals simp_all
    all_goals omega
section
variable {w0 W W' : World} {base blk n cap B : Nat} {d : Array G}
theorem srt_grants (hless : LessC) (hB : w0.cell? ⟨B, 3, none⟩ = some (.slice (some ⟨blk, 0, none⟩) n cap)) (hne : B ≠ blk) (hblk : blk < w0.heap.size) (hn : n ≤ 1000000) :
    Srt lessG (SI w0 base blk n cap) blk n w0.heap.size 20 92 #[.pointer (some ⟨B, 0, none⟩)] #[.slice (some ⟨blk, 0, none⟩) n cap, typeHandle Tryz.prog 45] where
  enters := enters_of Tryz.func20 (by kernel_rfl) rfl
  less d W i j h hi hj := clo_any hless (h.gr.cell hB (fun e => by injection e with e; exact hne e)) h i j hi hj
  swap d W i j h hi hj := h.swap i j hi hj
  below d W W' h hb := h.below hb
  size d W h := h.size
  blk d W h := Nat.lt_of_lt_of_le hblk h.gr.size
  most := by omega
  away d W q u h hq := h.away hblk hq u
  high d W h := h.gr.size
end
theorem bitLenAux_le : ∀ (f x : Nat), Lib.bitLenAux f x ≤ f
  | 0, x => Nat.le_refl _
  | f + 1, x => by
    have := bitLenAux_le f (x / 2)
    unfold Lib.bitLenAux
    split <;> omega
theorem bitLen_le (n : Nat) : Lib.bitLen n ≤ 1000 := Nat.le_trans (bitLenAux_le 64 n) (by omega)
theorem sg_swapper (n : Nat) (h : 2 ≤ n) : Lib.swapperK n sgE 25 = 9 := by
  have h1 : sgE.hasPointers = false := by kernel_rfl
  have h2 : sgE.bytes = 24 := by kernel_rfl
  unfold Lib.swapperK
  rw [if_neg (by simp; omega), if_neg (by simp; omega), h1, h2]
  rfl
set_option maxRecDepth 100000 in
set_option maxHeartbeats 4000000 in
theorem sortG_any (hless : LessC) (B base : Nat) (vn vu vq v : Value) (l : List G) (w : World) (h2 : 2 ≤ l.length) (hl : l.length ≤ 1000000) (hB : Has w B 28 #[vn, vu, vq, v]) (ho : w.ownsRow base 45 3 v l.length (cellsG l)) :
    Calls Tryz.prog 19 #[.iface 26 v, .func (.func 20) #[] #[.pointer (some ⟨B, 0, none⟩)]] w fun e w' => e = .returned (.tuple #[]) ∧ w.grownBy w' v.ownBlock ∧ ∃ d' : Array G, PermIn 0 l.length l.toArray d' ∧ SortedIn lessG 0 l.length d' ∧ w'.ownsRow base 45 3 v l.length (cellsG d'.toList) := by
  obtain ⟨n, hnl⟩ : ∃ n, l.length = n := ⟨_, rfl⟩
  rw [hnl] at h2 hl ho ⊢
  have ho2 := ho.2
  rcases ho2 with ⟨_, hn0⟩ | ⟨blk, cap, cur, hv, hb, hg, hnc, hcm, hcs, hcur⟩
  · omega
  · subst hv
    have hblk : blk < w.heap.size := (Array.getElem?_eq_some_iff.1 hg).1
    have hne : B ≠ blk := hB.apart (show Has w blk 45 cur from hg) (by decide)
    have S := srt_grants (w0 := w) (base := base) hless (hB.cell 3) hne hblk hl
    have hK := sg_swapper n h2
    have hI : SI w base blk n cap l.toArray w := ⟨ho, gb_refl _ _⟩
    have hw : Below w.heap.size w (sliceWorld Tryz.prog Tryz.sa6_ren 26 (some ⟨blk, 0, none⟩) n cap w) := ((Below.refl _ w).alloc (Nat.le_refl _) _).alloc (by simp) _
    have hp := pdq_any S swo_less (n + 1) 0 n (Lib.bitLen n) l.toArray _ (hI.below hw) (Nat.zero_le _) (by omega) (Nat.le_refl _) (bitLen_le n)
    have hB2 : sliceBound Tryz.prog 45 sgE 25 (some ⟨blk, 0, none⟩) n cap = #[.slice (some ⟨blk, 0, none⟩) n cap, typeHandle Tryz.prog 45] := by
      unfold sliceBound
      rw [if_neg (by rw [hK]; decide)]
    refine Any.sort_Slice_of_pdq Tryz.sa6 26 45 sgT sgE (by kernel_rfl) (by kernel_rfl) (by kernel_rfl) sgE_is 25 (fun _ => by kernel_rfl) (some ⟨blk, 0, none⟩) n cap (by omega) 92 (by rw [hK]; kernel_rfl) (.func 20) #[] #[.pointer (some ⟨B, 0, none⟩)] w _ ?_
    rw [hB2]
    have hs := pdq_sorts lessG swo_less l.toArray 0 n (Lib.bitLen n) true true (Nat.zero_le _) (by simp [hnl]) (Or.inl rfl)
    refine Calls.mono (show Calls Tryz.prog 54 _ _ _ from hp) ?_
    rintro e w' ⟨he, h9, _⟩
    exact ⟨he, h9.gr, _, hs.1, hs.2, h9.row⟩

end Go.Proofs.YtglkmpglpddfdaaGreatDoor
end

section
namespace Go.Proofs.YtglkmpglpddfdaaGreatDoor
open Go.RowKit Go.Sort
set_option linter.unusedVariables false

theorem less_tri {x y : G} (h1 : lessG x y = false) (h2 : lessG y x = false) : x = y := by
  obtain ⟨a, b, c⟩ := x
  obtain ⟨a', b', c'⟩ := y
  simp only [lessG] at h1 h2
  have e : a = a' ∧ b = b' ∧ c = c' := by
    repeat' split at h1
    all_goals repeat' split at h2
    all_goals simp_all
    all_goals omega
  obtain ⟨rfl, rfl, rfl⟩ := e
  rfl
def RiseG (l : List G) : Prop := l.Pairwise (fun x y => lessG x y = true)
theorem rise_ext : ∀ {a b : List G}, RiseG a → RiseG b → (∀ x, x ∈ a ↔ x ∈ b) → a = b
  | [], [], _, _, _ => rfl
  | [], y :: b, _, _, h => absurd ((h y).2 (.head _)) (by simp)
  | x :: a, [], _, _, h => absurd ((h x).1 (.head _)) (by simp)
  | x :: a, y :: b, ha, hb, h => by
    have ha' := List.pairwise_cons.1 ha
    have hb' := List.pairwise_cons.1 hb
    have hxy : x = y := by
      rcases List.mem_cons.1 ((h x).1 (.head _)) with e | e
      · exact e
      · rcases List.mem_cons.1 ((h y).2 (.head _)) with e2 | e2
        · exact e2.symm
        · have h1 := hb'.1 x e
          have h2 := ha'.1 y e2
          have := swo_less.trans x y x h2 h1
          rw [swo_less.irrefl] at this
          cases this
    subst hxy
    congr 1
    refine rise_ext ha'.2 hb'.2 (fun z => ⟨fun hz => ?_, fun hz => ?_⟩)
    · rcases List.mem_cons.1 ((h z).1 (.tail _ hz)) with e | e
      · subst e
        have := ha'.1 z hz
        rw [swo_less.irrefl] at this
        cases this
      · exact e
    · rcases List.mem_cons.1 ((h z).2 (.tail _ hz)) with e | e
      · subst e
        have := hb'.1 z hz
        rw [swo_less.irrefl] at this
        cases this
      · exact e
theorem mem_insG {l : List G} {g x : G} : x ∈ insG l g ↔ x ∈ l ∨ x = g := by
  unfold insG
  split
  · rename_i h
    constructor
    · exact .inl
    · rintro (h1 | rfl)
      · exact h1
      · exact h
  · rw [List.mem_append, List.mem_cons]
    have := List.takeWhile_append_dropWhile (p := fun x => lessG x g) (l := l)
    constructor
    · rintro (h | rfl | h)
      · exact .inl (this ▸ List.mem_append_left _ h)
      · exact .inr rfl
      · exact .inl (this ▸ List.mem_append_right _ h)
    · rintro (h | rfl)
      · rw [← this] at h
        rcases List.mem_append.1 h with h | h
        · exact .inl h
        · exact .inr (.inr h)
      · exact .inr (.inl rfl)
theorem mem_tw {p : G → Bool} : ∀ {l : List G} {x : G}, x ∈ l.takeWhile p → p x = true
  | [], x, h => by cases h
  | y :: l, x, h => by
    rw [List.takeWhile_cons] at h
    split at h
    · rename_i hy
      rcases List.mem_cons.1 h with rfl | h
      · exact hy
      · exact mem_tw h
    · cases h
theorem rise_insG : ∀ {l : List G} {g : G}, RiseG l → RiseG (insG l g) := by
  intro l g h
  unfold insG
  split
  · exact h
  · rename_i hn
    have e := List.takeWhile_append_dropWhile (p := fun x => lessG x g) (l := l)
    have h2 : RiseG (l.takeWhile (fun x => lessG x g) ++ l.dropWhile (fun x => lessG x g)) := e.symm ▸ h
    obtain ⟨p1, p2, p3⟩ := List.pairwise_append.1 h2
    have ht : ∀ x ∈ l.takeWhile (fun x => lessG x g), lessG x g = true := fun x hx => by
      exact mem_tw (p := fun x => lessG x g) hx
    have hd : ∀ y ∈ l.dropWhile (fun x => lessG x g), lessG g y = true := by
      intro y hy
      cases hq : l.dropWhile (fun x => lessG x g) with
      | nil => rw [hq] at hy; cases hy
      | cons z r =>
        have hz : lessG z g = false := by
          have := List.head?_dropWhile_not (fun x => lessG x g) l
          rw [hq] at this
          simpa using this
        have hzg : lessG g z = true := by
          cases hgz : lessG g z
          · have := less_tri hgz hz
            subst this
            exact absurd (e ▸ List.mem_append_right _ (by rw [hq]; exact .head _)) hn
          · rfl
        rw [hq] at hy p2
        rcases List.mem_cons.1 hy with rfl | hy
        · exact hzg
        · exact swo_less.trans _ _ _ hzg ((List.pairwise_cons.1 p2).1 y hy)
    refine List.pairwise_append.2 ⟨p1, List.pairwise_cons.2 ⟨hd, p2⟩, fun x hx y hy => ?_⟩
    rcases List.mem_cons.1 hy with rfl | hy
    · exact ht x hx
    · exact p3 x hx y hy
theorem fold_insG : ∀ (l acc : List G), RiseG acc → RiseG (l.foldl insG acc) ∧ ∀ x, x ∈ l.foldl insG acc ↔ x ∈ acc ∨ x ∈ l
  | [], acc, h => ⟨h, by simp⟩
  | g :: l, acc, h => by
    obtain ⟨h1, h2⟩ := fold_insG l (insG acc g) (rise_insG h)
    refine ⟨h1, fun x => ?_⟩
    rw [List.foldl_cons, h2, mem_insG, List.mem_cons, or_assoc]
theorem mem_compG (x : G) (l : List G) : x ∈ compG l ↔ x ∈ l := by
  fun_induction compG l with
  | case1 => simp
  | case2 => simp
  | case3 y r ih => rw [ih]; simp
  | case4 y z r h ih => simp only [List.mem_cons, ih]
theorem rise_compG (l : List G) (h : l.Pairwise (fun x y => lessG y x = false)) : RiseG (compG l) := by
  fun_induction compG l with
  | case1 => exact List.Pairwise.nil
  | case2 => exact List.pairwise_singleton _ _
  | case3 y r ih => exact ih (List.pairwise_cons.1 h).2
  | case4 y z r hne ih =>
    have h' := List.pairwise_cons.1 h
    refine List.pairwise_cons.2 ⟨fun x hx => ?_, ih h'.2⟩
    rw [mem_compG] at hx
    cases hq : lessG y x
    · have hxy := less_tri hq (h'.1 x hx)
      subst hxy
      have hz := h'.1 z (.head _)
      have h3 := List.pairwise_cons.1 h'.2
      rcases List.mem_cons.1 hx with e | e
      · exact absurd e hne
      · exact absurd (less_tri (h3.1 _ e) hz) hne
    · rfl
theorem comp_ins {l l' : List G} (hm : ∀ x, x ∈ l' ↔ x ∈ l) (hs : l'.Pairwise (fun x y => lessG y x = false)) : compG l' = l.foldl insG [] := by
  obtain ⟨h1, h2⟩ := fold_insG l [] List.Pairwise.nil
  refine rise_ext (rise_compG l' hs) h1 (fun x => ?_)
  rw [mem_compG, h2, hm]
  simp
theorem sorted_list {n : Nat} {d : Array G} (hn : d.size = n) (h : SortedIn lessG 0 n d) : d.toList.Pairwise (fun x y => lessG y x = false) := by
  rw [List.pairwise_iff_getElem]
  intro i j hi hj hij
  rw [Array.length_toList] at hi hj
  have := h i j (Nat.zero_le _) hij (by omega)
  simpa [hi, hj] using this
theorem perm_mem {n : Nat} {d d' : Array G} (hn : d.size = n) (h : PermIn 0 n d d') : d'.size = n ∧ ∀ x, x ∈ d'.toList ↔ x ∈ d.toList := by
  obtain ⟨h1, _, h3⟩ := h
  subst hn
  refine ⟨h1, fun x => ?_⟩
  have e1 : d'.extract 0 d.size = d' := by rw [← h1]; simp
  have e2 : d.extract 0 d.size = d := by simp
  rw [e1, e2] at h3
  exact h3.mem_iff

end Go.Proofs.YtglkmpglpddfdaaGreatDoor
end

section
namespace Go.Proofs.YtglkmpglpddfdaaGreatDoor
open Go.RowKit Go.Sort
set_option linter.unusedVariables false

theorem compG_snoc : ∀ (a : List G) (y x : G), compG (a ++ [y, x]) = if y = x then compG (a ++ [y]) else compG (a ++ [y]) ++ [x]
  | [], y, x => by
    by_cases h : y = x
    · subst h
      simp [compG]
    · simp [compG, h]
  | [z], y, x => by
    by_cases h : y = x <;> by_cases h2 : z = y <;> simp [compG, h, h2] <;> simp_all [compG]
  | z :: u :: a, y, x => by
    have ih := compG_snoc (u :: a) y x
    simp only [List.cons_append] at ih ⊢
    simp only [compG]
    rw [ih]
    split <;> split <;> simp
theorem comp_more {l : List G} {m : Nat} {x y : G} (hx : l[m + 1]? = some x) (hy : l[m]? = some y) : compG (l.take (m + 2)) = if y = x then compG (l.take (m + 1)) else compG (l.take (m + 1)) ++ [x] := by
  rw [show l.take (m + 2) = l.take m ++ [y, x] by rw [List.take_add_one, List.take_add_one, hx, hy]; simp, show l.take (m + 1) = l.take m ++ [y] by rw [List.take_add_one, hy]; rfl]
  exact compG_snoc _ _ _
theorem comp_first {l : List G} (h : 1 ≤ l.length) : compG (l.take 1) = l.take 1 := by
  obtain ⟨x, r, rfl⟩ : ∃ x r, l = x :: r := by
    cases l with
    | nil => simp at h
    | cons x r => exact ⟨x, r, rfl⟩
  simp [compG]
def zG : Array Value := #[.int .i64 0, .int .i64 0, .int .i64 0]
theorem run_clear_G (w : World) (ty : TypeId) (b o n c : Nat) (hn : 0 < n) (hc : ∀ j, j < n * 3 → (w.cell? ⟨b, o + j, none⟩).isSome = true) (hf : ∀ j, j < n * 3 → w.frozen? ⟨b, o + j, none⟩ = false) :
    (Builtin.clear_ #[26] ty #[.slice (some ⟨b, o, none⟩) n c]).run Tryz.prog w = .ok (.tuple #[]) (w.setCells b o (Builtin.zeroCells zG n).toList) := by
  have hv : ∀ w, (zeroValue 45).run Tryz.prog w = .ok (.agg zG) w := fun _ => by kernel_rfl
  have hl : (Builtin.zeroCells zG n).toList.length = n * 3 := by simp [Builtin.zeroCells, zG]
  have h1 : ∀ v ∈ (Builtin.zeroCells zG n).toList, v.oneCell' = true := by
    intro v hv
    simp [Builtin.zeroCells, zG] at hv
    obtain ⟨a, _, rfl⟩ := hv
    have : a % 3 = 0 ∨ a % 3 = 1 ∨ a % 3 = 2 := by omega
    rcases this with h | h | h <;> rw [h] <;> rfl
  have hst := run_storeCells_cells (P := Tryz.prog) b o (Builtin.zeroCells zG n).toList 0 w (by rw [hl]; simpa using hc) (by rw [hl]; simpa using hf) h1
  simp only [Nat.add_zero] at hst
  obtain ⟨m, rfl⟩ : ∃ m, n = m + 1 := ⟨n - 1, by omega⟩
  simp [Builtin.clear_, run_underlying Tryz.underlying26, hv, Value.cells, hst]
section
variable {w0 W W' : World} {base blk n cap B : Nat} {d : Array G}
theorem SI.put (h : SI w0 base blk n cap d W) (k : Nat) (hk : k < n) (x : G) : SI w0 base blk n cap (d.setIfInBounds k x) (W.setCells blk (k * 3) (gC x)) ∧ W.grownBy (W.setCells blk (k * 3) (gC x)) (some blk) := by
  obtain ⟨cur, hg, hs, hc, hb⟩ := h.has
  have hsz := h.size
  obtain ⟨c1, g1, s1, o1, z1, r1, r2, r3⟩ := sg_sets (gC x) (k * 3) W cur hg
  have hgr : W.grownBy (W.setCells blk (k * 3) (gC x)) (some blk) := ⟨r1, r2, r3, by rw [z1]; exact Nat.le_refl _, fun y _ hy => o1 y (fun e => hy (by rw [e]))⟩
  refine ⟨⟨⟨by rw [sg_len, Array.length_toList, Array.size_setIfInBounds]; omega, ?_⟩, gb_trans h.gr hgr⟩, hgr⟩
  rcases h.row.2 with ⟨hv, _⟩ | ⟨g, cc, cu, hv, hbb, hgg, hnc, hcm, hcs, hcur⟩
  · cases hv
  · injection hv with hA _ hcc
    injection hA with hA
    injection hA with hA
    subst hA hcc
    have hcu : cu = cur := by
      have e1 : W.heap[blk]? = some (.cells cu 45 (0, 0)) := hgg
      have e2 : W.heap[blk]? = some (.cells cur 45 (0, 0)) := hg
      exact (Obj.cells.inj (Option.some.inj (e1.symm.trans e2))).1
    subst hcu
    refine .inr ⟨blk, cap, c1, rfl, hbb, g1, hnc, hcm, by rw [s1]; exact hcs, ?_⟩
    apply List.ext_getElem?
    intro m
    rw [List.getElem?_take, Array.getElem?_toList]
    have hm : m = m / 3 * 3 + m % 3 := by omega
    have hm3 : m % 3 < 3 := Nat.mod_lt _ (by omega)
    have hR : (cellsG (d.setIfInBounds k x).toList)[m]? = (d.setIfInBounds k x).toList[m / 3]?.bind (fun g => (gC g)[m % 3]?) := by
      conv => lhs; rw [hm]
      exact sg_at _ _ _ hm3
    rw [hR, Array.toList_setIfInBounds, List.getElem?_set]
    have hcell := g1.cell m
    by_cases hmn : m < n * 3
    · rw [if_pos hmn, ← hcell]
      by_cases h1 : k = m / 3
      · rw [if_pos h1, if_pos (by rw [Array.length_toList]; omega)]
        have := World.cell?_setCells_in blk (gC x) (k * 3) W (fun q hq => by
          rw [hg.cell]
          have : k * 3 + q < cu.size := by simp [gC] at hq; omega
          simp [this]) (m % 3) (by simpa [gC] using hm3)
        rw [show k * 3 + m % 3 = m by omega] at this
        rw [this]
        simp
      · rw [if_neg h1, World.cell?_setCells_out blk (gC x) (k * 3) W ⟨blk, m, none⟩ (fun _ _ => by show m < k * 3 ∨ k * 3 + 3 ≤ m; omega), hg.cell]
        have h3 := sg_at d.toList (m / 3) (m % 3) hm3
        rw [← hm, ← hc, List.getElem?_take, if_pos hmn, Array.getElem?_toList] at h3
        exact h3
    · rw [if_neg hmn, if_neg (by omega), List.getElem?_eq_none (by rw [Array.length_toList]; omega)]
      rfl
theorem SI.front (h : SI w0 base blk n cap d W) (k : Nat) (hk : k ≤ n) (vs : List Value) (hvs : ∃ cs, k * 3 + vs.length ≤ cs ∧ ∃ cur, Has W blk 45 cur ∧ cur.size = cs) :
    (W.setCells blk (k * 3) vs).ownsRow base 45 3 (.slice (some ⟨blk, 0, none⟩) k cap) k (cellsG (d.toList.take k)) ∧ W.grownBy (W.setCells blk (k * 3) vs) (some blk) := by
  obtain ⟨cur, hg, hs, hc, hb⟩ := h.has
  have hsz := h.size
  obtain ⟨c1, g1, s1, o1, z1, r1, r2, r3⟩ := sg_sets vs (k * 3) W cur hg
  have hgr : W.grownBy (W.setCells blk (k * 3) vs) (some blk) := ⟨r1, r2, r3, by rw [z1]; exact Nat.le_refl _, fun y _ hy => o1 y (fun e => hy (by rw [e]))⟩
  refine ⟨⟨by rw [sg_len, List.length_take, Array.length_toList]; omega, ?_⟩, hgr⟩
  rcases h.row.2 with ⟨hv, _⟩ | ⟨g, cc, cu, hv, hbb, hgg, hnc, hcm, hcs, hcur⟩
  · cases hv
  · injection hv with hA _ hcc
    injection hA with hA
    injection hA with hA
    subst hA hcc
    have hcu : cu = cur := by
      have e1 : W.heap[blk]? = some (.cells cu 45 (0, 0)) := hgg
      have e2 : W.heap[blk]? = some (.cells cur 45 (0, 0)) := hg
      exact (Obj.cells.inj (Option.some.inj (e1.symm.trans e2))).1
    subst hcu
    refine .inr ⟨blk, cap, c1, rfl, hbb, g1, by omega, hcm, by rw [s1]; exact hcs, ?_⟩
    apply List.ext_getElem?
    intro m
    rw [List.getElem?_take, Array.getElem?_toList]
    by_cases hmk : m < k * 3
    · rw [if_pos hmk, ← g1.cell m, World.cell?_setCells_out blk vs (k * 3) W ⟨blk, m, none⟩ (fun _ _ => .inl hmk), hg.cell]
      have hm : m = m / 3 * 3 + m % 3 := by omega
      have hm3 : m % 3 < 3 := Nat.mod_lt _ (by omega)
      have hR : (cellsG (d.toList.take k))[m]? = (d.toList.take k)[m / 3]?.bind (fun g => (gC g)[m % 3]?) := by
        conv => lhs; rw [hm]
        exact sg_at _ _ _ hm3
      rw [hR, List.getElem?_take, if_pos (by omega)]
      have h3 := sg_at d.toList (m / 3) (m % 3) hm3
      rw [← hm, ← hc, List.getElem?_take, if_pos (by omega), Array.getElem?_toList] at h3
      exact h3
    · rw [if_neg hmk]
      rw [List.getElem?_eq_none (by rw [sg_len, List.length_take, Array.length_toList]; omega)]
end

end Go.Proofs.YtglkmpglpddfdaaGreatDoor
end
