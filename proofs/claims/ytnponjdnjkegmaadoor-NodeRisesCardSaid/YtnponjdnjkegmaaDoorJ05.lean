import Derived.Test.YtnponjdnjkegmaaDoorJ04
import Derived.OwnWalk
/- Of a claim's texts, joined: Neh Neb Nec Ned. No statement but in the last. -/
section
namespace Go.Proofs.YtnponjdnjkegmaaDoor
open Go.RowKit
set_option linter.unusedVariables false

theorem step_append_str {P : Program} {ops : Array Oper} {o : Oper} {a : Act} {w : World} {K : Act → World → Prop} {Q : Exit → Act → World → Prop} {E : Prop} (hgd : o.guard = none) (sl x : Operand) (t u : TypeId)
    (ho : o.op = .call { callee := .builtin .append, args := #[sl, x], argTypes := #[t, u] })
    (base : Nat) (e : TypeId) (i : TypeInfo) (ht : P.underlying t = some (.slice e)) (hu : P.underlying u = some .string) (hi : P.info? e = some i) (hz : i.zero = some (.int .u8 0)) (hsize : i.size = 1) (hby : i.bytes = 1)
    (v : Value) (n : Nat) (xs : List Value) (hs : a.eval sl = v) (hown : w.ownsRow base e 1 v n xs) (s : ByteArray) (hx : a.eval x = .string s) (h63 : n + s.size ≤ maxLen) (hbytes : n + s.size ≤ 140737488355328) (hbase : base ≤ w.heap.size)
    (h : ∀ v' w', w'.ownsRow base e 1 v' (n + s.size) (xs ++ Lib.strCells s) → w.grownBy w' v.ownBlock → K (a.put o.dst v') w') :
    if Region.wanted o (yielded ops a.tmps) = true then Oper.wp P o a w K Q else E := by
  have hw : Region.wanted o (yielded ops a.tmps) = true := by simp [Region.wanted, hgd]
  rw [if_pos hw]
  obtain ⟨v', w', hr, h2, h3, _⟩ := Lib.run_append_own_string (P := P) w base t u o.type e i ht hu hi hz hsize hby v n xs hown s h63 hbytes hbase
  unfold Oper.wp execOp
  simp only [ho, resolve, invoke, builtin, Sem.run_bind, Sem.run_pure, Result.andThen_ok, List.map_toArray, List.map_cons, List.map_nil, hs, hx, hr]
  exact h v' w' h2 h3
theorem wp_heldHQ {P : Program} {id : Nat} {ops : Array Oper} {Q : Exit → Act → World → Prop} {a : Act} {w : World} (S : World → Prop) (hm : P.follows .mixedOrders = true)
    (h : wpAnyH P .any ops (Runs (Q .normal)) S ops.size (Array.replicate ops.size false) a w.drew) : (Code.region id ops true).wp P Q a w :=
  wp_mono (Q := Runs (Q .normal)) (wp_region_held hm h) (fun e a w h => by cases e <;> first | exact h | exact False.elim h)
theorem Fresh.low {W W' : Nat} {l : List UInt8} {w w' w'' : World} {e : Ending} (h : Fresh W l w' e w'') (hb : Below W' w w') (hW : W' ≤ W) : Fresh W' l w e w'' := by
  obtain ⟨A, c, he, h1, h2, h3, h4⟩ := h
  exact ⟨A, c, he, h1, h2, h3.low hW, hb.trans (h4.mono hW)⟩
theorem strCells_list (l : List UInt8) (s : ByteArray) (h : s.data.toList = l) : Lib.strCells s = l.map byteV := by
  rw [Lib.strCells, h]
  rfl
theorem box_val (w : World) (t : TypeId) (cs : Array Value) : ∃ W, (w.alloc (.cells #[] t)).alloc (.cells cs 52) = W ∧ Below w.heap.size w W ∧ Has W (w.heap.size + 1) 52 cs ∧ W.heap.size = w.heap.size + 2 := by
  refine ⟨_, rfl, ((Below.refl _ w).alloc (Nat.le_refl _) _).alloc (by simp) _, ?_, by simp⟩
  have := Has.made (w.alloc (.cells #[] t)) 52 cs
  simpa using this
theorem cells_of {w : World} {B : Nat} {q : List Hd} (hq : q.length ≤ 1000) (h : Has w B 31 (q.map Hd.v).toArray) (he : ∀ x ∈ q, Arg w x.a x.n x.c x.l) : CellsA w (some ⟨B, 0, none⟩) q.length q.length q :=
  ⟨rfl, fun _ => ⟨B, 0, rfl, fun j u hj => by rw [h.cell, Nat.zero_add]; simpa using hj⟩, he, Nat.le_refl _, by unfold maxLen; omega, fun h => by cases h⟩
theorem arg_num (w W : World) (x n : Nat) (h1 : 1 ≤ n) (h8 : n ≤ 8) (hb : Below (w.heap.size + 1) (w.alloc (.cells ((numB x n).map byteV).toArray 5)) W) : Arg W (some ⟨w.heap.size, 0, none⟩) n n (numB x n) := by
  have hm := Has.made w 5 ((numB x n).map byteV).toArray
  have hk := hm.below hb (Nat.lt_succ_self _)
  refine ⟨(numB_len x n).symm, fun _ => ⟨w.heap.size, 0, rfl, fun j u hj => by rw [hk.cell, Nat.zero_add]; simpa using hj⟩, fun _ a ha => ?_, Nat.le_refl _, by unfold maxLen; omega, fun h => by cases h⟩
  injection ha with ha
  subst ha
  exact hk.lt
set_option maxHeartbeats 4000000 in
theorem nbPut_any (e : En) (w : World) : Calls Tryd.prog 100 #[.agg #[], valV e] w (Fresh w.heap.size (putE false e) w) := by
  obtain ⟨k, d, far, sz, pg⟩ := e
  obtain ⟨W, hW, hb, hh, hs⟩ := box_val w 90 #[cstV d, .bool far, .int .i64 sz, .int .i64 pg]
  have c3 := hh.cell 3
  have HB := Lib.hid hb
  have HN := Lib.hid (fun w => nnum_any pg w)
  have HL : Hid ((putE false ⟨k, d, far, sz, pg⟩) = numB (u64N pg) 2) := Lib.hid rfl
  have HL2 : Hid ((numB (u64N pg) 2).length = 2) := Lib.hid (numB_len _ _)
  have HO := Lib.hid (row_made W (numB (u64N pg) 2))
  have HBB : Hid (Below w.heap.size w (W.alloc (.cells ((numB (u64N pg) 2).map byteV).toArray 5))) := Lib.hid (hb.alloc (by omega) _)
  rw [HL.out]
  simp only [valV, cstV] at hW ⊢
  have HS := Lib.hid hs
  clear hb hh hs HL
  go_enter Tryd.func100, Tryd.ntmps100
  go_wp2_with (go_at_call 92; (try rw [hW]); (with_reducible refine (HN.out _).mono ?_); rintro r1 w1 ⟨rfl, rfl⟩)
  go_ret
  have HLx := HL2.out
  refine ⟨some ⟨W.heap.size, 0, none⟩, 2, by rw [HLx]; rfl, by omega, by unfold maxLen; omega, HO.out.low (by have := HS.out; omega), HBB.out⟩

set_option maxRecDepth 100000 in
set_option maxHeartbeats 4000000 in
theorem nlPut_in (k d : List UInt8) (sz pg : Int) (w : World) (hd : d.length ≤ 100000) : Calls Tryd.prog 85 #[.agg #[], valV ⟨k, d, false, sz, pg⟩] w (Fresh w.heap.size (0 :: d) w) := by
  have hmx : Tryd.prog.follows .mixedOrders = true := by kernel_rfl
  obtain ⟨i0, hi, hz0, hz1, hz2⟩ := info_parts u8info
  obtain ⟨W, hW, hb, hh, hs⟩ := box_val w 89 #[cstV d, .bool false, .int .i64 sz, .int .i64 pg]
  have c0 := hh.cell 0
  have c1 := hh.cell 1
  have HB := Lib.hid hb
  have HSZ := Lib.hid hs
  have HN := Lib.hid (fun w => Num_yes 0 1 w (by decide) (by decide) (by decide))
  have hz : (⟨d.toArray⟩ : ByteArray).size = d.length := size_list d
  have HD : Hid (Lib.strCells (⟨d.toArray⟩ : ByteArray) = d.map byteV) := Lib.hid (strCells_list d _ rfl)
  simp only [valV, cstV] at hW c0 c1 ⊢
  generalize (⟨d.toArray⟩ : ByteArray) = sd at *
  have hsd : sd.size ≤ 100000 := by omega
  have HZ := Lib.hid hz
  clear hb hh hs hz
  have c0 : W.cell? ⟨w.heap.size + 1, 0, none⟩ = some (.string sd) := c0
  go_enter Tryd.func85, Tryd.ntmps85
  go_wp2
  try rw [hW]

  rename_i K hK
  refine wp_held (fun w' => Below W.heap.size W w') K hmx ?_ (fun _ _ h => h)
  refine wpAnyH_take (i := 1) (v := .pointer (some ⟨w.heap.size + 1, 0, none⟩)) rfl (by kernel_rfl) (by kernel_rfl) (by kernel_rfl) (fun _ _ _ h => h) (Or.inl ⟨by rfl, ?_⟩) ((Below.refl _ _).drew) ?_
  · intro w6 s1
    go_simp
  simp only [Act.put, List.setIfInBounds_toArray, List.set_cons_zero, List.set_cons_succ, List.getElem_toArray, List.getElem_cons_zero, List.getElem_cons_succ]
  refine wpAnyH_take (i := 2) (v := .string sd) rfl (by kernel_rfl) (by kernel_rfl) (by kernel_rfl) (fun _ _ _ h => h) (Or.inl ⟨by rfl, ?_⟩) ((Below.refl _ _).drew) ?_
  · intro w6 s1
    have d0 := cell_below c0 s1
    go_simp
  simp only [Act.put, List.setIfInBounds_toArray, List.set_cons_zero, List.set_cons_succ, List.getElem_toArray, List.getElem_cons_zero, List.getElem_cons_succ]
  refine wpAnyH_ready (rs := [0]) (by kernel_rfl) (by simp) ?_
  refine AllReadyH.cons rfl (fun K5 hK5 => ?_) AllReadyH.nil
  go_simp
  go_at_call 41
  refine (HN.out _).mono ?_
  rintro e1 w1 ⟨rfl, hw1⟩
  have B1 : Below W.heap.size W w1 := hw1 ▸ (Below.refl _ W).drew.alloc (Nat.le_refl _) _
  have O1 : w1.ownsRow w.heap.size 5 1 (.slice (some ⟨W.heap.size, 0, none⟩) 1 1) 1 ((numB 0 1).map byteV) := hw1 ▸ own_low (own_num W.drew 0 1 (by decide)) (by have := HSZ.out; show w.heap.size ≤ W.heap.size; omega)
  refine hK5.out _ _ B1 (fun _ => ?_)
  clear hK5 K5
  refine wpAnyH_ready (rs := [3]) (by kernel_rfl) (by simp) ?_
  refine AllReadyH.cons rfl (fun K5 hK5 => ?_) AllReadyH.nil
  refine step_append_str rfl _ _ 31 9 rfl w.heap.size 5 i0 Tryd.underlying31 Tryd.underlying9 hi hz0 hz1 hz2 _ 1 _ rfl O1 sd rfl (by unfold maxLen; omega) (by omega) (by have := HSZ.out; have := B1.size; omega) ?_
  intro v2 w2 h7 h8
  have B2 : Below W.heap.size W w2 := B1.grown h8 (by have := B1.size; exact this) (fun k hk => by injection hk with hk; show W.heap.size ≤ k; rw [← hk]; exact Nat.le_refl _)
  have O2 := Lib.hid h7
  have BB2 := Lib.hid B2
  clear h7 h8 B1 O1
  refine hK5.out _ _ B2 (fun _ => ?_)
  clear hK5 K5
  simp only [Act.put, List.setIfInBounds_toArray, List.set_cons_zero, List.set_cons_succ, List.getElem_toArray, List.getElem_cons_zero, List.getElem_cons_succ]
  refine wpAnyH_ready (rs := [4]) (by kernel_rfl) (by simp) ?_
  refine AllReadyH.cons rfl (fun K5 hK5 => ?_) AllReadyH.nil
  go_simp
  refine hK5.out _ _ B2 (fun _ => ?_)
  clear hK5 K5
  refine wpAnyH_done (by kernel_rfl) ?_ _
  refine hK _ _ ?_
  obtain ⟨A2, c2, rfl, hc1, hc2⟩ := own_slice O2.out
  have HC1 := Lib.hid hc1
  have HC2 := Lib.hid hc2
  clear hc1 hc2 B2
  go_wp2
  go_ret
  have e1 : (1 + sd.size) = (0 :: d).length := by rw [List.length_cons, HZ.out, Nat.add_comm]
  have e2 : (numB 0 1).map byteV ++ Lib.strCells sd = (0 :: d).map byteV := by rw [HD.out]; rfl
  have hO := O2.out
  rw [e2] at hO
  have h1 := HC1.out
  rw [e1] at hO h1 ⊢
  exact ⟨A2, c2, rfl, h1, HC2.out, Row.of_own hO, below_step HB.out BB2.out⟩
set_option maxRecDepth 100000 in
set_option maxHeartbeats 4000000 in
theorem nlPut_far (k d : List UInt8) (sz pg : Int) (w : World) : Calls Tryd.prog 85 #[.agg #[], valV ⟨k, d, true, sz, pg⟩] w (Fresh w.heap.size (1 :: (numB (u64N sz) 2 ++ numB (u64N pg) 2)) w) := by
  have hmx : Tryd.prog.follows .mixedOrders = true := by kernel_rfl
  obtain ⟨W, hW, hb, hh, hs⟩ := box_val w 89 #[cstV d, .bool true, .int .i64 sz, .int .i64 pg]
  have c1 := hh.cell 1
  have c2 : W.cell? ⟨w.heap.size + 1, 2, none⟩ = some (.int .i64 sz) := hh.cell 2
  have c3 : W.cell? ⟨w.heap.size + 1, 3, none⟩ = some (.int .i64 pg) := hh.cell 3
  have HB := Lib.hid hb
  have HSZ := Lib.hid hs
  have HN := Lib.hid (fun w => Num_yes 1 1 w (by decide) (by decide) (by decide))
  have HN1 := Lib.hid (fun w => nnum_any sz w)
  have HN2 := Lib.hid (fun w => nnum_any pg w)
  simp only [valV, cstV] at hW ⊢
  clear hb hh hs
  go_enter Tryd.func85, Tryd.ntmps85
  go_wp2
  try rw [hW]

  rename_i K hK
  refine wp_held (fun w' => Below W.heap.size W w') K hmx ?_ (fun _ _ h => h)
  refine wpAnyH_take (i := 1) (v := .pointer (some ⟨w.heap.size + 1, 2, none⟩)) rfl (by kernel_rfl) (by kernel_rfl) (by kernel_rfl) (fun _ _ _ h => h) (Or.inl ⟨by rfl, ?_⟩) ((Below.refl _ _).drew) ?_
  · intro w6 s1
    go_simp
  simp only [Act.put, List.setIfInBounds_toArray, List.set_cons_zero, List.set_cons_succ, List.getElem_toArray, List.getElem_cons_zero, List.getElem_cons_succ]
  refine wpAnyH_take (i := 2) (v := .int .i64 sz) rfl (by kernel_rfl) (by kernel_rfl) (by kernel_rfl) (fun _ _ _ h => h) (Or.inl ⟨by rfl, ?_⟩) ((Below.refl _ _).drew) ?_
  · intro w6 s1
    have d0 := cell_below c2 s1
    go_simp
  simp only [Act.put, List.setIfInBounds_toArray, List.set_cons_zero, List.set_cons_succ, List.getElem_toArray, List.getElem_cons_zero, List.getElem_cons_succ]
  refine wpAnyH_take (i := 4) (v := .pointer (some ⟨w.heap.size + 1, 3, none⟩)) rfl (by kernel_rfl) (by kernel_rfl) (by kernel_rfl) (fun _ _ _ h => h) (Or.inl ⟨by rfl, ?_⟩) ((Below.refl _ _).drew) ?_
  · intro w6 s1
    go_simp
  simp only [Act.put, List.setIfInBounds_toArray, List.set_cons_zero, List.set_cons_succ, List.getElem_toArray, List.getElem_cons_zero, List.getElem_cons_succ]
  refine wpAnyH_take (i := 5) (v := .int .i64 pg) rfl (by kernel_rfl) (by kernel_rfl) (by kernel_rfl) (fun _ _ _ h => h) (Or.inl ⟨by rfl, ?_⟩) ((Below.refl _ _).drew) ?_
  · intro w6 s1
    have d0 := cell_below c3 s1
    go_simp
  simp only [Act.put, List.setIfInBounds_toArray, List.set_cons_zero, List.set_cons_succ, List.getElem_toArray, List.getElem_cons_zero, List.getElem_cons_succ]
  refine wpAnyH_ready (rs := [0]) (by kernel_rfl) (by simp) ?_
  refine AllReadyH.cons rfl (fun K5 hK5 => ?_) AllReadyH.nil
  go_simp
  go_at_call 41
  refine (HN.out _).mono ?_
  rintro e1 w1 ⟨rfl, hw1⟩
  have S1 : w1.heap.size = W.heap.size + 1 := by rw [← hw1]; simp
  have B1 : Below W.heap.size W w1 := hw1 ▸ (Below.refl _ W).drew.alloc (Nat.le_refl _) _
  refine hK5.out _ _ B1 (fun _ => ?_)
  clear hK5 K5
  refine wpAnyH_ready (rs := [3]) (by kernel_rfl) (by simp) ?_
  refine AllReadyH.cons rfl (fun K5 hK5 => ?_) AllReadyH.nil
  go_simp
  go_at_call 92
  refine (HN1.out _).mono ?_
  rintro e2 w2 ⟨rfl, hw2⟩
  have S2 : w2.heap.size = W.heap.size + 2 := by rw [← hw2]; simp; omega
  have B2 : Below W.heap.size W w2 := hw2 ▸ B1.alloc B1.size _
  have X2 : Below w1.heap.size w1 w2 := hw2 ▸ (Below.refl _ w1).alloc (Nat.le_refl _) _
  refine hK5.out _ _ B2 (fun _ => ?_)
  clear hK5 K5
  refine wpAnyH_ready (rs := [6]) (by kernel_rfl) (by simp) ?_
  refine AllReadyH.cons rfl (fun K5 hK5 => ?_) AllReadyH.nil
  go_simp
  go_at_call 92
  refine (HN2.out _).mono ?_
  rintro e3 w3 ⟨rfl, hw3⟩
  have S3 : w3.heap.size = W.heap.size + 3 := by rw [← hw3]; simp; omega
  have B3 : Below W.heap.size W w3 := hw3 ▸ B2.alloc B2.size _
  have X3 : Below w2.heap.size w2 w3 := hw3 ▸ (Below.refl _ w2).alloc (Nat.le_refl _) _
  refine hK5.out _ _ B3 (fun _ => ?_)
  clear hK5 K5
  refine wpAnyH_ready (rs := [7]) (by kernel_rfl) (by simp) ?_
  refine AllReadyH.cons rfl (fun K5 hK5 => ?_) AllReadyH.nil
  go_simp
  obtain ⟨w4, hw4⟩ : ∃ w4, w3.alloc (.cells #[.slice (some ⟨W.heap.size, 0, none⟩) 1 1, .slice (some ⟨W.heap.size + 1, 0, none⟩) 2 2, .slice (some ⟨W.heap.size + 2, 0, none⟩) 2 2] 31) = w4 := ⟨_, rfl⟩
  have B4 : Below W.heap.size W w4 := hw4 ▸ B3.alloc B3.size _
  have X4 : Below w3.heap.size w3 w4 := hw4 ▸ (Below.refl _ w3).alloc (Nat.le_refl _) _
  have HC : Has w4 (W.heap.size + 3) 31 #[.slice (some ⟨W.heap.size, 0, none⟩) 1 1, .slice (some ⟨W.heap.size + 1, 0, none⟩) 2 2, .slice (some ⟨W.heap.size + 2, 0, none⟩) 2 2] := by rw [← S3]; exact hw4 ▸ Has.made w3 _ _
  have A1 : Arg w4 (some ⟨W.heap.size, 0, none⟩) 1 1 (numB 1 1) := arg_num W.drew w4 1 1 (by decide) (by decide) (by rw [hw1]; show Below (W.heap.size + 1) w1 w4; rw [← S1]; exact below_step X2 (below_step (w := w2) X3 X4) |> fun h => h)
  have A2 : Arg w4 (some ⟨W.heap.size + 1, 0, none⟩) 2 2 (numB (u64N sz) 2) := S1 ▸ arg_num w1 w4 _ 2 (by decide) (by decide) (by rw [hw2, S1, ← S2]; exact below_step X3 X4)
  have A3 : Arg w4 (some ⟨W.heap.size + 2, 0, none⟩) 2 2 (numB (u64N pg) 2) := S2 ▸ arg_num w2 w4 _ 2 (by decide) (by decide) (by rw [hw3, S2, ← S3]; exact X4)
  have HQ := Lib.hid (cells_of (q := [⟨some ⟨W.heap.size, 0, none⟩, 1, 1, numB 1 1⟩, ⟨some ⟨W.heap.size + 1, 0, none⟩, 2, 2, numB (u64N sz) 2⟩, ⟨some ⟨W.heap.size + 2, 0, none⟩, 2, 2, numB (u64N pg) 2⟩]) (by simp) HC (by intro x hx; simp only [List.mem_cons, List.mem_nil_iff, or_false] at hx; rcases hx with rfl | rfl | rfl; exact A1; exact A2; exact A3))
  rw [hw4]
  refine hK5.out _ _ B4 (fun _ => ?_)
  clear hK5 K5
  refine wpAnyH_ready (rs := [8]) (by kernel_rfl) (by simp) ?_
  refine AllReadyH.cons rfl (fun K5 hK5 => ?_) AllReadyH.nil
  go_simp
  go_at_call 25
  (try rw [hw4])
  refine (concatB_any _ 3 3 _ w4 HQ.out (by simp [flatH, numB_len]) (by decide)).mono ?_
  rintro e5 w5 hF
  obtain ⟨A5, k5, rfl, f1, f2, f3, f4⟩ := hF
  have B5 : Below W.heap.size W w5 := B4.trans (f4.mono B4.size)
  have F1 := Lib.hid f1
  have F2 := Lib.hid f2
  have F3 := Lib.hid f3
  have BB5 := Lib.hid B5
  have hle4 := B4.size
  clear f1 f2 f3 f4
  refine hK5.out _ _ B5 (fun _ => ?_)
  clear hK5 K5
  refine wpAnyH_ready (rs := [9]) (by kernel_rfl) (by simp) ?_
  refine AllReadyH.cons rfl (fun K5 hK5 => ?_) AllReadyH.nil
  go_simp
  refine hK5.out _ _ B5 (fun _ => ?_)
  clear hK5 K5
  refine wpAnyH_done (by kernel_rfl) ?_ _
  refine hK _ _ ?_
  go_wp2
  go_ret
  exact ⟨A5, k5, rfl, F1.out, F2.out, F3.out.low (by have := HSZ.out; omega), below_step HB.out BB5.out⟩
theorem nlPut_any (e : En) (w : World) (hd : e.d.length ≤ 100000) : Calls Tryd.prog 85 #[.agg #[], valV e] w (Fresh w.heap.size (putE true e) w) := by
  obtain ⟨k, d, far, sz, pg⟩ := e
  cases far
  · exact nlPut_in k d sz pg w hd
  · exact nlPut_far k d sz pg w

end Go.Proofs.YtnponjdnjkegmaaDoor
end

section
namespace Go.Proofs.YtnponjdnjkegmaaDoor
open Go.RowKit
set_option linter.unusedVariables false

def inlineB (e : En) : Bool := decide (e.far = false ∧ e.sz = 0 ∧ e.pg = 0) && decide (e.d.length ≤ 16)
def farB (e : En) : Bool := decide (e.far = true ∧ e.d = [] ∧ 16 < e.sz ∧ e.sz ≤ 400) && pageB e.pg
def kidB (e : En) : Bool := decide (e.far = false ∧ e.d = [] ∧ e.sz = 0) && pageB e.pg
set_option maxHeartbeats 4000000 in
theorem nInline_any (e : En) (w : World) (hd : e.d.length ≤ maxLen) : Calls Tryd.prog 90 #[valV e] w fun r w' => r = .returned (.bool (inlineB e)) ∧ Below w.heap.size w w' := by
  obtain ⟨k, d, far, sz, pg⟩ := e
  unfold inlineB valV cstV
  simp only at hd ⊢
  unfold maxLen at hd
  have hz : (⟨d.toArray⟩ : ByteArray).size = d.length := size_list d
  obtain ⟨t, ht⟩ : ∃ t : ByteArray, (⟨d.toArray⟩ : ByteArray) = t := ⟨_, rfl⟩
  rw [ht] at hz ⊢
  clear ht
  simp only [← hz] at hd ⊢
  clear hz
  go_enter Tryd.func90, Tryd.ntmps90
  go_wp2
  all_goals
    go_ret
    refine ⟨?_, (Below.refl _ _).alloc (Nat.le_refl _) _⟩
    congr 2
    first | rfl | (simp_all; done) | (simp_all; omega)
set_option maxHeartbeats 4000000 in
theorem nFar_any (e : En) (w : World) (hd : e.d.length ≤ maxLen) : Calls Tryd.prog 91 #[valV e] w fun r w' => r = .returned (.bool (farB e)) ∧ Below w.heap.size w w' := by
  obtain ⟨k, d, far, sz, pg⟩ := e
  unfold farB valV cstV
  simp only at hd ⊢
  unfold maxLen at hd
  have hz : (⟨d.toArray⟩ : ByteArray).size = d.length := size_list d
  have hn : ((⟨d.toArray⟩ : ByteArray).toList = []) = (d = []) := by rw [ByteArray.toList_eq]
  obtain ⟨t, ht⟩ : ∃ t : ByteArray, (⟨d.toArray⟩ : ByteArray) = t := ⟨_, rfl⟩
  rw [ht] at hz hn ⊢
  clear ht
  simp only [← hn, ← hz] at hd ⊢
  clear hz hn
  go_enter Tryd.func91, Tryd.ntmps91
  go_wp2_with (go_at_call 96; refine (nPage_any _ _).mono ?_; rintro r1 w1 ⟨rfl, rfl⟩)
  all_goals
    go_ret
    refine ⟨?_, (Below.refl _ _).alloc (Nat.le_refl _) _⟩
    congr 2
    first | rfl | (simp_all; done) | (simp_all; omega)
set_option maxHeartbeats 4000000 in
theorem nKid_any (e : En) (w : World) (hd : e.d.length ≤ maxLen) : Calls Tryd.prog 102 #[valV e] w fun r w' => r = .returned (.bool (kidB e)) ∧ Below w.heap.size w w' := by
  obtain ⟨k, d, far, sz, pg⟩ := e
  unfold kidB valV cstV
  simp only at hd ⊢
  unfold maxLen at hd
  have hz : (⟨d.toArray⟩ : ByteArray).size = d.length := size_list d
  have hn : ((⟨d.toArray⟩ : ByteArray).toList = []) = (d = []) := by rw [ByteArray.toList_eq]
  obtain ⟨t, ht⟩ : ∃ t : ByteArray, (⟨d.toArray⟩ : ByteArray) = t := ⟨_, rfl⟩
  rw [ht] at hz hn ⊢
  clear ht
  simp only [← hn, ← hz] at hd ⊢
  clear hz hn
  go_enter Tryd.func102, Tryd.ntmps102
  go_wp2_with (go_at_call 96; refine (nPage_any _ _).mono ?_; rintro r1 w1 ⟨rfl, rfl⟩)
  all_goals
    go_ret
    refine ⟨?_, (Below.refl _ _).alloc (Nat.le_refl _) _⟩
    congr 2
    first | rfl | (simp_all; done) | (simp_all; omega)
end Go.Proofs.YtnponjdnjkegmaaDoor
end

section
namespace Go.Proofs.YtnponjdnjkegmaaDoor
open Go.RowKit
set_option linter.unusedVariables false

def Such (f : Nat) (p : En → Bool) : Prop := ∀ (e : En) (w : World), e.d.length ≤ maxLen → Calls Tryd.prog f #[valV e] w fun r w' => r = .returned (.bool (p e)) ∧ Below w.heap.size w w'
theorem such_kid : Such 102 kidB := fun e w h => nKid_any e w h
def leafB (e : En) : Bool := inlineB e || farB e
theorem such_leaf : Such 89 leafB := fun e w h => by
  have H1 := Lib.hid (fun w => nInline_any e w h)
  have H2 := Lib.hid (fun w => nFar_any e w h)
  unfold leafB
  clear h
  generalize inlineB e = a at *
  generalize farB e = b at *
  obtain ⟨k, d, far, sz, pg⟩ := e
  simp only [valV, cstV] at H1 H2 ⊢
  generalize (⟨d.toArray⟩ : ByteArray) = sd at *
  obtain ⟨W, hW⟩ : ∃ W, w.alloc (.cells #[.string sd, .bool far, .int .i64 sz, .int .i64 pg] 52) = W := ⟨_, rfl⟩
  have hb : Below w.heap.size w W := hW ▸ (Below.refl _ w).alloc (Nat.le_refl _) _
  have h1 : Has W w.heap.size 52 #[.string sd, .bool far, .int .i64 sz, .int .i64 pg] := hW ▸ Has.made w 52 _
  have c0 := h1.cell 0
  have c1 := h1.cell 1
  have c2 := h1.cell 2
  have c3 := h1.cell 3
  have HB := Lib.hid hb
  have HH := Lib.hid h1
  clear hb h1
  cases a
  · go_enter Tryd.func89, Tryd.ntmps89
    go_wp2_with (first
      | (go_at_call 90; (with_reducible refine (H1.out _).mono ?_); rintro r1 w1 ⟨rfl, b1⟩; have X1 := HH.out.below b1 HH.out.lt; have d0 := X1.cell 0; have d1 := X1.cell 1; have d2 := X1.cell 2; have d3 := X1.cell 3; have B1 := Lib.hid (below_step HB.out b1); clear b1 X1)
      | (go_at_call 91; (with_reducible refine (H2.out _).mono ?_); rintro r2 w2 ⟨rfl, b2⟩; have B2 := Lib.hid (below_step B1.out b2); clear b2))
    go_ret
    exact ⟨rfl, B2.out⟩
  · go_enter Tryd.func89, Tryd.ntmps89
    go_wp2_with (first
      | (go_at_call 90; (with_reducible refine (H1.out _).mono ?_); rintro r1 w1 ⟨rfl, b1⟩; have B1 := Lib.hid (below_step HB.out b1); clear b1))
    go_ret
    exact ⟨rfl, B1.out⟩

theorem nAll1_kid (e : En) (hd : e.d.length ≤ maxLen) (B : Nat) (w : World) (hB : Has w B 138 #[.func (.func 102) #[] #[]]) :
    Calls Tryd.prog 95 #[enV e, .pointer (some ⟨B, 0, none⟩)] w fun r w' => r = .returned (.bool (!kidB e)) ∧ Below w.heap.size w w' := by
  have H1 := Lib.hid (fun w => such_kid e w hd)
  generalize kidB e = a at *
  clear hd
  obtain ⟨k, d, far, sz, pg⟩ := e
  simp only [enV, valV, cstV] at H1 ⊢
  generalize (⟨d.toArray⟩ : ByteArray) = sd at *
  generalize (⟨k.toArray⟩ : ByteArray) = sk at *
  obtain ⟨W, hW⟩ : ∃ W, w.alloc (.cells #[.string sk, .string sd, .bool far, .int .i64 sz, .int .i64 pg] 54) = W := ⟨_, rfl⟩
  have hb : Below w.heap.size w W := hW ▸ (Below.refl _ w).alloc (Nat.le_refl _) _
  have h1 : Has W w.heap.size 54 #[.string sk, .string sd, .bool far, .int .i64 sz, .int .i64 pg] := hW ▸ Has.made w 54 _
  have h2 : Has W B 138 #[.func (.func 102) #[] #[]] := hB.below hb hB.lt
  have c1 := h1.cell 1
  have c2 := h1.cell 2
  have c3 := h1.cell 3
  have c4 := h1.cell 4
  have d1 := h2.cell 0
  have HB := Lib.hid hb
  clear hb h1 h2 hB
  go_enter Tryd.func95, Tryd.ntmps95
  go_wp2_with (go_at_call 102; (try rw [hW]); (with_reducible refine (H1.out _).mono ?_); rintro r1 w1 ⟨rfl, b1⟩; have B1 := Lib.hid (below_step HB.out b1); clear b1)
  go_ret
  exact ⟨rfl, B1.out⟩
def IdxNo (b : Bool) (w : World) (e : Ending) (w' : World) : Prop := ∃ x : Int, e = .returned (.int .i64 x) ∧ decide (0 ≤ x) = !b ∧ Below w.heap.size w w'
theorem idxE_kid (A : Option Addr) (n c : Nat) (l : List En) (B : Nat) (w : World) (h : NodA w A n c l) (hn : n ≤ 1000000) (hB : Has w B 138 #[.func (.func 102) #[] #[]]) :
    Calls Tryd.prog 97 #[.slice A n c, .func (.func 95) #[] #[.pointer (some ⟨B, 0, none⟩)]] w (IdxNo (l.all kidB) w) := by
  have HA := Lib.hid h
  have HN := Lib.hid h.len
  have HBx := Lib.hid hB
  clear h hB
  go_enter Tryd.func97, Tryd.ntmps97
  go_wp2
  go_loopw [8] (fun i wr => ∃ k : Nat, k ≤ n ∧ i = .int .i64 k ∧ (∀ j (h : j < l.length), j < k → kidB l[j] = true) ∧ Below w.heap.size w wr) (fun i _ => n - (intOf i).toNat)
  case atStart => exact ⟨0, Nat.zero_le _, rfl, fun j _ h => absurd h (by omega), Below.refl _ _⟩
  case round =>
    obtain ⟨k, hk, rfl, hj, hB⟩ := hrel
    have HJ := Lib.hid hj
    have BW := Lib.hid hB
    clear hj hB
    by_cases hlt : k < n
    · have hkl : k < l.length := by have := HN.out; omega
      have hA := HA.out.below BW.out
      obtain ⟨b, off, rfl, c0, c1, c2, c3, c4⟩ := hA.reads.eat hkl
      have HQ := Lib.hid (nAll1_kid l[k] (hA.strs _ (List.getElem_mem hkl)).2 B wr (HBx.out.below BW.out HBx.out.lt))
      have HF : Hid (kidB l[k] = false → decide (0 ≤ (k : Int)) = !l.all kidB) := Lib.hid (fun h0 => by
        have : l.all kidB = false := by
          cases e : l.all kidB
          · rfl
          · rw [List.all_eq_true] at e
            rw [e _ (List.getElem_mem hkl)] at h0
            cases h0
        rw [this]
        simp)
      have HX : Hid (kidB l[k] = true → ∀ j (h : j < l.length), j < k + 1 → kidB l[j] = true) := Lib.hid (fun h0 j h hj => by
        by_cases e : j = k
        · subst e; exact h0
        · exact HJ.out j h (by omega))
      have i0 : (0 : Int) ≤ (k : Int) := by omega
      have i1 : (k : Int) < (n : Int) := by omega
      clear hA
      generalize l[k] = y at *
      obtain ⟨b0, hb0⟩ : ∃ b0, kidB y = b0 := ⟨_, rfl⟩
      rw [hb0] at HQ HF HX
      clear hb0 hkl
      obtain ⟨yk, yd, far, sz, pg⟩ := y
      simp only [enV, cstV] at HQ c0 c1 c2 c3 c4
      generalize (⟨yd.toArray⟩ : ByteArray) = sd at *
      generalize (⟨yk.toArray⟩ : ByteArray) = sk at *
      cases b0
      · have HF2 := Lib.hid (HF.out rfl)
        clear HX HF
        go_wp2_with (go_at_call 95; (with_reducible refine HQ.out.mono ?_); rintro e w1 ⟨rfl, h1⟩; have B1 := Lib.hid (below_step BW.out h1); clear h1)
        go_ret
        exact ⟨_, rfl, HF2.out, B1.out⟩
      · have HX2 := Lib.hid (HX.out rfl)
        clear HF HX
        go_wp2_with (go_at_call 95; (with_reducible refine HQ.out.mono ?_); rintro e w1 ⟨rfl, h1⟩; have B1 := Lib.hid (below_step BW.out h1); clear h1)
        go_roundw
        case rel => exact ⟨k + 1, by omega, by go_num, HX2.out, B1.out⟩
        case measure => simp [intOf]; omega
    · obtain rfl : k = n := by omega
      have HD : Hid (decide ((0 : Int) ≤ -1) = !l.all kidB) := Lib.hid (by
        have : l.all kidB = true := by
          rw [List.all_eq_true]
          intro x hx
          obtain ⟨i, hi, rfl⟩ := List.getElem_of_mem hx
          exact HJ.out i hi (by have := HN.out; omega)
        rw [this]
        rfl)
      obtain ⟨w3, hw3⟩ : ∃ w3 : World, w3 = wr := ⟨_, rfl⟩
      subst hw3
      go_wp2
      go_ret
      exact ⟨_, rfl, HD.out, BW.out⟩
theorem contE_kid (A : Option Addr) (n c : Nat) (l : List En) (B : Nat) (w : World) (h : NodA w A n c l) (hn : n ≤ 1000000) (hB : Has w B 138 #[.func (.func 102) #[] #[]]) :
    Calls Tryd.prog 94 #[.slice A n c, .func (.func 95) #[] #[.pointer (some ⟨B, 0, none⟩)]] w fun e w' => e = .returned (.bool (!l.all kidB)) ∧ Below w.heap.size w w' := by
  have HI := Lib.hid (idxE_kid A n c l B w h hn hB)
  generalize l.all kidB = b at HI ⊢
  clear h hB
  go_enter Tryd.func94, Tryd.ntmps94
  go_wp2_with (go_at_call 97; (with_reducible refine HI.out.mono ?_); rintro e w2 ⟨x, rfl, hx, h2⟩; have B2 := Lib.hid h2; clear h2)
  go_ret
  exact ⟨by rw [← hx]; rfl, B2.out⟩
theorem nAll_kid (A : Option Addr) (n c : Nat) (l : List En) (w : World) (h : NodA w A n c l) (hn : n ≤ 1000000) :
    Calls Tryd.prog 88 #[.slice A n c, .func (.func 102) #[] #[]] w fun e w' => e = .returned (.bool (l.all kidB)) ∧ Below w.heap.size w w' := by
  obtain ⟨W, hW⟩ : ∃ W, w.alloc (.cells #[.func (.func 102) #[] #[]] 138) = W := ⟨_, rfl⟩
  have hb : Below w.heap.size w W := hW ▸ (Below.refl _ w).alloc (Nat.le_refl _) _
  have h1 : Has W w.heap.size 138 #[.func (.func 102) #[] #[]] := hW ▸ Has.made w 138 _
  have HC := Lib.hid (contE_kid A n c l w.heap.size W (h.below hb) hn h1)
  have HB := Lib.hid hb
  generalize l.all kidB = b at HC ⊢
  clear h hb h1
  go_enter Tryd.func88, Tryd.ntmps88
  go_wp2_with (go_at_call 94; (try rw [hW]); (with_reducible refine HC.out.mono ?_); rintro e w2 ⟨rfl, h2⟩; have B2 := Lib.hid (below_step HB.out h2); clear h2)
  go_ret
  exact ⟨by simp, B2.out⟩

theorem nAll1_leaf (e : En) (hd : e.d.length ≤ maxLen) (B : Nat) (w : World) (hB : Has w B 138 #[.func (.func 89) #[] #[]]) :
    Calls Tryd.prog 95 #[enV e, .pointer (some ⟨B, 0, none⟩)] w fun r w' => r = .returned (.bool (!leafB e)) ∧ Below w.heap.size w w' := by
  have H1 := Lib.hid (fun w => such_leaf e w hd)
  generalize leafB e = a at *
  clear hd
  obtain ⟨k, d, far, sz, pg⟩ := e
  simp only [enV, valV, cstV] at H1 ⊢
  generalize (⟨d.toArray⟩ : ByteArray) = sd at *
  generalize (⟨k.toArray⟩ : ByteArray) = sk at *
  obtain ⟨W, hW⟩ : ∃ W, w.alloc (.cells #[.string sk, .string sd, .bool far, .int .i64 sz, .int .i64 pg] 54) = W := ⟨_, rfl⟩
  have hb : Below w.heap.size w W := hW ▸ (Below.refl _ w).alloc (Nat.le_refl _) _
  have h1 : Has W w.heap.size 54 #[.string sk, .string sd, .bool far, .int .i64 sz, .int .i64 pg] := hW ▸ Has.made w 54 _
  have h2 : Has W B 138 #[.func (.func 89) #[] #[]] := hB.below hb hB.lt
  have c1 := h1.cell 1
  have c2 := h1.cell 2
  have c3 := h1.cell 3
  have c4 := h1.cell 4
  have d1 := h2.cell 0
  have HB := Lib.hid hb
  clear hb h1 h2 hB
  go_enter Tryd.func95, Tryd.ntmps95
  go_wp2_with (go_at_call 89; (try rw [hW]); (with_reducible refine (H1.out _).mono ?_); rintro r1 w1 ⟨rfl, b1⟩; have B1 := Lib.hid (below_step HB.out b1); clear b1)
  go_ret
  exact ⟨rfl, B1.out⟩
theorem idxE_leaf (A : Option Addr) (n c : Nat) (l : List En) (B : Nat) (w : World) (h : NodA w A n c l) (hn : n ≤ 1000000) (hB : Has w B 138 #[.func (.func 89) #[] #[]]) :
    Calls Tryd.prog 97 #[.slice A n c, .func (.func 95) #[] #[.pointer (some ⟨B, 0, none⟩)]] w (IdxNo (l.all leafB) w) := by
  have HA := Lib.hid h
  have HN := Lib.hid h.len
  have HBx := Lib.hid hB
  clear h hB
  go_enter Tryd.func97, Tryd.ntmps97
  go_wp2
  go_loopw [8] (fun i wr => ∃ k : Nat, k ≤ n ∧ i = .int .i64 k ∧ (∀ j (h : j < l.length), j < k → leafB l[j] = true) ∧ Below w.heap.size w wr) (fun i _ => n - (intOf i).toNat)
  case atStart => exact ⟨0, Nat.zero_le _, rfl, fun j _ h => absurd h (by omega), Below.refl _ _⟩
  case round =>
    obtain ⟨k, hk, rfl, hj, hB⟩ := hrel
    have HJ := Lib.hid hj
    have BW := Lib.hid hB
    clear hj hB
    by_cases hlt : k < n
    · have hkl : k < l.length := by have := HN.out; omega
      have hA := HA.out.below BW.out
      obtain ⟨b, off, rfl, c0, c1, c2, c3, c4⟩ := hA.reads.eat hkl
      have HQ := Lib.hid (nAll1_leaf l[k] (hA.strs _ (List.getElem_mem hkl)).2 B wr (HBx.out.below BW.out HBx.out.lt))
      have HF : Hid (leafB l[k] = false → decide (0 ≤ (k : Int)) = !l.all leafB) := Lib.hid (fun h0 => by
        have : l.all leafB = false := by
          cases e : l.all leafB
          · rfl
          · rw [List.all_eq_true] at e
            rw [e _ (List.getElem_mem hkl)] at h0
            cases h0
        rw [this]
        simp)
      have HX : Hid (leafB l[k] = true → ∀ j (h : j < l.length), j < k + 1 → leafB l[j] = true) := Lib.hid (fun h0 j h hj => by
        by_cases e : j = k
        · subst e; exact h0
        · exact HJ.out j h (by omega))
      have i0 : (0 : Int) ≤ (k : Int) := by omega
      have i1 : (k : Int) < (n : Int) := by omega
      clear hA
      generalize l[k] = y at *
      obtain ⟨b0, hb0⟩ : ∃ b0, leafB y = b0 := ⟨_, rfl⟩
      rw [hb0] at HQ HF HX
      clear hb0 hkl
      obtain ⟨yk, yd, far, sz, pg⟩ := y
      simp only [enV, cstV] at HQ c0 c1 c2 c3 c4
      generalize (⟨yd.toArray⟩ : ByteArray) = sd at *
      generalize (⟨yk.toArray⟩ : ByteArray) = sk at *
      cases b0
      · have HF2 := Lib.hid (HF.out rfl)
        clear HX HF
        go_wp2_with (go_at_call 95; (with_reducible refine HQ.out.mono ?_); rintro e w1 ⟨rfl, h1⟩; have B1 := Lib.hid (below_step BW.out h1); clear h1)
        go_ret
        exact ⟨_, rfl, HF2.out, B1.out⟩
      · have HX2 := Lib.hid (HX.out rfl)
        clear HF HX
        go_wp2_with (go_at_call 95; (with_reducible refine HQ.out.mono ?_); rintro e w1 ⟨rfl, h1⟩; have B1 := Lib.hid (below_step BW.out h1); clear h1)
        go_roundw
        case rel => exact ⟨k + 1, by omega, by go_num, HX2.out, B1.out⟩
        case measure => simp [intOf]; omega
    · obtain rfl : k = n := by omega
      have HD : Hid (decide ((0 : Int) ≤ -1) = !l.all leafB) := Lib.hid (by
        have : l.all leafB = true := by
          rw [List.all_eq_true]
          intro x hx
          obtain ⟨i, hi, rfl⟩ := List.getElem_of_mem hx
          exact HJ.out i hi (by have := HN.out; omega)
        rw [this]
        rfl)
      obtain ⟨w3, hw3⟩ : ∃ w3 : World, w3 = wr := ⟨_, rfl⟩
      subst hw3
      go_wp2
      go_ret
      exact ⟨_, rfl, HD.out, BW.out⟩
theorem contE_leaf (A : Option Addr) (n c : Nat) (l : List En) (B : Nat) (w : World) (h : NodA w A n c l) (hn : n ≤ 1000000) (hB : Has w B 138 #[.func (.func 89) #[] #[]]) :
    Calls Tryd.prog 94 #[.slice A n c, .func (.func 95) #[] #[.pointer (some ⟨B, 0, none⟩)]] w fun e w' => e = .returned (.bool (!l.all leafB)) ∧ Below w.heap.size w w' := by
  have HI := Lib.hid (idxE_leaf A n c l B w h hn hB)
  generalize l.all leafB = b at HI ⊢
  clear h hB
  go_enter Tryd.func94, Tryd.ntmps94
  go_wp2_with (go_at_call 97; (with_reducible refine HI.out.mono ?_); rintro e w2 ⟨x, rfl, hx, h2⟩; have B2 := Lib.hid h2; clear h2)
  go_ret
  exact ⟨by rw [← hx]; rfl, B2.out⟩
theorem nAll_leaf (A : Option Addr) (n c : Nat) (l : List En) (w : World) (h : NodA w A n c l) (hn : n ≤ 1000000) :
    Calls Tryd.prog 88 #[.slice A n c, .func (.func 89) #[] #[]] w fun e w' => e = .returned (.bool (l.all leafB)) ∧ Below w.heap.size w w' := by
  obtain ⟨W, hW⟩ : ∃ W, w.alloc (.cells #[.func (.func 89) #[] #[]] 138) = W := ⟨_, rfl⟩
  have hb : Below w.heap.size w W := hW ▸ (Below.refl _ w).alloc (Nat.le_refl _) _
  have h1 : Has W w.heap.size 138 #[.func (.func 89) #[] #[]] := hW ▸ Has.made w 138 _
  have HC := Lib.hid (contE_leaf A n c l w.heap.size W (h.below hb) hn h1)
  have HB := Lib.hid hb
  generalize l.all leafB = b at HC ⊢
  clear h hb h1
  go_enter Tryd.func88, Tryd.ntmps88
  go_wp2_with (go_at_call 94; (try rw [hW]); (with_reducible refine HC.out.mono ?_); rintro e w2 ⟨rfl, h2⟩; have B2 := Lib.hid (below_step HB.out h2); clear h2)
  go_ret
  exact ⟨by simp, B2.out⟩

end Go.Proofs.YtnponjdnjkegmaaDoor
end

section
namespace Go.Proofs.YtnponjdnjkegmaaDoor
open Go.RowKit
set_option linter.unusedVariables false

def riseB (l : List En) : Bool := decide (∀ i, i < l.length → riseAt l i)
set_option maxHeartbeats 1000000 in
theorem nRising_any (A : Option Addr) (n c : Nat) (l : List En) (w : World) (h : NodA w A n c l) (hn : n ≤ 1000000) :
    Calls Tryd.prog 87 #[.slice A n c] w fun e w' => e = .returned (.bool (riseB l)) ∧ Below w.heap.size w w' := by
  have HA := Lib.hid h
  have HN := Lib.hid h.len
  clear h
  go_enter Tryd.func87, Tryd.ntmps87
  go_wp2
  go_loopw [3, 8] (fun s i wr => ∃ k : Nat, k ≤ n ∧ i = .int .i64 k ∧ s = cstV (aheadK l k) ∧ (∀ j, j < k → riseAt l j) ∧ Below w.heap.size w wr) (fun _ i _ => n - (intOf i).toNat)
  case atStart => exact ⟨0, Nat.zero_le _, rfl, rfl, fun j h => absurd h (by omega), Below.refl _ _⟩
  case round =>
    obtain ⟨k, hk, rfl, rfl, hj, hB⟩ := hrel
    have HJ := Lib.hid hj
    have BW := Lib.hid hB
    clear hj hB
    by_cases hlt : k < n
    · have hkl : k < l.length := by have := HN.out; omega
      have hA := HA.out.below BW.out
      obtain ⟨b, off, rfl, c0, c1, c2, c3, c4⟩ := hA.reads.eat hkl
      have i0 : (0 : Int) ≤ (k : Int) := by omega
      have i1 : (k : Int) < (n : Int) := by omega
      have hcm : (b : Nat) = b := rfl
      have hg : l.getD k en0 = l[k] := by rw [List.getD_eq_getElem?_getD, List.getElem?_eq_getElem hkl]; rfl
      have hnext : aheadK l (k + 1) = l[k].k := by unfold aheadK; rw [if_neg (by omega), Nat.add_sub_cancel, hg]
      have hR : riseAt l k ↔ leK l[k].k (aheadK l k) = false ∧ l[k].k.length ≤ 16 := by unfold riseAt; rw [hg]
      have hst := hA.strs _ (List.getElem_mem hkl)
      have HNX : Hid (riseAt l k → ∀ j, j < k + 1 → riseAt l j) := Lib.hid (fun h j hj => by
        by_cases e : j = k
        · subst e; exact h
        · exact HJ.out j (by omega))
      have HNO : Hid (¬ riseAt l k → riseB l = false) := Lib.hid (fun h => decide_eq_false (fun hh => h (hh k hkl)))
      clear hA hcm hg
      generalize l[k] = y at *
      obtain ⟨yk, yd, far, sz, pg⟩ := y
      simp only at hnext hR hst
      obtain ⟨ak, hak⟩ : ∃ ak, aheadK l k = ak := ⟨_, rfl⟩
      rw [hak] at hR ⊢
      have e1 : (⟨yk.toArray⟩ : ByteArray).toList = yk := by rw [ByteArray.toList_eq]
      have e2 : (⟨ak.toArray⟩ : ByteArray).toList = ak := by rw [ByteArray.toList_eq]
      have e3 : (⟨yk.toArray⟩ : ByteArray).size = yk.length := size_list yk
      have HCK := Lib.hid (show cstV yk = .string ⟨yk.toArray⟩ from rfl)
      simp only [cstV] at c0 c1 c2 c3 c4 ⊢
      generalize (⟨yd.toArray⟩ : ByteArray) = sd at *
      generalize (⟨yk.toArray⟩ : ByteArray) = sk at *
      generalize (⟨ak.toArray⟩ : ByteArray) = sa at *
      unfold leK at hR
      rw [← e3, ← e1, ← e2] at hR
      have hsz : sk.size ≤ 9223372036854775807 := by rw [e3]; have := hst.1; unfold maxLen at this; exact this
      have HNEXT := Lib.hid hnext
      clear e1 e2 e3 hst hnext hak
      obtain ⟨a0, ha0⟩ : ∃ a0, Op.bytesLess sk.toList sa.toList = a0 := ⟨_, rfl⟩
      obtain ⟨b0, hb0⟩ : ∃ b0, (sk.toList == sa.toList) = b0 := ⟨_, rfl⟩
      rw [ha0, hb0] at hR
      have HR := Lib.hid hR
      clear hR
      by_cases hab : (a0 || b0) = true
      · have HD := Lib.hid (HNO.out (fun h => by have := (HR.out.1 h).1; rw [hab] at this; cases this))
        rcases Bool.or_eq_true_iff.1 hab with rfl | rfl
        · clear hb0 HR HNX HNO hab
          go_wp2
          go_ret
          exact ⟨by rw [HD.out]; rfl, BW.out.alloc BW.out.size _⟩
        · cases a0
          all_goals
            clear HR HNX HNO hab
            go_wp2
            go_ret
            exact ⟨by rw [HD.out]; rfl, BW.out.alloc BW.out.size _⟩
      · obtain ⟨rfl, rfl⟩ : a0 = false ∧ b0 = false := by cases a0 <;> cases b0 <;> simp at hab <;> exact ⟨rfl, rfl⟩
        clear hab
        by_cases h16 : sk.size ≤ 16
        · have HX := Lib.hid (HNX.out (HR.out.2 ⟨rfl, h16⟩))
          have e16 : ¬ ((16 : Int) < (sk.size : Int)) := by omega
          clear HR HNX HNO
          go_wp2
          go_roundw
          case rel => exact ⟨k + 1, by omega, by go_num, by rw [HNEXT.out]; exact HCK.out.symm, HX.out, BW.out.alloc BW.out.size _⟩
          case measure => simp [intOf]; omega
        · have HD := Lib.hid (HNO.out (fun h => h16 (HR.out.1 h).2))
          have e16 : (16 : Int) < (sk.size : Int) := by omega
          clear HR HNX HNO
          go_wp2
          go_ret
          exact ⟨by rw [HD.out]; rfl, BW.out.alloc BW.out.size _⟩
    · obtain rfl : k = n := by omega
      have HD : Hid (riseB l = true) := Lib.hid (decide_eq_true (fun i hi => HJ.out i (by rw [HN.out]; exact hi)))
      obtain ⟨w3, hw3⟩ : ∃ w3 : World, w3 = wr := ⟨_, rfl⟩
      subst hw3
      go_wp2
      go_ret
      exact ⟨by rw [HD.out]; rfl, BW.out⟩

end Go.Proofs.YtnponjdnjkegmaaDoor
end
