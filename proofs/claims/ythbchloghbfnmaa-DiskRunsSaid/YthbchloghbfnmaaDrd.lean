/- Package disk: a region's read: contract, no statement. -/
import Derived.Test.YthbchloghbfnmaaDar
namespace Go.Proofs.Ythbchloghbfnmaa
open Go.RowKit
set_option linter.unusedVariables false

theorem info_content : (Try.prog.info? 88).map (fun i => (i.zero, i.size)) = some (some (pageV zeros), 128) := by kernel_rfl
theorem size_content : (Try.prog.info? 88).map (·.size) = some 128 := (zero_of_info info_content).2
theorem size_write : (Try.prog.info? 91).map (·.size) = some 129 := by kernel_rfl
theorem cellB {w w' : World} {p : Addr} {v : Value} (h : w.cell? p = some v) (hb : Below w.heap.size w w') : w'.cell? p = some v := (hb.cell (World.block_lt_of_cell? w p h)).trans h
theorem sizeB {l : List UInt8} (h : l.length = 128) : (Try.prog.info? 88).map (·.size) = some (l.map byteV).toArray.size := by
  rw [show (l.map byteV).toArray.size = 128 by simp [h]]
  exact size_content
theorem one_bytes (l : List UInt8) : (l.map byteV).toArray.all (·.oneCell') = true := all_oneCell_toArray (one_byteV l)
theorem load_content {w : World} {b o : Nat} {l : List UInt8} (hl : l.length = 128) (h : w.rangeAt b o (l.map byteV)) : (Instr.loadAt 88 (.pointer (some ⟨b, o, none⟩))).run Try.prog w = .ok (pageV l) w := by
  exact run_loadAt_mid w b o 88 (l.map byteV) _ h Try.underlying88 rfl (by rw [List.length_map, hl]; exact size_content)
theorem store_content (w : World) {l l' : List UInt8} (hl : l.length = 128) (hl' : l'.length = 128) :
    (Instr.storeAt 88 (.pointer (some ⟨w.heap.size, 0, none⟩)) (pageV l')).run Try.prog (w.alloc (.cells (l.map byteV).toArray 88)) = .ok () (w.alloc (.cells (l'.map byteV).toArray 88)) :=
  run_storeAt_new w 88 _ _ (sizeB hl') (by simp [hl, hl']) (one_bytes l')
theorem row_range {w : World} {v : Value} {l : List Wr} (h : w.ownsRow 0 91 129 v l.length (cellsL l)) (hl : ∀ x ∈ l, x.2.length = 128) {k : Nat} {x : Wr} (hk : l[k]? = some x) :
    ∃ g cap, v = .slice (some ⟨g, 0, none⟩) l.length cap ∧ w.rangeAt g (k * 129) (cellsW x) := by
  have hkl := (List.getElem?_eq_some_iff.1 hk).1
  rcases h.2 with ⟨_, h0⟩ | ⟨g, cap, cur, rfl, _, hg, h1, _, h3, h4⟩
  · omega
  · refine ⟨g, cap, rfl, fun j u hj => ?_⟩
    have h5 := cellsL_at l k x hl hk j u hj
    rw [← h4, List.getElem?_take] at h5
    split at h5
    · rw [cell_of_row w g _ cur 91 (0, 0) hg]
      rw [← Array.getElem?_toList]
      exact h5
    · cases h5
theorem range_tail {w : World} {b o : Nat} {x : Wr} (h : w.rangeAt b o (cellsW x)) : w.rangeAt b (o + 1) (x.2.map byteV) := fun j u hj => by
  have := h (j + 1) u (by simpa [cellsW] using hj)
  rw [show o + (j + 1) = o + 1 + j by omega] at this
  exact this
theorem rangeAt_below {w w' : World} {b o : Nat} {cs : List Value} (h : w.rangeAt b o cs) (hb : Below w.heap.size w w') : w'.rangeAt b o cs := fun j u hj => by
  have := h j u hj
  exact (hb.cell (p := ⟨b, o + j, none⟩) (World.block_lt_of_cell? w _ this)).trans this
theorem results_content {fn : Func} {p : Tmp} (hfn : fn.results = #[.cell p 88]) (tmps : Array Value) (w : World) {l : List UInt8} (hl : l.length = 128) {g : Nat} (hg : w.heap[g]? = some (.cells (l.map byteV).toArray 88 (0, 0))) (hp : tmps.getD p undef = .pointer (some ⟨g, 0, none⟩)) :
    (results fn tmps).run Try.prog w = .ok (pageV l) w := by
  exact results_cell_row hfn tmps w g 88 _ (0, 0) _ hp hg Try.underlying88 rfl (sizeB hl)
/-- A load, and a store, by what they come to: so that the walk need not look into them. -/
theorem wpL_load {P : Program} {ops : Array Oper} {rest : List Oper} {o : Oper} {a : Act} {w : World} {Q : Exit → Act → World → Prop} (hgd : o.guard = none) (t : TypeId) (x : Operand) (ho : o.op = .load t x) (p : Value) (hx : a.eval x = p) (u : Value)
    (hrun : (Instr.loadAt t p).run P w = .ok u w) (h : wpList P ops Q rest (a.put o.dst u) w) : wpList P ops Q (o :: rest) a w :=
  wpList_plain hgd fun K hK => by
    unfold Oper.wp execOp
    simp only [ho, hx, Sem.run_bind, hrun, Result.andThen_ok, Sem.run_pure]
    exact hK _ _ h
theorem wpL_store {P : Program} {ops : Array Oper} {rest : List Oper} {o : Oper} {a : Act} {w : World} {Q : Exit → Act → World → Prop} (hgd : o.guard = none) (t : TypeId) (x y : Operand) (ho : o.op = .store t x y) (p u : Value) (hx : a.eval x = p) (hy : a.eval y = u) (w' : World)
    (hrun : (Instr.storeAt t p u).run P w = .ok () w') (h : wpList P ops Q rest (a.put o.dst undef) w') : wpList P ops Q (o :: rest) a w :=
  wpList_plain hgd fun K hK => by
    unfold Oper.wp execOp
    simp only [ho, hx, hy, Sem.run_bind, hrun, Result.andThen_ok, Sem.run_pure]
    exact hK _ _ h
section
variable {T : Tg} {d A i m1 m2 : Nat} {v : Value} {r : Rg}
theorem rdP_some {j : Nat} {x : Wr} {p : Int} (h : lastFrom 0 r.loose p = some j) (hx : r.loose[j]? = some x) : rdP r p = x.2 := by
  unfold rdP
  simp only [h]
  simp [List.getD, hx]
theorem rdP_none {p : Int} (h : lastFrom 0 r.loose p = none) : rdP r p = (r.syn p).getD zeros := by
  unfold rdP
  simp only [h]
set_option maxRecDepth 100000 in
set_option maxHeartbeats 2000000 in
theorem read_any (p : Int) (w : World) (h : Ar w T d A i m1 m2 v r) : Calls Try.prog 45 #[.pointer (some ⟨A, i * 6, none⟩), .int .i64 p] w fun e w' => e = .returned (pageV (rdP r p)) ∧ Below w.heap.size w w' := by
  obtain ⟨W, hW⟩ : ∃ W, w.alloc (.cells (zeros.map byteV).toArray 88) = W := ⟨_, rfl⟩
  have hB : Below w.heap.size w W := hW ▸ (Below.refl _ w).alloc (Nat.le_refl _) _
  have hz := (zero_of_info info_content).1
  have hsz : zeros.length = 128 := by simp [zeros]
  have hst := fun l (hl : l.length = 128) => store_content w (l' := l) hsz hl
  rw [hW] at hst
  have hal : ∀ l : List UInt8, Below w.heap.size w (w.alloc (.cells (l.map byteV).toArray 88)) := fun l => (Below.refl _ w).alloc (Nat.le_refl _) _
  have hnew : ∀ l : List UInt8, (w.alloc (.cells (l.map byteV).toArray 88)).heap[w.heap.size]? = some (.cells (l.map byteV).toArray 88 (0, 0)) := fun l => heap_alloc_last w _
  have c1 := cellB h.c1 hB
  have c2 := cellB h.c2 hB
  have c3 := cellB h.c3 hB
  have p1 := h.p1.keep (hB.block m1 h.p1.lt)
  have p2 := h.p2.keep (hB.block m2 h.p2.lt)
  have hlen := rdP_len h.ok p
  obtain ⟨zc, hzc⟩ : ∃ zc, (zeros.map byteV).toArray = zc := ⟨_, rfl⟩
  have hz1 : (zeroValue 88).run Try.prog w = .ok (.agg zc) w := by rw [← hzc]; exact hz w
  rw [hzc] at hW
  clear hzc
  cases hj : lastFrom 0 r.loose p with
  | some j =>
    obtain ⟨_, x, hx, hxp⟩ := lastFrom_some p r.loose 0 j hj
    rw [Nat.sub_zero] at hx
    have e := rdP_some hj hx
    obtain ⟨g, cap, hv, hr⟩ := row_range h.row (fun y hy => (h.ok.loose y hy).2.2) hx
    have hld := load_content (h.ok.loose x (List.mem_of_getElem? hx)).2.2 (rangeAt_below (range_tail hr) hB)
    have hlk := run_look_some Try.underlying69 Try.underlying3 p2 (k := p) (v := .int .i64 (j : Int)) (by simp [hj]) true
    have hjl : j < r.loose.length := (List.getElem?_eq_some_iff.1 hx).1
    have hst2 := hst (rdP r p) hlen
    rw [e] at hst2 hlen ⊢
    subst hv
    simp only [if_true] at hlk
    have i0 : (0 : Int) ≤ (j : Int) := by omega
    have i1 : (j : Int) < (r.loose.length : Int) := by omega
    have HA := Lib.hid (hal x.2)
    have HN := Lib.hid (hnew x.2)
    have HL := Lib.hid hlen
    clear hst hz hsz hal hnew h hr hx hxp e hj p1 p2 hB hlen c1 hjl
    generalize r.loose.length = n at c2 i1
    generalize hpv : pageV x.2 = pv at hld hst2 ⊢
    have HPV := Lib.hid hpv
    clear hpv
    go_enter Try.func45, Try.ntmps45
    go_wp2_with (first
      | (refine wpL_load rfl 88 (.tmp 23) rfl _ rfl _ hld ?_)
      | (refine wpL_store rfl 88 (.tmp 4) (.tmp 24) rfl _ _ rfl rfl _ hst2 ?_))
    refine bodyPost_ret (v := pv) ?_ rfl ⟨rfl, HA.out⟩
    rw [← HPV.out]
    exact results_content rfl _ _ HL.out HN.out rfl
  | none =>
    have e := rdP_none hj
    have hzi : ∀ w, (zeroValue 3).run Try.prog w = .ok (.int .i64 0) w := fun w => by kernel_rfl
    have hlk := run_look_none Try.underlying69 Try.underlying3 hzi p2 (k := p) (by simp [hj]) true
    have hlk1 : (Instr.lookup 68 (.map (some m1)) (.int .i64 p) false).run Try.prog W = .ok (pageV (rdP r p)) W := by
      rw [e]
      cases hs : r.syn p with
      | none => simpa using run_look_none Try.underlying68 Try.underlying3 hz p1 (k := p) (by simp [hs]) false
      | some l => simpa using run_look_some Try.underlying68 Try.underlying3 p1 (k := p) (v := pageV l) (by simp [hs]) false
    have hst2 := hst (rdP r p) hlen
    simp only [if_true] at hlk
    clear e
    generalize rdP r p = l at hlen hlk1 hst2 ⊢
    have HA := Lib.hid (hal l)
    have HN := Lib.hid (hnew l)
    have HL := Lib.hid hlen
    clear hst hz hsz hal hnew h hj p1 p2 hB hlen c2 hzi
    generalize hpv : pageV l = pv at hlk1 hst2 ⊢
    have HPV := Lib.hid hpv
    clear hpv
    go_enter Try.func45, Try.ntmps45
    go_wp2_with (refine wpL_store rfl 88 (.tmp 4) (.tmp 30) rfl _ _ rfl rfl _ hst2 ?_)
    refine bodyPost_ret (v := pv) ?_ rfl ⟨rfl, HA.out⟩
    rw [← HPV.out]
    exact results_content rfl _ _ HL.out HN.out rfl
end

end Go.Proofs.Ythbchloghbfnmaa
