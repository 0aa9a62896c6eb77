import Derived.Test.YthcjledpjlpfaaaDoorJ03
import Derived.Great.BuildSlice
import Derived.Deep.AppendLies
import Derived.OrdersHeld
import Derived.Deep.RegionHeld
import Derived.RangeFuncNested
import Derived.RangeFuncCalls
import Derived.OwnWalkIn
import Derived.OrdersIn
import Derived.Below
import Derived.StillTail
import Derived.Laws.Cover3
/- Of a claim's texts, joined: Dwm Rdr Rdk Dwr Dww Dbi Dsm Dst. No statement but in the last. -/
section
namespace Go.Proofs.YthcjledpjlpfaaaDoor
open Go.RowKit
set_option linter.unusedVariables false

theorem foldl_size : ∀ (vs : List Value) (off k : Nat) (cs : Array Value), ((vs.zipIdx k).foldl (fun cs (x : Value × Nat) => cs.setIfInBounds (off + x.2) x.1) cs).size = cs.size
  | [], _, _, _ => rfl
  | v :: vs, off, k, cs => by
    simp only [List.zipIdx_cons, List.foldl_cons]
    rw [foldl_size vs off (k + 1)]
    simp
theorem foldl_at : ∀ (vs : List Value) (off k : Nat) (cs : Array Value) (j : Nat), off + k + vs.length ≤ cs.size →
    ((vs.zipIdx k).foldl (fun cs (x : Value × Nat) => cs.setIfInBounds (off + x.2) x.1) cs)[j]? = if off + k ≤ j ∧ j < off + k + vs.length then vs[j - (off + k)]? else cs[j]?
  | [], off, k, cs, j, _ => by
    have : ¬ (off + k ≤ j ∧ j < off + k + ([] : List Value).length) := by simp only [List.length_nil]; omega
    rw [if_neg this]; rfl
  | v :: vs, off, k, cs, j, h => by
    simp only [List.zipIdx_cons, List.foldl_cons]
    simp only [List.length_cons] at h ⊢
    rw [foldl_at vs off (k + 1) _ j (by simp; omega)]
    by_cases h1 : j = off + k
    · subst h1
      rw [if_neg (by omega), if_pos (by omega), Array.getElem?_setIfInBounds, if_pos rfl, if_pos (by omega)]
      simp
    · by_cases h2 : off + (k + 1) ≤ j ∧ j < off + (k + 1) + vs.length
      · rw [if_pos h2, if_pos (by omega), show j - (off + k) = (j - (off + (k + 1))) + 1 by omega]
        simp
      · rw [if_neg h2, if_neg (by omega), Array.getElem?_setIfInBounds, if_neg (by omega)]
theorem fill_all (vs : List Value) (cs : Array Value) (h : cs.size = vs.length) : (vs.toArray.zipIdx.foldl (fun cs (x : Value × Nat) => cs.setIfInBounds (0 + x.2) x.1) cs) = vs.toArray := by
  rw [← Array.foldl_toList, Array.toList_zipIdx]
  apply Array.ext_getElem?
  intro j
  rw [foldl_at vs 0 0 cs j (by omega)]
  by_cases hj : j < vs.length
  · rw [if_pos (by omega)]
    simp
  · rw [if_neg (by omega)]
    simp [Array.getElem?_eq_none (show cs.size ≤ j by omega)]
    omega
theorem info_write : (Tryd.prog.info? 109).map (fun i => (i.zero, i.size, i.bytes)) = some (some (.agg (.int .i64 0 :: zeros.map byteV).toArray), 129, 136) := by kernel_rfl
theorem wzero_size : (Value.int .i64 0 :: zeros.map byteV).toArray.size = 129 := by simp [zeros]
theorem built_write (parts : List (Nat × Value)) : Tryd.prog.built 109 parts = Instr.fill (#[(0, 1), (1, 128)][·]?) (.int .i64 0 :: zeros.map byteV).toArray parts := by kernel_rfl
theorem run_build_write (w : World) (p : Int) {l : List UInt8} (hl : l.length = 128) : (Instr.build 109 #[(0, .int .i64 p), (1, pageV l)]).run Tryd.prog w = .ok (.agg (cellsW (p, l)).toArray) w := by
  refine run_build w 109 _ _ ?_
  rw [built_write]
  have h0 := wzero_size
  have hs : (l.map byteV).toArray.size = 128 := by simp [hl]
  generalize (Value.int .i64 0 :: zeros.map byteV).toArray = z at h0
  show Instr.fill _ z [(0, .int .i64 p), (1, pageV l)] = _
  have e1 : (Value.int .i64 p).cells = #[.int .i64 p] := rfl
  have e2 : (pageV l).cells = (l.map byteV).toArray := rfl
  simp only [Instr.fill, e1, e2]
  simp only [List.getElem?_toArray, List.getElem?_cons_zero, List.getElem?_cons_succ]
  rw [if_neg (by rw [h0]; simp)]
  have h1 : (Array.foldl (fun cs (x : Value × Nat) => cs.setIfInBounds (0 + x.2) x.1) z (#[Value.int .i64 p].zipIdx)).size = 129 := by
    rw [← Array.foldl_toList, Array.toList_zipIdx, foldl_size]
    exact h0
  rw [if_neg (by rw [h1, hs]; decide)]
  congr 1
  rw [← Array.foldl_toList, Array.toList_zipIdx, ← Array.foldl_toList, Array.toList_zipIdx]
  apply Array.ext_getElem?
  intro j
  rw [foldl_at _ 1 0 _ j (by rw [foldl_size]; simp; omega), foldl_at _ 0 0 _ j (by simp; omega)]
  unfold cellsW
  simp only [List.length_map, List.length_cons, List.length_nil]
  by_cases hj : j = 0
  · subst hj
    simp
  · rw [show ((Value.int .i64 (p, l).1 :: List.map byteV (p, l).2).toArray)[j]? = (l.map byteV)[j - 1]? by
      rw [List.getElem?_toArray, show j = (j - 1) + 1 by omega]
      simp]
    by_cases h2 : j < 129
    · rw [if_pos (by omega)]
    · rw [if_neg (by omega), if_neg (by omega), Array.getElem?_eq_none (by omega), List.getElem?_eq_none (by simp; omega)]
set_option maxRecDepth 20000 in
theorem run_slice_write (w : World) {cs : List Value} (hc : cs.length = 129) : (Instr.buildSlice 71 1 #[(0, .agg cs.toArray)]).run Tryd.prog w = .ok (.slice (some ⟨w.heap.size, 0, none⟩) 1 1) (w.alloc (.cells cs.toArray 109)) := by
  obtain ⟨i0, hi, hz0, hz1, hz2⟩ := info_parts info_write
  refine run_buildSlice w 71 109 1 _ _ i0 _ Tryd.underlying71 hi hz0 (by rw [hz1]; decide) (by rw [hz1]; decide) ?_
  rw [hz1]
  have e : (Value.agg cs.toArray).cells = cs.toArray := rfl
  simp only [Instr.fill, e]
  rw [if_neg (by simp [hc])]
  congr 1
  have := fill_all cs (((Array.range (1 * 129)).map ((Value.agg (.int .i64 0 :: zeros.map byteV).toArray).cells[· % (Value.agg (.int .i64 0 :: zeros.map byteV).toArray).cells.size]!))) (by simp [hc])
  simpa only [Nat.zero_mul] using this

end Go.Proofs.YthcjledpjlpfaaaDoor
end

section
namespace Go.Proofs.YthcjledpjlpfaaaDoor
open Go.RowKit
set_option linter.unusedVariables false

def Runs (M : Act → World → Prop) : Exit → Act → World → Prop := Exit.then M (fun _ _ _ => False)
theorem Runs.out (M : Act → World → Prop) : ¬ LetsOut (Runs M) := fun ⟨_, _, h⟩ => h
theorem wp_held {P : Program} {id : Nat} {ops : Array Oper} {K : Act → World → Prop} {Q : Exit → Act → World → Prop} {a : Act} {w : World} (S : World → Prop) (M : Act → World → Prop)
    (hm : P.follows .mixedOrders = true)
    (h : wpAnyH P .any ops (Runs M) S ops.size (Array.replicate ops.size false) a w.drew) (h2 : ∀ a w, M a w → K a w) : (Code.region id ops true).wp P (Exit.then K Q) a w :=
  wp_mono (Q := Runs M) (wp_region_held hm h) (fun e a w h => by cases e <;> first | exact h2 _ _ h | exact False.elim h)
theorem cell_below {w w' : World} {p : Addr} {v : Value} (h : w.cell? p = some v) (hb : Below w.heap.size w w') : w'.cell? p = some v := (hb.cell (World.block_lt_of_cell? w p h)).trans h
end Go.Proofs.YthcjledpjlpfaaaDoor
end

section
namespace Go.Proofs.YthcjledpjlpfaaaDoor
open Go.RowKit
set_option linter.unusedVariables false

section
variable {P : Program} {ops : Array Oper} {Q : Exit → Act → World → Prop} {md : Region.Mode} {C : World → Prop} {k : Nat}
def wpAnyK (P : Program) (md : Region.Mode) (ops : Array Oper) (Q : Exit → Act → World → Prop) (C : World → Prop) (k : Nat) : Nat → Array Bool → Act → World → Prop
  | 0, listed, a, w => Region.ready md ops listed = [] ∧ Q .normal a w
  | fuel + 1, listed, a, w =>
    (Region.ready md ops listed = [] → Q .normal a w) ∧
    ∀ i ∈ Region.ready md ops listed, wpOp P ops Q i (fun a' w' => ((listed.setIfInBounds i true).getD k false = true ∨ C w') ∧ wpAnyK P md ops Q C k fuel (listed.setIfInBounds i true) a' w') a w
theorem wpAny_of_K : ∀ (fuel : Nat) (listed : Array Bool) (a : Act) (w : World), wpAnyK P md ops Q C k fuel listed a w → wpAny P md ops Q fuel listed a w
  | 0, _, _, _, h => h
  | fuel + 1, _, _, _, h => ⟨h.1, fun i hi => wpOp_mono (fun a' w' h' => wpAny_of_K fuel _ a' w' h'.2) (h.2 i hi)⟩
theorem ready_waits {i : Nat} {oj : Oper} {listed : Array Bool} (hr : i ∈ Region.ready md ops listed) (hall : ∀ e ∈ oj.after, Region.binds md e = true → listed.getD e.on false = true) : ∀ e ∈ oj.after, Region.binds md e = true → e.on ≠ i := fun e he hb heq => by
  have h1 := hall e he hb
  have h0 := (mem_ready.1 hr).1
  rw [heq] at h1
  rcases Nat.lt_or_ge i listed.size with h' | h'
  · simp [h'] at h0 h1; rw [h0] at h1; cases h1
  · simp [Array.getElem?_eq_none h'] at h1
theorem wpAnyK_first {i : Nat} {oi : Oper} {v : Value} (hi : ops[i]? = some oi) (hsel : ∀ (j : Nat) (o : Oper) cs b, ops[j]? = some o → o.op ≠ .select cs b)
    (hQ : ∀ c a w, Q (.panic c) (a.put oi.dst v) w → Q (.panic c) a w) (hk : Region.waitsFor md ops k i = true) (hki : k ≠ i) :
    ∀ (fuel : Nat) (listed : Array Bool) (a : Act) (w : World),
      (∀ j oj, ops[j]? = some oj → j ≠ i → listed.getD j true = false → (∀ e ∈ oj.after, Region.binds md e = true → e.on ≠ i) → oi.apart ops oj = true) →
      i ∈ Region.ready md ops listed → listed.getD k false = false → YieldsIf P ops C oi v a → C w →
      wpAnyK P md ops Q C k fuel (listed.setIfInBounds i true) (a.put oi.dst v) w → wpAnyK P md ops Q C k (fuel + 1) listed a w := by
  intro fuel
  induction fuel with
  | zero =>
    intro listed a w _ hr hkl hy hS H
    refine ⟨fun h => (by rw [h] at hr; cases hr), fun j hj => ?_⟩
    by_cases hji : j = i
    · subst hji; exact hy.wpOp hi hS ⟨.inr hS, H⟩
    · have := ready_mono hj hji
      rw [H.1] at this
      cases this
  | succ fuel ih =>
    intro listed a w hfree hr hkl hy hS H
    refine ⟨fun h => (by rw [h] at hr; cases hr), fun j hj => ?_⟩
    by_cases hji : j = i
    · subst hji; exact hy.wpOp hi hS ⟨.inr hS, H⟩
    · have h1 := H.2 j (ready_mono hj hji)
      obtain ⟨hjun, oj, hoj, hall⟩ := mem_ready.1 hj
      have hnot := ready_waits (oj := oj) hr hall
      have hjk : k ≠ j := fun e => by
        subst e
        obtain ⟨ok, hok, e, he, hb, hon⟩ := Region.waitsFor_spec hk
        rw [hoj] at hok
        injection hok with hok
        subst hok
        exact hnot e he hb hon
      have h2 := wpOp_putIf hoj (hfree j oj hoj hji hjun hnot) (fun cs b => hsel i oi cs b hi) (fun cs b => hsel j oj cs b hoj) hQ hy h1
      have hfree' : ∀ k ok, ops[k]? = some ok → k ≠ i → (listed.setIfInBounds j true).getD k true = false →
          (∀ e ∈ ok.after, Region.binds md e = true → e.on ≠ i) → oi.apart ops ok = true := fun k ok hk hki hun hno => by
        refine hfree k ok hk hki ?_ hno
        by_cases hjk : j = k
        · subst hjk; exact hjun
        · rw [getD_set_ne true hjk] at hun; exact hun
      have hkl' : (listed.setIfInBounds j true).getD k false = false := by rw [getD_set_ne false (Ne.symm hjk)]; exact hkl
      refine wpOp_mono (fun a' w' h3 => ?_) h2
      have hC' : C w' := by
        rcases h3.2.1 with h | h
        · rw [getD_set_ne false (Ne.symm hjk), getD_set_ne false (Ne.symm hki), hkl] at h
          cases h
        · exact h
      refine ⟨.inr hC', ih (listed.setIfInBounds j true) a' w' hfree' (ready_mono hr (Ne.symm hji)) hkl' h3.1 hC' ?_⟩
      rw [Array.setIfInBounds_comm _ _ hji]
      exact h3.2.2
theorem wpAnyK_firstP {i : Nat} {oi : Oper} {v : Value} (hi : ops[i]? = some oi) (hsel : ∀ (j : Nat) (o : Oper) cs b, ops[j]? = some o → o.op ≠ .select cs b)
    (hQ : ∀ c a w, Q (.panic c) (a.put oi.dst v) w → Q (.panic c) a w) (hki : k ≠ i) :
    ∀ (fuel : Nat) (listed : Array Bool) (a : Act) (w : World),
      (∀ j oj, ops[j]? = some oj → j ≠ i → listed.getD j true = false → (∀ e ∈ oj.after, Region.binds md e = true → e.on ≠ i) → oi.apart ops oj = true) →
      i ∈ Region.ready md ops listed → (listed.getD k false = true ∨ C w) → YieldsIf P ops (fun _ => True) oi v a →
      wpAnyK P md ops Q C k fuel (listed.setIfInBounds i true) (a.put oi.dst v) w → wpAnyK P md ops Q C k (fuel + 1) listed a w := by
  intro fuel
  induction fuel with
  | zero =>
    intro listed a w _ hr hS hy H
    refine ⟨fun h => (by rw [h] at hr; cases hr), fun j hj => ?_⟩
    by_cases hji : j = i
    · subst hji; exact hy.wpOp hi trivial ⟨hS.imp (fun h => by rw [getD_set_ne false (Ne.symm hki)]; exact h) id, H⟩
    · have := ready_mono hj hji
      rw [H.1] at this
      cases this
  | succ fuel ih =>
    intro listed a w hfree hr hS hy H
    refine ⟨fun h => (by rw [h] at hr; cases hr), fun j hj => ?_⟩
    by_cases hji : j = i
    · subst hji; exact hy.wpOp hi trivial ⟨hS.imp (fun h => by rw [getD_set_ne false (Ne.symm hki)]; exact h) id, H⟩
    · have h1 := H.2 j (ready_mono hj hji)
      obtain ⟨hjun, oj, hoj, hall⟩ := mem_ready.1 hj
      have hnot := ready_waits (oj := oj) hr hall
      have h2 := wpOp_putIf hoj (hfree j oj hoj hji hjun hnot) (fun cs b => hsel i oi cs b hi) (fun cs b => hsel j oj cs b hoj) hQ hy h1
      have hfree' : ∀ k ok, ops[k]? = some ok → k ≠ i → (listed.setIfInBounds j true).getD k true = false →
          (∀ e ∈ ok.after, Region.binds md e = true → e.on ≠ i) → oi.apart ops ok = true := fun k ok hk hki hun hno => by
        refine hfree k ok hk hki ?_ hno
        by_cases hjk : j = k
        · subst hjk; exact hjun
        · rw [getD_set_ne true hjk] at hun; exact hun
      refine wpOp_mono (fun a' w' h3 => ?_) h2
      have hC' : (listed.setIfInBounds j true).getD k false = true ∨ C w' := by
        refine h3.2.1.imp (fun h => ?_) id
        rw [Array.setIfInBounds_comm _ _ (Ne.symm hji), getD_set_ne false (Ne.symm hki)] at h
        exact h
      refine ⟨hC', ih (listed.setIfInBounds j true) a' w' hfree' (ready_mono hr (Ne.symm hji)) hC' h3.1 ?_⟩
      rw [Array.setIfInBounds_comm _ _ hji]
      exact h3.2.2
theorem wpAnyK_take {i : Nat} {oi : Oper} {v : Value} {fuel : Nat} {listed : Array Bool} {a : Act} {w : World} (hi : ops[i]? = some oi)
    (hs : Region.noSelect ops = true) (hf : Region.free md ops listed i = true) (hr : (Region.ready md ops listed).contains i = true) (hk : Region.waitsFor md ops k i = true) (hki : k ≠ i) (hkl : listed.getD k false = false)
    (hQ : ∀ c a w, Q (.panic c) (a.put oi.dst v) w → Q (.panic c) a w) (hy : YieldsIf P ops C oi v a) (hS : C w)
    (h : wpAnyK P md ops Q C k fuel (listed.setIfInBounds i true) (a.put oi.dst v) w) : wpAnyK P md ops Q C k (fuel + 1) listed a w :=
  wpAnyK_first hi (Region.noSelect_spec hs) hQ hk hki fuel listed a w (Region.free_spec hi hf) (by simpa using hr) hkl hy hS h
theorem wpAnyK_pure {i : Nat} {oi : Oper} {v : Value} {fuel : Nat} {listed : Array Bool} {a : Act} {w : World} (hi : ops[i]? = some oi)
    (hs : Region.noSelect ops = true) (hf : Region.free md ops listed i = true) (hr : (Region.ready md ops listed).contains i = true) (hki : k ≠ i)
    (hQ : ∀ c a w, Q (.panic c) (a.put oi.dst v) w → Q (.panic c) a w) (hy : YieldsIf P ops (fun _ => True) oi v a) (hS : listed.getD k false = true ∨ C w)
    (h : wpAnyK P md ops Q C k fuel (listed.setIfInBounds i true) (a.put oi.dst v) w) : wpAnyK P md ops Q C k (fuel + 1) listed a w :=
  wpAnyK_firstP hi (Region.noSelect_spec hs) hQ hki fuel listed a w (Region.free_spec hi hf) (by simpa using hr) hS hy h
theorem wpAnyK_one {i : Nat} {o : Oper} {fuel : Nat} {listed : Array Bool} {a : Act} {w : World} (hr : Region.ready md ops listed = [i]) (ho : ops[i]? = some o)
    (h : ∀ K' : Act → World → Prop, Shut (∀ a w, ((listed.setIfInBounds i true).getD k false = true ∨ C w) → wpAnyK P md ops Q C k fuel (listed.setIfInBounds i true) a w → K' a w) → if Region.wanted o (yielded ops a.tmps) = true then Oper.wp P o a w K' Q else K' (a.put o.dst undef) w) :
    wpAnyK P md ops Q C k (fuel + 1) listed a w :=
  ⟨fun h0 => (by rw [hr] at h0; cases h0), fun j hj => by
    rw [hr] at hj
    obtain rfl : j = i := by simpa using hj
    exact wpOp_step ho (fun K' hK => h K' (fun a w hS hW => hK a w ⟨hS, hW⟩))⟩
theorem wpAnyK_done {listed : Array Bool} {a : Act} {w : World} (hr : Region.ready md ops listed = []) (h : Q .normal a w) :
    ∀ fuel, wpAnyK P md ops Q C k fuel listed a w
  | 0 => ⟨hr, h⟩
  | _ + 1 => ⟨fun _ => h, by rw [hr]; simp⟩
theorem wp_heldQ {id : Nat} {a : Act} {w : World} (C : World → Prop) (k : Nat) (hm : P.follows .mixedOrders = true)
    (h : wpAnyK P .any ops (Runs (Q .normal)) C k ops.size (Array.replicate ops.size false) a w.drew) : (Code.region id ops true).wp P Q a w :=
  wp_mono (Q := Runs (Q .normal)) (wp_region_any hm (wpAny_of_K _ _ _ _ h)) (fun e a w h => by cases e <;> first | exact h | exact False.elim h)
end

end Go.Proofs.YthcjledpjlpfaaaDoor
end

section
namespace Go.Proofs.YthcjledpjlpfaaaDoor
open Go.RowKit
set_option linter.unusedVariables false

theorem step_load {P : Program} {ops : Array Oper} {o : Oper} {a : Act} {w : World} {K : Act → World → Prop} {Q : Exit → Act → World → Prop} {E : Prop} (hgd : o.guard = none) (t : TypeId) (x : Operand) (ho : o.op = .load t x) (p : Value) (hx : a.eval x = p) (u : Value)
    (hrun : (Instr.loadAt t p).run P w = .ok u w) (h : K (a.put o.dst u) w) : if Region.wanted o (yielded ops a.tmps) = true then Oper.wp P o a w K Q else E := by
  have hw : Region.wanted o (yielded ops a.tmps) = true := by simp [Region.wanted, hgd]
  rw [if_pos hw]
  unfold Oper.wp execOp
  simp only [ho, hx, Sem.run_bind, hrun, Result.andThen_ok, Sem.run_pure]
  exact h
theorem step_build {P : Program} {ops : Array Oper} {o : Oper} {a : Act} {w : World} {K : Act → World → Prop} {Q : Exit → Act → World → Prop} {E : Prop} (hgd : o.guard = none) (t : TypeId) (parts : Array (Nat × Operand)) (ho : o.op = .build t parts) (vs : Array (Nat × Value)) (hx : (parts.map fun (i, x) => (i, a.eval x)) = vs) (u : Value)
    (hrun : (Instr.build t vs).run P w = .ok u w) (h : K (a.put o.dst u) w) : if Region.wanted o (yielded ops a.tmps) = true then Oper.wp P o a w K Q else E := by
  have hw : Region.wanted o (yielded ops a.tmps) = true := by simp [Region.wanted, hgd]
  rw [if_pos hw]
  subst hx
  unfold Oper.wp execOp
  simp only [ho, Sem.run_bind, hrun, Result.andThen_ok, Sem.run_pure]
  exact h
theorem step_slice {P : Program} {ops : Array Oper} {o : Oper} {a : Act} {w w' : World} {K : Act → World → Prop} {Q : Exit → Act → World → Prop} {E : Prop} (hgd : o.guard = none) (t : TypeId) (n : Nat) (parts : Array (Nat × Operand)) (ho : o.op = .buildSlice t n parts) (vs : Array (Nat × Value)) (hx : (parts.map fun (i, x) => (i, a.eval x)) = vs) (u : Value)
    (hrun : (Instr.buildSlice t n vs).run P w = .ok u w') (h : K (a.put o.dst u) w') : if Region.wanted o (yielded ops a.tmps) = true then Oper.wp P o a w K Q else E := by
  have hw : Region.wanted o (yielded ops a.tmps) = true := by simp [Region.wanted, hgd]
  rw [if_pos hw]
  subst hx
  unfold Oper.wp execOp
  simp only [ho, Sem.run_bind, hrun, Result.andThen_ok, Sem.run_pure]
  exact h
theorem own_slw {w : World} {b : Nat} {e : TypeId} {s n : Nat} {v : Value} {xs : List Value} (h : w.ownsRow b e s v n xs) : ∃ A c, v = .slice A n c := by
  rcases h.2 with ⟨rfl, rfl⟩ | ⟨g, cap, cur, rfl, _⟩
  · exact ⟨none, 0, rfl⟩
  · exact ⟨_, _, rfl⟩
def mark (T : Tg) (g : Nat) (t : Nat × Nat) : Tg := fun x => if x = g then some t else T x
section
variable {T : Tg} {d A i m1 m2 : Nat} {v : Value} {r : Rg}
theorem mark_of {w w2 : World} {g : Nat} (h : Ar w T d A i m1 m2 v r) (hs : w.heap.size ≤ w2.heap.size) (hg : v.ownBlock = some g ∨ g = w2.heap.size) (hlo : ∀ x t, T x = some t → x < w.heap.size) {x k : Nat} (hx : T x = some (d, k)) (hk : k ≠ 3 * i + 4) : x ≠ g := by
  rintro rfl
  rcases hg with hg | hg
  · have := h.t3 x hg
    rw [hx] at this
    injection this with this
    injection this with _ this
    exact hk this
  · have := hlo x _ hx
    omega
theorem Ar.wrote {w w1 w2 w3 : World} {p : Int} {l : List UInt8} {g cap : Nat} {cs : Array Value} (h : Ar w T d A i m1 m2 v r) (hA : Has w A 73 cs) (hlo : ∀ x t, T x = some t → x < w.heap.size)
    (hM : MapAt w1 m2 (putM (fun k => (lastFrom 0 r.loose k).map (fun (j : Nat) => Value.int .i64 (j : Int))) p (.int .i64 (r.loose.length : Int)))) (g1 : w.grownBy w1 (some m2)) (hb : Below w1.heap.size w1 w2)
    (hrow : w3.ownsRow 0 109 129 (.slice (some ⟨g, 0, none⟩) (r.loose.length + 1) cap) (r.loose.length + 1) (cellsL r.loose ++ cellsW (p, l))) (g3 : w2.grownBy w3 v.ownBlock) (hg : v.ownBlock = some g ∨ g = w2.heap.size) (hlt : g < w3.heap.size)
    (h0 : 0 ≤ p) (h1 : p < r.size) (hl : l.length = 128) :
    Ar (w3.setCell ⟨A, i * 6 + 2, none⟩ (.slice (some ⟨g, 0, none⟩) (r.loose.length + 1) cap)) (mark T g (d, 3 * i + 4)) d A i m1 m2 (.slice (some ⟨g, 0, none⟩) (r.loose.length + 1) cap) (wrR r p l) ∧
      Nx T d A i w (mark T g (d, 3 * i + 4)) (w3.setCell ⟨A, i * 6 + 2, none⟩ (.slice (some ⟨g, 0, none⟩) (r.loose.length + 1) cap)) ∧ w3.cell? ⟨A, i * 6 + 2, none⟩ = some v ∧ w3.frozen? ⟨A, i * 6 + 2, none⟩ = false := by
  have s1 := g1.size
  have s2 : w.heap.size ≤ w2.heap.size := Nat.le_trans s1 hb.size
  have hm := fun {x k : Nat} (hx : T x = some (d, k)) (hk : k ≠ 3 * i + 4) => mark_of h s2 hg hlo hx hk
  have hown : ∀ {x k : Nat}, T x = some (d, k) → k ≠ 3 * i + 4 → some x ≠ v.ownBlock := fun {x k} hx hk e => by
    have := h.t3 x e.symm
    rw [hx] at this
    injection this with this
    injection this with _ this
    exact hk this
  have hAm2 : A ≠ m2 := fun e => h.p2.apart hA e.symm
  have hmm : m1 ≠ m2 := fun e => by
    have := h.t1
    rw [e, h.t2] at this
    injection this with this
    injection this with _ this
    omega
  have hA3 : Has w3 A 73 cs := ((hA.grown g1 (fun e => hAm2 (by injection e))).below hb (Nat.lt_of_lt_of_le hA.lt s1)).grown g3 (hown h.ta (by omega))
  have hc3 : ∀ j, w3.cell? ⟨A, i * 6 + j, none⟩ = w.cell? ⟨A, i * 6 + j, none⟩ := fun j => by rw [hA3.cell, hA.cell]
  have hA4 := hA3.store (i * 6 + 2) (.slice (some ⟨g, 0, none⟩) (r.loose.length + 1) cap)
  generalize hv' : Value.slice (some ⟨g, 0, none⟩) (r.loose.length + 1) cap = v' at hrow hA4 ⊢
  have hvo : v'.ownBlock = some g := by rw [← hv']; rfl
  have hk : ∀ j, j ≠ 2 → (w3.setCell ⟨A, i * 6 + 2, none⟩ v').cell? ⟨A, i * 6 + j, none⟩ = w.cell? ⟨A, i * 6 + j, none⟩ := fun j hj => by
    rw [hA4.cell, hA.cell, Array.getElem?_setIfInBounds, if_neg (by omega)]
  have h4 : ∀ x, x ≠ A → (w3.setCell ⟨A, i * 6 + 2, none⟩ v').heap[x]? = w3.heap[x]? := fun x hx => setCell_heap_other w3 _ _ x hx
  have m1A : m1 ≠ A := h.p1.apart hA
  have hM1 : w3.heap[m1]? = w.heap[m1]? := (g3.block m1 (Nat.lt_of_lt_of_le h.p1.lt s2) (hown h.t1 (by omega))).trans ((hb.block m1 (Nat.lt_of_lt_of_le h.p1.lt s1)).trans (g1.block m1 h.p1.lt (fun e => hmm (by injection e))))
  have hM2 : w3.heap[m2]? = w1.heap[m2]? := (g3.block m2 (Nat.lt_of_lt_of_le h.p2.lt s2) (hown h.t2 (by omega))).trans (hb.block m2 (Nat.lt_of_lt_of_le h.p2.lt s1))
  have hgA : g ≠ A := (hm h.ta (by omega)).symm
  have hTo : ∀ {x k : Nat}, T x = some (d, k) → k ≠ 3 * i + 4 → mark T g (d, 3 * i + 4) x = some (d, k) := fun {x k} hx hk => by
    unfold mark
    rw [if_neg (hm hx hk)]
    exact hx
  refine ⟨⟨(hk 0 (by omega)).trans h.c0, (hk 1 (by omega)).trans h.c1, ?_, (hk 3 (by omega)).trans h.c3, (hk 4 (by omega)).trans h.c4, (hk 5 (by omega)).trans h.c5, hTo h.ta (by omega), hTo h.t1 (by omega), hTo h.t2 (by omega), ?_, h.p1.keep ((h4 m1 m1A).trans hM1), ?_, ?_, wrR_ok h.ok h0 h1 hl⟩, ?_, (hc3 2).trans h.c2, hA3.free _⟩
  · have := h.c2
    rw [hA.cell] at this
    rw [hA4.cell, Array.getElem?_setIfInBounds, if_pos rfl, if_pos (Array.getElem?_eq_some_iff.1 this).1]
  · intro x hx
    rw [hvo] at hx
    injection hx with hx
    subst hx
    simp [mark]
  · have hM' := hM.keep ((h4 m2 (fun e => hAm2 e.symm)).trans hM2)
    have e : putM (fun k => (lastFrom 0 r.loose k).map (fun (j : Nat) => Value.int .i64 (j : Int))) p (.int .i64 (r.loose.length : Int)) = fun k => (lastFrom 0 (wrR r p l).loose k).map (fun (j : Nat) => Value.int .i64 (j : Int)) := by
      funext k
      simp only [putM, wrR, lastFrom_snoc]
      split <;> simp
    rw [e] at hM'
    exact hM'
  · have h5 := own_keep (w' := w3.setCell ⟨A, i * 6 + 2, none⟩ v') hrow (fun x hx => by
      rw [hvo] at hx
      injection hx with hx
      subst hx
      exact h4 g hgA)
    show World.ownsRow _ 0 109 129 v' (r.loose ++ [(p, l)]).length (cellsL (r.loose ++ [(p, l)]))
    rw [cellsL_snoc, List.length_append]
    exact h5
  · have lo1 : ∀ x t, T x = some t → x < w1.heap.size := fun x t ht => Nat.lt_of_lt_of_le (hlo x t ht) s1
    have lo2 : ∀ x t, T x = some t → x < w2.heap.size := fun x t ht => Nat.lt_of_lt_of_le (hlo x t ht) s2
    have n1 : Nx T d A i w T w1 := Nx.grown (j := 1) g1 (by omega) h.t2 h.ta hlo
    have n2 : Nx T d A i w1 T w2 := Nx.below hb lo1
    have n3 : Nx T d A i w2 (mark T g (d, 3 * i + 4)) w3 := by
      refine ⟨g3.os, g3.tape, g3.output, g3.size, fun x hx hxA hT => g3.block x hx (fun e => ?_), fun cs' hA' => ⟨cs', hA'.grown g3 (hown h.ta (by omega)), rfl, fun _ _ => rfl⟩, fun x hx => ?_, fun x t hx ht => ?_⟩
      · exact hT 2 (by omega) (h.t3 x e.symm)
      · unfold mark
        by_cases e : x = g
        · subst e
          rw [if_pos rfl]
          rcases hg with hg | hg
          · exact (h.t3 x hg).symm
          · omega
        · rw [if_neg e]
      · unfold mark at ht
        by_cases e : x = g
        · subst e
          rw [if_pos rfl] at ht
          injection ht with ht
          exact ⟨ht.symm, hlt⟩
        · rw [if_neg e] at ht
          have := lo2 x t ht
          omega
    have lo3 := n3.lo lo2
    exact ((n1.trans n2).trans n3).trans (Nx.set (by omega) v' lo3)
end

end Go.Proofs.YthcjledpjlpfaaaDoor
end

section
namespace Go.Proofs.YthcjledpjlpfaaaDoor
open Go.RowKit
set_option linter.unusedVariables false

def WrEnd (T : Tg) (d A i m1 m2 : Nat) (r : Rg) (w : World) (e : Ending) (w' : World) : Prop := e = .returned (.tuple #[]) ∧ ∃ T' v', Ar w' T' d A i m1 m2 v' r ∧ Nx T d A i w T' w'
section
variable {T : Tg} {d A i m1 m2 : Nat} {v : Value} {r : Rg}
theorem Nx.drew {w w' : World} {T' : Tg} (h : Nx T d A i w.drew T' w') : Nx T d A i w T' w' := ⟨h.os, h.tape, h.output, h.size, h.block, h.row, h.old, h.new⟩
theorem Ar.drew {w : World} (h : Ar w T d A i m1 m2 v r) : Ar w.drew T d A i m1 m2 v r := ⟨h.c0, h.c1, h.c2, h.c3, h.c4, h.c5, h.ta, h.t1, h.t2, h.t3, h.p1, h.p2, h.row, h.ok⟩
set_option maxRecDepth 100000 in
set_option maxHeartbeats 4000000 in
theorem write_any (p : Int) (l : List UInt8) (gb ob cb : Nat) (w : World) (h : Ar w T d A i m1 m2 v r) (hA : ∃ cs, Has w A 73 cs) (hlo : ∀ x t, T x = some t → x < w.heap.size) (h0 : 0 ≤ p) (h1 : p < r.size) (hl : l.length = 128) (hr : w.rangeAt gb ob (l.map byteV)) (hc : 128 ≤ cb) (hn : r.loose.length ≤ 1000)
    (ht : ∀ k, T gb ≠ some (d, k)) : Calls Tryd.prog 36 #[.pointer (some ⟨A, i * 6, none⟩), .int .i64 p, .slice (some ⟨gb, ob, none⟩) 128 cb] w (WrEnd T d A i m1 m2 (wrR r p l) w) := by
  obtain ⟨cs, hA'⟩ := hA
  obtain ⟨vA, vk, rfl⟩ := own_slw h.row
  have hd := h.drew
  obtain ⟨w1, hput, hM, hg, hsz1⟩ := run_put (P := Tryd.prog) (w := w.drew) Tryd.underlying70 Tryd.underlying3 hd.p2 p (.int .i64 (r.loose.length : Int))
  have hAm2 : A ≠ m2 := fun e => h.p2.apart hA' e.symm
  have hA1 : Has w1 A 73 cs := Has.grown (w := w.drew) hA' hg (fun e => hAm2 (by injection e))
  have hc1 : ∀ j, w1.cell? ⟨A, i * 6 + j, none⟩ = w.cell? ⟨A, i * 6 + j, none⟩ := fun j => by rw [hA1.cell, hA'.cell]
  have hS0 : (fun w' : World => w'.cell? ⟨A, i * 6 + 2, none⟩ = some (.slice vA r.loose.length vk) ∧ w'.cell? ⟨A, i * 6 + 3, none⟩ = some (.map (some m2))) w.drew := ⟨h.c2, h.c3⟩
  have hS1 : (fun w' : World => w'.cell? ⟨A, i * 6 + 2, none⟩ = some (.slice vA r.loose.length vk) ∧ w'.cell? ⟨A, i * 6 + 3, none⟩ = some (.map (some m2))) w1 := ⟨(hc1 2).trans h.c2, (hc1 3).trans h.c3⟩
  have hgb : gb < w.heap.size := World.block_lt_of_cell? w (a := ⟨gb, ob + 0, none⟩) (hr 0 (byteV (l.getD 0 0)) (by simp [hl, List.getD]))
  have hgm : gb ≠ m2 := fun e => ht _ (by rw [e]; exact h.t2)
  have hr1 : w1.drew.rangeAt gb ob (l.map byteV) := fun j u hj => (cell_heap (p := ⟨gb, ob + j, none⟩) (show w1.drew.heap[gb]? = w.heap[gb]? from hg.block gb hgb (fun e => hgm (by injection e)))).trans (hr j u hj)
  have hld := load_content hl hr1
  have hbd := fun w => run_build_write w p hl
  have hcw : (cellsW (p, l)).length = 129 := cellsW_len hl
  have hsl := run_slice_write w1.drew hcw
  have hC1 : (fun w' : World => w'.cell? ⟨A, i * 6 + 2, none⟩ = some (.slice vA r.loose.length vk)) w1.drew := hS1.1
  have hb12 : Below w1.heap.size w1 (w1.drew.alloc (.cells (cellsW (p, l)).toArray 109)) := (Below.refl _ w1).drew.alloc (Nat.le_refl _) _
  have hC2 : (fun w' : World => w'.cell? ⟨A, i * 6 + 2, none⟩ = some (.slice vA r.loose.length vk)) (w1.drew.alloc (.cells (cellsW (p, l)).toArray 109)) := cellB hS1.1 hb12
  have hrow1 : w1.ownsRow 0 109 129 (.slice vA r.loose.length vk) r.loose.length (cellsL r.loose) := own_keep (w := w.drew) hd.row (fun g hgg => hg.block g (own_lt hd.row hgg) (fun e => by
    injection e with e
    have q1 := h.t3 g hgg
    rw [e, h.t2] at q1
    injection q1 with q1
    injection q1 with _ q1
    omega))
  have HO : Hid ((w1.drew.alloc (.cells (cellsW (p, l)).toArray 109)).ownsRow 0 109 129 (.slice vA r.loose.length vk) r.loose.length (cellsL r.loose)) := Lib.hid (own_keep hrow1 (fun g hgg => hb12.block g (own_lt hrow1 hgg)))
  obtain ⟨i0, hi, hz0, hz1, hz2⟩ := info_parts info_write
  have wz : (Value.agg (.int .i64 0 :: zeros.map byteV).toArray).cells.size = 129 := wzero_size
  have hcl : ∀ j u, (cellsW (p, l))[j]? = some u → (w1.drew.alloc (.cells (cellsW (p, l)).toArray 109)).cell? ((⟨w1.heap.size, 0, none⟩ : Addr).add j) = some u := fun j u hj => by
    rw [add_plain, Nat.zero_add]
    have := (Has.made w1.drew 109 (cellsW (p, l)).toArray).cell j
    exact this.trans (by simpa using hj)
  have hco : ∀ u ∈ cellsW (p, l), u.oneCell' = true := by
    intro u hu
    unfold cellsW at hu
    simp only [List.mem_cons] at hu
    rcases hu with rfl | hu
    · rfl
    · exact one_byteV _ u hu
  have HK := Lib.hid (fun g cap w3 h7 h8 h9 h10 => Ar.wrote (w := w.drew) (w1 := w1) (w2 := w1.drew.alloc (.cells (cellsW (p, l)).toArray 109)) (w3 := w3) (p := p) (l := l) (g := g) (cap := cap) (cs := cs) hd hA' hlo hM hg hb12 h7 h8 h9 h10 h0 h1 hl)
  have hsp := fun w => run_arrayAt (P := Tryd.prog) w 107 _ _ (some ⟨gb, ob, none⟩) 128 cb Tryd.underlying107 (Nat.le_refl _)
  have hmx : Tryd.prog.follows .mixedOrders = true := by kernel_rfl
  have hn' : r.loose.length + 1 ≤ 9223372036854775807 := by omega
  have hpv : ∃ pv, pageV l = pv := ⟨_, rfl⟩
  generalize (Value.agg (.int .i64 0 :: zeros.map byteV).toArray) = zw at hz0 wz
  clear h hd hM hg hsz1 hAm2 hA1 hc1 hgb hgm hr1 hr hb12 hrow1 hA' hlo ht hpv
  go_enter Tryd.func36, Tryd.ntmps36
  go_wp2
  rename_i K hK
  refine wp_held (fun w' : World => w'.cell? ⟨A, i * 6 + 2, none⟩ = some (.slice vA r.loose.length vk) ∧ w'.cell? ⟨A, i * 6 + 3, none⟩ = some (.map (some m2))) K hmx ?_ (fun _ _ h => h)
  refine wpAnyH_take (i := 0) (v := .pointer (some ⟨A, i * 6, none⟩)) rfl (by kernel_rfl) (by kernel_rfl) (by kernel_rfl) (fun _ _ _ h => h) (Or.inl ⟨by rfl, ?_⟩) hS0 ?_
  · rintro w6 ⟨b1, b2⟩
    go_simp
  simp only [Act.put, List.setIfInBounds_toArray, List.set_cons_zero, List.set_cons_succ, List.getElem_toArray, List.getElem_cons_zero]
  refine wpAnyH_take (i := 1) (v := .pointer (some ⟨A, i * 6, none⟩)) rfl (by kernel_rfl) (by kernel_rfl) (by kernel_rfl) (fun _ _ _ h => h) (Or.inl ⟨by rfl, ?_⟩) hS0 ?_
  · rintro w6 ⟨b1, b2⟩
    go_simp
  simp only [Act.put, List.setIfInBounds_toArray, List.set_cons_zero, List.set_cons_succ, List.getElem_toArray, List.getElem_cons_zero, List.getElem_cons_succ]
  refine wpAnyH_take (i := 2) (v := .pointer (some ⟨A, i * 6 + 3, none⟩)) rfl (by kernel_rfl) (by kernel_rfl) (by kernel_rfl) (fun _ _ _ h => h) (Or.inl ⟨by rfl, ?_⟩) hS0 ?_
  · rintro w6 ⟨b1, b2⟩
    go_simp
  simp only [Act.put, List.setIfInBounds_toArray, List.set_cons_zero, List.set_cons_succ, List.getElem_toArray, List.getElem_cons_zero, List.getElem_cons_succ]
  refine wpAnyH_take (i := 3) (v := .map (some m2)) rfl (by kernel_rfl) (by kernel_rfl) (by kernel_rfl) (fun _ _ _ h => h) (Or.inl ⟨by rfl, ?_⟩) hS0 ?_
  · rintro w6 ⟨b1, b2⟩
    go_simp
  simp only [Act.put, List.setIfInBounds_toArray, List.set_cons_zero, List.set_cons_succ, List.getElem_toArray, List.getElem_cons_zero, List.getElem_cons_succ]
  refine wpAnyH_take (i := 4) (v := .int .i64 p) rfl (by kernel_rfl) (by kernel_rfl) (by kernel_rfl) (fun _ _ _ h => h) (Or.inl ⟨by rfl, ?_⟩) hS0 ?_
  · rintro w6 ⟨b1, b2⟩
    go_simp
  simp only [Act.put, List.setIfInBounds_toArray, List.set_cons_zero, List.set_cons_succ, List.getElem_toArray, List.getElem_cons_zero, List.getElem_cons_succ]
  refine wpAnyH_take (i := 5) (v := .pointer (some ⟨A, i * 6, none⟩)) rfl (by kernel_rfl) (by kernel_rfl) (by kernel_rfl) (fun _ _ _ h => h) (Or.inl ⟨by rfl, ?_⟩) hS0 ?_
  · rintro w6 ⟨b1, b2⟩
    go_simp
  simp only [Act.put, List.setIfInBounds_toArray, List.set_cons_zero, List.set_cons_succ, List.getElem_toArray, List.getElem_cons_zero, List.getElem_cons_succ]
  refine wpAnyH_take (i := 6) (v := .pointer (some ⟨A, i * 6, none⟩)) rfl (by kernel_rfl) (by kernel_rfl) (by kernel_rfl) (fun _ _ _ h => h) (Or.inl ⟨by rfl, ?_⟩) hS0 ?_
  · rintro w6 ⟨b1, b2⟩
    go_simp
  simp only [Act.put, List.setIfInBounds_toArray, List.set_cons_zero, List.set_cons_succ, List.getElem_toArray, List.getElem_cons_zero, List.getElem_cons_succ]
  refine wpAnyH_take (i := 7) (v := .pointer (some ⟨A, i * 6 + 2, none⟩)) rfl (by kernel_rfl) (by kernel_rfl) (by kernel_rfl) (fun _ _ _ h => h) (Or.inl ⟨by rfl, ?_⟩) hS0 ?_
  · rintro w6 ⟨b1, b2⟩
    go_simp
  simp only [Act.put, List.setIfInBounds_toArray, List.set_cons_zero, List.set_cons_succ, List.getElem_toArray, List.getElem_cons_zero, List.getElem_cons_succ]
  refine wpAnyH_take (i := 8) (v := .slice vA r.loose.length vk) rfl (by kernel_rfl) (by kernel_rfl) (by kernel_rfl) (fun _ _ _ h => h) (Or.inl ⟨by rfl, ?_⟩) hS0 ?_
  · rintro w6 ⟨b1, b2⟩
    go_simp
  simp only [Act.put, List.setIfInBounds_toArray, List.set_cons_zero, List.set_cons_succ, List.getElem_toArray, List.getElem_cons_zero, List.getElem_cons_succ]
  refine wpAnyH_take (i := 9) (v := .int .i64 (r.loose.length : Int)) rfl (by kernel_rfl) (by kernel_rfl) (by kernel_rfl) (fun _ _ _ h => h) (Or.inl ⟨by rfl, ?_⟩) hS0 ?_
  · rintro w6 ⟨b1, b2⟩
    go_simp
  simp only [Act.put, List.setIfInBounds_toArray, List.set_cons_zero, List.set_cons_succ, List.getElem_toArray, List.getElem_cons_zero, List.getElem_cons_succ]
  refine wpAnyH_ready (rs := [10]) (by kernel_rfl) (by simp) ?_
  refine AllReadyH.cons rfl (fun K5 hK5 => ?_) AllReadyH.nil
  go_simp
  refine hK5.out _ _ hS1 (fun _ => ?_)
  clear hK5 K5
  refine wpAnyH_done (by kernel_rfl) ?_ _
  refine hK _ _ ?_
  go_wp2
  refine wp_heldQ (fun w' : World => w'.cell? ⟨A, i * 6 + 2, none⟩ = some (.slice vA r.loose.length vk)) 11 hmx ?_
  refine wpAnyK_pure (i := 0) (v := .pointer (some ⟨A, i * 6, none⟩)) rfl (by kernel_rfl) (by kernel_rfl) (by kernel_rfl) (by decide) (fun _ _ _ h => h) (Or.inl ⟨by rfl, ?_⟩) (.inr hC1) ?_
  · intro w6 _
    go_simp
  simp only [Act.put, List.setIfInBounds_toArray, List.set_cons_zero, List.set_cons_succ, List.getElem_toArray, List.getElem_cons_zero]
  refine wpAnyK_pure (i := 1) (v := .pointer (some ⟨A, i * 6, none⟩)) rfl (by kernel_rfl) (by kernel_rfl) (by kernel_rfl) (by decide) (fun _ _ _ h => h) (Or.inl ⟨by rfl, ?_⟩) (.inr hC1) ?_
  · intro w6 _
    go_simp
  simp only [Act.put, List.setIfInBounds_toArray, List.set_cons_zero, List.set_cons_succ, List.getElem_toArray, List.getElem_cons_zero, List.getElem_cons_succ]
  refine wpAnyK_pure (i := 2) (v := .pointer (some ⟨A, i * 6, none⟩)) rfl (by kernel_rfl) (by kernel_rfl) (by kernel_rfl) (by decide) (fun _ _ _ h => h) (Or.inl ⟨by rfl, ?_⟩) (.inr hC1) ?_
  · intro w6 _
    go_simp
  simp only [Act.put, List.setIfInBounds_toArray, List.set_cons_zero, List.set_cons_succ, List.getElem_toArray, List.getElem_cons_zero, List.getElem_cons_succ]
  refine wpAnyK_pure (i := 3) (v := .pointer (some ⟨A, i * 6 + 2, none⟩)) rfl (by kernel_rfl) (by kernel_rfl) (by kernel_rfl) (by decide) (fun _ _ _ h => h) (Or.inl ⟨by rfl, ?_⟩) (.inr hC1) ?_
  · intro w6 _
    go_simp
  simp only [Act.put, List.setIfInBounds_toArray, List.set_cons_zero, List.set_cons_succ, List.getElem_toArray, List.getElem_cons_zero, List.getElem_cons_succ]
  refine wpAnyK_take (i := 4) (v := .slice vA r.loose.length vk) rfl (by kernel_rfl) (by kernel_rfl) (by kernel_rfl) (by kernel_rfl) (by decide) (by kernel_rfl) (fun _ _ _ h => h) (Or.inl ⟨by rfl, ?_⟩) hC1 ?_
  · rintro w6 c1
    go_simp
  simp only [Act.put, List.setIfInBounds_toArray, List.set_cons_zero, List.set_cons_succ, List.getElem_toArray, List.getElem_cons_zero, List.getElem_cons_succ]
  refine wpAnyK_pure (i := 5) (v := .int .i64 p) rfl (by kernel_rfl) (by kernel_rfl) (by kernel_rfl) (by decide) (fun _ _ _ h => h) (Or.inl ⟨by rfl, ?_⟩) (.inr hC1) ?_
  · intro w6 _
    go_simp
  simp only [Act.put, List.setIfInBounds_toArray, List.set_cons_zero, List.set_cons_succ, List.getElem_toArray, List.getElem_cons_zero, List.getElem_cons_succ]
  refine wpAnyK_pure (i := 6) (v := .slice (some ⟨gb, ob, none⟩) 128 cb) rfl (by kernel_rfl) (by kernel_rfl) (by kernel_rfl) (by decide) (fun _ _ _ h => h) (Or.inl ⟨by rfl, ?_⟩) (.inr hC1) ?_
  · intro w6 _
    go_simp
  simp only [Act.put, List.setIfInBounds_toArray, List.set_cons_zero, List.set_cons_succ, List.getElem_toArray, List.getElem_cons_zero, List.getElem_cons_succ]
  refine wpAnyK_pure (i := 7) (v := .pointer (some ⟨gb, ob, none⟩)) rfl (by kernel_rfl) (by kernel_rfl) (by kernel_rfl) (by decide) (fun _ _ _ h => h) (Or.inl ⟨by rfl, ?_⟩) (.inr hC1) ?_
  · intro w6 _
    go_simp
  simp only [Act.put, List.setIfInBounds_toArray, List.set_cons_zero, List.set_cons_succ, List.getElem_toArray, List.getElem_cons_zero, List.getElem_cons_succ]
  refine wpAnyK_one (i := 8) (by kernel_rfl) rfl (fun K5 hK5 => ?_)
  refine step_load rfl 107 (.tmp 23) rfl _ rfl _ hld ?_
  refine hK5.out _ _ (.inr hC1) ?_
  clear hK5 K5
  simp only [Act.put, List.setIfInBounds_toArray, List.set_cons_zero, List.set_cons_succ, List.getElem_toArray, List.getElem_cons_zero, List.getElem_cons_succ]
  refine wpAnyK_one (i := 9) (by kernel_rfl) rfl (fun K5 hK5 => ?_)
  refine step_build rfl 109 _ rfl #[(0, .int .i64 p), (1, pageV l)] (by simp only [List.map_toArray, List.map_cons, List.map_nil]; rfl) _ (hbd _) ?_
  refine hK5.out _ _ (.inr hC1) ?_
  clear hK5 K5
  simp only [Act.put, List.setIfInBounds_toArray, List.set_cons_zero, List.set_cons_succ, List.getElem_toArray, List.getElem_cons_zero, List.getElem_cons_succ]
  refine wpAnyK_one (i := 10) (by kernel_rfl) rfl (fun K5 hK5 => ?_)
  refine step_slice rfl 71 1 _ rfl #[(0, .agg (cellsW (p, l)).toArray)] (by simp only [List.map_toArray, List.map_cons, List.map_nil]; rfl) _ hsl ?_
  refine hK5.out _ _ (.inr hC2) ?_
  clear hK5 K5
  simp only [Act.put, List.setIfInBounds_toArray, List.set_cons_zero, List.set_cons_succ, List.getElem_toArray, List.getElem_cons_zero, List.getElem_cons_succ]
  refine wpAnyK_one (i := 11) (by kernel_rfl) rfl (fun K5 hK5 => ?_)
  refine step_append_lies _ rfl (.tmp 20) (.tmp 26) 71 rfl 0 109 i0 _ 129 136 Tryd.underlying71 hi hz0 hz1 hz2 wz (by decide) (.slice vA r.loose.length vk) r.loose.length _ rfl HO.out ⟨w1.heap.size, 0, none⟩ 1 1 (cellsW (p, l)) rfl (by rw [hcw]) (hcl) (hco) (by omega) (by unfold maxLen; omega) (by omega) (Nat.zero_le _) _ rfl ?_
  intro g cap w3 h7 h8 h9 h10
  obtain ⟨HN, HX, cz, fz⟩ := HK.out _ _ _ h7 h8 h9 h10
  refine hK5.out _ _ (.inl (by kernel_rfl)) ?_
  clear hK5 K5
  simp only [Act.put, List.setIfInBounds_toArray, List.set_cons_zero, List.set_cons_succ, List.getElem_toArray, List.getElem_cons_zero, List.getElem_cons_succ]
  refine wpAnyK_pure (i := 12) (v := .pointer (some ⟨A, i * 6, none⟩)) rfl (by kernel_rfl) (by kernel_rfl) (by kernel_rfl) (by decide) (fun _ _ _ h => h) (Or.inl ⟨by rfl, ?_⟩) (.inl (by kernel_rfl)) ?_
  · intro w6 _
    go_simp
  simp only [Act.put, List.setIfInBounds_toArray, List.set_cons_zero, List.set_cons_succ, List.getElem_toArray, List.getElem_cons_zero, List.getElem_cons_succ]
  refine wpAnyK_pure (i := 13) (v := .pointer (some ⟨A, i * 6 + 2, none⟩)) rfl (by kernel_rfl) (by kernel_rfl) (by kernel_rfl) (by decide) (fun _ _ _ h => h) (Or.inl ⟨by rfl, ?_⟩) (.inl (by kernel_rfl)) ?_
  · intro w6 _
    go_simp
  simp only [Act.put, List.setIfInBounds_toArray, List.set_cons_zero, List.set_cons_succ, List.getElem_toArray, List.getElem_cons_zero, List.getElem_cons_succ]
  refine wpAnyK_one (i := 14) (by kernel_rfl) rfl (fun K5 hK5 => ?_)
  go_simp
  refine hK5.out _ _ (.inl (by kernel_rfl)) ?_
  clear hK5 K5
  refine wpAnyK_done (by kernel_rfl) ?_ _
  refine bodyPost_end (results_none rfl _ _ _) rfl ?_
  exact ⟨rfl, _, _, HN, HX.drew⟩
end

end Go.Proofs.YthcjledpjlpfaaaDoor
end

section
namespace Go.Proofs.YthcjledpjlpfaaaDoor
open Go.RowKit
set_option linter.unusedVariables false

end Go.Proofs.YthcjledpjlpfaaaDoor
end

section
namespace Go.Proofs.YthcjledpjlpfaaaDoor
open Go.RowKit
set_option linter.unusedVariables false

theorem wp_heldHQ {P : Program} {id : Nat} {ops : Array Oper} {Q : Exit → Act → World → Prop} {a : Act} {w : World} (S : World → Prop) (hm : P.follows .mixedOrders = true)
    (h : wpAnyH P .any ops (Runs (Q .normal)) S ops.size (Array.replicate ops.size false) a w.drew) : (Code.region id ops true).wp P Q a w :=
  wp_mono (Q := Runs (Q .normal)) (wp_region_held hm h) (fun e a w h => by cases e <;> first | exact h | exact False.elim h)
def synR (K : Nat → Bool) (r : Rg) (k : Nat) : Rg := { r with syn := setK K 0 (r.loose.take k) r.syn }
section
variable {T : Tg} {d A i m1 m2 : Nat} {v : Value} {r : Rg}
theorem Ar.below {w w' : World} (h : Ar w T d A i m1 m2 v r) (hA : ∃ cs, Has w A 73 cs) (hb : Below w.heap.size w w') : Ar w' T d A i m1 m2 v r := by
  obtain ⟨cs, hA⟩ := hA
  exact h.keep (fun j _ => cell_heap (hb.block A hA.lt)) (fun x j _ _ hlt => ⟨hb.block x hlt, rfl⟩) rfl
def allK (_ : Nat) : Bool := true
end

end Go.Proofs.YthcjledpjlpfaaaDoor
end

section
namespace Go.Proofs.YthcjledpjlpfaaaDoor
open Go.RowKit
set_option linter.unusedVariables false

section
variable {T : Tg} {d A i m1 m2 : Nat} {v : Value} {r : Rg}

end

end Go.Proofs.YthcjledpjlpfaaaDoor
end
