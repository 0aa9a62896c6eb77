/- Package disk: a region's write: contract, no statement. -/
import Derived.Test.YthbchloghbfnmaaDwm
import Derived.Test.YthbchloghbfnmaaRdk
namespace Go.Proofs.Ythbchloghbfnmaa
open Go.RowKit
set_option linter.unusedVariables false

/-- A load at a step of a region that draws, by what it comes to. -/
theorem step_load {P : Program} {ops : Array Oper} {o : Oper} {a : Act} {w : World} {K : Act → World → Prop} {Q : Exit → Act → World → Prop} {E : Prop} (hgd : o.guard = none) (t : TypeId) (x : Operand) (ho : o.op = .load t x) (p : Value) (hx : a.eval x = p) (u : Value)
    (hrun : (Instr.loadAt t p).run P w = .ok u w) (h : K (a.put o.dst u) w) : if Region.wanted o (yielded ops a.tmps) = true then Oper.wp P o a w K Q else E := by
  have hw : Region.wanted o (yielded ops a.tmps) = true := by simp [Region.wanted, hgd]
  rw [if_pos hw]
  unfold Oper.wp execOp
  simp only [ho, hx, Sem.run_bind, hrun, Result.andThen_ok, Sem.run_pure]
  exact h
theorem step_build {P : Program} {ops : Array Oper} {o : Oper} {a : Act} {w : World} {K : Act → World → Prop} {Q : Exit → Act → World → Prop} {E : Prop} (hgd : o.guard = none) (t : TypeId) (parts : Array (Nat × Operand)) (ho : o.op = .build t parts) (vs : Array (Nat × Value)) (hx : (parts.map fun (i, x) => (i, a.eval x)) = vs) (u : Value)
    (hrun : (Instr.build t vs).run P w = .ok u w) (h : K (a.put o.dst u) w) : if Region.wanted o (yielded ops a.tmps) = true then Oper.wp P o a w K Q else E := by
  have hw : Region.wanted o (yielded ops a.tmps) = true := by simp [Region.wanted, hgd]
  rw [if_pos hw]
  subst hx
  unfold Oper.wp execOp
  simp only [ho, Sem.run_bind, hrun, Result.andThen_ok, Sem.run_pure]
  exact h
theorem step_slice {P : Program} {ops : Array Oper} {o : Oper} {a : Act} {w w' : World} {K : Act → World → Prop} {Q : Exit → Act → World → Prop} {E : Prop} (hgd : o.guard = none) (t : TypeId) (n : Nat) (parts : Array (Nat × Operand)) (ho : o.op = .buildSlice t n parts) (vs : Array (Nat × Value)) (hx : (parts.map fun (i, x) => (i, a.eval x)) = vs) (u : Value)
    (hrun : (Instr.buildSlice t n vs).run P w = .ok u w') (h : K (a.put o.dst u) w') : if Region.wanted o (yielded ops a.tmps) = true then Oper.wp P o a w K Q else E := by
  have hw : Region.wanted o (yielded ops a.tmps) = true := by simp [Region.wanted, hgd]
  rw [if_pos hw]
  subst hx
  unfold Oper.wp execOp
  simp only [ho, Sem.run_bind, hrun, Result.andThen_ok, Sem.run_pure]
  exact h
theorem own_slw {w : World} {b : Nat} {e : TypeId} {s n : Nat} {v : Value} {xs : List Value} (h : w.ownsRow b e s v n xs) : ∃ A c, v = .slice A n c := by
  rcases h.2 with ⟨rfl, rfl⟩ | ⟨g, cap, cur, rfl, _⟩
  · exact ⟨none, 0, rfl⟩
  · exact ⟨_, _, rfl⟩
def mark (T : Tg) (g : Nat) (t : Nat × Nat) : Tg := fun x => if x = g then some t else T x
section
variable {T : Tg} {d A i m1 m2 : Nat} {v : Value} {r : Rg}
theorem mark_of {w w2 : World} {g : Nat} (h : Ar w T d A i m1 m2 v r) (hs : w.heap.size ≤ w2.heap.size) (hg : v.ownBlock = some g ∨ g = w2.heap.size) (hlo : ∀ x t, T x = some t → x < w.heap.size) {x k : Nat} (hx : T x = some (d, k)) (hk : k ≠ 3 * i + 4) : x ≠ g := by
  rintro rfl
  rcases hg with hg | hg
  · have := h.t3 x hg
    rw [hx] at this
    injection this with this
    injection this with _ this
    exact hk this
  · have := hlo x _ hx
    omega
/-- Behind the three steps of a write. -/
theorem Ar.wrote {w w1 w2 w3 : World} {p : Int} {l : List UInt8} {g cap : Nat} {cs : Array Value} (h : Ar w T d A i m1 m2 v r) (hA : Has w A 72 cs) (hlo : ∀ x t, T x = some t → x < w.heap.size)
    (hM : MapAt w1 m2 (putM (fun k => (lastFrom 0 r.loose k).map (fun (j : Nat) => Value.int .i64 (j : Int))) p (.int .i64 (r.loose.length : Int)))) (g1 : w.grownBy w1 (some m2)) (hb : Below w1.heap.size w1 w2)
    (hrow : w3.ownsRow 0 91 129 (.slice (some ⟨g, 0, none⟩) (r.loose.length + 1) cap) (r.loose.length + 1) (cellsL r.loose ++ cellsW (p, l))) (g3 : w2.grownBy w3 v.ownBlock) (hg : v.ownBlock = some g ∨ g = w2.heap.size) (hlt : g < w3.heap.size)
    (h0 : 0 ≤ p) (h1 : p < r.size) (hl : l.length = 128) :
    Ar (w3.setCell ⟨A, i * 6 + 2, none⟩ (.slice (some ⟨g, 0, none⟩) (r.loose.length + 1) cap)) (mark T g (d, 3 * i + 4)) d A i m1 m2 (.slice (some ⟨g, 0, none⟩) (r.loose.length + 1) cap) (wrR r p l) ∧
      Nx T d A i w (mark T g (d, 3 * i + 4)) (w3.setCell ⟨A, i * 6 + 2, none⟩ (.slice (some ⟨g, 0, none⟩) (r.loose.length + 1) cap)) ∧ w3.cell? ⟨A, i * 6 + 2, none⟩ = some v ∧ w3.frozen? ⟨A, i * 6 + 2, none⟩ = false := by
  have s1 := g1.size
  have s2 : w.heap.size ≤ w2.heap.size := Nat.le_trans s1 hb.size
  have hm := fun {x k : Nat} (hx : T x = some (d, k)) (hk : k ≠ 3 * i + 4) => mark_of h s2 hg hlo hx hk
  have hown : ∀ {x k : Nat}, T x = some (d, k) → k ≠ 3 * i + 4 → some x ≠ v.ownBlock := fun {x k} hx hk e => by
    have := h.t3 x e.symm
    rw [hx] at this
    injection this with this
    injection this with _ this
    exact hk this
  have hAm2 : A ≠ m2 := fun e => h.p2.apart hA e.symm
  have hmm : m1 ≠ m2 := fun e => by
    have := h.t1
    rw [e, h.t2] at this
    injection this with this
    injection this with _ this
    omega
  have hA3 : Has w3 A 72 cs := ((hA.grown g1 (fun e => hAm2 (by injection e))).below hb (Nat.lt_of_lt_of_le hA.lt s1)).grown g3 (hown h.ta (by omega))
  have hc3 : ∀ j, w3.cell? ⟨A, i * 6 + j, none⟩ = w.cell? ⟨A, i * 6 + j, none⟩ := fun j => by rw [hA3.cell, hA.cell]
  have hA4 := hA3.store (i * 6 + 2) (.slice (some ⟨g, 0, none⟩) (r.loose.length + 1) cap)
  generalize hv' : Value.slice (some ⟨g, 0, none⟩) (r.loose.length + 1) cap = v' at hrow hA4 ⊢
  have hvo : v'.ownBlock = some g := by rw [← hv']; rfl
  have hk : ∀ j, j ≠ 2 → (w3.setCell ⟨A, i * 6 + 2, none⟩ v').cell? ⟨A, i * 6 + j, none⟩ = w.cell? ⟨A, i * 6 + j, none⟩ := fun j hj => by
    rw [hA4.cell, hA.cell, Array.getElem?_setIfInBounds, if_neg (by omega)]
  have h4 : ∀ x, x ≠ A → (w3.setCell ⟨A, i * 6 + 2, none⟩ v').heap[x]? = w3.heap[x]? := fun x hx => setCell_heap_other w3 _ _ x hx
  have m1A : m1 ≠ A := h.p1.apart hA
  have hM1 : w3.heap[m1]? = w.heap[m1]? := (g3.block m1 (Nat.lt_of_lt_of_le h.p1.lt s2) (hown h.t1 (by omega))).trans ((hb.block m1 (Nat.lt_of_lt_of_le h.p1.lt s1)).trans (g1.block m1 h.p1.lt (fun e => hmm (by injection e))))
  have hM2 : w3.heap[m2]? = w1.heap[m2]? := (g3.block m2 (Nat.lt_of_lt_of_le h.p2.lt s2) (hown h.t2 (by omega))).trans (hb.block m2 (Nat.lt_of_lt_of_le h.p2.lt s1))
  have hgA : g ≠ A := (hm h.ta (by omega)).symm
  have hTo : ∀ {x k : Nat}, T x = some (d, k) → k ≠ 3 * i + 4 → mark T g (d, 3 * i + 4) x = some (d, k) := fun {x k} hx hk => by
    unfold mark
    rw [if_neg (hm hx hk)]
    exact hx
  refine ⟨⟨(hk 0 (by omega)).trans h.c0, (hk 1 (by omega)).trans h.c1, ?_, (hk 3 (by omega)).trans h.c3, (hk 4 (by omega)).trans h.c4, (hk 5 (by omega)).trans h.c5, hTo h.ta (by omega), hTo h.t1 (by omega), hTo h.t2 (by omega), ?_, h.p1.keep ((h4 m1 m1A).trans hM1), ?_, ?_, wrR_ok h.ok h0 h1 hl⟩, ?_, (hc3 2).trans h.c2, hA3.free _⟩
  · have := h.c2
    rw [hA.cell] at this
    rw [hA4.cell, Array.getElem?_setIfInBounds, if_pos rfl, if_pos (Array.getElem?_eq_some_iff.1 this).1]
  · intro x hx
    rw [hvo] at hx
    injection hx with hx
    subst hx
    simp [mark]
  · have hM' := hM.keep ((h4 m2 (fun e => hAm2 e.symm)).trans hM2)
    have e : putM (fun k => (lastFrom 0 r.loose k).map (fun (j : Nat) => Value.int .i64 (j : Int))) p (.int .i64 (r.loose.length : Int)) = fun k => (lastFrom 0 (wrR r p l).loose k).map (fun (j : Nat) => Value.int .i64 (j : Int)) := by
      funext k
      simp only [putM, wrR, lastFrom_snoc]
      split <;> simp
    rw [e] at hM'
    exact hM'
  · have h5 := own_keep (w' := w3.setCell ⟨A, i * 6 + 2, none⟩ v') hrow (fun x hx => by
      rw [hvo] at hx
      injection hx with hx
      subst hx
      exact h4 g hgA)
    show World.ownsRow _ 0 91 129 v' (r.loose ++ [(p, l)]).length (cellsL (r.loose ++ [(p, l)]))
    rw [cellsL_snoc, List.length_append]
    exact h5
  · have lo1 : ∀ x t, T x = some t → x < w1.heap.size := fun x t ht => Nat.lt_of_lt_of_le (hlo x t ht) s1
    have lo2 : ∀ x t, T x = some t → x < w2.heap.size := fun x t ht => Nat.lt_of_lt_of_le (hlo x t ht) s2
    have n1 : Nx T d A i w T w1 := Nx.grown (j := 1) g1 (by omega) h.t2 h.ta hlo
    have n2 : Nx T d A i w1 T w2 := Nx.below hb lo1
    have n3 : Nx T d A i w2 (mark T g (d, 3 * i + 4)) w3 := by
      refine ⟨g3.os, g3.tape, g3.output, g3.size, fun x hx hxA hT => g3.block x hx (fun e => ?_), fun cs' hA' => ⟨cs', hA'.grown g3 (hown h.ta (by omega)), rfl, fun _ _ => rfl⟩, fun x hx => ?_, fun x t hx ht => ?_⟩
      · exact hT 2 (by omega) (h.t3 x e.symm)
      · unfold mark
        by_cases e : x = g
        · subst e
          rw [if_pos rfl]
          rcases hg with hg | hg
          · exact (h.t3 x hg).symm
          · omega
        · rw [if_neg e]
      · unfold mark at ht
        by_cases e : x = g
        · subst e
          rw [if_pos rfl] at ht
          injection ht with ht
          exact ⟨ht.symm, hlt⟩
        · rw [if_neg e] at ht
          have := lo2 x t ht
          omega
    have lo3 := n3.lo lo2
    exact ((n1.trans n2).trans n3).trans (Nx.set (by omega) v' lo3)
end

end Go.Proofs.Ythbchloghbfnmaa
