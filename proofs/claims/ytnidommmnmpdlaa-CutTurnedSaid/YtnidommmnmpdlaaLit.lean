/- Of a drawn region: its operations one by one, without its whole list being read again at each step; no program and no statement. -/
import Derived.Test.YtnidommmnmpdlaaRdr
namespace Go.Proofs.Ytnidommmnmpdlaa
open Go.RowKit
set_option linter.unusedVariables false

/-- An operation of a region's list, in full: so that no step reads the whole list again. -/
theorem lit {ops : Array Oper} {i : Nat} {o : Oper} {tl : List Oper} (h : ops.toList.drop i = o :: tl) : ops[i]? = some o := by
  have h2 := congrArg (fun l => l[0]?) h
  simp only [List.getElem?_drop, Nat.add_zero, List.getElem?_cons_zero] at h2
  rw [← h2]
  simp
/-- An operation without a guard is wanted: so the region's text isn't looked at again. -/
theorem step_open {P : Program} {ops : Array Oper} {o : Oper} {a : Act} {w : World} {K : Act → World → Prop} {Q : Exit → Act → World → Prop} {E : Prop} (hgd : o.guard = none) (h : Oper.wp P o a w K Q) :
    if Region.wanted o (yielded ops a.tmps) = true then Oper.wp P o a w K Q else E := by
  have hw : Region.wanted o (yielded ops a.tmps) = true := by simp [Region.wanted, hgd]
  rw [if_pos hw]
  exact h
end Go.Proofs.Ytnidommmnmpdlaa
