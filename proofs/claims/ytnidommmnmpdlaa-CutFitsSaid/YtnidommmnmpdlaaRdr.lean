/- Words of my own for a region that draws its order in a round of a range over a function: no statement; nothing here speaks of any one program. -/
import Derived.OrdersHeld
import Derived.Deep.RegionHeld
import Derived.RangeFuncNested
import Derived.RangeFuncCalls
import Derived.OwnWalkIn
import Derived.OrdersIn
import Derived.Below
namespace Go.Proofs.Ytnidommmnmpdlaa
open Go.RowKit
set_option linter.unusedVariables false

/-- What a region that runs to its end must come to, and nothing else. -/
def Runs (M : Act → World → Prop) : Exit → Act → World → Prop := Exit.then M (fun _ _ _ => False)
theorem Runs.out (M : Act → World → Prop) : ¬ LetsOut (Runs M) := fun ⟨_, _, h⟩ => h
theorem wpOpsIn_of {l n : Nat} {P : Program} {ops : Array Oper} {M : Act → World → Prop} (hnd : ∀ (i : Nat) (o : Oper), ops[i]? = some o → ∀ c, o.op ≠ .defer c) :
    ∀ (is : List Nat) (a : Act) (w : World), wpOps P ops (Runs M) is a w → wpOpsIn (Fence.wide.inRound l) n P ops (Runs M) is a w := by
  intro is
  induction is with
  | nil => exact fun _ _ h => h
  | cons i rest ih =>
    intro a w h
    simp only [wpOps] at h
    simp only [wpOpsIn]
    cases ho : ops[i]? with
    | none =>
      simp only [ho] at h ⊢
      exact ih a w h
    | some o =>
      simp only [ho] at h ⊢
      by_cases hw : Region.wanted o (yielded ops a.tmps) = true
      · simp only [hw, if_true] at h ⊢
        rcases h with h | ⟨_, hl⟩
        case inr => exact absurd hl (Runs.out M)
        refine ⟨fun _ _ => trivial, ?_⟩
        have hs : o.semAt (Fence.wide.inRound l).round a.eval = execOp a.eval o := Oper.semAt_eq _ _ _ (hnd i o ho)
        rw [hs]
        unfold Oper.wp at h
        generalize (execOp a.eval o).run P w = r at h
        cases r with
        | ok x w' =>
          cases x <;> simp only [Oper.upon] at h <;> simp only [Oper.uponIn]
          case value v => exact ih _ _ h
          case skip => exact ih _ _ h
          case defer d => exact ih _ _ h
          case enter f args =>
            refine ⟨fun hd => (by cases hd), CallsIn.inRound l (callsIn_wide.2 (Calls.mono h fun e w'' he => ?_))⟩
            cases e with
            | returned v => exact ih _ _ he
            | panicked c => exact he
            | outgrown => exact he
          case row row args =>
            refine ⟨fun hd => (by cases hd), fun c cs _ => ?_⟩
            obtain ⟨v, w'', hv, hst⟩ := h c cs
            exact ⟨v, w'', ih _ _ hv, stepsIn_wide.2 hst⟩
        | halt x w' =>
          cases x <;> simp only [Oper.upon] at h <;> simp only [Oper.uponIn] <;> exact h
      · simp only [hw, Bool.false_eq_true, if_false] at h ⊢
        exact ⟨fun _ _ => trivial, ih _ _ h⟩

/-- A region that draws its order, in a round: it is enough to walk it as 'wpAnyH' asks, to an end M. -/
theorem wpIn_round_held {l n : Nat} {P : Program} {id : Nat} {ops : Array Oper} {K : Act → World → Prop} {Q : Exit → Act → World → Prop} {a : Act} {w : World} (S : World → Prop) (M : Act → World → Prop)
    (hm : P.follows .mixedOrders = true) (hnd : ∀ (i : Nat) (o : Oper), ops[i]? = some o → ∀ c, o.op ≠ .defer c)
    (h : wpAnyH P .any ops (Runs M) S ops.size (Array.replicate ops.size false) a w.drew) (h2 : ∀ a w, M a w → K a w) : (Code.region id ops true).wpIn (Fence.wide.inRound l) n P (Exit.then K Q) a w := by
  refine wpIn_mono (Q := Runs M) (wpIn_region_draw fun t => wpOpsIn_of hnd _ _ _ ?_) (fun e a w h => by cases e <;> first | exact h2 _ _ h | exact False.elim h)
  simp only [Region.schedule, hm, Bool.true_or, if_true]
  exact wpAny_sound ops.size t _ a _ (wpAny_of_held _ _ _ _ h)
theorem runs_panic {M : Act → World → Prop} {v : Value} {d : Option Tmp} : ∀ c a w, Runs M (.panic c) (Act.put a d v) w → Runs M (.panic c) a w := fun _ _ _ h => h
theorem noDefer_of {ops : Array Oper} (h : (ops.toList.all fun o => match o.op with | .defer _ => false | _ => true) = true) (i : Nat) (o : Oper) (ho : ops[i]? = some o) (c : Call) : o.op ≠ .defer c := fun e => by
  rw [List.all_eq_true] at h
  have := h o (by rw [← Array.getElem?_toList] at ho; exact List.mem_of_getElem? ho)
  rw [e] at this
  cases this

/-- The same outside of a round. -/
theorem wp_held {P : Program} {id : Nat} {ops : Array Oper} {K : Act → World → Prop} {Q : Exit → Act → World → Prop} {a : Act} {w : World} (S : World → Prop) (M : Act → World → Prop)
    (hm : P.follows .mixedOrders = true)
    (h : wpAnyH P .any ops (Runs M) S ops.size (Array.replicate ops.size false) a w.drew) (h2 : ∀ a w, M a w → K a w) : (Code.region id ops true).wp P (Exit.then K Q) a w :=
  wp_mono (Q := Runs M) (wp_region_held hm h) (fun e a w h => by cases e <;> first | exact h2 _ _ h | exact False.elim h)
theorem cell_below {w w' : World} {p : Addr} {v : Value} (h : w.cell? p = some v) (hb : Below w.heap.size w w') : w'.cell? p = some v := (hb.cell (World.block_lt_of_cell? w p h)).trans h
theorem wp_cut {c : Code} {P : Program} {K : Act → World → Prop} {Q : Exit → Act → World → Prop} {a : Act} {w : World} (M : Act → World → Prop) (h1 : c.wp P (Exit.then M Q) a w) (h2 : ∀ a w, M a w → K a w) : c.wp P (Exit.then K Q) a w :=
  wp_mono h1 (fun e a w h => by cases e <;> first | exact h2 _ _ h | exact h)
theorem undef_is : undef = Value.tuple #[] := rfl

end Go.Proofs.Ytnidommmnmpdlaa
