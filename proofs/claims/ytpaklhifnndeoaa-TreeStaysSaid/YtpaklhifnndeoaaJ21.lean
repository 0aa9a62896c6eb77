import Derived.Test.YtpaklhifnndeoaaJ20
import Derived.Test.YtpaklhifnndeoaaJ01
import Derived.Test.YtpaklhifnndeoaaJTqi
import Derived.Test.YtpaklhifnndeoaaJ05
import Derived.Test.YtpaklhifnndeoaaJTpi
import Derived.Test.YtpaklhifnndeoaaJ16
import Derived.Test.YtpaklhifnndeoaaJ09
import Derived.Deep.Cut
/- Of a claim's texts, joined: Tsa Tpj Tpf Tqy. No statement but in the last. -/
section
namespace Go.Proofs.Ytpaklhifnndeoaa
open Go.RowKit
set_option linter.unusedVariables false

abbrev EL := List (List UInt8 × List UInt8)
theorem bl_total2 {a b : List UInt8} (h : ¬ bl a b) (hne : a ≠ b) : bl b a := by
  by_cases h2 : bl b a
  · exact h2
  · exact absurd (bl_total a b (Bool.eq_false_iff.2 h) (Bool.eq_false_iff.2 h2)) hne
def RisE (l : EL) : Prop := l.Pairwise (fun x y => bl x.1 y.1)
theorem rise_app {a b : EL} : RisE (a ++ b) ↔ RisE a ∧ RisE b ∧ ∀ x ∈ a, ∀ y ∈ b, bl x.1 y.1 := List.pairwise_append
theorem ents_rise : ∀ (l : List (List UInt8 × Tr)), sepL l → (∀ x ∈ l, RisE (entT x.2)) → RisE (entTs l)
  | [], _, _ => by rw [entTs_nil]; exact List.Pairwise.nil
  | x :: l, h, hr => by
    rw [entTs_cons]
    have h1 := List.pairwise_cons.1 h.1
    refine rise_app.2 ⟨hr x (List.mem_cons_self), ents_rise l ⟨h1.2, fun y hy => h.2 y (List.mem_cons_of_mem _ hy)⟩ (fun y hy => hr y (List.mem_cons_of_mem _ hy)), fun e he y hy => ?_⟩
    obtain ⟨z, hz, hyz⟩ := mem_entTs.1 hy
    exact bl_lt_le ((h1.1 z hz).2 e he) ((h.2 z (List.mem_cons_of_mem _ hz)).2 y hyz)
theorem ent_rise : ∀ (t : Tr) (n : Nat), SepT n t → RisE (entT t) := by
  intro t
  induction t using Tr.ind with
  | hl p l =>
    intro n h
    cases h with
    | leaf _ _ h =>
      rw [entT_leaf]
      exact List.pairwise_map.2 h
  | hb p l ih =>
    intro n h
    cases h with
    | branch n _ _ h hk hl h0 =>
      rw [entT_br]
      exact ents_rise l h (fun x hx => ih x hx n (hk x hx))
theorem good_rise {t : Tr} (h : GoodT t) : RisE (entT t) := by
  obtain ⟨n, _, h2⟩ := h
  exact ent_rise t n h2
structure PosE (k d : List UInt8) (l l' : EL) (p : Nat) (ins : Bool) : Prop where
  len : l'.length = l.length + (if ins = true then 1 else 0)
  lt : p < l'.length
  here : l'[p]? = some (k, d)
  own : ∀ (j : Nat) (x : List UInt8 × List UInt8), l'[j]? = some x → (x.1 = k ↔ j = p)
  old : ∀ j, j ≠ p → l[if ins = true ∧ p < j then j - 1 else j]? = l'[j]?
  new : ins = true → ∀ x, l[p]? = some x → x.1 ≠ k
  same : ins = false → ∃ x, l[p]? = some x ∧ x.1 = k
  rise : RisE l'
theorem ne_of_bl {a b : List UInt8} (h : bl a b) : a ≠ b := fun e => by rw [e] at h; exact absurd h (by simp [bl, bl_irrefl])
theorem putE_pos (k d : List UInt8) : ∀ (l : EL), RisE l → ∃ p ins, PosE k d l (putE15 k d l) p ins
  | [], _ => ⟨0, true, by
      rw [show putE15 k d [] = [(k, d)] from rfl]
      exact ⟨rfl, Nat.zero_lt_one, rfl, fun j x hx => by
        cases j with
        | zero => simp at hx; subst hx; simp
        | succ j => simp at hx, fun j hj => by
        cases j with
        | zero => exact absurd rfl hj
        | succ j => simp, fun _ x hx => by simp at hx, fun h => (by cases h), List.pairwise_singleton _ _⟩⟩
  | x :: l, h => by
    have hx := List.pairwise_cons.1 h
    have hmem : ∀ (j : Nat) (y : List UInt8 × List UInt8), l[j]? = some y → bl x.1 y.1 := fun j y hy => hx.1 y (List.mem_of_getElem? hy)
    unfold putE15
    by_cases h1 : bl x.1 k
    · obtain ⟨p, ins, hp⟩ := putE_pos k d l hx.2
      rw [if_pos h1]
      refine ⟨p + 1, ins, ?_, ?_, ?_, ?_, ?_, ?_, ?_, ?_⟩
      · rw [List.length_cons, hp.len, List.length_cons]; omega
      · rw [List.length_cons]; have := hp.lt; omega
      · rw [List.getElem?_cons_succ]; exact hp.here
      · intro j y hy
        cases j with
        | zero =>
          simp at hy
          subst hy
          constructor
          · intro e; exact absurd e (ne_of_bl h1)
          · intro e; cases e
        | succ j =>
          rw [List.getElem?_cons_succ] at hy
          have := hp.own j y hy
          exact this.trans ⟨fun e => by omega, fun e => by omega⟩
      · intro j hj
        cases j with
        | zero => simp
        | succ j =>
          have := hp.old j (by omega)
          rw [List.getElem?_cons_succ, ← this]
          by_cases hc : ins = true ∧ p < j
          · rw [if_pos hc, if_pos ⟨hc.1, by omega⟩]
            obtain ⟨j', rfl⟩ : ∃ j', j = j' + 1 := ⟨j - 1, by omega⟩
            simp
          · rw [if_neg hc, if_neg (fun q => hc ⟨q.1, by omega⟩), List.getElem?_cons_succ]
      · intro hi y hy
        rw [List.getElem?_cons_succ] at hy
        exact hp.new hi y hy
      · intro hi
        obtain ⟨y, hy, hyk⟩ := hp.same hi
        exact ⟨y, by rw [List.getElem?_cons_succ]; exact hy, hyk⟩
      · refine List.pairwise_cons.2 ⟨fun y hy => ?_, hp.rise⟩
        rcases mem_putE hy with rfl | hy
        · exact h1
        · exact hx.1 y hy
    · rw [if_neg h1]
      by_cases h2 : x.1 = k
      · rw [if_pos h2]
        refine ⟨0, false, ?_, ?_, ?_, ?_, ?_, ?_, ?_, ?_⟩
        · simp
        · simp
        · rfl
        · intro j y hy
          cases j with
          | zero => simp at hy; subst hy; simp
          | succ j =>
            rw [List.getElem?_cons_succ] at hy
            have := hmem j y hy
            constructor
            · intro e; exact absurd (e ▸ h2) (ne_of_bl this)
            · intro e; cases e
        · intro j hj
          cases j with
          | zero => exact absurd rfl hj
          | succ j => simp
        · intro hi; cases hi
        · intro _; exact ⟨x, rfl, h2⟩
        · exact List.pairwise_cons.2 ⟨fun y hy => h2 ▸ hx.1 y hy, hx.2⟩
      · rw [if_neg h2]
        have h3 := bl_total2 h1 h2
        have hall : ∀ y ∈ x :: l, bl k y.1 := fun y hy => by
          rcases List.mem_cons.1 hy with rfl | hy
          · exact h3
          · exact bl_trans _ _ _ h3 (hx.1 y hy)
        refine ⟨0, true, ?_, ?_, ?_, ?_, ?_, ?_, ?_, ?_⟩
        · simp
        · simp
        · rfl
        · intro j y hy
          cases j with
          | zero => simp at hy; subst hy; simp
          | succ j =>
            rw [List.getElem?_cons_succ] at hy
            constructor
            · intro e; exact absurd e.symm (ne_of_bl (hall y (List.mem_of_getElem? hy)))
            · intro e; cases e
        · intro j hj
          cases j with
          | zero => exact absurd rfl hj
          | succ j => simp
        · intro _ y hy
          simp at hy
          exact hy ▸ h2
        · intro hi; cases hi
        · exact List.pairwise_cons.2 ⟨hall, h⟩
theorem rise_at {l : EL} (h : RisE l) {i j : Nat} {x y : List UInt8 × List UInt8} (hx : l[i]? = some x) (hy : l[j]? = some y) (hij : i < j) : bl x.1 y.1 := by
  obtain ⟨h1, rfl⟩ := List.getElem?_eq_some_iff.1 hx
  obtain ⟨h2, rfl⟩ := List.getElem?_eq_some_iff.1 hy
  exact List.pairwise_iff_getElem.1 h i j h1 h2 hij
structure OneI (w W : World) (P : Nat) (m : Nat) (t : Tr) (z : NDV) : Prop where
  b : Has W P 29 #[.int .i64 z.p, .bool z.lf, .slice z.kA z.kn z.kc, .slice z.vA z.vn z.vc, .slice z.dA z.dn z.dc]
  rt : RepT (fun q => q ≠ P) W z t
  gd : GdT m t
  ne : t = .leaf 0 [] ∨ entT t ≠ []
  bl : Below w.heap.size w W
theorem OneI.below {w W W' : World} {P m : Nat} {t : Tr} {z : NDV} (h : OneI w W P m t z) (hb : Below W.heap.size W W') : OneI w W' P m t z :=
  ⟨h.b.below hb h.b.lt, h.rt.stay hb, h.gd, h.ne, below_step h.bl hb⟩
structure PutY (V w : World) (P : Nat) (z : NDV) (t : Tr) : Prop where
  bl : Below V.heap.size V w
  b : Has w P 29 #[.int .i64 z.p, .bool z.lf, .slice z.kA z.kn z.kc, .slice z.vA z.vn z.vc, .slice z.dA z.dn z.dc]
  h : V.heap.size ≤ P
  rep : RepT (fun q => V.heap.size ≤ q ∧ q ≠ P) w z t
theorem PutY.below {V w w' : World} {P : Nat} {z : NDV} {t : Tr} (h : PutY V w P z t) (hb : Below w.heap.size w w') : PutY V w' P z t :=
  ⟨below_step h.bl hb, h.b.below hb h.b.lt, h.h, h.rep.stay hb⟩
theorem put_oneI {w V wq : World} {P P8 m : Nat} {z : NDV} {tp : Tr} {cs : Array Value} (hy : PutY V wq P8 z tp) (hX : Has V P 29 cs) (hc : ∃ a b c d e, cs = #[a, b, c, d, e]) (hw : w.heap.size ≤ P) (hbl : Below w.heap.size w V) (hgd : GdT m tp) (hne : entT tp ≠ []) : OneI w (st5 wq P (.int .i64 z.p) (.bool z.lf) (.slice z.kA z.kn z.kc) (.slice z.vA z.vn z.vc) (.slice z.dA z.dn z.dc)) P m tp z := by
  have hlt := hX.lt
  obtain ⟨a, b, c, d, e, rfl⟩ := hc
  exact ⟨(hX.below hy.bl hlt).st5 _ _ _ _ _, RepT.move (fun q hq hl => ⟨by omega, heap_st5 wq P _ _ _ _ _ q (by omega)⟩) hy.rep, hgd, .inr hne, below_st5 (below_step hbl hy.bl) hw _ _ _ _ _⟩
theorem r15Ents_row (t : Tr) (F : Nat → Prop) (v : NV) (w : World) (h : RepN F w v t) (hen : (entT t).length ≤ 100000) (m : Nat) (hm : (entT t).length = m) : Calls Try.prog 25 #[nvV v] w (fun e w' => ∃ A c, e = .returned (.slice A m c) ∧ RwF (fun g => w.heap.size ≤ g) w' A m c 4 (flatC ((entT t).map ceE)) ∧ Below w.heap.size w w') := by
  subst hm
  refine (r15Entries_any t F v w h hen).mono ?_
  rintro e w' ⟨v2, rfl, ho, hb⟩
  obtain ⟨A, c, rfl, _, _⟩ := slice15 ho
  exact ⟨A, c, rfl, RwF.ofOwn ho, hb⟩
theorem ents_cell {F : Nat → Prop} {w : World} {A : Option Addr} {n c : Nat} {l : EL} (h : RwF F w A n c 4 (flatC (l.map ceE))) {j : Nat} {x : List UInt8 × List UInt8} (hx : l[j]? = some x) :
    ∃ g off, A = some ⟨g, off, none⟩ ∧ w.cell? ⟨g, off + j * 4, none⟩ = some (.string ⟨x.1.toArray⟩) ∧ w.cell? ⟨g, off + j * 4 + 1, none⟩ = some (.string ⟨x.2.toArray⟩) := by
  obtain ⟨g, off, hA, _, c0, c1, _, _⟩ := h.at4 (i := j) (e := ceE x) (by rw [List.getElem?_map, hx]; rfl)
  exact ⟨g, off, hA, c0, c1⟩
def kofE (ins : Bool) (p j : Nat) : Nat := if ins = true ∧ p < j then j - 1 else j
theorem kof_zero (ins : Bool) (p : Nat) : kofE ins p 0 = 0 := by unfold kofE; split <;> rfl
theorem kof_le (ins : Bool) (p j : Nat) : kofE ins p j ≤ j := by unfold kofE; split <;> omega
theorem kof_end {k d : List UInt8} {l l' : EL} {p : Nat} {ins : Bool} (h : PosE k d l l' p ins) : kofE ins p l'.length = l.length := by
  have h1 := h.len
  have h2 := h.lt
  unfold kofE
  cases ins
  · rw [if_neg (by simp)]; simpa using h1
  · rw [if_pos ⟨rfl, h2⟩, h1]; simp
theorem kof_own (ins : Bool) (p : Nat) : kofE ins p p = p := by unfold kofE; rw [if_neg (by omega)]
theorem kof_step_own {ins : Bool} (p : Nat) : kofE ins p (p + 1) = if ins = true then p else p + 1 := by unfold kofE; cases ins <;> simp
theorem kof_step {ins : Bool} {p j : Nat} (h : j ≠ p) : kofE ins p (j + 1) = kofE ins p j + 1 := by
  unfold kofE
  by_cases hc : ins = true ∧ p < j
  · rw [if_pos hc, if_pos ⟨hc.1, by omega⟩]; omega
  · rw [if_neg hc, if_neg (fun q => hc ⟨q.1, by omega⟩)]
end Go.Proofs.Ytpaklhifnndeoaa
end

section
namespace Go.Proofs.Ytpaklhifnndeoaa
open Go.RowKit
set_option linter.unusedVariables false

def gV (g : Bool) (v : Value) : Value := if g = true then v else undef
def boolOf : Option Value → Option Bool
  | some (.bool b) => some b
  | _ => none
theorem yielded_slot {ops : Array Oper} {tmps : Array Value} {j d : Nat} (hd : (ops[j]?).bind (·.dst) = some d) : yielded ops tmps j = boolOf tmps[d]? := by
  unfold yielded
  rw [hd]
  show (match tmps[d]? with | some (.bool b) => some b | _ => none) = _
  rcases tmps[d]? with _ | u
  · rfl
  · cases u <;> rfl
theorem yif_guard {P : Program} {ops : Array Oper} {S : World → Prop} {o : Oper} {a : Act} {g : Bool} {v : Value} {j d : Nat} {β : Bool} (hgd : o.guard = some (j, β)) (hd : (ops[j]?).bind (·.dst) = some d) (hs : (boolOf a.tmps[d]? == some β) = g)
    (h : g = true → ∀ w, S w → (execOp a.eval o).run P w = .ok (.value v) w) : YieldsIf P ops S o (gV g v) a := by
  have hw : Region.wanted o (yielded ops a.tmps) = g := by
    unfold Region.wanted
    rw [hgd]
    show (yielded ops a.tmps j == some β) = g
    rw [yielded_slot hd, hs]
  cases g with
  | true => exact .inl ⟨hw, h rfl⟩
  | false => exact .inr ⟨hw, rfl⟩
theorem wpAnyH_quiet {P : Program} {md : Region.Mode} {ops : Array Oper} {Q : Exit → Act → World → Prop} {S : World → Prop} {i : Nat} {oi : Oper} {v : Value} {g : Bool} {fuel : Nat} {listed : Array Bool} {a : Act} {w : World} (hi : ops[i]? = some oi)
    (hr : Region.ready md ops listed = [i]) (hw : Region.wanted oi (yielded ops a.tmps) = g) (hc : g = true → ∀ K : Act → World → Prop, K (a.put oi.dst v) w → Oper.wp P oi a w K Q) (hS : S w)
    (h : wpAnyH P md ops Q S fuel (listed.setIfInBounds i true) (a.put oi.dst (gV g v)) w) : wpAnyH P md ops Q S (fuel + 1) listed a w := by
  refine wpAnyH_all hr (by simp) ?_
  intro k hk
  rw [List.mem_singleton] at hk
  subst hk
  unfold wpOp
  simp only [hi]
  rw [hw]
  cases g with
  | true => exact .inl (hc rfl _ ⟨hS, h⟩)
  | false => exact ⟨hS, h⟩
end Go.Proofs.Ytpaklhifnndeoaa
end

section
namespace Go.Proofs.Ytpaklhifnndeoaa
open Go.RowKit
set_option linter.unusedVariables false

end Go.Proofs.Ytpaklhifnndeoaa
end

section
namespace Go.Proofs.Ytpaklhifnndeoaa
open Go.RowKit
set_option linter.unusedVariables false

def cP (x : PA) : Lf := ⟨x.k, valP x, []⟩
theorem cP_ok {x : PA} (h : okP15 x = true) : okLf (cP x) ∧ 0 ≤ x.z ∧ x.z ≤ 400 := by
  unfold okP15 at h
  simp only [Bool.and_eq_true, decide_eq_true_eq, bne_iff_ne, ne_eq] at h
  obtain ⟨⟨⟨h1, h2⟩, h3⟩, h4⟩ := h
  refine ⟨⟨?_, h2, ?_, fun h => absurd rfl h⟩, h3, h4⟩
  · exact List.length_pos_iff.2 h1
  · show (valP x).length ≤ 400
    unfold valP
    rw [List.length_replicate]
    omega
structure PutsI (w W : World) (P7 P8 : Nat) (m : Nat) (t : Tr) (z : NDV) (v : NV) : Prop where
  b7 : Has W P7 29 #[.int .i64 z.p, .bool z.lf, .slice z.kA z.kn z.kc, .slice z.vA z.vn z.vc, .slice z.dA z.dn z.dc]
  b8 : Has W P8 33 #[.int .i64 v.p, .bool v.lf, .slice v.A v.n v.c]
  rt : RepT (fun q => q ≠ P7 ∧ q ≠ P8) W z t
  rn : RepN (fun q => q ≠ P7 ∧ q ≠ P8) W v t
  gd : GdT m t
  ne : t = .leaf 0 [] ∨ entT t ≠ []
  bl : Below w.heap.size w W
theorem PutsI.below {w W W' : World} {P7 P8 m : Nat} {t : Tr} {z : NDV} {v : NV} (h : PutsI w W P7 P8 m t z v) (hb : Below W.heap.size W W') : PutsI w W' P7 P8 m t z v :=
  ⟨h.b7.below hb h.b7.lt, h.b8.below hb h.b8.lt, h.rt.stay hb, h.rn.stay hb, h.gd, h.ne, below_step h.bl hb⟩
end Go.Proofs.Ytpaklhifnndeoaa
end
