/- A loop over an iterator that stores into blocks which it has laid itself since it was called; the loop's body always goes on. Of no program; no statement. -/
import Derived.Test.YtnidommmnmpdlaaKit
import Derived.RangeFuncNested
import Derived.RangeFuncCalls
namespace Go.Proofs.Ytnidommmnmpdlaa
open Go.RowKit
set_option linter.unusedVariables false

/-- J does not mind the turn of any one block, of whatever kind, that lies at or beyond B. -/
def Minds {β : Type} (B : Nat) (J : β → World → Prop) : Prop := ∀ s X Y row, J s X → X.grownBy Y row → (∀ r, row = some r → B ≤ r) → J s Y
theorem Minds.put {β : Type} {B : Nat} {J : β → World → Prop} (h : Minds B J) {s : β} {W : World} {k : Nat} (o : Obj) (hs : J s W) (hk : B ≤ k) : J s (W.putObj k o) :=
  h s W _ (some k) hs (grownBy_putObj' W k o) (fun r e => by cases e; exact hk)
theorem Minds.new {β : Type} {B : Nat} {J : β → World → Prop} (h : Minds B J) {s : β} {W : World} (o : Obj) (hs : J s W) : J s (W.alloc o) :=
  h s W _ none hs (World.grownBy_alloc W o none) (fun r e => by cases e)
theorem Minds.store {β : Type} {B : Nat} {J : β → World → Prop} (h : Minds B J) {s : β} {W : World} {k : Nat} (i : Nat) (v : Value) (hs : J s W) (hk : B ≤ k) : J s (W.setCell ⟨k, i, none⟩ v) :=
  h s W _ (some k) hs (only_store (only_refl W k) i v) (fun r e => by cases e; exact hk)
/-- The iterator: called at any later world, with whatever J that does not mind blocks laid since, it hands over elements one by one (T: which one comes next), and returns when all have come. -/
def SeqW {α : Type} (n : Nat) (P : Program) (g : Nat) (lb : Array Value) (encs : α → Array Value) (Kp : World → World → Prop) (S : List α → Prop) (T : List α → α → Prop) (w : World) : Prop :=
  ∀ (l : Nat) (J : List α → World → Prop) (W : World), Below w.heap.size w W → Minds W.heap.size J →
    (∀ pre x X, J pre X → T pre x → YieldAt Fence.wide (n - 1) P l (encs x) X fun e Y => e = .returned (.bool true) ∧ J (pre ++ [x]) Y ∧ Kp X Y) →
    J [] W → CallsIn Fence.wide n P g (#[.func (.yield l) #[] #[]] ++ lb) W fun e Y => (∃ v, e = .returned v) ∧ ∃ xs, S xs ∧ J xs Y

/-- The round's record, and the block beside it: what the loop itself keeps. -/
def Kept (rec : LoopState → Option Code → Loop) (s : Nat) (W : World) : Prop := W.heap[s + 1]? = some (.loop (rec .ready none)) ∧ W.heap[s]? = some (.deferred (some []))
theorem Kept.minds {rec : LoopState → Option Code → Loop} {s : Nat} {X Y : World} {row : Option Nat} (h : Kept rec s X) (hg : X.grownBy Y row) (hr : ∀ r, row = some r → s + 2 ≤ r) : Kept rec s Y := by
  have k1 := (Array.getElem?_eq_some_iff.1 h.1).1
  have k2 := (Array.getElem?_eq_some_iff.1 h.2).1
  exact ⟨(hg.block _ k1 (fun e => by have := hr _ e.symm; omega)).trans h.1, (hg.block _ k2 (fun e => by have := hr _ e.symm; omega)).trans h.2⟩

theorem range_all {α : Type} {n : Nat} {P : Program} {g : Operand} {ps : Array Tmp} {assign body : Code} {Q : Exit → Act → World → Prop} {a : Act} {w : World}
    (h1 : 1 ≤ n) {gf : Nat} {lb : Array Value} (hg : a.eval g = .func (.func gf) #[] lb) (eg : ∀ args w, (callFunc gf args).run P w = .ok (.enter gf args) w)
    {encs : α → Array Value} {Kp : World → World → Prop} {S : List α → Prop} {T : List α → α → Prop} {w0 : World} (hseq : SeqW (n - 1) P gf lb encs Kp S T w0)
    (hKt : ∀ {A B C : World}, Kp A B → Kp B C → Kp A C) (hKb : ∀ (W : World) (k : Nat) (o o' : Obj), W.heap[k]? = some o → o.isCells = false → Kp W (W.putObj k o')) (hb0 : Below w0.heap.size w0 w) (hps : ∀ x, (encs x).size = ps.size)
    (I : List α → World → Prop) (hI : Minds w.heap.size I) (h0 : I [] w) (Ax : α → Act → World → Prop) (hAx : ∀ x a', OwnFrom w.heap.size (fun (_ : Unit) W => Ax x a' W))
    (hassign : ∀ (l : Nat) (pre : List α) (x : α) (W : World) (K : Act → World → Prop), I pre W → w.heap.size ≤ W.heap.size → (∀ a' W', KeepsFrom w.heap.size W W' → Kp W W' → I pre W' → Ax x a' W' → K a' W') →
      assign.wpIn (Fence.wide.inRound l) (n - 1 - 1) P (Exit.then K (fun _ _ _ => False)) { tmps := (ps.zip (encs x)).foldl (fun t (p, v) => t.setIfInBounds p v) a.tmps, defers := [] } W)
    (hbody : ∀ (l : Nat) (pre : List α) (x : α) (a' : Act) (W : World), I pre W → Ax x a' W → T pre x → body.wpIn (Fence.wide.inRound l) (n - 1 - 1) P (fun e a3 W' => e = .normal ∧ KeepsFrom w.heap.size W W' ∧ Kp W W' ∧ I (pre ++ [x]) W') a' W)
    (hdone : ∀ (D : Nat) (xs : List α) (W : World), w.heap.size ≤ D → S xs → I xs W → W.heap[D]? = some (.deferred (some [])) → Q .normal { a with defers := { target := .collected D, args := #[] } :: a.defers } W) :
    (Code.rangeFunc g ps assign body).wpIn Fence.wide n P Q a w := by
  refine wpIn_rangeFunc fun fn hfn => ?_
  obtain ⟨rec, hrec⟩ : ∃ rec : LoopState → Option Code → Loop, rec = fun st pe => { state := st, pending := pe, fn, tmps := a.tmps, params := ps, assign, body, defers := w.heap.size } := ⟨_, rfl⟩
  obtain ⟨V, hV⟩ : ∃ V, (w.alloc (.deferred (some []))).alloc (.loop (rec .ready none)) = V := ⟨_, rfl⟩
  have hsV : V.heap.size = w.heap.size + 2 := by rw [← hV]; simp
  have hwV : Below w.heap.size w V := hV ▸ ((Below.refl _ w).alloc (Nat.le_refl _) _).alloc (by simp) _
  have hKV : Kept rec w.heap.size V := by
    rw [← hV]
    refine ⟨?_, (Below.heap_alloc _ _ _ (by simp)).trans (World.alloc_heap_new w _)⟩
    have := World.alloc_heap_new (w.alloc (.deferred (some []))) (.loop (rec .ready none))
    rwa [World.size_alloc] at this
  have hIV : I [] V := hV ▸ hI.new _ (hI.new _ h0)
  have hround : ∀ pre x X, (I pre X ∧ Kept rec w.heap.size X) → T pre x → YieldAt Fence.wide (n - 1 - 1) P (w.heap.size + 1) (encs x) X fun e Y => e = .returned (.bool true) ∧ (I (pre ++ [x]) Y ∧ Kept rec w.heap.size Y) ∧ Kp X Y := by
    rintro pre x X ⟨hi, hl, hk⟩ ht
    have hlt : w.heap.size + 1 < X.heap.size := (Array.getElem?_eq_some_iff.1 hl).1
    have hy := run_yield (P := P) (args := encs x) hl (by rw [hrec]; exact hps x)
    rw [hrec] at hy
    refine ⟨fn, _, assign, body, hy, roundIn_of_wpIn hfn (hassign _ pre x X _ hi (by omega) fun a1 X1 hf1 hp1 hi1 hax1 => ?_)⟩
    have hl1 := hf1.same _ _ (by omega) hl rfl
    have hk1 := hf1.same _ _ (Nat.le_refl _) hk rfl
    have hlt1 : w.heap.size + 1 < X1.heap.size := (Array.getElem?_eq_some_iff.1 hl1).1
    refine ⟨_, run_beginRound hl1 (by rw [hrec]), ?_⟩
    obtain ⟨X2, hX2⟩ : ∃ X2, X1.putObj (w.heap.size + 1) (.loop { rec .ready none with state := .busy }) = X2 := ⟨_, rfl⟩
    have hl2 : X2.heap[w.heap.size + 1]? = some (.loop { rec .ready none with state := .busy }) := hX2 ▸ World.putObj_heap_same hlt1
    have hk2 : X2.heap[w.heap.size]? = some (.deferred (some [])) := hX2 ▸ (World.putObj_heap_other (by omega)).trans hk1
    have hi2 : I pre X2 := hX2 ▸ hI.put _ hi1 (by omega)
    have hax2 : Ax x a1 X2 := hX2 ▸ (hAx x a1).putObj (s := ()) _ hax1 (by omega) hl1 rfl
    have hp2 : Kp X1 X2 := hX2 ▸ hKb _ _ _ _ hl1 rfl
    rw [hX2]
    refine wpIn_mono (hbody _ pre x a1 X2 hi2 hax2 ht) ?_
    rintro e a3 X3 ⟨rfl, hf3, hp3, hi3⟩
    have hl3 := hf3.same _ _ (by omega) hl2 rfl
    have hk3 := hf3.same _ _ (Nat.le_refl _) hk2 rfl
    have hend := run_endRound (P := P) none hl3
    refine ⟨_, _, hend, rfl, ⟨hI.put _ hi3 (by omega), ?_, (World.putObj_heap_other (by omega)).trans hk3⟩, hKt (hKt (hKt hp1 hp2) hp3) (hKb _ _ _ _ hl3 rfl)⟩
    have := World.putObj_heap_same (w := X3) (o := .loop (rec .ready none)) (Array.getElem?_eq_some_iff.1 hl3).1
    rw [hrec] at this ⊢
    exact this
  have hfin := hseq (w.heap.size + 1) (fun pre W => I pre W ∧ Kept rec w.heap.size W) V (hb0.trans (hwV.mono hb0.size))
    (fun s X Y row hs hgr hr => ⟨hI s X Y row hs.1 hgr (fun r e => by have := hr r e; omega), hs.2.minds hgr (fun r e => by have := hr r e; omega)⟩) hround ⟨hIV, hKV⟩
  refine ⟨w.heap.size + 1, [{ target := .collected w.heap.size, args := #[] }], V, { target := .fn (.func gf) lb, args := #[.func (.yield (w.heap.size + 1)) #[] #[]] }, V, gf,
    #[.func (.yield (w.heap.size + 1)) #[] #[]] ++ lb, V, ?_, ?_, ?_, ?_, fun _ => h1, ?_⟩
  · rw [← hV, hrec]
    exact run_enterLoop_outer _ _ _ _ _
  · simp only [resolve, hg]
    simp [go_sem]
  · exact fun _ _ => trivial
  · simp [invoke, go_sem, eg]
  · refine hfin.mono ?_
    rintro e Y ⟨⟨v, rfl⟩, xs, hS, hi, hl, hk⟩
    have hend := run_endLoop (P := P) hl (by rw [hrec]; simp)
    rw [hrec] at hend
    exact ⟨none, _, hend, hdone _ xs _ (Nat.le_refl _) hS (hI.put _ hi (by omega)) ((World.putObj_heap_other (by omega)).trans hk)⟩
end Go.Proofs.Ytnidommmnmpdlaa
