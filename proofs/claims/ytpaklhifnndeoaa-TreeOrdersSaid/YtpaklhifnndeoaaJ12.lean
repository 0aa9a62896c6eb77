import Derived.Test.YtpaklhifnndeoaaJ00
import Derived.RangeFuncNested
import Derived.RangeFuncCalls
import Derived.Test.YtpaklhifnndeoaaJ05
import Derived.RangeFuncLeaves
import Derived.RangeFuncBox
import Derived.OwnWalkIn
import Derived.TacticsInMore
import Derived.LoopNIn
import Derived.LoopIn
import Derived.Shelf.Abstract
import Derived.Lib.MinMax
/- Of a claim's texts, joined: Rga Ctg Cth. No statement but in the last. -/
section
namespace Go.Proofs.Ytpaklhifnndeoaa
open Go.RowKit
set_option linter.unusedVariables false

def Minds {β : Type} (B : Nat) (J : β → World → Prop) : Prop := ∀ s X Y row, J s X → X.grownBy Y row → (∀ r, row = some r → B ≤ r) → J s Y
theorem Minds.put {β : Type} {B : Nat} {J : β → World → Prop} (h : Minds B J) {s : β} {W : World} {k : Nat} (o : Obj) (hs : J s W) (hk : B ≤ k) : J s (W.putObj k o) :=
  h s W _ (some k) hs (grownBy_putObj' W k o) (fun r e => by cases e; exact hk)
theorem Minds.new {β : Type} {B : Nat} {J : β → World → Prop} (h : Minds B J) {s : β} {W : World} (o : Obj) (hs : J s W) : J s (W.alloc o) :=
  h s W _ none hs (World.grownBy_alloc W o none) (fun r e => by cases e)
theorem Minds.store {β : Type} {B : Nat} {J : β → World → Prop} (h : Minds B J) {s : β} {W : World} {k : Nat} (i : Nat) (v : Value) (hs : J s W) (hk : B ≤ k) : J s (W.setCell ⟨k, i, none⟩ v) :=
  h s W _ (some k) hs (only_store (only_refl W k) i v) (fun r e => by cases e; exact hk)
def SeqW {α : Type} (n : Nat) (P : Program) (g : Nat) (lb : Array Value) (encs : α → Array Value) (Kp : World → World → Prop) (S : List α → Prop) (T : List α → α → Prop) (w : World) : Prop :=
  ∀ (l : Nat) (J : List α → World → Prop) (W : World), Below w.heap.size w W → Minds W.heap.size J →
    (∀ pre x X, J pre X → T pre x → YieldAt Fence.wide (n - 1) P l (encs x) X fun e Y => e = .returned (.bool true) ∧ J (pre ++ [x]) Y ∧ Kp X Y) →
    J [] W → CallsIn Fence.wide n P g (#[.func (.yield l) #[] #[]] ++ lb) W fun e Y => (∃ v, e = .returned v) ∧ ∃ xs, S xs ∧ J xs Y

def Kept (rec : LoopState → Option Code → Loop) (s : Nat) (W : World) : Prop := W.heap[s + 1]? = some (.loop (rec .ready none)) ∧ W.heap[s]? = some (.deferred (some []))
theorem Kept.minds {rec : LoopState → Option Code → Loop} {s : Nat} {X Y : World} {row : Option Nat} (h : Kept rec s X) (hg : X.grownBy Y row) (hr : ∀ r, row = some r → s + 2 ≤ r) : Kept rec s Y := by
  have k1 := (Array.getElem?_eq_some_iff.1 h.1).1
  have k2 := (Array.getElem?_eq_some_iff.1 h.2).1
  exact ⟨(hg.block _ k1 (fun e => by have := hr _ e.symm; omega)).trans h.1, (hg.block _ k2 (fun e => by have := hr _ e.symm; omega)).trans h.2⟩

theorem range_all {α : Type} {n : Nat} {P : Program} {g : Operand} {ps : Array Tmp} {assign body : Code} {Q : Exit → Act → World → Prop} {a : Act} {w : World}
    (h1 : 1 ≤ n) {gf : Nat} {lb : Array Value} (hg : a.eval g = .func (.func gf) #[] lb) (eg : ∀ args w, (callFunc gf args).run P w = .ok (.enter gf args) w)
    {encs : α → Array Value} {Kp : World → World → Prop} {S : List α → Prop} {T : List α → α → Prop} {w0 : World} (hseq : SeqW (n - 1) P gf lb encs Kp S T w0)
    (hKt : ∀ {A B C : World}, Kp A B → Kp B C → Kp A C) (hKb : ∀ (W : World) (k : Nat) (o o' : Obj), W.heap[k]? = some o → o.isCells = false → Kp W (W.putObj k o')) (hb0 : Below w0.heap.size w0 w) (hps : ∀ x, (encs x).size = ps.size)
    (I : List α → World → Prop) (hI : Minds w.heap.size I) (h0 : I [] w) (Ax : α → Act → World → Prop) (hAx : ∀ x a', OwnFrom w.heap.size (fun (_ : Unit) W => Ax x a' W))
    (hassign : ∀ (l : Nat) (pre : List α) (x : α) (W : World) (K : Act → World → Prop), I pre W → w.heap.size ≤ W.heap.size → (∀ a' W', KeepsFrom w.heap.size W W' → Kp W W' → I pre W' → Ax x a' W' → K a' W') →
      assign.wpIn (Fence.wide.inRound l) (n - 1 - 1) P (Exit.then K (fun _ _ _ => False)) { tmps := (ps.zip (encs x)).foldl (fun t (p, v) => t.setIfInBounds p v) a.tmps, defers := [] } W)
    (hbody : ∀ (l : Nat) (pre : List α) (x : α) (a' : Act) (W : World), I pre W → Ax x a' W → T pre x → body.wpIn (Fence.wide.inRound l) (n - 1 - 1) P (fun e a3 W' => e = .normal ∧ KeepsFrom w.heap.size W W' ∧ Kp W W' ∧ I (pre ++ [x]) W') a' W)
    (hdone : ∀ (D : Nat) (xs : List α) (W : World), w.heap.size ≤ D → S xs → I xs W → W.heap[D]? = some (.deferred (some [])) → Q .normal { a with defers := { target := .collected D, args := #[] } :: a.defers } W) :
    (Code.rangeFunc g ps assign body).wpIn Fence.wide n P Q a w := by
  refine wpIn_rangeFunc fun fn hfn => ?_
  obtain ⟨rec, hrec⟩ : ∃ rec : LoopState → Option Code → Loop, rec = fun st pe => { state := st, pending := pe, fn, tmps := a.tmps, params := ps, assign, body, defers := w.heap.size } := ⟨_, rfl⟩
  obtain ⟨V, hV⟩ : ∃ V, (w.alloc (.deferred (some []))).alloc (.loop (rec .ready none)) = V := ⟨_, rfl⟩
  have hsV : V.heap.size = w.heap.size + 2 := by rw [← hV]; simp
  have hwV : Below w.heap.size w V := hV ▸ ((Below.refl _ w).alloc (Nat.le_refl _) _).alloc (by simp) _
  have hKV : Kept rec w.heap.size V := by
    rw [← hV]
    refine ⟨?_, (Below.heap_alloc _ _ _ (by simp)).trans (World.alloc_heap_new w _)⟩
    have := World.alloc_heap_new (w.alloc (.deferred (some []))) (.loop (rec .ready none))
    rwa [World.size_alloc] at this
  have hIV : I [] V := hV ▸ hI.new _ (hI.new _ h0)
  have hround : ∀ pre x X, (I pre X ∧ Kept rec w.heap.size X) → T pre x → YieldAt Fence.wide (n - 1 - 1) P (w.heap.size + 1) (encs x) X fun e Y => e = .returned (.bool true) ∧ (I (pre ++ [x]) Y ∧ Kept rec w.heap.size Y) ∧ Kp X Y := by
    rintro pre x X ⟨hi, hl, hk⟩ ht
    have hlt : w.heap.size + 1 < X.heap.size := (Array.getElem?_eq_some_iff.1 hl).1
    have hy := run_yield (P := P) (args := encs x) hl (by rw [hrec]; exact hps x)
    rw [hrec] at hy
    refine ⟨fn, _, assign, body, hy, roundIn_of_wpIn hfn (hassign _ pre x X _ hi (by omega) fun a1 X1 hf1 hp1 hi1 hax1 => ?_)⟩
    have hl1 := hf1.same _ _ (by omega) hl rfl
    have hk1 := hf1.same _ _ (Nat.le_refl _) hk rfl
    have hlt1 : w.heap.size + 1 < X1.heap.size := (Array.getElem?_eq_some_iff.1 hl1).1
    refine ⟨_, run_beginRound hl1 (by rw [hrec]), ?_⟩
    obtain ⟨X2, hX2⟩ : ∃ X2, X1.putObj (w.heap.size + 1) (.loop { rec .ready none with state := .busy }) = X2 := ⟨_, rfl⟩
    have hl2 : X2.heap[w.heap.size + 1]? = some (.loop { rec .ready none with state := .busy }) := hX2 ▸ World.putObj_heap_same hlt1
    have hk2 : X2.heap[w.heap.size]? = some (.deferred (some [])) := hX2 ▸ (World.putObj_heap_other (by omega)).trans hk1
    have hi2 : I pre X2 := hX2 ▸ hI.put _ hi1 (by omega)
    have hax2 : Ax x a1 X2 := hX2 ▸ (hAx x a1).putObj (s := ()) _ hax1 (by omega) hl1 rfl
    have hp2 : Kp X1 X2 := hX2 ▸ hKb _ _ _ _ hl1 rfl
    rw [hX2]
    refine wpIn_mono (hbody _ pre x a1 X2 hi2 hax2 ht) ?_
    rintro e a3 X3 ⟨rfl, hf3, hp3, hi3⟩
    have hl3 := hf3.same _ _ (by omega) hl2 rfl
    have hk3 := hf3.same _ _ (Nat.le_refl _) hk2 rfl
    have hend := run_endRound (P := P) none hl3
    refine ⟨_, _, hend, rfl, ⟨hI.put _ hi3 (by omega), ?_, (World.putObj_heap_other (by omega)).trans hk3⟩, hKt (hKt (hKt hp1 hp2) hp3) (hKb _ _ _ _ hl3 rfl)⟩
    have := World.putObj_heap_same (w := X3) (o := .loop (rec .ready none)) (Array.getElem?_eq_some_iff.1 hl3).1
    rw [hrec] at this ⊢
    exact this
  have hfin := hseq (w.heap.size + 1) (fun pre W => I pre W ∧ Kept rec w.heap.size W) V (hb0.trans (hwV.mono hb0.size))
    (fun s X Y row hs hgr hr => ⟨hI s X Y row hs.1 hgr (fun r e => by have := hr r e; omega), hs.2.minds hgr (fun r e => by have := hr r e; omega)⟩) hround ⟨hIV, hKV⟩
  refine ⟨w.heap.size + 1, [{ target := .collected w.heap.size, args := #[] }], V, { target := .fn (.func gf) lb, args := #[.func (.yield (w.heap.size + 1)) #[] #[]] }, V, gf,
    #[.func (.yield (w.heap.size + 1)) #[] #[]] ++ lb, V, ?_, ?_, ?_, ?_, fun _ => h1, ?_⟩
  · rw [← hV, hrec]
    exact run_enterLoop_outer _ _ _ _ _
  · simp only [resolve, hg]
    simp [go_sem]
  · exact fun _ _ => trivial
  · simp [invoke, go_sem, eg]
  · refine hfin.mono ?_
    rintro e Y ⟨⟨v, rfl⟩, xs, hS, hi, hl, hk⟩
    have hend := run_endLoop (P := P) hl (by rw [hrec]; simp)
    rw [hrec] at hend
    exact ⟨none, _, hend, hdone _ xs _ (Nat.le_refl _) hS (hI.put _ hi (by omega)) ((World.putObj_heap_other (by omega)).trans hk)⟩
end Go.Proofs.Ytpaklhifnndeoaa
end

section
namespace Go.Proofs.Ytpaklhifnndeoaa
open Go.RowKit
set_option linter.unusedVariables false
attribute [local go_sem] Oper.semAt_some

set_option maxRecDepth 100000 in
theorem cuSum_q (l : List Int) (A : Option Addr) (n c : Nat) (w : World) (h : RowZ w A n c l) (hs : SizZ l) :
    Calls Try.prog 82 #[.slice A n c] w fun e w' => e = .returned (.int .i64 (sumZ l)) ∧ w = w' := by
  have HA := Lib.hid h.reads
  have HN := Lib.hid h.len
  have hnn : n ≤ 101 := by rw [h.len]; exact hs.2
  have HS := Lib.hid hs
  clear h hs
  go_enter Try.func82, Try.ntmps82
  go_wp2
  go_loop [3, 8] (fun v i => ∃ k : Nat, k ≤ n ∧ i = .int .i64 (k : Int) ∧ v = .int .i64 (sumZ (l.take k))) (fun _ i => n - (intOf i).toNat)
  case atStart => exact ⟨0, Nat.zero_le _, rfl, by simp [sumZ]⟩
  case round =>
    obtain ⟨k, hk, rfl, rfl⟩ := hrel
    by_cases hlt : k < n
    · have hkl : k < l.length := by have := HN.out; omega
      obtain ⟨g, off, rfl, ck⟩ := HA.out.zint14 hkl
      have hm := HS.out.1 l[k] (List.getElem_mem hkl)
      have hb := sumZ_take HS.out k
      have HM := Lib.hid (sumZ_more hkl)
      obtain ⟨x, hx⟩ : ∃ x, l[k] = x := ⟨_, rfl⟩
      obtain ⟨q, hq⟩ : ∃ q, sumZ (l.take k) = q := ⟨_, rfl⟩
      rw [hx] at ck hm HM
      rw [hq] at hb HM ⊢
      obtain ⟨b1, b2⟩ := hb
      obtain ⟨m1, m2⟩ := hm
      have i0 : (0 : Int) ≤ (k : Int) := by omega
      have i1 : (k : Int) < (n : Int) := by omega
      clear hx hq hkl
      go_wp2
      go_round
      case rel => exact ⟨k + 1, by omega, by go_num, by rw [HM.out]⟩
      case measure => simp [intOf]; omega
    · obtain rfl : k = n := by omega
      have e : l.take k = l := List.take_of_length_le (by rw [← HN.out]; exact Nat.le_refl _)
      rw [e]
      have i1 : ¬ (k : Int) < (k : Int) := by omega
      go_wp2
      go_ret
      exact ⟨rfl, rfl⟩
theorem cuSum_any (l : List Int) (A : Option Addr) (n c : Nat) (w : World) (h : RowZ w A n c l) (hs : SizZ l) :
    Calls Try.prog 82 #[.slice A n c] w fun e w' => e = .returned (.int .i64 (sumZ l)) ∧ Below w.heap.size w w' :=
  (cuSum_q l A n c w h hs).mono (by rintro e w' ⟨rfl, rfl⟩; exact ⟨rfl, Below.refl _ _⟩)
set_option maxRecDepth 100000 in
theorem cuLow_any (l : List Int) (A : Option Addr) (n c : Nat) (w : World) (h : RowZ w A n c l) (hs : SizZ l) :
    Calls Try.prog 68 #[.slice A n c] w fun e w' => e = .returned (.bool (decide (sumZ l < 30))) ∧ Below w.heap.size w w' := by
  have HS := Lib.hid (cuSum_q l A n c w h hs)
  clear h hs
  go_enter Try.func68, Try.ntmps68
  go_wp2_with (go_at_call 82; (with_reducible refine HS.out.mono ?_); rintro e w1 ⟨rfl, rfl⟩)
  go_ret
  exact ⟨rfl, Below.refl _ _⟩
set_option maxRecDepth 100000 in
theorem cuNeigh_any (m k : Int) (w : World) (hm : 0 ≤ m ∧ m ≤ 1000) (hk : 0 ≤ k ∧ k ≤ 1000) :
    Calls Try.prog 75 #[.int .i64 m, .int .i64 k] w fun e w' => e = .returned (.int .i64 (if k + 1 < m then k + 1 else k - 1)) ∧ Below w.heap.size w w' := by
  obtain ⟨m1, m2⟩ := hm
  obtain ⟨k1, k2⟩ := hk
  by_cases h : k + 1 < m
  · have h3 : k < m := by omega
    go_enter Try.func75, Try.ntmps75
    go_wp2
    go_ret
    exact ⟨rfl, Below.refl _ _⟩
  · by_cases h3 : k < m
    · go_enter Try.func75, Try.ntmps75
      go_wp2
      go_ret
      exact ⟨rfl, Below.refl _ _⟩
    · go_enter Try.func75, Try.ntmps75
      go_wp2
      go_ret
      exact ⟨rfl, Below.refl _ _⟩
theorem cuSplits_any (A : Option Addr) (n c : Nat) (w : World) : Calls Try.prog 83 #[.slice A n c] w fun e w' => e = .returned (.func (.func 91) #[] #[.pointer (some ⟨w.heap.size, 0, none⟩)]) ∧ w.alloc (.cells #[.slice A n c] 48) = w' := by
  go_enter Try.func83, Try.ntmps83
  go_wp2
  go_ret
  exact ⟨rfl, rfl⟩

def encZ (l : List Int) (k : Nat) : Array Value := #[.int .i64 (k : Int), .agg #[.int .i64 (sumZ (l.take k)), .int .i64 (sumZ (l.drop k))]]
def KpZ (a b : Nat) (W W' : World) : Prop := W.heap.size ≤ W'.heap.size ∧ ∀ (k : Nat) (o : Obj), W.heap[k]? = some o → o.isCells = true → k ≠ a → k ≠ b → W'.heap[k]? = some o
theorem KpZ.trans {a b : Nat} {X Y Z : World} (h : KpZ a b X Y) (k : KpZ a b Y Z) : KpZ a b X Z := ⟨Nat.le_trans h.1 k.1, fun i o hi ho ha hb => k.2 i o (h.2 i o hi ho ha hb) ho ha hb⟩
theorem KpZ.put (a b : Nat) (W : World) (k : Nat) (o o' : Obj) (h : W.heap[k]? = some o) (ho : o.isCells = false) : KpZ a b W (W.putObj k o') :=
  ⟨by simp, fun i o1 hi ho1 _ _ => (World.putObj_heap_other (fun e => by subst e; rw [h] at hi; injection hi with hi; subst hi; rw [ho] at ho1; cases ho1)).trans hi⟩
theorem KpZ.has {a b : Nat} {W W' : World} (h : KpZ a b W W') {g : Nat} {t : TypeId} {cs : Array Value} (hc : Has W g t cs) (ha : g ≠ a) (hb : g ≠ b) : Has W' g t cs := h.2 g _ hc rfl ha hb
theorem KpZ.cell {a b : Nat} {W W' : World} (h : KpZ a b W W') {p : Addr} {v : Value} (hc : W.cell? p = some v) (ha : p.block ≠ a) (hb : p.block ≠ b) : W'.cell? p = some v := by
  have hlt := World.block_lt_of_cell? W p hc
  have hq : W'.heap[p.block]? = W.heap[p.block]? → W'.cell? p = W.cell? p := fun h => by unfold World.cell?; rw [h]
  refine (hq ?_).trans hc
  have hg : W.heap[p.block]? = some W.heap[p.block] := Array.getElem?_eq_getElem hlt
  refine (h.2 _ _ hg ?_ ha hb).trans hg.symm
  revert hc
  unfold World.cell?
  rw [hg]
  cases W.heap[p.block] <;> simp [Obj.isCells]
theorem KpZ.row {a b : Nat} {W W' : World} (h : KpZ a b W W') {A : Option Addr} {n c : Nat} {l : List Int} (hr : RowZ W A n c l) (hA : ∀ p, A = some p → p.block ≠ a ∧ p.block ≠ b) : RowZ W' A n c l :=
  ⟨hr.len, fun hx => by
    obtain ⟨g, off, e, hc⟩ := hr.reads hx
    exact ⟨g, off, e, fun j u hj => h.cell (hc j u hj) (hA _ e).1 (hA _ e).2⟩, hr.nil, hr.room, hr.most⟩
theorem KpZ.store (a : Nat) (W : World) (i : Nat) (v : Value) : KpZ a a W (W.setCell ⟨a, i, none⟩ v) :=
  ⟨Nat.le_of_eq (by simp), fun k o hk _ ha _ => (Below.heap_setCell W ⟨a, i, none⟩ v k ha).trans hk⟩
theorem sumZ_less {l : List Int} {k : Nat} (h : k < l.length) : sumZ (l.drop k) = l[k] + sumZ (l.drop (k + 1)) := by
  rw [List.drop_eq_getElem_cons h]
  rfl
set_option maxRecDepth 100000 in
set_option maxHeartbeats 2000000 in
theorem cuSplits1_in (m : Nat) (hm : 1 ≤ m) (L a b : Nat) (l : List Int) (A : Option Addr) (n c Bs : Nat) (hs : SizZ l) (W : World) (h : RowZ W A n c l) (hA : ∀ p, A = some p → p.block ≠ a ∧ p.block ≠ b) (hB : Boxed W Bs 48 (.slice A n c)) (hBa : Bs ≠ a) (hBb : Bs ≠ b) (ha : a < W.heap.size) (hb : b < W.heap.size)
    (J : List Nat → World → Prop) (hJ : Minds W.heap.size J)
    (hY : ∀ (pre : List Nat) (x : Nat) (X : World), J pre X → (x = pre.length + 1 ∧ x < l.length) → YieldAt Fence.wide (m - 1) Try.prog L (encZ l x) X fun e Y => e = .returned (.bool true) ∧ J (pre ++ [x]) Y ∧ KpZ a b X Y)
    (h0 : J [] W) :
    CallsIn Fence.wide m Try.prog 91 #[.func (.yield L) #[] #[], .pointer (some ⟨Bs, 0, none⟩)] W fun e Y => (∃ v, e = .returned v) ∧ ∃ xs : List Nat, xs.length = l.length - 1 ∧ J xs Y := by
  have HQ := Lib.hid (cuSum_q l A n c W h hs)
  have hn := h.len
  have hnn : n ≤ 101 := by rw [hn]; exact hs.2
  have hsb := hs.sum
  have HS := Lib.hid hs
  have hcB := hB.cell
  refine callsIn_of_wp Try.func91 rfl trivial ?_ rfl
  simp only [Try.ntmps91, List.size_toArray, List.length_cons, List.length_nil, Nat.reduceAdd, Nat.reduceSub, Array.replicate_succ, Array.replicate_zero, List.push_toArray, List.append_toArray, List.nil_append, List.cons_append]
  have HJ0 := Lib.hid h0
  have HJ := Lib.hid hJ
  have HY := Lib.hid hY
  have HR := Lib.hid h
  have HAa := Lib.hid hA
  have HN := Lib.hid hn
  clear h0 hJ hY h hA hn hs
  have hc1 := (hB.alloc (.cells #[.int .i64 0, .int .i64 (sumZ l)] 114)).cell
  gi_wp2_with (refine ⟨trivial, ?_⟩; gi_at_call 82; refine (callsIn_wide.2 HQ.out).mono ?_; rintro e w1 ⟨rfl, rfl⟩)
  obtain ⟨W1, hW1⟩ : ∃ W1, W.alloc (.cells #[.int .i64 0, .int .i64 (sumZ l)] 114) = W1 := ⟨_, rfl⟩
  have b1 : Boxed W1 Bs 48 (.slice A n c) := hW1 ▸ hB.alloc _
  have p1 : Has W1 W.heap.size 114 #[.int .i64 0, .int .i64 (sumZ l)] := hW1 ▸ Has.made W 114 _
  have r1 : RowZ W1 A n c l := hW1 ▸ HR.out.below ((Below.refl _ W).alloc (Nat.le_refl _) _)
  have j1 : J [] W1 := hW1 ▸ HJ.out.new _ HJ0.out
  have s1 : W.heap.size < W1.heap.size := p1.lt
  have HAP0 : Hid (l ≠ [] → ∀ p : Addr, A = some p → p.block ≠ W.heap.size ∧ p.block ≠ W.heap.size) := Lib.hid (fun hne p e => by
    obtain ⟨g, off, e2, hc⟩ := HR.out.reads.zint14 (List.length_pos_iff.2 hne)
    have := World.block_lt_of_cell? W _ hc
    rw [e] at e2
    cases e2
    simp only at this ⊢
    omega)
  obtain ⟨Pp, hPp⟩ : ∃ Pp, W.heap.size = Pp := ⟨_, rfl⟩
  rw [hW1]
  rw [hPp] at p1 s1 HJ ha hb HAP0 ⊢
  have hBP : Bs ≠ Pp := by have := hB.lt; omega
  clear hW1 HQ hB hcB hc1 HR HJ0 hsb
  gi_loopw [11] (fun v wr => ∃ (k : Nat) (pre : List Nat), v = .int .i64 (k : Int) ∧ k ≤ n ∧ pre.length = k - 1 ∧ J pre wr ∧ Boxed wr Bs 48 (.slice A n c) ∧ RowZ wr A n c l ∧ Has wr Pp 114 #[.int .i64 (sumZ (l.take k)), .int .i64 (sumZ (l.drop k))]) (fun v _ => n - (intOf v).toNat)
  case atStart => exact ⟨0, [], rfl, Nat.zero_le _, rfl, j1, b1, r1, by simpa [sumZ] using p1⟩
  case round =>
    obtain ⟨k, pre, rfl, hk, hpre, hJk, bk, rk, pk⟩ := hrel
    by_cases hlt : k < n
    · have hkl : k < l.length := by have := HN.out; omega
      obtain ⟨g, off, rfl, ck⟩ := rk.reads.zint14 hkl
      have HAP := Lib.hid (HAP0.out (by intro e; rw [e] at hkl; exact absurd hkl (by simp)))
      clear HAP0
      have hm := HS.out.1 l[k] (List.getElem_mem hkl)
      have hf := sumZ_take HS.out k
      have hb2 := (HS.out.back k).sum
      have hf1 := sumZ_take HS.out (k + 1)
      have hb1 := (HS.out.back (k + 1)).sum
      have HM := Lib.hid (sumZ_more hkl)
      have HL := Lib.hid (sumZ_less hkl)
      have i0 : (0 : Int) ≤ (k : Int) := by omega
      have i1 : (k : Int) < (n : Int) := by omega
      have HY2 := Lib.hid (HY.out pre k wr hJk)
      unfold encZ at HY2
      obtain ⟨x, hx⟩ : ∃ x, l[k] = x := ⟨_, rfl⟩
      obtain ⟨q, hq⟩ : ∃ q, sumZ (l.take k) = q := ⟨_, rfl⟩
      obtain ⟨r, hr⟩ : ∃ r, sumZ (l.drop k) = r := ⟨_, rfl⟩
      obtain ⟨q2, hq2⟩ : ∃ q, sumZ (l.take (k + 1)) = q := ⟨_, rfl⟩
      obtain ⟨r2, hr2⟩ : ∃ r, sumZ (l.drop (k + 1)) = r := ⟨_, rfl⟩
      rw [hx] at ck hm HM HL
      rw [hq] at hf HM pk HY2
      rw [hr] at hb2 HL pk HY2
      rw [hq2] at hf1 HM
      rw [hr2] at hb1 HL
      clear hx hq hr
      have cp0 := pk.cell 0
      have cp1 := pk.cell 1
      have HPK := Lib.hid pk
      have HKL := Lib.hid hkl
      have HQ2 := Lib.hid hq2
      have HR2 := Lib.hid hr2
      have HPRE := Lib.hid hpre
      clear hq2 hr2 hpre
      have hfin : ∀ (pre2 : List Nat) (w3 : World), J pre2 w3 → Boxed w3 Bs 48 (.slice (some ⟨g, off, none⟩) n c) → RowZ w3 (some ⟨g, off, none⟩) n c l → Has w3 Pp 114 #[.int .i64 q, .int .i64 r] →
          J pre2 ((w3.setCell ⟨Pp, 0, none⟩ (.int .i64 (q + x))).setCell ⟨Pp, 1, none⟩ (.int .i64 (r - x))) ∧ Boxed ((w3.setCell ⟨Pp, 0, none⟩ (.int .i64 (q + x))).setCell ⟨Pp, 1, none⟩ (.int .i64 (r - x))) Bs 48 (.slice (some ⟨g, off, none⟩) n c) ∧ RowZ ((w3.setCell ⟨Pp, 0, none⟩ (.int .i64 (q + x))).setCell ⟨Pp, 1, none⟩ (.int .i64 (r - x))) (some ⟨g, off, none⟩) n c l ∧ Has ((w3.setCell ⟨Pp, 0, none⟩ (.int .i64 (q + x))).setCell ⟨Pp, 1, none⟩ (.int .i64 (r - x))) Pp 114 #[.int .i64 (q + x), .int .i64 (r - x)] := by
        intro pre2 w3 h1 h2 h3 h4
        have g4 : Has (w3.setCell ⟨Pp, 0, none⟩ (.int .i64 (q + x))) Pp 114 #[.int .i64 (q + x), .int .i64 r] := h4.store 0 _
        refine ⟨HJ.out.store _ _ (HJ.out.store _ _ h1 (Nat.le_refl _)) (Nat.le_refl _), ?_, ?_, g4.store 1 _⟩
        · exact (KpZ.store Pp _ 1 _).has (cs := #[.slice (some ⟨g, off, none⟩) n c]) ((KpZ.store Pp _ 0 _).has (cs := #[.slice (some ⟨g, off, none⟩) n c]) h2 hBP hBP) hBP hBP
        · exact (KpZ.store Pp _ 1 _).row ((KpZ.store Pp _ 0 _).row h3 HAP.out) HAP.out
      have HF := Lib.hid hfin
      clear hfin HAP
      by_cases hk0 : 0 < k
      · have i2 : (0 : Int) < (k : Int) := by omega
        obtain ⟨fn, tmps, assign, body, hyy, hRR⟩ := HY2.out ⟨by have := HPRE.out; omega, HKL.out⟩
        have HRR := Lib.hid hRR
        clear hRR HY2 cp0 cp1
        have cp0 := HPK.out.cell 0
        have cp1 := HPK.out.cell 1
        gi_wp2
        refine HRR.out.mono ?_
        rintro e W3 ⟨rfl, hJ3, hk3⟩
        have b3 : Boxed W3 Bs 48 (.slice (some ⟨g, off, none⟩) n c) := hk3.has (cs := #[.slice (some ⟨g, off, none⟩) n c]) bk hBa hBb
        have r3 := hk3.row rk HAa.out
        have p3 := hk3.has HPK.out (by omega) (by omega)
        obtain ⟨z1, z2, z3, z4⟩ := HF.out (pre ++ [k]) W3 hJ3 b3 r3 p3
        have d0 := p3.cell 0
        have d1 := p3.cell 1
        have f0 := p3.free 0
        have f1 := p3.free 1
        have HK3 := Lib.hid hk3
        clear hk3 cp0 cp1
        gi_wp2
        go_roundw
        case rel => exact ⟨k + 1, pre ++ [k], by go_num, by omega, by have := HPRE.out; simp [this]; omega, z1, z2, z3, by rw [HQ2.out, HR2.out, HM.out, show r2 = r - x by have := HL.out; omega]; exact z4⟩
        case measure => simp [intOf]; omega
      · have i2 : ¬ (0 : Int) < (k : Int) := by omega
        obtain ⟨z1, z2, z3, z4⟩ := HF.out pre wr hJk bk rk HPK.out
        have f0 := HPK.out.free 0
        have f1 := HPK.out.free 1
        gi_wp2
        refine ⟨fun _ _ => trivial, ?_⟩
        gi_wp2
        go_roundw
        case rel => exact ⟨k + 1, pre, by go_num, by omega, by have := HPRE.out; omega, z1, z2, z3, by rw [HQ2.out, HR2.out, HM.out, show r2 = r - x by have := HL.out; omega]; exact z4⟩
        case measure => simp [intOf]; omega
    · obtain rfl : k = n := by omega
      have i1 : ¬ (k : Int) < (k : Int) := by omega
      have HP := Lib.hid hpre
      gi_wp2
      go_end0
      exact ⟨⟨_, rfl⟩, pre, by rw [HP.out, HN.out], hJk⟩
end Go.Proofs.Ytpaklhifnndeoaa
end

section
namespace Go.Proofs.Ytpaklhifnndeoaa
open Go.RowKit Go.Shelf
set_option linter.unusedVariables false
attribute [local go_sem] Oper.semAt_some

def bestN (l : List Int) (m : Nat) : Int := if m = 0 then 0 else (bestTo l m : Int)
def leastN (l : List Int) (m : Nat) : Int := if m = 0 then 0 else worseZ l (bestTo l m)
theorem best_step (l : List Int) (m : Nat) (h : m = 0 ∨ worseZ l (m + 1) < leastN l m) : bestN l (m + 1) = ((m + 1 : Nat) : Int) ∧ leastN l (m + 1) = worseZ l (m + 1) := by
  unfold bestN leastN at *
  rw [if_neg (Nat.succ_ne_zero m), if_neg (Nat.succ_ne_zero m)]
  by_cases e : m = 0
  · subst e
    exact ⟨rfl, rfl⟩
  · rw [if_neg e] at h
    rw [bestTo_more l (by omega), if_pos (h.resolve_left e)]
    exact ⟨rfl, rfl⟩
theorem best_stay (l : List Int) (m : Nat) (h : m ≠ 0) (h2 : ¬ worseZ l (m + 1) < leastN l m) : bestN l (m + 1) = bestN l m ∧ leastN l (m + 1) = leastN l m := by
  unfold bestN leastN at *
  rw [if_neg h] at h2
  rw [if_neg (Nat.succ_ne_zero m), if_neg (Nat.succ_ne_zero m), if_neg h, if_neg h, bestTo_more l (by omega), if_neg h2]
  exact ⟨rfl, rfl⟩
theorem best_zero (l : List Int) (m : Nat) : bestN l m = 0 ↔ m = 0 := by
  unfold bestN
  by_cases e : m = 0
  · simp [e]
  · rw [if_neg e]
    have := bestTo_in l m (by omega)
    omega
theorem best_all {l : List Int} (h : ¬ sumZ l ≤ 122) : bestN l (l.length - 1) = (atZ l : Int) := by
  unfold bestN atZ
  by_cases e : l.length - 1 = 0
  · rw [if_pos e, if_pos (.inr (by omega))]
    rfl
  · rw [if_neg e, if_neg (by omega)]
theorem bestN_most {l : List Int} {m : Nat} (h : m < l.length) : 0 ≤ bestN l m ∧ bestN l m ≤ l.length := by
  unfold bestN
  split
  · omega
  · have := bestTo_in l m (by omega)
    omega
def AtI (l : List Int) (w : World) (Pb Pl : Nat) (pre : List Nat) (W : World) : Prop := Below w.heap.size w W ∧ Boxed W Pb 3 (.int .i64 (bestN l pre.length)) ∧ Boxed W Pl 3 (.int .i64 (leastN l pre.length))
theorem AtI.minds (l : List Int) (w : World) (Pb Pl B : Nat) (h0 : w.heap.size ≤ B) (h1 : Pb < B) (h2 : Pl < B) : Minds B (AtI l w Pb Pl) := by
  rintro pre X Y row ⟨b, k1, k2⟩ hg hr
  refine ⟨b.grown hg b.size (fun k e => by have := hr k e; omega), k1.kept hg (fun e => by have := hr _ e.symm; omega), k2.kept hg (fun e => by have := hr _ e.symm; omega)⟩

theorem at_turn {w W : World} {Pb Pl B : Nat} {x y u v : Value} (hB : Below w.heap.size w W) (hb : Boxed W Pb 3 x) (hl : Boxed W Pl 3 y) (h1 : w.heap.size ≤ Pb) (h2 : w.heap.size ≤ Pl) (hne : Pb ≠ Pl) :
    KeepsFrom B W ((W.setCell ⟨Pb, 0, none⟩ u).setCell ⟨Pl, 0, none⟩ v) ∧ KpZ Pb Pl W ((W.setCell ⟨Pb, 0, none⟩ u).setCell ⟨Pl, 0, none⟩ v) ∧ Below w.heap.size w ((W.setCell ⟨Pb, 0, none⟩ u).setCell ⟨Pl, 0, none⟩ v) ∧ Boxed ((W.setCell ⟨Pb, 0, none⟩ u).setCell ⟨Pl, 0, none⟩ v) Pb 3 u ∧ Boxed ((W.setCell ⟨Pb, 0, none⟩ u).setCell ⟨Pl, 0, none⟩ v) Pl 3 v :=
  ⟨((KeepsOthers.setCell _ _ _).from _).trans ((KeepsOthers.setCell _ _ _).from _),
    ⟨Nat.le_of_eq (by simp), fun k o hk _ ha hb => (Below.heap_setCell _ ⟨Pl, 0, none⟩ v k hb).trans ((Below.heap_setCell W ⟨Pb, 0, none⟩ u k ha).trans hk)⟩,
    (hB.setCell (p := ⟨Pb, 0, none⟩) h1 _).setCell (p := ⟨Pl, 0, none⟩) h2 _, (hb.set u).other hne v, (hl.other hne.symm u).set v⟩
set_option maxRecDepth 100000 in
set_option maxHeartbeats 2000000 in
theorem cuAt_any (l : List Int) (A : Option Addr) (n c : Nat) (w : World) (h : RowZ w A n c l) (hs : SizZ l) :
    Calls Try.prog 63 #[.slice A n c] w fun e w' => e = .returned (.int .i64 (atZ l)) ∧ Below w.heap.size w w' := by
  by_cases hz : sumZ l ≤ 122
  · have HS := Lib.hid (cuSum_q l A n c w h hs)
    have HZ := Lib.hid (atZ_zero (.inl hz))
    clear h hs
    generalize sumZ l = s at *
    go_enter Try.func63, Try.ntmps63
    go_wp2_with (go_at_call 82; (with_reducible refine HS.out.mono ?_); rintro e w1 ⟨rfl, rfl⟩)
    go_ret
    rw [HZ.out]
    exact ⟨rfl, Below.refl _ _⟩
  have HQ := Lib.hid (cuSum_q l A n c w h hs)
  have hne : l ≠ [] := by
    rintro rfl
    exact hz (by decide)
  have HZ := Lib.hid (best_all hz)
  obtain ⟨s, hsm⟩ : ∃ x, sumZ l = x := ⟨_, rfl⟩
  rw [hsm] at HQ hz
  clear hsm
  have HP := Lib.hid (fun w1 => cuSplits_any A n c w1)
  have HR := Lib.hid h
  have HS := Lib.hid hs
  clear h hs
  refine (callsIn_wide (n := 5)).1 ?_
  refine callsIn_of_wp_marks Try.func63 rfl trivial ?_ rfl
  simp only [Try.ntmps63, List.size_toArray, List.length_cons, List.length_nil, Nat.reduceAdd, Nat.reduceSub, Array.replicate_succ, Array.replicate_zero, List.push_toArray, List.append_toArray, List.nil_append, List.cons_append]
  gi_wp2_with (first
    | (refine ⟨trivial, ?_⟩; gi_at_call 82; refine (callsIn_wide.2 HQ.out).mono ?_; rintro e w1 ⟨rfl, rfl⟩)
    | (refine ⟨trivial, ?_⟩; gi_at_call 83; refine (callsIn_wide.2 (HP.out _)).mono ?_; rintro e w2 ⟨rfl, rfl⟩))
  obtain ⟨W5, hW5⟩ : ∃ W5, ((w.alloc (.cells #[.int .i64 0] 3)).alloc (.cells #[.int .i64 0] 3)).alloc (.cells #[.slice A n c] 48) = W5 := ⟨_, rfl⟩
  rw [hW5]
  have b5 : Below w.heap.size w W5 := hW5 ▸ ((((Below.refl _ w).alloc (Nat.le_refl _) _).alloc (by simp) _).alloc (by simp; omega) _)
  have s5 : W5.heap.size = w.heap.size + 3 := by rw [← hW5]; simp
  have xb : Boxed W5 w.heap.size 3 (.int .i64 0) := hW5 ▸ ((Boxed.new w 3 _).alloc _).alloc _
  have xl : Boxed W5 (w.heap.size + 1) 3 (.int .i64 0) := hW5 ▸ (by have := (Boxed.new (w.alloc (.cells #[.int .i64 0] 3)) 3 (.int .i64 0)).alloc (.cells #[.slice A n c] 48); simpa using this)
  have xs : Boxed W5 (w.heap.size + 1 + 1) 48 (.slice A n c) := hW5 ▸ (by have := Boxed.new ((w.alloc (.cells #[.int .i64 0] 3)).alloc (.cells #[.int .i64 0] 3)) 48 (.slice A n c); simpa using this)
  have r5 : RowZ W5 A n c l := HR.out.below b5
  have HAP : Hid (l ≠ [] → ∀ p : Addr, A = some p → p.block ≠ w.heap.size ∧ p.block ≠ w.heap.size + 1) := Lib.hid (fun hne p e => by
    obtain ⟨g, off, e2, hc⟩ := HR.out.reads.zint14 (List.length_pos_iff.2 hne)
    have := World.block_lt_of_cell? w _ hc
    rw [e] at e2
    cases e2
    simp only at this ⊢
    omega)
  have h1 : 1 ≤ 5 := by omega
  obtain ⟨Pb, hPb⟩ : ∃ Pb, w.heap.size = Pb := ⟨_, rfl⟩
  obtain ⟨Pl, hPl⟩ : ∃ Pl, w.heap.size + 1 = Pl := ⟨_, rfl⟩
  obtain ⟨Bs, hBs⟩ : ∃ Bs, w.heap.size + 1 + 1 = Bs := ⟨_, rfl⟩
  rw [hBs] at xs ⊢
  rw [hPl] at xl HAP ⊢
  rw [hPb] at xb HAP ⊢
  have k1 : Pb < W5.heap.size := xb.lt
  have k2 : Pl < W5.heap.size := xl.lt
  have k3 : Pb ≠ Pl := by omega
  have k4 : Bs ≠ Pb ∧ Bs ≠ Pl := by omega
  have HAR := Lib.hid (HAP.out hne)
  clear hW5 HQ HP HAP
  have hseq : SeqW 4 Try.prog 91 #[.pointer (some ⟨Bs, 0, none⟩)] (encZ l) (KpZ Pb Pl) (fun xs : List Nat => xs.length = l.length - 1) (fun pre x => x = pre.length + 1 ∧ x < l.length) W5 := fun L J W hW hJ hY h0 =>
    cuSplits1_in 4 (by omega) L Pb Pl l A n c Bs HS.out W (r5.below hW) HAR.out ((hW.block Bs xs.lt).trans xs) k4.1 k4.2 (Nat.lt_of_lt_of_le k1 hW.size) (Nat.lt_of_lt_of_le k2 hW.size) J hJ hY h0
  refine range_all h1 (gf := 91) (lb := #[.pointer (some ⟨Bs, 0, none⟩)]) rfl (enters_of Try.func91 (by kernel_rfl) rfl) hseq (fun h k => h.trans k) (fun W k o o' h ho => KpZ.put Pb Pl W k o o' h ho) (Below.refl _ _) (fun _ => rfl)
    (AtI l w Pb Pl) (AtI.minds l w Pb Pl W5.heap.size (by omega) k1 k2) ⟨b5, xb, xl⟩
    (fun x a' W => ∃ B6, W5.heap.size ≤ B6 ∧ Has W B6 114 #[.int .i64 (sumZ (l.take x)), .int .i64 (sumZ (l.drop x))] ∧ a' = { tmps := #[.slice A n c, undef, .int .i64 0, .pointer (some ⟨Pb, 0, none⟩), .pointer (some ⟨Pl, 0, none⟩), .int .i64 (x : Int), .pointer (some ⟨B6, 0, none⟩), undef, .slice A n c, .int .i64 s, .bool (decide (s ≤ 122)), .slice A n c, .func (.func 91) #[] #[.pointer (some ⟨Bs, 0, none⟩)], .int .i64 (x : Int), .agg #[.int .i64 (sumZ (l.take x)), .int .i64 (sumZ (l.drop x))], undef, undef, undef, undef, undef, undef, undef, undef, undef, undef, undef, undef, undef, undef, undef], defers := [] }) ?oax ?assign ?body ?done
  case oax =>
    rintro x a' _ X Y row ⟨B6, h6, hh, ha⟩ hg hr
    exact ⟨B6, h6, hh.grown hg (fun e => by
      obtain ⟨_, o, ho, hc⟩ := hr _ e.symm
      rw [show X.heap[B6]? = _ from hh] at ho
      cases ho
      cases hc), ha⟩
  case assign =>
    intro L pre x W K hI hsz hK
    unfold encZ
    gi_wp2
    refine hK _ _ ?_ ?_ ?_ ⟨W.heap.size, hsz, Has.made W 114 _, rfl⟩
    · exact (KeepsOthers.alloc W _).from _
    · exact ⟨by simp, fun k o hk _ _ _ => (Below.heap_alloc _ _ _ (Array.getElem?_eq_some_iff.1 hk).1).trans hk⟩
    · exact (AtI.minds l w Pb Pl W5.heap.size (by omega) k1 k2).new _ hI
  case body =>
    rintro L pre x a' W ⟨hB, hb, hl⟩ ⟨B6, h6, hh, rfl⟩ ⟨hx, hxl⟩
    have h3 : 1 ≤ 5 - 1 - 1 := by omega
    obtain ⟨mm, hmm⟩ : ∃ mm, pre.length = mm := ⟨_, rfl⟩
    have hlen : (pre ++ [x]).length = mm + 1 := by rw [List.length_append, hmm]; rfl
    rw [hmm] at hb hl hx
    have hx2 : x = mm + 1 := hx
    have HW : Hid (worseZ l (mm + 1) = max (sumZ (l.take x)) (sumZ (l.drop x))) := Lib.hid (hx2 ▸ worseZ_max l x)
    have q1 := sumZ_take HS.out x
    have q2 := (HS.out.back x).sum
    have hbz := best_zero l mm
    have hbm := bestN_most (l := l) (m := mm) (by omega)
    have HST := Lib.hid (best_step l mm)
    have HSY := Lib.hid (best_stay l mm)
    generalize bestN l mm = bb at *
    generalize leastN l mm = ll at *
    generalize sumZ (l.take x) = p at *
    generalize sumZ (l.drop x) = r at *
    have cb := hb.cell
    have cl := hl.cell
    have fb := hb.frozen
    have fl := hl.frozen
    have c0 := hh.cell 0
    have c1 := hh.cell 1
    have HG : Hid (mm = 0 ∨ max p r < ll → KeepsFrom W5.heap.size W ((W.setCell ⟨Pb, 0, none⟩ (.int .i64 ((mm : Int) + 1))).setCell ⟨Pl, 0, none⟩ (.int .i64 (max p r))) ∧ KpZ Pb Pl W ((W.setCell ⟨Pb, 0, none⟩ (.int .i64 ((mm : Int) + 1))).setCell ⟨Pl, 0, none⟩ (.int .i64 (max p r))) ∧ AtI l w Pb Pl (pre ++ [x]) ((W.setCell ⟨Pb, 0, none⟩ (.int .i64 ((mm : Int) + 1))).setCell ⟨Pl, 0, none⟩ (.int .i64 (max p r)))) := Lib.hid (fun hc => by
      obtain ⟨e1, e2⟩ := HST.out (by rw [HW.out]; exact hc)
      obtain ⟨g1, g2, g3, g4, g5⟩ := at_turn (B := W5.heap.size) (u := .int .i64 ((mm : Int) + 1)) (v := .int .i64 (max p r)) hB hb hl (by omega) (by omega) k3
      refine ⟨g1, g2, g3, ?_, ?_⟩
      · rw [hlen, e1]
        exact g4
      · rw [hlen, e2, HW.out]
        exact g5)
    have HS2 : Hid (mm ≠ 0 → ¬ max p r < ll → KeepsFrom W5.heap.size W W ∧ KpZ Pb Pl W W ∧ AtI l w Pb Pl (pre ++ [x]) W) := Lib.hid (fun hc h2 => by
      obtain ⟨e1, e2⟩ := HSY.out hc (by rw [HW.out]; exact h2)
      refine ⟨KeepsFrom.refl _ _, ⟨Nat.le_refl _, fun _ _ h _ _ _ => h⟩, hB, ?_, ?_⟩
      · rw [hlen, e1]
        exact hb
      · rw [hlen, e2]
        exact hl)
    have HX2 := Lib.hid hx2
    have HS5 := Lib.hid s5
    clear HST HSY HW s5 hx2 hbm
    by_cases hm0 : mm = 0
    · have hb0 : bb = 0 := hbz.2 hm0
      subst hb0
      have hG := HG.out (.inl hm0)
      clear hbz
      obtain ⟨xi, hxi⟩ : ∃ xi : Int, (x : Int) = xi := ⟨_, rfl⟩
      have hxi2 : xi = (mm : Int) + 1 := by have := HX2.out; omega
      rw [← hxi2] at hG
      have HGG := Lib.hid hG
      clear hG hm0 hx hxi2
      rw [hxi]
      gi_wp2
      exact HGG.out
    · have hb0 : ¬ bb = 0 := fun e => hm0 (hbz.1 e)
      clear hbz
      by_cases hlt : max p r < ll
      · have hG := HG.out (.inr hlt)
        obtain ⟨xi, hxi⟩ : ∃ xi : Int, (x : Int) = xi := ⟨_, rfl⟩
        have hxi2 : xi = (mm : Int) + 1 := by have := HX2.out; omega
        rw [← hxi2] at hG
        have HGG := Lib.hid hG
        clear hG hm0 hx hxi2
        rw [hxi]
        gi_wp2
        exact HGG.out
      · have HGG := Lib.hid (HS2.out hm0 hlt)
        clear hm0 hx
        gi_wp2
        exact HGG.out
  case done =>
    rintro D xs W hD hxs ⟨hB, hb, hl⟩ hK
    rw [hxs, HZ.out] at hb
    have cR := hb.cell
    gi_wp2
    refine ⟨by simp, .inl ⟨_, _, rfl, run_takeDeferred hK, ?_⟩⟩
    exact ⟨_, results_tmp rfl _ _ _, rfl, hB.trans (belowK_b (w := w) (Nat.le_refl _) W D _ _ (by omega) hK rfl rfl)⟩
end Go.Proofs.Ytpaklhifnndeoaa
end
