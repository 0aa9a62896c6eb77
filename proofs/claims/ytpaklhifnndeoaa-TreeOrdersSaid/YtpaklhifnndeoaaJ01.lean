import Derived.Test.YtpaklhifnndeoaaJ00
import Derived.Deep.Slices
import Derived.SliceStrings
import Derived.ProofKit
import Derived.OpenShut
import Derived.ShutString
import Derived.ChangeOld
/- Of a claim's texts, joined: Trv Tpg Arg15 Tph. No statement but in the last. -/
section
namespace Go.Proofs.Ytpaklhifnndeoaa
open Go.RowKit
set_option linter.unusedVariables false

/-! Rows whose elements take s cells, in blocks that meet F. -/
structure RwF (F : Nat → Prop) (w : World) (A : Option Addr) (n c s : Nat) (xs : List Value) : Prop where
  len : xs.length = n * s
  room : n ≤ c
  most : c ≤ maxLen
  nil : A = none → c = 0
  reads : 0 < xs.length → ∃ g off, A = some ⟨g, off, none⟩ ∧ F g ∧ ∀ j u, xs[j]? = some u → w.cell? ⟨g, off + j, none⟩ = some u
section
variable {F G : Nat → Prop} {w w' : World} {A : Option Addr} {n c s : Nat} {xs : List Value}
theorem cell_same {p : Addr} (h : w'.heap[p.block]? = w.heap[p.block]?) : w'.cell? p = w.cell? p := by unfold World.cell?; rw [h]
theorem RwF.move (h : RwF F w A n c s xs) (hm : ∀ g, F g → g < w.heap.size → G g ∧ w'.heap[g]? = w.heap[g]?) : RwF G w' A n c s xs :=
  ⟨h.len, h.room, h.most, h.nil, fun hx => by
    obtain ⟨g, off, hA, hg, hr⟩ := h.reads hx
    have hlt : g < w.heap.size := World.block_lt_of_cell? w _ (hr 0 xs[0] (List.getElem?_eq_getElem hx))
    obtain ⟨h1, h2⟩ := hm g hg hlt
    exact ⟨g, off, hA, h1, fun j u hj => (cell_same (p := ⟨g, off + j, none⟩) h2).trans (hr j u hj)⟩⟩
theorem RwF.below (h : RwF F w A n c s xs) (hb : Below w.heap.size w w') : RwF F w' A n c s xs := h.move fun g hg hl => ⟨hg, hb.block g hl⟩
theorem RwF.old (h : RwF F w A n c s xs) : RwF (fun g => F g ∧ g < w.heap.size) w A n c s xs := h.move fun g hg hl => ⟨⟨hg, hl⟩, rfl⟩
theorem RwF.mono (h : RwF F w A n c s xs) (hm : ∀ g, F g → G g) : RwF G w A n c s xs := h.move fun g hg hl => ⟨hm g hg, rfl⟩
theorem RwF.none_ (F : Nat → Prop) (w : World) (s : Nat) : RwF F w none 0 0 s [] := ⟨by simp, Nat.le_refl _, Nat.zero_le _, fun _ => rfl, fun h => absurd h (by simp)⟩
theorem RwF.front (h : RwF F w A n c s xs) {k : Nat} (hk : k ≤ n) : RwF F w A k c s (xs.take (k * s)) := by
  have h1 := Nat.mul_le_mul_right s hk
  refine ⟨by rw [List.length_take, h.len]; omega, by have := h.room; omega, h.most, h.nil, fun hx => ?_⟩
  rw [List.length_take] at hx
  obtain ⟨g, off, hA, hg, hr⟩ := h.reads (by omega)
  refine ⟨g, off, hA, hg, fun j u hj => hr j u ?_⟩
  rw [List.getElem?_take] at hj
  split at hj
  · exact hj
  · cases hj
theorem RwF.back (h : RwF F w A n c s xs) {k : Nat} (hk : k ≤ n) : RwF F w (if c = k then A else A.map (·.add (k * s))) (n - k) (c - k) s (xs.drop (k * s)) := by
  have h1 := Nat.mul_le_mul_right s hk
  have hc := h.room
  refine ⟨by rw [List.length_drop, h.len, Nat.sub_mul], by omega, by have := h.most; omega, fun e => ?_, fun hx => ?_⟩
  · rcases A with _ | a
    · have := h.nil rfl
      omega
    · split at e <;> cases e
  · rw [List.length_drop, h.len] at hx
    have hkn : k < n := by
      rcases Nat.lt_or_ge k n with e | e
      · exact e
      · have : k = n := by omega
        subst this
        omega
    rw [if_neg (by omega)]
    obtain ⟨g, off, hA, hg, hr⟩ := h.reads (by rw [h.len]; omega)
    subst hA
    refine ⟨g, off + k * s, by simp [add_plain], hg, fun j u hj => ?_⟩
    have := hr (k * s + j) u (by rw [← hj, List.getElem?_drop])
    rw [← Nat.add_assoc] at this
    exact this
theorem RwF.own {B : Nat} {e : TypeId} {v : Value} (h : w.ownsRow B e s v n xs) : ∃ A c, v = .slice A n c ∧ RwF (fun g => B ≤ g) w A n c s xs := by
  rcases h.2 with ⟨rfl, rfl⟩ | ⟨g, cap, cur, rfl, hb, hc, h1, h2, h3, h4⟩
  · have : xs = [] := List.length_eq_zero_iff.1 (by rw [h.1]; simp)
    subst this
    exact ⟨none, 0, rfl, RwF.none_ _ _ _⟩
  · refine ⟨_, cap, rfl, h.1, h1, h2, fun e => (by cases e), fun hx => ⟨g, 0, rfl, hb, fun j u hj => ?_⟩⟩
    rw [← h4, List.getElem?_take] at hj
    split at hj
    · have e : w.cell? ⟨g, 0 + j, none⟩ = cur[0 + j]? := cell_of_row w g (0 + j) cur e (0, 0) hc
      rw [e, Nat.zero_add]
      simpa using hj
    · cases hj
theorem RwF.made (F : Nat → Prop) (w : World) (t : TypeId) (xs : List Value) (n s : Nat) (hl : xs.length = n * s) (hn : n ≤ maxLen) (hF : F w.heap.size) : RwF F (w.alloc (.cells xs.toArray t)) (some ⟨w.heap.size, 0, none⟩) n n s xs :=
  ⟨hl, Nat.le_refl _, hn, fun e => (by cases e), fun hx => ⟨w.heap.size, 0, rfl, hF, fun j u hj => by
    rw [(Has.made w t xs.toArray).cell]
    simpa using hj⟩⟩
theorem RwF.cell (h : RwF F w A n c s xs) {i : Nat} (hi : i < n) (hs : 0 < s) : ∃ g off, A = some ⟨g, off, none⟩ ∧ F g ∧ ∀ r u, xs[i * s + r]? = some u → w.cell? ⟨g, off + i * s + r, none⟩ = some u := by
  have h1 : i * s < n * s := Nat.mul_lt_mul_of_pos_right hi hs
  obtain ⟨g, off, hA, hg, hr⟩ := h.reads (by rw [h.len]; omega)
  exact ⟨g, off, hA, hg, fun r u hu => by have := hr _ u hu; rw [← Nat.add_assoc] at this; exact this⟩
end

/-! Cells of a node, one by one and in a row. -/
structure CE where
  k : List UInt8
  d : List UInt8
  pa : Option Addr
  pn : Nat
  pc : Nat
  ka : Option Addr
  kn : Nat
  kc : Nat
deriving Inhabited
structure NV where
  p : Int
  lf : Bool
  A : Option Addr
  n : Nat
  c : Nat
deriving Inhabited
def nvL (v : NV) : List Value := [.int .i64 v.p, .bool v.lf, .slice v.A v.n v.c]
def nvV (v : NV) : Value := .agg #[.int .i64 v.p, .bool v.lf, .slice v.A v.n v.c]
def ceV (e : CE) : List Value := [.string ⟨e.k.toArray⟩, .string ⟨e.d.toArray⟩, .slice e.pa e.pn e.pc, .slice e.ka e.kn e.kc]
def flatC (l : List CE) : List Value := l.flatMap ceV
theorem flatC_cons (e : CE) (l : List CE) : flatC (e :: l) = ceV e ++ flatC l := by unfold flatC; rw [List.flatMap_cons]
theorem flatC_app (a b : List CE) : flatC (a ++ b) = flatC a ++ flatC b := by unfold flatC; rw [List.flatMap_append]
theorem flatC_len (l : List CE) : (flatC l).length = l.length * 4 := by
  induction l with
  | nil => rfl
  | cons e l ih => rw [flatC_cons, List.length_append, ih, List.length_cons]; show 4 + l.length * 4 = (l.length + 1) * 4; omega
theorem flatC_at {l : List CE} {i : Nat} {e : CE} (h : l[i]? = some e) {r : Nat} (hr : r < 4) : (flatC l)[i * 4 + r]? = (ceV e)[r]? := by
  have hi := (List.getElem?_eq_some_iff.1 h).1
  have h1 : l = l.take i ++ e :: l.drop (i + 1) := by
    have h2 := (List.getElem?_eq_some_iff.1 h).2
    rw [← h2, ← List.drop_eq_getElem_cons hi, List.take_append_drop]
  rw [h1, flatC_app, flatC_cons, List.getElem?_append_right (by rw [flatC_len, List.length_take]; omega), flatC_len, List.length_take, Nat.min_eq_left (by omega), show i * 4 + r - i * 4 = r by omega, List.getElem?_append_left (by show r < 4; exact hr)]
theorem RwF.at4 {F : Nat → Prop} {w : World} {A : Option Addr} {n c : Nat} {es : List CE} (h : RwF F w A n c 4 (flatC es)) {i : Nat} {e : CE} (hi : es[i]? = some e) :
    ∃ g off, A = some ⟨g, off, none⟩ ∧ F g ∧ w.cell? ⟨g, off + i * 4, none⟩ = some (.string ⟨e.k.toArray⟩) ∧ w.cell? ⟨g, off + i * 4 + 1, none⟩ = some (.string ⟨e.d.toArray⟩) ∧ w.cell? ⟨g, off + i * 4 + 2, none⟩ = some (.slice e.pa e.pn e.pc) ∧ w.cell? ⟨g, off + i * 4 + 3, none⟩ = some (.slice e.ka e.kn e.kc) := by
  have hl := h.len
  rw [flatC_len] at hl
  have h2 := (List.getElem?_eq_some_iff.1 hi).1
  obtain ⟨g, off, hA, hg, hr⟩ := h.cell (i := i) (by omega) (by omega)
  exact ⟨g, off, hA, hg, hr 0 _ ((flatC_at hi (r := 0) (by omega)).trans rfl), hr 1 _ ((flatC_at hi (r := 1) (by omega)).trans rfl), hr 2 _ ((flatC_at hi (r := 2) (by omega)).trans rfl), hr 3 _ ((flatC_at hi (r := 3) (by omega)).trans rfl)⟩
theorem RwF.len4 {F : Nat → Prop} {w : World} {A : Option Addr} {n c : Nat} {es : List CE} (h : RwF F w A n c 4 (flatC es)) : n = es.length := by
  have hl := h.len
  rw [flatC_len] at hl
  omega

/-! Two rows of one length whose members stand for one another. -/
def Both {α β : Type} (R : α → β → Prop) (a : List α) (b : List β) : Prop := a.length = b.length ∧ ∀ (i : Nat) (x : α) (y : β), a[i]? = some x → b[i]? = some y → R x y
section
variable {α β : Type} {R R' : α → β → Prop} {a a' : List α} {b b' : List β}
theorem Both.nil : Both R ([] : List α) ([] : List β) := ⟨rfl, fun i x y h => by simp at h⟩
theorem Both.one {x : α} {y : β} (h : R x y) : Both R [x] [y] := ⟨rfl, fun i u v h1 h2 => by
  cases i with
  | zero => simp at h1 h2; subst h1 h2; exact h
  | succ i => simp at h1⟩
theorem Both.mono (h : Both R a b) (hm : ∀ x y, x ∈ a → y ∈ b → R x y → R' x y) : Both R' a b := ⟨h.1, fun i x y h1 h2 => hm x y (List.mem_of_getElem? h1) (List.mem_of_getElem? h2) (h.2 i x y h1 h2)⟩
theorem Both.app (h : Both R a b) (h' : Both R a' b') : Both R (a ++ a') (b ++ b') := by
  refine ⟨by rw [List.length_append, List.length_append, h.1, h'.1], fun i x y h1 h2 => ?_⟩
  have hl := h.1
  by_cases hi : i < a.length
  · rw [List.getElem?_append_left hi] at h1
    rw [List.getElem?_append_left (by omega)] at h2
    exact h.2 i x y h1 h2
  · rw [List.getElem?_append_right (by omega)] at h1
    rw [List.getElem?_append_right (by omega), ← hl] at h2
    exact h'.2 _ x y h1 h2
theorem Both.take (h : Both R a b) (k : Nat) : Both R (a.take k) (b.take k) := by
  refine ⟨by rw [List.length_take, List.length_take, h.1], fun i x y h1 h2 => ?_⟩
  rw [List.getElem?_take] at h1 h2
  split at h1
  · rename_i hk
    rw [if_pos hk] at h2
    exact h.2 i x y h1 h2
  · cases h1
theorem Both.drop (h : Both R a b) (k : Nat) : Both R (a.drop k) (b.drop k) := by
  refine ⟨by rw [List.length_drop, List.length_drop, h.1], fun i x y h1 h2 => ?_⟩
  rw [List.getElem?_drop] at h1 h2
  exact h.2 _ x y h1 h2
theorem Both.at_ (h : Both R a b) {i : Nat} {y : β} (hy : b[i]? = some y) : ∃ x, a[i]? = some x ∧ R x y := by
  have hi := (List.getElem?_eq_some_iff.1 hy).1
  have h2 : a[i]? = some (a[i]'(by rw [h.1]; exact hi)) := List.getElem?_eq_getElem _
  exact ⟨_, h2, h.2 i _ y h2 hy⟩
theorem Both.cons {x : α} {y : β} (h : R x y) (h' : Both R a b) : Both R (x :: a) (y :: b) := Both.app (Both.one h) h'
end

/-! A tree in memory: all of its blocks meet F. -/
def CellL (F : Nat → Prop) (w : World) (e : CE) (x : Lf) : Prop := (e.k = x.k ∧ e.d = x.d) ∧ RwF F w e.pa e.pn e.pc 1 (x.pg.map (Value.int .i64)) ∧ e.ka = none ∧ e.kn = 0 ∧ e.kc = 0
def CellB (F : Nat → Prop) (w : World) (e : CE) (key : List UInt8) (v : NV) : Prop := (e.k = key ∧ e.d = [] ∧ e.pa = none ∧ e.pn = 0 ∧ e.pc = 0) ∧ e.kn = 1 ∧ RwF F w e.ka 1 e.kc 3 (nvL v)
inductive RepN (F : Nat → Prop) (w : World) : NV → Tr → Prop where
  | leaf (p : Int) (l : List Lf) (A : Option Addr) (n c : Nat) (es : List CE) (hr : RwF F w A n c 4 (flatC es)) (hl : es.length = l.length) (h : ∀ (i : Nat) (e : CE) x, es[i]? = some e → l[i]? = some x → CellL F w e x) : RepN F w ⟨p, true, A, n, c⟩ (.leaf p l)
  | branch (p : Int) (l : List (List UInt8 × Tr)) (A : Option Addr) (n c : Nat) (es : List CE) (kv : Nat → NV) (hr : RwF F w A n c 4 (flatC es)) (hl : es.length = l.length) (h : ∀ (i : Nat) (e : CE) x, es[i]? = some e → l[i]? = some x → CellB F w e x.1 (kv i)) (hk : ∀ (i : Nat) (x : List UInt8 × Tr), l[i]? = some x → RepN F w (kv i) x.2) : RepN F w ⟨p, false, A, n, c⟩ (.branch p l)
def CellT (F : Nat → Prop) (w : World) (e : CE) (x : List UInt8 × Tr) : Prop := ∃ v, CellB F w e x.1 v ∧ RepN F w v x.2
section
variable {F G : Nat → Prop} {w w' : World}
theorem repN_leaf {v : NV} {p : Int} {l : List Lf} : RepN F w v (.leaf p l) ↔ v.p = p ∧ v.lf = true ∧ ∃ es, RwF F w v.A v.n v.c 4 (flatC es) ∧ Both (CellL F w) es l := by
  constructor
  · rintro (⟨p, l, A, n, c, es, hr, hl, h⟩)
    exact ⟨rfl, rfl, es, hr, hl, h⟩
  · obtain ⟨p', lf, A, n, c⟩ := v
    rintro ⟨rfl, rfl, es, hr, hl, h⟩
    exact .leaf _ l A n c es hr hl h
theorem repN_branch {v : NV} {p : Int} {l : List (List UInt8 × Tr)} : RepN F w v (.branch p l) ↔ v.p = p ∧ v.lf = false ∧ ∃ es, RwF F w v.A v.n v.c 4 (flatC es) ∧ Both (CellT F w) es l := by
  constructor
  · intro hh
    cases hh with
    | branch p l A n c es kv hr hl h hk => exact ⟨rfl, rfl, es, hr, hl, fun i e x h1 h2 => ⟨kv i, h i e x h1 h2, hk i x h2⟩⟩
  · obtain ⟨p', lf, A, n, c⟩ := v
    rintro ⟨rfl, rfl, es, hr, hl, h⟩
    have hx : ∀ i : Nat, ∃ v : NV, ∀ (e : CE) (x : List UInt8 × Tr), es[i]? = some e → l[i]? = some x → CellB F w e x.1 v ∧ RepN F w v x.2 := fun i => by
      rcases h1 : es[i]? with _ | e
      · exact ⟨default, fun e x h2 => by cases h2⟩
      · rcases h2 : l[i]? with _ | x
        · exact ⟨default, fun e x h3 h4 => by cases h4⟩
        · obtain ⟨v, hv1, hv2⟩ := h i e x h1 h2
          exact ⟨v, fun e' x' h3 h4 => by cases h3; cases h4; exact ⟨hv1, hv2⟩⟩
    obtain ⟨kv, hkv⟩ := Classical.axiomOfChoice hx
    refine .branch _ l A n c es kv hr hl (fun i e x h1 h2 => (hkv i e x h1 h2).1) (fun i x h2 => ?_)
    have hi := (List.getElem?_eq_some_iff.1 h2).1
    exact (hkv i _ x (List.getElem?_eq_getElem (by rw [hl]; exact hi)) h2).2
theorem CellL.move {e : CE} {x : Lf} (h : CellL F w e x) (hm : ∀ g, F g → g < w.heap.size → G g ∧ w'.heap[g]? = w.heap[g]?) : CellL G w' e x := ⟨h.1, h.2.1.move hm, h.2.2⟩
theorem CellB.move {e : CE} {k : List UInt8} {v : NV} (h : CellB F w e k v) (hm : ∀ g, F g → g < w.heap.size → G g ∧ w'.heap[g]? = w.heap[g]?) : CellB G w' e k v := ⟨h.1, h.2.1, h.2.2.move hm⟩
theorem RepN.move (hm : ∀ g, F g → g < w.heap.size → G g ∧ w'.heap[g]? = w.heap[g]?) : ∀ {t : Tr} {v : NV}, RepN F w v t → RepN G w' v t := by
  intro t
  induction t using Tr.ind with
  | hl p l =>
    intro v h
    obtain ⟨h1, h2, es, hr, hb⟩ := repN_leaf.1 h
    exact repN_leaf.2 ⟨h1, h2, es, hr.move hm, hb.mono fun x y _ _ h => h.move hm⟩
  | hb p l ih =>
    intro v h
    obtain ⟨h1, h2, es, hr, hb⟩ := repN_branch.1 h
    exact repN_branch.2 ⟨h1, h2, es, hr.move hm, hb.mono fun x y _ hy h => by
      obtain ⟨v, h1, h2⟩ := h
      exact ⟨v, h1.move hm, ih y hy h2⟩⟩
theorem RepN.stay {v : NV} {t : Tr} (h : RepN F w v t) (hb : Below w.heap.size w w') : RepN F w' v t := RepN.move (fun g hg hl => ⟨hg, hb.block g hl⟩) h
theorem RepN.mono {v : NV} {t : Tr} (h : RepN F w v t) (hm : ∀ g, F g → G g) : RepN G w v t := RepN.move (fun g hg hl => ⟨hm g hg, rfl⟩) h
theorem RepN.old {v : NV} {t : Tr} (h : RepN F w v t) : RepN (fun g => F g ∧ g < w.heap.size) w v t := RepN.move (fun g hg hl => ⟨⟨hg, hl⟩, rfl⟩) h
theorem CellT.move {e : CE} {x : List UInt8 × Tr} (h : CellT F w e x) (hm : ∀ g, F g → g < w.heap.size → G g ∧ w'.heap[g]? = w.heap[g]?) : CellT G w' e x := by
  obtain ⟨v, h1, h2⟩ := h
  exact ⟨v, h1.move hm, RepN.move hm h2⟩
end
def cellsR (F : Nat → Prop) (w : World) (es : List CE) : Tr → Prop
  | .leaf _ l => Both (CellL F w) es l
  | .branch _ l => Both (CellT F w) es l
def pageT : Tr → Int
  | .leaf p _ => p
  | .branch p _ => p
theorem repN_iff {F : Nat → Prop} {w : World} {v : NV} {t : Tr} : RepN F w v t ↔ v.p = pageT t ∧ v.lf = kindT t ∧ ∃ es, RwF F w v.A v.n v.c 4 (flatC es) ∧ cellsR F w es t := by
  cases t with
  | leaf p l => exact repN_leaf
  | branch p l => exact repN_branch
theorem cellsR.move {F G : Nat → Prop} {w w' : World} {es : List CE} {t : Tr} (h : cellsR F w es t) (hm : ∀ g, F g → g < w.heap.size → G g ∧ w'.heap[g]? = w.heap[g]?) : cellsR G w' es t := by
  cases t with
  | leaf p l => exact Both.mono h fun x y _ _ h => h.move hm
  | branch p l => exact Both.mono h fun x y _ _ h => h.move hm
end Go.Proofs.Ytpaklhifnndeoaa
end

section
namespace Go.Proofs.Ytpaklhifnndeoaa
open Go.RowKit
set_option linter.unusedVariables false

structure PA where
  k : List UInt8
  b : UInt8
  z : Int
deriving Inhabited
def paL (x : PA) : List Value := [.string ⟨x.k.toArray⟩, byteV x.b, .int .i64 x.z]
def paV (x : PA) : Value := .agg #[.string ⟨x.k.toArray⟩, byteV x.b, .int .i64 x.z]
def valP (x : PA) : List UInt8 := List.replicate x.z.toNat x.b
def okP15 (x : PA) : Bool := x.k != [] && decide (x.k.length ≤ 16) && decide (0 ≤ x.z) && decide (x.z ≤ 400)
def smallP (l : List PA) : Bool := l.all okP15 && decide (l.length ≤ 80)
theorem make_bytes15 (n : Nat) (hn : n ≤ 1000000) (w : World) : (Instr.makeSlice 54 (.int .i64 n) (.int .i64 n)).run Try.prog w = .ok (.slice (some ⟨w.heap.size, 0, none⟩) n n) (w.alloc (.cells (madeCells #[.int .u8 0] n) 5)) := by
  obtain ⟨i0, hi, hz0, hz1, hz2⟩ := info_parts u8info
  have := run_make (P := Try.prog) (w := w) 54 5 i0 (.int .u8 0) Try.underlying54 hi hz0 .i64 .i64 n n (by omega) (by omega) (by rw [hz2]; omega) (by omega)
  simp only [Int.toNat_natCast, hz1, Nat.mul_one] at this
  exact this
def halfE (n k : Nat) (f : UInt8) : List UInt8 := List.replicate k f ++ List.replicate (n - k) 0
theorem halfE_zero (n : Nat) (f : UInt8) : ((halfE n 0 f).map byteV).toArray = madeCells #[.int .u8 0] n := by
  apply Array.ext'
  rw [toList_madeCells_one]
  simp [halfE, byteV]
theorem halfE_step {n k : Nat} (f : UInt8) (hk : k < n) : ((halfE n k f).map byteV).toArray.setIfInBounds k (byteV f) = ((halfE n (k + 1) f).map byteV).toArray := by
  apply Array.ext_getElem?
  intro i
  rw [Array.getElem?_setIfInBounds]
  simp only [halfE, List.map_append, List.map_replicate, List.getElem?_toArray, List.size_toArray, List.length_append, List.length_replicate]
  by_cases e : k = i
  · subst e
    rw [if_pos rfl, if_pos (by omega), List.getElem?_append_left (by simp)]
    simp
  · rw [if_neg e]
    by_cases h : i < k
    · rw [List.getElem?_append_left (by simpa using h), List.getElem?_append_left (by simp; omega)]
      simp only [List.getElem?_replicate]
      rw [if_pos h, if_pos (by omega)]
    · rw [List.getElem?_append_right (by simp; omega), List.getElem?_append_right (by simp; omega)]
      simp only [List.getElem?_replicate, List.length_replicate]
      by_cases h2 : i < n
      · rw [if_pos (by omega), if_pos (by omega)]
      · rw [if_neg (by omega), if_neg (by omega)]
theorem halfE_all (n : Nat) (f : UInt8) : halfE n n f = List.replicate n f := by simp [halfE]
set_option maxRecDepth 100000 in
set_option maxHeartbeats 1000000 in
theorem value15_any (x : PA) (hz : 0 ≤ x.z ∧ x.z ≤ 400) (w : World) : Calls Try.prog 18 #[paV x] w fun e w' => e = .returned (.string ⟨(valP x).toArray⟩) ∧ Below w.heap.size w w' := by
  obtain ⟨ky, f, z⟩ := x
  obtain ⟨n, rfl⟩ : ∃ n : Nat, z = (n : Int) := ⟨z.toNat, by simp only at hz; omega⟩
  have hnb : n ≤ 400 := by simp only at hz; omega
  have HP : Hid (valP ⟨ky, f, n⟩ = List.replicate n f) := Lib.hid (by unfold valP; rw [Int.toNat_natCast])
  unfold paV
  simp only
  generalize (⟨ky.toArray⟩ : ByteArray) = sk
  obtain ⟨W1, hW1⟩ : ∃ W1, w.alloc (.cells #[.string sk, byteV f, .int .i64 (n : Int)] 37) = W1 := ⟨_, rfl⟩
  have b1 : Has W1 w.heap.size 37 #[.string sk, byteV f, .int .i64 (n : Int)] := hW1 ▸ Has.made w 37 _
  have HBe := Lib.hid (show Below w.heap.size w W1 from hW1 ▸ (Below.refl _ w).alloc (Nat.le_refl _) _)
  have hmk := make_bytes15 n (by omega) W1
  obtain ⟨W2, hW2⟩ : ∃ W2, W1.alloc (.cells (madeCells #[.int .u8 0] n) 5) = W2 := ⟨_, rfl⟩
  rw [hW2] at hmk
  have B12 : Below W1.heap.size W1 W2 := hW2 ▸ (Below.refl _ W1).alloc (Nat.le_refl _) _
  have H2 : Hid (Has W2 W1.heap.size 5 ((halfE n 0 f).map byteV).toArray) := Lib.hid (by rw [halfE_zero]; exact hW2 ▸ Has.made W1 5 _)
  have BX2 := Lib.hid (b1.below B12 b1.lt)
  have BE2 := Lib.hid (below_step HBe.out B12)
  have HS1 := Lib.hid b1.lt
  have x2 := b1.cell 2
  clear B12 hW2 hz
  clear b1
  go_enter Try.func18, Try.ntmps18
  go_wp2
  clear hW1
  go_loopw [4] (fun i wr => ∃ k : Nat, k ≤ n ∧ i = .int .i64 (k : Int) ∧ Has wr W1.heap.size 5 ((halfE n k f).map byteV).toArray ∧ Has wr w.heap.size 37 #[.string sk, byteV f, .int .i64 (n : Int)] ∧ Below w.heap.size w wr) (fun i _ => n - (intOf i).toNat)
  case atStart => exact ⟨0, Nat.zero_le _, rfl, H2.out, BX2.out, BE2.out⟩
  case round =>
    obtain ⟨k, hk, rfl, h3, h4, h5⟩ := hrel
    have d1 := h4.cell 1
    have d2 := h4.cell 2
    simp only [List.getElem?_toArray, List.getElem?_cons_succ, List.getElem?_cons_zero] at d1 d2
    by_cases hlt : k < n
    · have i0 : (0 : Int) ≤ (k : Int) := by omega
      have i1 : (k : Int) < (n : Int) := by omega
      have ck : ∃ u, wr.cell? ⟨W1.heap.size, k, none⟩ = some u := by
        rw [h3.cell]
        exact ⟨_, Array.getElem?_eq_getElem (by simp [halfE]; omega)⟩
      obtain ⟨u, ck⟩ := ck
      have fk := h3.free k
      have S3 := Lib.hid (h3.store k (byteV f))
      rw [halfE_step f hlt] at S3
      have hne : w.heap.size ≠ W1.heap.size := by have := HS1.out; omega
      have S4 := Lib.hid (h4.away (p := ⟨W1.heap.size, k, none⟩) hne (byteV f))
      have S5 : Hid (Below w.heap.size w (wr.setCell ⟨W1.heap.size, k, none⟩ (byteV f))) := Lib.hid (h5.setCell (p := ⟨W1.heap.size, k, none⟩) (by show w.heap.size ≤ W1.heap.size; have := HS1.out; omega) (byteV f))
      clear h3 h4 h5
      unfold byteV at d1 S3 S4 S5
      go_wp2
      go_roundw
      case rel => exact ⟨k + 1, by omega, by go_num, S3.out, S4.out, S5.out⟩
      case measure => simp [intOf]; omega
    · have hkn : k = n := by omega
      have i1 : ¬ (k : Int) < (n : Int) := by omega
      have hcv := run_string_of (P := Try.prog) wr 54 9 5 Try.underlying54 Try.underlying5 Try.underlying9 (A := some ⟨W1.heap.size, 0, none⟩) (n := n) (cap := n) (l := List.replicate n f) (by simp) (fun _ => ⟨W1.heap.size, 0, rfl, fun j u hj => by
        rw [h3.cell, Nat.zero_add]
        rw [hkn, halfE_all]
        rw [← hj, List.getElem?_toArray]⟩)
      have H5 := Lib.hid h5
      clear h3 h4 h5 hkn
      go_wp2
      go_ret
      rw [HP.out]
      exact ⟨rfl, H5.out⟩
structure RowP (w : World) (A : Option Addr) (n c : Nat) (l : List PA) : Prop where
  len : n = l.length
  reads : Reads w A (l.flatMap paL)
  room : n ≤ c
  most : c ≤ maxLen
theorem RowP.below {w w' : World} {A : Option Addr} {n c : Nat} {l : List PA} (h : RowP w A n c l) (hb : Below w.heap.size w w') : RowP w' A n c l := ⟨h.len, h.reads.keep_ hb, h.room, h.most⟩
theorem flatP_len (l : List PA) : (l.flatMap paL).length = l.length * 3 := by
  induction l with
  | nil => rfl
  | cons e l ih => rw [List.flatMap_cons, List.length_append, ih, List.length_cons]; show 3 + l.length * 3 = (l.length + 1) * 3; omega
theorem flatP_at {l : List PA} {i : Nat} {e : PA} (h : l[i]? = some e) {r : Nat} (hr : r < 3) : (l.flatMap paL)[i * 3 + r]? = (paL e)[r]? := by
  have hi := (List.getElem?_eq_some_iff.1 h).1
  have h1 : l = l.take i ++ e :: l.drop (i + 1) := by
    have h2 := (List.getElem?_eq_some_iff.1 h).2
    rw [← h2, ← List.drop_eq_getElem_cons hi, List.take_append_drop]
  rw [h1, List.flatMap_append, List.flatMap_cons, List.getElem?_append_right (by rw [flatP_len, List.length_take]; omega), flatP_len, List.length_take, Nat.min_eq_left (by omega), show i * 3 + r - i * 3 = r by omega, List.getElem?_append_left (by show r < 3; exact hr)]
theorem RowP.at3 {w : World} {A : Option Addr} {n c : Nat} {l : List PA} (h : RowP w A n c l) {i : Nat} {e : PA} (hi : l[i]? = some e) :
    ∃ g off, A = some ⟨g, off, none⟩ ∧ w.cell? ⟨g, off + i * 3, none⟩ = some (.string ⟨e.k.toArray⟩) ∧ w.cell? ⟨g, off + i * 3 + 1, none⟩ = some (byteV e.b) ∧ w.cell? ⟨g, off + i * 3 + 2, none⟩ = some (.int .i64 e.z) := by
  have h2 := (List.getElem?_eq_some_iff.1 hi).1
  obtain ⟨g, off, hA, hr⟩ := h.reads (by rw [flatP_len]; omega)
  have f : ∀ r u, r < 3 → (paL e)[r]? = some u → w.cell? ⟨g, off + i * 3 + r, none⟩ = some u := fun r u hr3 hu => by
    have := hr (i * 3 + r) u (by rw [flatP_at hi hr3]; exact hu)
    rw [← Nat.add_assoc] at this
    exact this
  exact ⟨g, off, hA, f 0 _ (by omega) rfl, f 1 _ (by omega) rfl, f 2 _ (by omega) rfl⟩
set_option maxRecDepth 100000 in
set_option maxHeartbeats 1000000 in
theorem small15_any (l : List PA) (A : Option Addr) (n c : Nat) (w : World) (h : RowP w A n c l) : Calls Try.prog 14 #[.slice A n c] w fun e w' => e = .returned (.bool (smallP l)) ∧ w = w' := by
  have hnm : n ≤ 9223372036854775807 := by have h1 := h.room; have h2 := h.most; unfold maxLen at h2; omega
  have HR := Lib.hid h
  have HN := Lib.hid h.len
  clear h
  go_enter Try.func14, Try.ntmps14
  go_wp2
  go_loop [3] (fun i => ∃ k : Nat, k ≤ n ∧ i = .int .i64 (k : Int) ∧ ∀ j x, j < k → l[j]? = some x → okP15 x = true) (fun i => n - (intOf i).toNat)
  case atStart => exact ⟨0, Nat.zero_le _, rfl, fun j x h => absurd h (Nat.not_lt_zero _)⟩
  case round =>
    obtain ⟨k, hk, rfl, hok⟩ := hrel
    have HOK := Lib.hid hok
    clear hok
    by_cases hlt : k < n
    · obtain ⟨e, he⟩ : ∃ e, l[k]? = some e := ⟨_, List.getElem?_eq_getElem (by rw [← HN.out]; exact hlt)⟩
      obtain ⟨g, off, rfl, c0, c1, c2⟩ := HR.out.at3 he
      have HE := Lib.hid he
      obtain ⟨sk, hsk⟩ : ∃ s : ByteArray, (⟨e.k.toArray⟩ : ByteArray) = s := ⟨_, rfl⟩
      have hskl : sk.toList = e.k := by rw [← hsk]; exact Go.ByteArray.toList_mk _
      have hsz : sk.size = e.k.length := by rw [← hsk]; exact size_list _
      rw [hsk] at c0
      obtain ⟨kl, hkl⟩ : ∃ n, e.k.length = n := ⟨_, rfl⟩
      rw [hkl] at hsz
      obtain ⟨z, hz⟩ : ∃ z, e.z = z := ⟨_, rfl⟩
      rw [hz] at c2
      have HNO : Hid (¬ (e.k ≠ [] ∧ kl ≤ 16 ∧ 0 ≤ z ∧ z ≤ 400) → smallP l = false) := Lib.hid (fun hh => by
        rcases hq : smallP l with _ | _
        · rfl
        · exfalso
          unfold smallP at hq
          rw [Bool.and_eq_true, List.all_eq_true] at hq
          have := hq.1 e (List.mem_of_getElem? he)
          unfold okP15 at this
          simp at this
          apply hh
          rw [← hkl, ← hz]
          exact ⟨this.1.1.1, this.1.1.2, this.1.2, this.2⟩)
      have HYES : Hid (e.k ≠ [] → kl ≤ 16 → 0 ≤ z → z ≤ 400 → okP15 e = true) := Lib.hid (fun h1 h2 h3 h4 => by
        unfold okP15
        rw [hkl, hz]
        simp [h1, h2, h3, h4])
      have i0 : (0 : Int) ≤ (k : Int) := by omega
      have i1 : (k : Int) < (n : Int) := by omega
      have hemp : sk.toList.isEmpty = e.k.isEmpty := by rw [hskl]
      have HEQ : Hid (e.k = [] ↔ e.k.isEmpty = true) := Lib.hid (by cases e.k <;> simp)
      generalize e.k.isEmpty = b0 at *
      clear hsk hskl hkl hz he
      cases b0
      · have hne : e.k ≠ [] := fun h => by have := HEQ.out.1 h; cases this
        by_cases h16 : kl ≤ 16
        · have j1 : ¬ (16 : Int) < (kl : Int) := by omega
          by_cases hz0 : 0 ≤ z
          · have j2 : ¬ z < 0 := by omega
            by_cases hz4 : z ≤ 400
            · have HY := Lib.hid (HYES.out hne h16 hz0 hz4)
              have j3 : ¬ (400 : Int) < z := by omega
              clear hne
              go_wp2
              go_round
              case rel => exact ⟨k + 1, by omega, by go_num, fun j x hj hx => by
                rcases Nat.lt_or_ge j k with h | h
                · exact HOK.out j x h hx
                · have : j = k := by omega
                  subst this
                  rw [HE.out] at hx
                  cases hx
                  exact HY.out⟩
              case measure => simp [intOf]; omega
            · have HF := Lib.hid (HNO.out (fun h => hz4 h.2.2.2))
              have j3 : (400 : Int) < z := by omega
              clear hne
              go_wp2
              go_ret
              rw [HF.out]
              exact ⟨rfl, rfl⟩
          · have HF := Lib.hid (HNO.out (fun h => hz0 h.2.2.1))
            have j2 : z < 0 := by omega
            clear hne
            go_wp2
            go_ret
            rw [HF.out]
            exact ⟨rfl, rfl⟩
        · have HF := Lib.hid (HNO.out (fun h => h16 h.2.1))
          have j1 : (16 : Int) < (kl : Int) := by omega
          clear hne
          go_wp2
          go_ret
          rw [HF.out]
          exact ⟨rfl, rfl⟩
      · have HF := Lib.hid (HNO.out (fun h => h.1 (HEQ.out.2 rfl)))
        go_wp2
        go_ret
        rw [HF.out]
        exact ⟨rfl, rfl⟩
    · have hkn : k = n := by omega
      have i1 : ¬ (k : Int) < (n : Int) := by omega
      have hall : l.all okP15 = true := List.all_eq_true.2 (fun x hx => by
        obtain ⟨j, hj⟩ := List.getElem?_of_mem hx
        exact HOK.out j x (by have := (List.getElem?_eq_some_iff.1 hj).1; have := HN.out; omega) hj)
      have HF : Hid (smallP l = decide ((n : Int) ≤ 80)) := Lib.hid (by
        unfold smallP
        rw [hall, Bool.true_and, ← HN.out]
        congr 1
        exact propext ⟨fun h => by omega, fun h => by omega⟩)
      clear hall hkn
      go_wp2
      go_ret
      rw [HF.out]
      exact ⟨rfl, rfl⟩
end Go.Proofs.Ytpaklhifnndeoaa
end

section
namespace Go.Proofs.Ytpaklhifnndeoaa
open Go.ChangeShapes Go.WideShapes Go.ChangeAt Go.RowKit Go.Deep
set_option linter.unusedVariables false

theorem byte_is {k : Int} (h0 : 0 ≤ k) (h1 : k ≤ 255) : byteV (UInt8.ofNat k.toNat) = .int .u8 k := by
  unfold byteV
  congr 1
  have : (UInt8.ofNat k.toNat).toNat = k.toNat := UInt8.toNat_ofNat_of_lt' (by show k.toNat < 256; omega)
  rw [this]
  omega
set_option maxRecDepth 100000 in
theorem arg_puts15 {H : Type} {enc : TypeId × Value → H} {W : World} {A : Option Addr} {n c : Nat} {d : DataW H} {p : List MemPlace} (h : DataW.Trod enc Try.prog W 0 (fun _ => true) true 22 (.slice A n c) d p) :
    ∃ l : List PA, RowP W A n c l := by
  obtain ⟨fuel, hf⟩ := h
  rcases open_slice Try.underlying22 hf with ⟨hcs, _⟩ | ⟨x, l, c', m, fu, D, Pl, hcs, _, hl, hm, hmm, _, hx⟩
  · simp [Value.cells] at hcs
    obtain ⟨rfl, rfl, rfl⟩ := hcs
    exact ⟨[], rfl, fun h => absurd h (by simp), Nat.le_refl _, Nat.zero_le _⟩
  · simp [Value.cells] at hcs
    obtain ⟨rfl, rfl, rfl⟩ := hcs
    have hmn : n ≤ m := by rw [hmm]; split <;> omega
    have ce : Try.prog.cellsOf 37 = 3 := by kernel_rfl
    have c1 : Try.prog.cellsOf 3 = 1 := by kernel_rfl
    have c2 : Try.prog.cellsOf 9 = 1 := by kernel_rfl
    have c3 : Try.prog.cellsOf 5 = 1 := by kernel_rfl
    have each : ∀ i, i < n → ∃ q : PA, W.cell? (x.add (i * 3)) = some (.string ⟨q.k.toArray⟩) ∧ W.cell? (x.add (i * 3 + 1)) = some (byteV q.b) ∧ W.cell? (x.add (i * 3 + 2)) = some (.int .i64 q.z) := fun i hin => by
      obtain ⟨cs', h1, h2⟩ := hx i (by omega)
      rw [ce] at h1
      obtain ⟨_, hlen, hcell⟩ := World.cells?_some h1
      obtain ⟨xs, k, hk, hxy, _, hxl, hg⟩ := DataW.trod_struct Try.underlying37 h2
      match xs, hxl, cs', hlen with
      | [y0, y1, y2], _, [v0, v1, v2], _ =>
        have g0 := hg 0 _ rfl
        have g1 := hg 1 _ rfl
        have g2 := hg 2 _ rfl
        simp [c1, c2, c3] at g0 g1 g2
        obtain ⟨s0, hs0, _, _⟩ := DataW.trod_string Try.underlying9 g0
        obtain ⟨k1, hk1, _, w1⟩ := DataW.trod_int Try.underlying5 g1
        obtain ⟨k2, hk2, _, _⟩ := DataW.trod_int Try.underlying3 g2
        simp at hs0 hk1 hk2
        subst hs0 hk1 hk2
        have b1 := u8_bounds w1
        have e0 := hcell 0 (by omega)
        have e1 := hcell 1 (by omega)
        have e2 := hcell 2 (by omega)
        rw [add_add] at e0 e1 e2
        refine ⟨⟨s0.data.toList, UInt8.ofNat k1.toNat, k2⟩, ?_, ?_, by simpa using e2⟩
        · have : (⟨s0.data.toList.toArray⟩ : ByteArray) = s0 := by rw [Array.toArray_toList]
          show W.cell? _ = some (.string ⟨s0.data.toList.toArray⟩)
          rw [this]
          simpa using e0
        · show W.cell? _ = some (byteV (UInt8.ofNat k1.toNat))
          rw [byte_is (by omega) (by omega)]
          simpa using e1
    obtain ⟨q, hq⟩ := @choose_lt _ ⟨(default : PA)⟩ _ _ each
    refine ⟨(List.range n).map q, by simp, fun hn => ?_, hl, hm⟩
    have hn0 : 0 < n := by rw [flatP_len] at hn; simp at hn; exact hn
    obtain ⟨b, off, spot⟩ := x
    have h00 := (hq 0 hn0).1
    have hspot : spot = none := by simpa [Addr.add] using World.cell?_spot h00
    subst hspot
    refine ⟨b, off, rfl, fun j u hj => ?_⟩
    have hjl := (List.getElem?_eq_some_iff.1 hj).1
    rw [flatP_len] at hjl
    simp at hjl
    have hi : j / 3 < n := by omega
    have hli : ((List.range n).map q)[j / 3]? = some (q (j / 3)) := by simp [hi]
    obtain ⟨z0, z1, z2⟩ := hq (j / 3) hi
    rw [add_plain] at z0 z1 z2
    have hr : j % 3 = 0 ∨ j % 3 = 1 ∨ j % 3 = 2 := by omega
    rcases hr with hr | hr | hr
    · have e : j = j / 3 * 3 + 0 := by omega
      have ea : off + j = off + j / 3 * 3 := by omega
      have hj' := hj
      rw [e, flatP_at hli (by omega)] at hj'
      have hu : u = .string ⟨(q (j / 3)).k.toArray⟩ := by injection hj' with hj'; exact hj'.symm
      rw [hu, ea]
      exact z0
    · have e : j = j / 3 * 3 + 1 := by omega
      have ea : off + j = off + (j / 3 * 3 + 1) := by omega
      have hj' := hj
      rw [e, flatP_at hli (by omega)] at hj'
      have hu : u = byteV (q (j / 3)).b := by injection hj' with hj'; exact hj'.symm
      rw [hu, ea]
      exact z1
    · have e : j = j / 3 * 3 + 2 := by omega
      have ea : off + j = off + (j / 3 * 3 + 2) := by omega
      have hj' := hj
      rw [e, flatP_at hli (by omega)] at hj'
      have hu : u = .int .i64 (q (j / 3)).z := by injection hj' with hj'; exact hj'.symm
      rw [hu, ea]
      exact z2
end Go.Proofs.Ytpaklhifnndeoaa
end

section
namespace Go.Proofs.Ytpaklhifnndeoaa
open Go.RowKit
set_option linter.unusedVariables false

/-! Rows of things that take s cells. -/
def flatS {α : Type} (f : α → List Value) (l : List α) : List Value := l.flatMap f
section
variable {α : Type} {f : α → List Value} {s : Nat}
theorem flatS_cons (e : α) (l : List α) : flatS f (e :: l) = f e ++ flatS f l := by unfold flatS; rw [List.flatMap_cons]
theorem flatS_app (a b : List α) : flatS f (a ++ b) = flatS f a ++ flatS f b := by unfold flatS; rw [List.flatMap_append]
theorem flatS_len (hs : ∀ e, (f e).length = s) (l : List α) : (flatS f l).length = l.length * s := by
  induction l with
  | nil => simp [flatS]
  | cons e l ih => rw [flatS_cons, List.length_append, ih, hs, List.length_cons, Nat.add_mul, Nat.one_mul, Nat.add_comm]
theorem flatS_take (hs : ∀ e, (f e).length = s) (l : List α) (k : Nat) : flatS f (l.take k) = (flatS f l).take (k * s) := by
  have h2 := congrArg (flatS f) (List.take_append_drop k l)
  rw [flatS_app] at h2
  by_cases hk : k ≤ l.length
  · have h3 : (flatS f (l.take k)).length = k * s := by rw [flatS_len hs, List.length_take, Nat.min_eq_left hk]
    rw [← h2, ← h3, List.take_left]
  · rw [List.take_of_length_le (by omega), List.take_of_length_le (by rw [flatS_len hs]; exact Nat.mul_le_mul_right s (by omega))]
theorem flatS_at (hs : ∀ e, (f e).length = s) {l : List α} {i : Nat} {e : α} (h : l[i]? = some e) {r : Nat} (hr : r < s) : (flatS f l)[i * s + r]? = (f e)[r]? := by
  have hi := (List.getElem?_eq_some_iff.1 h).1
  have h1 : l = l.take i ++ e :: l.drop (i + 1) := by
    have h2 := (List.getElem?_eq_some_iff.1 h).2
    rw [← h2, ← List.drop_eq_getElem_cons hi, List.take_append_drop]
  have h3 : (flatS f (l.take i)).length = i * s := by rw [flatS_len hs, List.length_take, Nat.min_eq_left (by omega)]
  rw [h1, flatS_app, flatS_cons, List.getElem?_append_right (by omega), h3, show i * s + r - i * s = r by omega, List.getElem?_append_left (by rw [hs]; exact hr)]
theorem RwF.atS {F : Nat → Prop} {w : World} {A : Option Addr} {n c : Nat} {xs : List α} (h : RwF F w A n c s (flatS f xs)) (hs : ∀ e, (f e).length = s) (h0 : 0 < s) {i : Nat} {e : α} (hi : xs[i]? = some e) :
    ∃ g off, A = some ⟨g, off, none⟩ ∧ F g ∧ ∀ r u, (f e)[r]? = some u → w.cell? ⟨g, off + i * s + r, none⟩ = some u := by
  have hl := h.len
  rw [flatS_len hs] at hl
  have h2 := (List.getElem?_eq_some_iff.1 hi).1
  have h3 : i < n := by
    have := Nat.eq_of_mul_eq_mul_right h0 hl
    omega
  obtain ⟨g, off, hA, hg, hr⟩ := h.cell h3 h0
  refine ⟨g, off, hA, hg, fun r u hu => hr r u ?_⟩
  rw [flatS_at hs hi (by rw [← hs e]; exact (List.getElem?_eq_some_iff.1 hu).1)]
  exact hu
theorem RwF.lenS {F : Nat → Prop} {w : World} {A : Option Addr} {n c : Nat} {xs : List α} (h : RwF F w A n c s (flatS f xs)) (hs : ∀ e, (f e).length = s) (h0 : 0 < s) : n = xs.length := by
  have hl := h.len
  rw [flatS_len hs] at hl
  exact (Nat.eq_of_mul_eq_mul_right h0 hl).symm
end

/-! A node of the code. -/
structure VE where
  d : List UInt8
  pa : Option Addr
  pn : Nat
  pc : Nat
deriving Inhabited
structure NDV where
  p : Int
  lf : Bool
  kA : Option Addr
  kn : Nat
  kc : Nat
  vA : Option Addr
  vn : Nat
  vc : Nat
  dA : Option Addr
  dn : Nat
  dc : Nat
deriving Inhabited
def veL (v : VE) : List Value := [.string ⟨v.d.toArray⟩, .slice v.pa v.pn v.pc]
def ndL (x : NDV) : List Value := [.int .i64 x.p, .bool x.lf, .slice x.kA x.kn x.kc, .slice x.vA x.vn x.vc, .slice x.dA x.dn x.dc]
def ndV (x : NDV) : Value := .agg #[.int .i64 x.p, .bool x.lf, .slice x.kA x.kn x.kc, .slice x.vA x.vn x.vc, .slice x.dA x.dn x.dc]
theorem veL_len (v : VE) : (veL v).length = 2 := rfl
theorem ndL_len (x : NDV) : (ndL x).length = 5 := rfl
def strV (s : List UInt8) : Value := .string ⟨s.toArray⟩
def ValR (F : Nat → Prop) (w : World) (v : VE) (x : Lf) : Prop := v.d = x.d ∧ RwF F w v.pa v.pn v.pc 1 (x.pg.map (Value.int .i64))
inductive RepT (F : Nat → Prop) (w : World) : NDV → Tr → Prop where
  | leaf (x : NDV) (l : List Lf) (vs : List VE) (h1 : x.lf = true) (hk : RwF F w x.kA x.kn x.kc 1 (l.map fun y => strV y.k)) (hv : RwF F w x.vA x.vn x.vc 2 (flatS veL vs)) (hb : Both (ValR F w) vs l) (hd : x.dn = 0) (hd2 : RwF F w x.dA 0 x.dc 5 []) : RepT F w x (.leaf x.p l)
  | branch (x : NDV) (l : List (List UInt8 × Tr)) (ks : List NDV) (h1 : x.lf = false) (hk : RwF F w x.kA x.kn x.kc 1 (l.map fun y => strV y.1)) (hv : x.vn = 0) (hv2 : RwF F w x.vA 0 x.vc 2 []) (hd : RwF F w x.dA x.dn x.dc 5 (flatS ndL ks)) (hl : ks.length = l.length) (h : ∀ (i : Nat) (e : NDV) (y : List UInt8 × Tr), ks[i]? = some e → l[i]? = some y → RepT F w e y.2) : RepT F w x (.branch x.p l)
section
variable {F G : Nat → Prop} {w w' : World}
theorem repT_leaf {x : NDV} {p : Int} {l : List Lf} : RepT F w x (.leaf p l) ↔ x.p = p ∧ x.lf = true ∧ RwF F w x.kA x.kn x.kc 1 (l.map fun y => strV y.k) ∧ (∃ vs, RwF F w x.vA x.vn x.vc 2 (flatS veL vs) ∧ Both (ValR F w) vs l) ∧ x.dn = 0 ∧ RwF F w x.dA 0 x.dc 5 [] := by
  constructor
  · intro h
    cases h with
    | leaf x l vs h1 hk hv hb hd hd2 => exact ⟨rfl, h1, hk, ⟨vs, hv, hb⟩, hd, hd2⟩
  · rintro ⟨rfl, h1, hk, ⟨vs, hv, hb⟩, hd, hd2⟩
    exact .leaf x l vs h1 hk hv hb hd hd2
theorem repT_branch {x : NDV} {p : Int} {l : List (List UInt8 × Tr)} : RepT F w x (.branch p l) ↔ x.p = p ∧ x.lf = false ∧ RwF F w x.kA x.kn x.kc 1 (l.map fun y => strV y.1) ∧ x.vn = 0 ∧ RwF F w x.vA 0 x.vc 2 [] ∧ ∃ ks, RwF F w x.dA x.dn x.dc 5 (flatS ndL ks) ∧ Both (fun e (y : List UInt8 × Tr) => RepT F w e y.2) ks l := by
  constructor
  · intro h
    cases h with
    | branch x l ks h1 hk hv hv2 hd hl h => exact ⟨rfl, h1, hk, hv, hv2, ks, hd, hl, h⟩
  · rintro ⟨rfl, h1, hk, hv, hv2, ks, hd, hl, h⟩
    exact .branch x l ks h1 hk hv hv2 hd hl h
theorem RepT.move (hm : ∀ g, F g → g < w.heap.size → G g ∧ w'.heap[g]? = w.heap[g]?) : ∀ {t : Tr} {x : NDV}, RepT F w x t → RepT G w' x t := by
  intro t
  induction t using Tr.ind with
  | hl p l =>
    intro x h
    obtain ⟨h1, h2, hk, ⟨vs, hv, hb⟩, hd, hd2⟩ := repT_leaf.1 h
    exact repT_leaf.2 ⟨h1, h2, hk.move hm, ⟨vs, hv.move hm, hb.mono fun x y _ _ h => ⟨h.1, h.2.move hm⟩⟩, hd, hd2.move hm⟩
  | hb p l ih =>
    intro x h
    obtain ⟨h1, h2, hk, hv, hv2, ks, hd, hb⟩ := repT_branch.1 h
    exact repT_branch.2 ⟨h1, h2, hk.move hm, hv, hv2.move hm, ks, hd.move hm, hb.mono fun x y _ hy h => ih y hy h⟩
theorem RepT.stay {x : NDV} {t : Tr} (h : RepT F w x t) (hb : Below w.heap.size w w') : RepT F w' x t := RepT.move (fun g hg hl => ⟨hg, hb.block g hl⟩) h
theorem RepT.mono {x : NDV} {t : Tr} (h : RepT F w x t) (hm : ∀ g, F g → G g) : RepT G w x t := RepT.move (fun g hg hl => ⟨hm g hg, rfl⟩) h
theorem RepT.old {x : NDV} {t : Tr} (h : RepT F w x t) : RepT (fun g => F g ∧ g < w.heap.size) w x t := RepT.move (fun g hg hl => ⟨⟨hg, hl⟩, rfl⟩) h
end
end Go.Proofs.Ytpaklhifnndeoaa
end
