/- What a disk is in memory, in my own words: no statement. -/
import Derived.Test.YthbchloghbfnmaaMem
import Derived.Test.YthbchloghbfnmaaDmp
import Derived.Deep.MidRow
namespace Go.Proofs.Ythbchloghbfnmaa
open Go.RowKit Go.MapKept
set_option linter.unusedVariables false

/-! ### Mathematics -/
abbrev Wr := Int × List UInt8
/-- A region: how many pages, what stays, what is loose, the calls ahead of the stop, and whether it stopped. -/
structure Rg where
  size : Nat
  syn : Int → Option (List UInt8)
  loose : List Wr
  left : Int
  down : Bool
def zeros : List UInt8 := List.replicate 128 0
def fresh6 (n : Nat) : Rg := ⟨n, fun _ => none, [], -1, false⟩
/-- Where in a row of writes a page's last one is. -/
def lastFrom : Nat → List Wr → Int → Option Nat
  | _, [], _ => none
  | i, x :: r, p => match lastFrom (i + 1) r p with
    | some j => some j
    | none => if x.1 = p then some i else none
theorem lastFrom_snoc (x : Wr) (p : Int) : ∀ (l : List Wr) (i : Nat), lastFrom i (l ++ [x]) p = if p = x.1 then some (i + l.length) else lastFrom i l p
  | [], i => by
    by_cases h : x.1 = p
    · simp [lastFrom, h]
    · have h' : ¬ p = x.1 := fun e => h e.symm
      simp [lastFrom, h, h']
  | y :: l, i => by
    simp only [List.cons_append, lastFrom, lastFrom_snoc x p l (i + 1), List.length_cons]
    by_cases h : p = x.1
    · simp only [h, if_true]
      congr 1
      omega
    · simp only [h, if_false]
theorem lastFrom_some (p : Int) : ∀ (l : List Wr) (i j : Nat), lastFrom i l p = some j → i ≤ j ∧ ∃ x, l[j - i]? = some x ∧ x.1 = p
  | [], i, j, h => by cases h
  | y :: l, i, j, h => by
    simp only [lastFrom] at h
    split at h
    · rename_i k hk
      injection h with h
      subst h
      obtain ⟨h1, x, h2, h3⟩ := lastFrom_some p l (i + 1) k hk
      refine ⟨by omega, x, ?_, h3⟩
      rw [show k - i = (k - (i + 1)) + 1 by omega]
      simpa using h2
    · split at h
      · rename_i _ _ h1
        injection h with h
        subst h
        exact ⟨Nat.le_refl _, y, by simp, h1⟩
      · cases h
/-- What a page holds, as it was written last. -/
def rdP (r : Rg) (p : Int) : List UInt8 :=
  match lastFrom 0 r.loose p with
  | some i => (r.loose.getD i (0, [])).2
  | none => (r.syn p).getD zeros
def putS (f : Int → Option (List UInt8)) (x : Wr) : Int → Option (List UInt8) := fun j => if j = x.1 then some x.2 else f j
/-- What stays of loose writes, those whose places K accepts. -/
def setK (K : Nat → Bool) : Nat → List Wr → (Int → Option (List UInt8)) → (Int → Option (List UInt8))
  | _, [], f => f
  | i, x :: r, f => setK K (i + 1) r (if K i then putS f x else f)
theorem setK_snoc (K : Nat → Bool) (x : Wr) : ∀ (l : List Wr) (i : Nat) (f : Int → Option (List UInt8)), setK K i (l ++ [x]) f = if K (i + l.length) then putS (setK K i l f) x else setK K i l f
  | [], i, f => by simp [setK]
  | y :: l, i, f => by
    simp only [List.cons_append, setK, setK_snoc K x l (i + 1), List.length_cons]
    rw [show i + 1 + l.length = i + (l.length + 1) by omega]
/-- A call that counts: whether the region stops, and the region behind it. -/
def cntR (r : Rg) : Rg := if r.left = 0 then { r with down := true } else if 0 < r.left then { r with left := r.left - 1 } else r
def wrR (r : Rg) (p : Int) (b : List UInt8) : Rg := { r with loose := r.loose ++ [(p, b)] }
def setR (K : Nat → Bool) (r : Rg) : Rg := { r with syn := setK K 0 r.loose r.syn, loose := [] }
def stR (r : Rg) (a : Int) : Rg := { r with left := max a (-1) }
def upR (r : Rg) : Rg := { r with left := -1, down := false }
def bitS (s : List UInt8) (i : Nat) : Bool := (s.getD (i / 8) 0).toNat / 2 ^ (i % 8) % 2 == 1
/-- What is so of each region. -/
structure Rok (r : Rg) : Prop where
  pos : 1 ≤ r.size
  most : r.size ≤ 1000
  loose : ∀ x ∈ r.loose, 0 ≤ x.1 ∧ x.1 < (r.size : Int) ∧ x.2.length = 128
  syn : ∀ k l, r.syn k = some l → l.length = 128
  left0 : -1 ≤ r.left
  left1 : r.left ≤ 9223372036854775807
theorem fresh6_ok {n : Nat} (h1 : 1 ≤ n) (h2 : n ≤ 1000) : Rok (fresh6 n) := ⟨h1, h2, by simp [fresh6], by simp [fresh6], by simp [fresh6], by simp [fresh6]⟩
theorem rdP_len {r : Rg} (h : Rok r) (p : Int) : (rdP r p).length = 128 := by
  unfold rdP
  split
  · rename_i i hi
    obtain ⟨_, x, hx, _⟩ := lastFrom_some p r.loose 0 i hi
    rw [Nat.sub_zero] at hx
    have : r.loose.getD i (0, []) = x := by simp [List.getD, hx]
    rw [this]
    exact (h.loose x (List.mem_of_getElem? hx)).2.2
  · cases hs : r.syn p with
    | none => simp [zeros]
    | some l => exact h.syn p l hs
theorem setK_len {K : Nat → Bool} : ∀ (l : List Wr) (i : Nat) (f : Int → Option (List UInt8)), (∀ x ∈ l, x.2.length = 128) → (∀ k u, f k = some u → u.length = 128) → ∀ k u, setK K i l f k = some u → u.length = 128
  | [], i, f, _, hf, k, u, h => hf k u h
  | x :: l, i, f, hl, hf, k, u, h => by
    refine setK_len l (i + 1) _ (fun y hy => hl y (.tail _ hy)) (fun k u hu => ?_) k u h
    split at hu
    · unfold putS at hu
      split at hu
      · injection hu with hu
        subst hu
        exact hl x (.head _)
      · exact hf k u hu
    · exact hf k u hu
theorem wrR_ok {r : Rg} (h : Rok r) {p : Int} {b : List UInt8} (h0 : 0 ≤ p) (h1 : p < r.size) (hb : b.length = 128) : Rok (wrR r p b) :=
  ⟨h.pos, h.most, fun x hx => by
    simp only [wrR, List.mem_append, List.mem_singleton] at hx
    rcases hx with hx | rfl
    · exact h.loose x hx
    · exact ⟨h0, h1, hb⟩, h.syn, h.left0, h.left1⟩
theorem cntR_ok {r : Rg} (h : Rok r) : Rok (cntR r) := by
  unfold cntR
  split
  · exact ⟨h.pos, h.most, h.loose, h.syn, h.left0, h.left1⟩
  · split
    · exact ⟨h.pos, h.most, h.loose, h.syn, by show -1 ≤ r.left - 1; omega, by show r.left - 1 ≤ _; have := h.left1; omega⟩
    · exact h
theorem setR_ok {K : Nat → Bool} {r : Rg} (h : Rok r) : Rok (setR K r) :=
  ⟨h.pos, h.most, by simp [setR], setK_len r.loose 0 r.syn (fun x hx => (h.loose x hx).2.2) h.syn, h.left0, h.left1⟩
theorem upR_ok {r : Rg} (h : Rok r) : Rok (upR r) := ⟨h.pos, h.most, h.loose, h.syn, by simp [upR], by simp [upR]⟩
theorem stR_ok {r : Rg} (h : Rok r) {a : Int} (ha : a ≤ 9223372036854775807) : Rok (stR r a) := ⟨h.pos, h.most, h.loose, h.syn, by simp only [stR]; omega, by simp only [stR]; omega⟩

/-! ### Memory -/
def pageV (l : List UInt8) : Value := .agg (l.map byteV).toArray
def cellsW (x : Wr) : List Value := .int .i64 x.1 :: x.2.map byteV
def cellsL (l : List Wr) : List Value := l.flatMap cellsW
theorem cellsL_snoc (l : List Wr) (x : Wr) : cellsL (l ++ [x]) = cellsL l ++ cellsW x := by simp [cellsL]
theorem cellsW_len {x : Wr} (h : x.2.length = 128) : (cellsW x).length = 129 := by simp [cellsW, h]
theorem cellsL_at : ∀ (l : List Wr) (k : Nat) (x : Wr), (∀ y ∈ l, y.2.length = 128) → l[k]? = some x → ∀ j u, (cellsW x)[j]? = some u → (cellsL l)[k * 129 + j]? = some u
  | [], k, x, _, h, j, u, _ => by simp at h
  | y :: l, 0, x, hl, h, j, u, hj => by
    simp at h
    subst h
    have hjl := (List.getElem?_eq_some_iff.1 hj).1
    simp only [cellsL, List.flatMap_cons, Nat.zero_mul, Nat.zero_add]
    rw [List.getElem?_append_left hjl]
    exact hj
  | y :: l, k + 1, x, hl, h, j, u, hj => by
    have hy := cellsW_len (hl y (.head _))
    simp only [cellsL, List.flatMap_cons]
    rw [List.getElem?_append_right (by omega), hy, show (k + 1) * 129 + j - 129 = k * 129 + j by omega]
    exact cellsL_at l k x (fun z hz => hl z (.tail _ hz)) (by simpa using h) j u hj

/-- Which blocks are a disk's, and what they are for. -/
abbrev Tg := Nat → Option (Nat × Nat)
/-- Region i of disk d, its cells in block A. -/
structure Ar (w : World) (T : Tg) (d A i m1 m2 : Nat) (v : Value) (r : Rg) : Prop where
  c0 : w.cell? ⟨A, i * 6, none⟩ = some (.int .i64 r.size)
  c1 : w.cell? ⟨A, i * 6 + 1, none⟩ = some (.map (some m1))
  c2 : w.cell? ⟨A, i * 6 + 2, none⟩ = some v
  c3 : w.cell? ⟨A, i * 6 + 3, none⟩ = some (.map (some m2))
  c4 : w.cell? ⟨A, i * 6 + 4, none⟩ = some (.int .i64 r.left)
  c5 : w.cell? ⟨A, i * 6 + 5, none⟩ = some (.bool r.down)
  ta : T A = some (d, 1)
  t1 : T m1 = some (d, 3 * i + 2)
  t2 : T m2 = some (d, 3 * i + 3)
  t3 : ∀ g, v.ownBlock = some g → T g = some (d, 3 * i + 4)
  p1 : MapAt w m1 (fun k => (r.syn k).map pageV)
  p2 : MapAt w m2 (fun k => (lastFrom 0 r.loose k).map (fun (j : Nat) => Value.int .i64 (j : Int)))
  row : w.ownsRow 0 91 129 v r.loose.length (cellsL r.loose)
  ok : Rok r
structure Dk (w : World) (T : Tg) (d D A : Nat) (rs : List Rg) : Prop where
  hd : Has w D 67 #[.slice (some ⟨A, 0, none⟩) rs.length rs.length]
  td : T D = some (d, 0)
  ta : T A = some (d, 1)
  blk : ∃ cs, Has w A 72 cs ∧ cs.size = rs.length * 6
  at_ : ∀ i r, rs[i]? = some r → ∃ m1 m2 v, Ar w T d A i m1 m2 v r
/-- Region i of disk d alone has turned. -/
structure Nx (T : Tg) (d A i : Nat) (w : World) (T' : Tg) (w' : World) : Prop where
  os : w'.os = w.os
  tape : w'.tape = w.tape
  output : w'.output = w.output
  size : w.heap.size ≤ w'.heap.size
  block : ∀ x, x < w.heap.size → x ≠ A → (∀ j, j < 3 → T x ≠ some (d, 3 * i + 2 + j)) → w'.heap[x]? = w.heap[x]?
  row : ∀ cs, Has w A 72 cs → ∃ cs', Has w' A 72 cs' ∧ cs'.size = cs.size ∧ ∀ j, (j < i * 6 ∨ i * 6 + 6 ≤ j) → cs'[j]? = cs[j]?
  old : ∀ x, x < w.heap.size → T' x = T x
  new : ∀ x t, w.heap.size ≤ x → T' x = some t → t = (d, 3 * i + 4) ∧ x < w'.heap.size
/-- Disk d alone has turned. -/
structure Tn (T : Tg) (d : Nat) (w : World) (T' : Tg) (w' : World) : Prop where
  os : w'.os = w.os
  tape : w'.tape = w.tape
  output : w'.output = w.output
  size : w.heap.size ≤ w'.heap.size
  block : ∀ x, x < w.heap.size → (∀ k, T x ≠ some (d, k)) → w'.heap[x]? = w.heap[x]?
  old : ∀ x, x < w.heap.size → T' x = T x
  new : ∀ x t, w.heap.size ≤ x → T' x = some t → t.1 = d ∧ x < w'.heap.size
/-- All marked blocks are there, from W0 on. -/
def Lo (W0 : Nat) (T : Tg) (w : World) : Prop := ∀ x t, T x = some t → W0 ≤ x ∧ x < w.heap.size

section
variable {w w1 w' : World} {T T1 T' : Tg} {d D A i : Nat} {rs : List Rg} {r : Rg}
theorem Nx.refl (T : Tg) (d A i : Nat) (w : World) (hlo : ∀ x t, T x = some t → x < w.heap.size) : Nx T d A i w T w :=
  ⟨rfl, rfl, rfl, Nat.le_refl _, fun _ _ _ _ => rfl, fun cs h => ⟨cs, h, rfl, fun _ _ => rfl⟩, fun _ _ => rfl, fun x t hx ht => absurd (hlo x t ht) (by omega)⟩
theorem Nx.trans (h : Nx T d A i w T1 w1) (k : Nx T1 d A i w1 T' w') : Nx T d A i w T' w' where
  os := k.os.trans h.os
  tape := k.tape.trans h.tape
  output := k.output.trans h.output
  size := Nat.le_trans h.size k.size
  block := fun x hx hA hT => (k.block x (Nat.lt_of_lt_of_le hx h.size) hA (fun j hj => by rw [h.old x hx]; exact hT j hj)).trans (h.block x hx hA hT)
  row := fun cs hc => by
    obtain ⟨c1, h1, s1, e1⟩ := h.row cs hc
    obtain ⟨c2, h2, s2, e2⟩ := k.row c1 h1
    exact ⟨c2, h2, s2.trans s1, fun j hj => (e2 j hj).trans (e1 j hj)⟩
  old := fun x hx => (k.old x (Nat.lt_of_lt_of_le hx h.size)).trans (h.old x hx)
  new := fun x t hx ht => by
    by_cases hx1 : x < w1.heap.size
    · rw [k.old x hx1] at ht
      have := h.new x t hx ht
      exact ⟨this.1, Nat.lt_of_lt_of_le this.2 k.size⟩
    · exact k.new x t (by omega) ht
theorem Nx.lo (h : Nx T d A i w T' w') (hlo : ∀ x t, T x = some t → x < w.heap.size) : ∀ x t, T' x = some t → x < w'.heap.size := fun x t ht => by
  by_cases hx : x < w.heap.size
  · exact Nat.lt_of_lt_of_le hx h.size
  · exact (h.new x t (by omega) ht).2
/-- What is not the region's stays, and new blocks don't matter. -/
theorem Nx.below (hb : Below w.heap.size w w') (hlo : ∀ x t, T x = some t → x < w.heap.size) : Nx T d A i w T w' :=
  ⟨hb.os, hb.tape, hb.output, hb.size, fun x hx _ _ => hb.block x hx, fun cs h => ⟨cs, h.below hb h.lt, rfl, fun _ _ => rfl⟩, fun _ _ => rfl, fun x t hx ht => absurd (hlo x t ht) (by omega)⟩
/-- One of its own blocks turns, none but a new one is marked. -/
theorem Nx.grown {g j : Nat} (hg : w.grownBy w' (some g)) (hj : j < 3) (hT : T g = some (d, 3 * i + 2 + j)) (hA : T A = some (d, 1)) (hlo : ∀ x t, T x = some t → x < w.heap.size) : Nx T d A i w T w' :=
  ⟨hg.os, hg.tape, hg.output, hg.size, fun x hx _ hx2 => hg.block x hx (fun e => by injection e with e; subst e; exact hx2 j hj hT),
    fun cs h => ⟨cs, h.grown hg (fun e => by
      injection e with e
      subst e
      rw [hA] at hT
      injection hT with hT
      injection hT with _ hT
      omega), rfl, fun _ _ => rfl⟩, fun _ _ => rfl, fun x t hx ht => absurd (hlo x t ht) (by omega)⟩
theorem setCell_heap_other (w : World) (p : Addr) (u : Value) (x : Nat) (h : x ≠ p.block) : (w.setCell p u).heap[x]? = w.heap[x]? := Below.heap_setCell w p u x h
theorem setCell_hsize (w : World) (p : Addr) (u : Value) : (w.setCell p u).heap.size = w.heap.size := by simp [World.setCell]
theorem Nx.set {j : Nat} (hj : j < 6) (u : Value) (hlo : ∀ x t, T x = some t → x < w.heap.size) : Nx T d A i w T (w.setCell ⟨A, i * 6 + j, none⟩ u) :=
  ⟨rfl, rfl, rfl, by rw [setCell_hsize]; exact Nat.le_refl _, fun x hx hA _ => setCell_heap_other w ⟨A, i * 6 + j, none⟩ u x hA,
    fun cs h => ⟨_, h.store (i * 6 + j) u, by simp, fun k hk => by
      rw [Array.getElem?_setIfInBounds]
      rw [if_neg (by omega)]⟩, fun _ _ => rfl, fun x t hx ht => absurd (hlo x t ht) (by omega)⟩
theorem Nx.tn (h : Nx T d A i w T' w') (hA : T A = some (d, 1)) : Tn T d w T' w' :=
  ⟨h.os, h.tape, h.output, h.size, fun x hx hT => h.block x hx (fun e => by subst e; exact hT 1 hA) (fun j _ => hT _), h.old, fun x t hx ht => by
    have := h.new x t hx ht
    exact ⟨by rw [this.1], this.2⟩⟩
theorem Tn.refl (T : Tg) (d : Nat) (w : World) (hlo : ∀ x t, T x = some t → x < w.heap.size) : Tn T d w T w :=
  ⟨rfl, rfl, rfl, Nat.le_refl _, fun _ _ _ => rfl, fun _ _ => rfl, fun x t hx ht => absurd (hlo x t ht) (by omega)⟩
theorem Tn.below (hb : Below w.heap.size w w') (hlo : ∀ x t, T x = some t → x < w.heap.size) : Tn T d w T w' :=
  ⟨hb.os, hb.tape, hb.output, hb.size, fun x hx _ => hb.block x hx, fun _ _ => rfl, fun x t hx ht => absurd (hlo x t ht) (by omega)⟩
theorem Tn.trans (h : Tn T d w T1 w1) (k : Tn T1 d w1 T' w') : Tn T d w T' w' where
  os := k.os.trans h.os
  tape := k.tape.trans h.tape
  output := k.output.trans h.output
  size := Nat.le_trans h.size k.size
  block := fun x hx hT => (k.block x (Nat.lt_of_lt_of_le hx h.size) (fun j => by rw [h.old x hx]; exact hT j)).trans (h.block x hx hT)
  old := fun x hx => (k.old x (Nat.lt_of_lt_of_le hx h.size)).trans (h.old x hx)
  new := fun x t hx ht => by
    by_cases hx1 : x < w1.heap.size
    · rw [k.old x hx1] at ht
      have := h.new x t hx ht
      exact ⟨this.1, Nat.lt_of_lt_of_le this.2 k.size⟩
    · exact k.new x t (by omega) ht
theorem Tn.lo {W0 : Nat} (h : Tn T d w T' w') (hlo : Lo W0 T w) (h0 : W0 ≤ w.heap.size) : Lo W0 T' w' := fun x t ht => by
  by_cases hx : x < w.heap.size
  · rw [h.old x hx] at ht
    exact ⟨(hlo x t ht).1, Nat.lt_of_lt_of_le hx h.size⟩
  · exact ⟨by omega, (h.new x t (by omega) ht).2⟩
theorem Tn.low {W0 : Nat} (h : Tn T d w T' w') (hlo : Lo W0 T w) (h0 : W0 ≤ w.heap.size) : Below W0 w w' :=
  ⟨h.os, h.tape, h.output, h.size, fun x hx => h.block x (by omega) (fun k hk => absurd (hlo x _ hk).1 (by omega))⟩
theorem Lo.lt {W0 : Nat} (h : Lo W0 T w) : ∀ x t, T x = some t → x < w.heap.size := fun x t ht => (h x t ht).2
theorem Lo.below {W0 : Nat} (h : Lo W0 T w) (hb : w.heap.size ≤ w'.heap.size) : Lo W0 T w' := fun x t ht => ⟨(h x t ht).1, Nat.lt_of_lt_of_le (h x t ht).2 hb⟩

theorem own_lt {b : Nat} {v : Value} {n : Nat} {xs : List Value} {g : Nat} (h : w.ownsRow b 91 129 v n xs) (hg : v.ownBlock = some g) : g < w.heap.size := by
  rcases h.2 with ⟨rfl, _⟩ | ⟨g', cap, cur, rfl, _, hh, _⟩
  · cases hg
  · injection hg with hg
    subst hg
    exact (Array.getElem?_eq_some_iff.1 hh).1
theorem own_keep {b : Nat} {v : Value} {n : Nat} {xs : List Value} (h : w.ownsRow b 91 129 v n xs) (hk : ∀ g, v.ownBlock = some g → w'.heap[g]? = w.heap[g]?) : w'.ownsRow b 91 129 v n xs := by
  refine ⟨h.1, ?_⟩
  rcases h.2 with h | ⟨g, cap, cur, rfl, h1, hh, h2⟩
  · exact .inl h
  · exact .inr ⟨g, cap, cur, rfl, h1, (hk g rfl).trans hh, h2⟩
/-- A region stands where none of its blocks turns. -/
theorem Ar.keep {m1 m2 : Nat} {v : Value} (h : Ar w T d A i m1 m2 v r) (hc : ∀ j, j < 6 → w'.cell? ⟨A, i * 6 + j, none⟩ = w.cell? ⟨A, i * 6 + j, none⟩) (hb : ∀ x j, j < 3 → T x = some (d, 3 * i + 2 + j) → x < w.heap.size → w'.heap[x]? = w.heap[x]? ∧ T' x = T x) (hA : T' A = T A) : Ar w' T' d A i m1 m2 v r :=
  ⟨(hc 0 (by omega)).trans h.c0, (hc 1 (by omega)).trans h.c1, (hc 2 (by omega)).trans h.c2, (hc 3 (by omega)).trans h.c3, (hc 4 (by omega)).trans h.c4, (hc 5 (by omega)).trans h.c5, hA.trans h.ta,
    (hb m1 0 (by omega) h.t1 h.p1.lt).2.trans h.t1, (hb m2 1 (by omega) h.t2 h.p2.lt).2.trans h.t2, fun g hg => (hb g 2 (by omega) (h.t3 g hg) (own_lt h.row hg)).2.trans (h.t3 g hg),
    h.p1.keep (hb m1 0 (by omega) h.t1 h.p1.lt).1, h.p2.keep (hb m2 1 (by omega) h.t2 h.p2.lt).1, own_keep h.row (fun g hg => (hb g 2 (by omega) (h.t3 g hg) (own_lt h.row hg)).1), h.ok⟩
theorem cell_heap {p : Addr} (h : w'.heap[p.block]? = w.heap[p.block]?) : w'.cell? p = w.cell? p := by unfold World.cell?; rw [h]
/-- A disk stands where another one turns. -/
theorem Dk.other {d2 : Nat} (h : Dk w T d D A rs) (k : Tn T d2 w T' w') (hd : d ≠ d2) : Dk w' T' d D A rs := by
  have hx : ∀ x j, T x = some (d, j) → ∀ k, T x ≠ some (d2, k) := fun x j hj k hk => by
    rw [hj] at hk
    injection hk with hk
    injection hk with hk _
    exact hd hk
  obtain ⟨cs, hA, hs⟩ := h.blk
  have hAb := k.block A hA.lt (hx A 1 h.ta)
  refine ⟨(k.block D h.hd.lt (hx D 0 h.td)).trans h.hd, (k.old D h.hd.lt).trans h.td, (k.old A hA.lt).trans h.ta, ⟨cs, hAb.trans hA, hs⟩, fun i r hr => ?_⟩
  obtain ⟨m1, m2, v, ha⟩ := h.at_ i r hr
  exact ⟨m1, m2, v, ha.keep (fun j _ => cell_heap hAb) (fun x j _ hT hlt => ⟨k.block x hlt (hx x _ hT), k.old x hlt⟩) (k.old A hA.lt)⟩
theorem Dk.below (h : Dk w T d D A rs) (hb : Below w.heap.size w w') : Dk w' T d D A rs := by
  obtain ⟨cs, hA, hs⟩ := h.blk
  refine ⟨h.hd.below hb h.hd.lt, h.td, h.ta, ⟨cs, hA.below hb hA.lt, hs⟩, fun i r hr => ?_⟩
  obtain ⟨m1, m2, v, ha⟩ := h.at_ i r hr
  exact ⟨m1, m2, v, ha.keep (fun j _ => cell_heap (hb.block A hA.lt)) (fun x j _ _ hlt => ⟨hb.block x hlt, rfl⟩) rfl⟩
/-- One region has turned. -/
theorem Dk.put {m1 m2 : Nat} {v : Value} {r' : Rg} (h : Dk w T d D A rs) (k : Nx T d A i w T' w') (hn : Ar w' T' d A i m1 m2 v r') : Dk w' T' d D A (rs.set i r') := by
  obtain ⟨cs, hA, hs⟩ := h.blk
  obtain ⟨cs', hA', hs', he⟩ := k.row cs hA
  have hDA : D ≠ A := h.hd.apart hA (by decide)
  refine ⟨?_, (k.old D h.hd.lt).trans h.td, (k.old A hA.lt).trans h.ta, ⟨cs', hA', by rw [List.length_set, hs', hs]⟩, fun j q hq => ?_⟩
  · rw [List.length_set]
    exact (k.block D h.hd.lt hDA (fun j _ hj => by
      rw [h.td] at hj
      injection hj with hj
      injection hj with _ hj
      omega)).trans h.hd
  · by_cases e : i = j
    · subst e
      rw [List.getElem?_set] at hq
      simp at hq
      obtain ⟨_, rfl⟩ := hq
      exact ⟨m1, m2, v, hn⟩
    · rw [List.getElem?_set, if_neg e] at hq
      obtain ⟨n1, n2, u, ha⟩ := h.at_ j q hq
      refine ⟨n1, n2, u, ha.keep (fun c hc => ?_) (fun x c hc hT hlt => ⟨k.block x hlt ?_ ?_, k.old x hlt⟩) (k.old A hA.lt)⟩
      · rw [hA'.cell, hA.cell]
        exact he _ (by omega)
      · rintro rfl
        rw [h.ta] at hT
        injection hT with hT
        injection hT with _ hT
        omega
      · intro c' hc' hT'
        rw [hT] at hT'
        injection hT' with hT'
        injection hT' with _ hT'
        omega
theorem Dk.lt (h : Dk w T d D A rs) {i : Nat} {r : Rg} (hr : rs[i]? = some r) : i < rs.length := (List.getElem?_eq_some_iff.1 hr).1
theorem Dk.ok (h : Dk w T d D A rs) {i : Nat} {r : Rg} (hr : rs[i]? = some r) : Rok r := by
  obtain ⟨_, _, _, ha⟩ := h.at_ i r hr
  exact ha.ok
theorem Dk.free (h : Dk w T d D A rs) (p : Nat) : w.frozen? ⟨A, p, none⟩ = false := by
  obtain ⟨cs, hA, _⟩ := h.blk
  exact hA.free p
end

end Go.Proofs.Ythbchloghbfnmaa
