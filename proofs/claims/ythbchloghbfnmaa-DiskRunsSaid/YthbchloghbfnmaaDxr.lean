/- The document's regions of layer 6 in memory, in my own words: no statement. -/
import Derived.Test.YthbchloghbfnmaaDot
namespace Go.Proofs.Ythbchloghbfnmaa
open Go.RowKit
set_option linter.unusedVariables false

/-! ### Slices that no disk has -/
structure SlT (w : World) (T : Tg) (A : Option Addr) (n c : Nat) (xs : List Value) : Prop where
  reads : Reads w A xs
  un : 0 < xs.length → ∀ a, A = some a → T a.block = none
  room : n ≤ c
  most : c ≤ maxLen
  nil : A = none → c = 0
section
variable {w w' : World} {T T' : Tg} {A : Option Addr} {n c : Nat} {xs : List Value}
theorem Reads.there {A : Option Addr} (h : Reads w A xs) (hx : 0 < xs.length) {a : Addr} (ha : A = some a) : a.block < w.heap.size := by
  obtain ⟨g, off, hA, hc⟩ := h hx
  rw [ha] at hA
  injection hA with hA
  subst hA
  exact World.block_lt_of_cell? w _ (hc 0 xs[0] (List.getElem?_eq_getElem hx))
theorem SlT.below (h : SlT w T A n c xs) (hb : Below w.heap.size w w') : SlT w' T A n c xs := ⟨h.reads.below hb (fun hx a ha => h.reads.there hx ha), h.un, h.room, h.most, h.nil⟩
theorem SlT.tn {d : Nat} (h : SlT w T A n c xs) (k : Tn T d w T' w') : SlT w' T' A n c xs :=
  ⟨fun hx => by
    obtain ⟨g, off, hA, hc⟩ := h.reads hx
    have hu := h.un hx _ hA
    refine ⟨g, off, hA, fun j u hj => ?_⟩
    have h1 := hc j u hj
    exact (cell_heap (p := ⟨g, off + j, none⟩) (k.block g (World.block_lt_of_cell? w _ h1) (fun q hq => by rw [hu] at hq; cases hq))).trans h1, fun hx a ha => (k.old _ (h.reads.there hx ha)).trans (h.un hx a ha), h.room, h.most, h.nil⟩
theorem SlT.none_ (w : World) (T : Tg) : SlT w T none 0 0 [] := ⟨Reads.empty, fun h => absurd h (Nat.lt_irrefl 0), Nat.le_refl _, Nat.zero_le _, fun _ => rfl⟩
/-- What an append has made. -/
theorem SlT.of_own {base : Nat} {e : TypeId} {s : Nat} {v : Value} (h : w.ownsRow base e s v n xs) (hT : ∀ g, base ≤ g → T g = none) : ∃ A c, v = .slice A n c ∧ SlT w T A n c xs := by
  rcases h.2 with ⟨rfl, rfl⟩ | ⟨g, cap, cur, rfl, h1, h2, h3, h4, h5, h6⟩
  · have := h.1
    rw [Nat.zero_mul] at this
    obtain rfl := List.eq_nil_of_length_eq_zero this
    exact ⟨none, 0, rfl, SlT.none_ w T⟩
  · refine ⟨_, cap, rfl, fun hx => ⟨g, 0, rfl, fun j u hj => ?_⟩, fun _ a ha => by injection ha with ha; subst ha; exact hT g h1, h3, h4, fun h => by cases h⟩
    have hjl := (List.getElem?_eq_some_iff.1 hj).1
    have : Has w g e cur := h2
    rw [this.cell, Nat.zero_add, ← hj, ← h6, List.getElem?_take, if_pos (by have := h.1; omega)]
    simp
end
/-- 'append(v, x...)' of whatever elements, wherever x lies, nil included. -/
theorem wpList_append_src {P : Program} {w : World} {ops : Array Oper} {rest : List Oper} {o : Oper} {a : Act} {Q : Exit → Act → World → Prop} (hgd : o.guard = none) (s x : Operand) (t : TypeId)
    (ho : o.op = .call { callee := .builtin .append, args := #[s, x], argTypes := #[t, t] }) (base : Nat) (e : TypeId) (i : TypeInfo) (z : Value) (size bytes : Nat) (ht : P.underlying t = some (.slice e)) (hi : P.info? e = some i) (hz : i.zero = some z)
    (hsize : i.size = size) (hby : i.bytes = bytes) (hzs : z.cells.size = size) (hsz : 0 < size) (v : Value) (n : Nat) (xs : List Value) (hs : a.eval s = v) (hown : w.ownsRow base e size v n xs) (A : Option Addr) (m c : Nat) (ys : List Value) (hx : a.eval x = .slice A m c) (hm : ys.length = m * size)
    (hA : A = none → c = 0) (hmc : m ≤ c) (hr : Reads w A ys) (h1 : ∀ u ∈ ys, u.oneCell' = true) (hmax : (n + m) * bytes ≤ 140737488355328) (h63 : n + m ≤ maxLen) (hbase : base ≤ w.heap.size)
    (h : ∀ v' w', w'.ownsRow base e size v' (n + m) (xs ++ ys) → w.grownBy w' v.ownBlock → wpList P ops Q rest (a.put o.dst v') w') : wpList P ops Q (o :: rest) a w := by
  rcases A with _ | ad
  · have hc := hA rfl
    subst hc
    obtain rfl : m = 0 := by omega
    obtain rfl : ys = [] := List.eq_nil_of_length_eq_zero (by omega)
    exact wpList_append_own_none hgd s x t ho base e i size ht hi v n xs hs hown hx (h v w (by simpa using hown) (World.grownBy.refl w _))
  · refine wpList_append_own w hgd s x t ho base e i z size bytes ht hi hz hsize hby hzs hsz v n xs hs hown ad m c ys hx hm (fun j u hj => ?_) h1 h63 hmax hbase (fun v' w' h1 h2 _ => h v' w' h1 h2)
    obtain ⟨g, off, hA', hc⟩ := hr (by
      have := (List.getElem?_eq_some_iff.1 hj).1
      omega)
    injection hA' with hA'
    subst hA'
    rw [add_plain]
    exact hc j u hj

/-! ### Regions -/
def pagesL (f : Int → Option (List UInt8)) (n : Nat) : List (List UInt8) := (List.range n).map fun (p : Nat) => (f (p : Int)).getD zeros
theorem pagesL_len (f : Int → Option (List UInt8)) (n : Nat) : (pagesL f n).length = n := by simp [pagesL]
theorem pagesL_at (f : Int → Option (List UInt8)) {n p : Nat} (h : p < n) : (pagesL f n)[p]? = some ((f (p : Int)).getD zeros) := by simp [pagesL, h]
theorem pagesL_set (f : Int → Option (List UInt8)) (n : Nat) {x : Wr} (h0 : 0 ≤ x.1) : (pagesL f n).set x.1.toNat x.2 = pagesL (putS f x) n := by
  apply List.ext_getElem?
  intro i
  rw [List.getElem?_set]
  simp only [pagesL_len]
  by_cases hi : i < n
  · rw [pagesL_at (putS f x) hi]
    by_cases e : x.1.toNat = i
    · subst e
      rw [if_pos rfl, if_pos hi]
      simp only [putS]
      rw [if_pos (by omega)]
      rfl
    · rw [if_neg e, pagesL_at f hi]
      simp only [putS]
      rw [if_neg (by omega)]
  · have h1 : (pagesL f n)[i]? = none := List.getElem?_eq_none (by rw [pagesL_len]; omega)
    have h2 : (pagesL (putS f x) n)[i]? = none := List.getElem?_eq_none (by rw [pagesL_len]; omega)
    rw [h1, h2]
    split
    · split
      · omega
      · rfl
    · rfl
/-- Pages behind some writes. -/
def keptL (ps : List (List UInt8)) (l : List Wr) : List (List UInt8) := l.foldl (fun ps x => ps.set x.1.toNat x.2) ps
theorem keptL_len (l : List Wr) : ∀ ps : List (List UInt8), (keptL ps l).length = ps.length := by
  induction l with
  | nil => intro ps; rfl
  | cons x l ih => intro ps; simp only [keptL, List.foldl_cons] at ih ⊢; rw [ih]; simp
theorem keptL_snoc (ps : List (List UInt8)) (l : List Wr) (x : Wr) : keptL ps (l ++ [x]) = (keptL ps l).set x.1.toNat x.2 := by simp [keptL]
theorem keptL_pages (n : Nat) : ∀ (l : List Wr) (f : Int → Option (List UInt8)), (∀ x ∈ l, 0 ≤ x.1) → keptL (pagesL f n) l = pagesL (l.foldl putS f) n
  | [], f, _ => rfl
  | x :: l, f, h => by
    simp only [keptL, List.foldl_cons]
    rw [pagesL_set f n (h x (by simp))]
    exact keptL_pages n l _ (fun y hy => h y (.tail _ hy))
/-- Those writes that are kept. -/
def keepF (K : Nat → Bool) : Nat → List Wr → List Wr
  | _, [] => []
  | i, x :: l => if K i then x :: keepF K (i + 1) l else keepF K (i + 1) l
theorem keepF_snoc (K : Nat → Bool) (x : Wr) : ∀ (l : List Wr) (i : Nat), keepF K i (l ++ [x]) = if K (i + l.length) then keepF K i l ++ [x] else keepF K i l
  | [], i => by simp [keepF]
  | y :: l, i => by
    simp only [List.cons_append, keepF, keepF_snoc K x l (i + 1), List.length_cons]
    rw [show i + 1 + l.length = i + (l.length + 1) by omega]
    split <;> split <;> simp
theorem keepF_mem {K : Nat → Bool} {x : Wr} : ∀ (l : List Wr) (i : Nat), x ∈ keepF K i l → x ∈ l
  | [], i, h => by cases h
  | y :: l, i, h => by
    simp only [keepF] at h
    split at h
    · rcases List.mem_cons.1 h with rfl | h
      · exact .head _
      · exact .tail _ (keepF_mem l _ h)
    · exact .tail _ (keepF_mem l _ h)
theorem keepF_set (K : Nat → Bool) : ∀ (l : List Wr) (i : Nat) (f : Int → Option (List UInt8)), (keepF K i l).foldl putS f = setK K i l f
  | [], i, f => rfl
  | x :: l, i, f => by
    simp only [keepF, setK]
    split
    · exact keepF_set K l _ _
    · exact keepF_set K l _ _
theorem keepF_all : ∀ (l : List Wr) (i : Nat), keepF allK i l = l
  | [], _ => rfl
  | x :: l, i => by
    simp only [keepF, keepF_all l]
    rfl
theorem keepF_none {K : Nat → Bool} (h : ∀ i, K i = false) : ∀ (l : List Wr) (i : Nat), keepF K i l = []
  | [], _ => rfl
  | x :: l, i => by simp [keepF, h, keepF_none h l]
def loW (x : Wr) : List Value := [.int .i64 x.1, txtV x.2]
def looseV (l : List Wr) : List Value := l.flatMap loW
theorem looseV_len (l : List Wr) : (looseV l).length = l.length * 2 := by
  induction l with
  | nil => rfl
  | cons x l ih => simp only [looseV, List.flatMap_cons, List.length_append, List.length_cons] at ih ⊢; rw [ih]; simp [loW]; omega
theorem looseV_snoc (l : List Wr) (x : Wr) : looseV (l ++ [x]) = looseV l ++ [.int .i64 x.1, txtV x.2] := by simp [looseV, loW]
theorem looseV_one (l : List Wr) : ∀ u ∈ looseV l, u.oneCell' = true := fun u hu => by
  obtain ⟨x, _, hx⟩ := List.mem_flatMap.1 hu
  simp [loW] at hx
  rcases hx with rfl | rfl <;> rfl
theorem looseV_at : ∀ (l : List Wr) (k : Nat) (x : Wr), l[k]? = some x → (looseV l)[k * 2]? = some (.int .i64 x.1) ∧ (looseV l)[k * 2 + 1]? = some (txtV x.2)
  | [], k, x, h => by simp at h
  | y :: l, 0, x, h => by simp at h; subst h; simp [looseV, loW]
  | y :: l, k + 1, x, h => by
    have := looseV_at l k x (by simpa using h)
    rw [show (k + 1) * 2 = k * 2 + 1 + 1 by omega, show k * 2 + 1 + 1 + 1 = (k * 2 + 1) + 1 + 1 by omega]
    simpa [looseV, loW] using this
/-- A region of the document's, and where its rows lie. -/
structure Gx where
  r : Rg
  pA : Option Addr
  pc : Nat
  lA : Option Addr
  lc : Nat
def Gx.cells (g : Gx) : List Value := [.slice g.pA g.r.size g.pc, .slice g.lA g.r.loose.length g.lc, .int .i64 g.r.left, .bool g.r.down]
def gsV (gs : List Gx) : List Value := gs.flatMap Gx.cells
theorem gsV_len (gs : List Gx) : (gsV gs).length = gs.length * 4 := by
  induction gs with
  | nil => rfl
  | cons x l ih => simp only [gsV, List.flatMap_cons, List.length_append, List.length_cons] at ih ⊢; rw [ih]; simp [Gx.cells]; omega
theorem gsV_one (gs : List Gx) : ∀ u ∈ gsV gs, u.oneCell' = true := fun u hu => by
  obtain ⟨x, _, hx⟩ := List.mem_flatMap.1 hu
  simp [Gx.cells] at hx
  rcases hx with rfl | rfl | rfl | rfl <;> rfl
theorem gsV_at : ∀ (gs : List Gx) (k : Nat) (q : Nat), q < 4 → (gsV gs)[k * 4 + q]? = gs[k]?.bind (fun g => g.cells[q]?)
  | [], k, q, h => by simp [gsV]
  | y :: l, 0, q, h => by
    simp only [gsV, List.flatMap_cons, Nat.zero_mul, Nat.zero_add, List.getElem?_cons_zero, Option.bind_some]
    rw [List.getElem?_append_left (by simpa [Gx.cells] using h)]
  | y :: l, k + 1, q, h => by
    have := gsV_at l k q h
    simp only [gsV, List.flatMap_cons, List.getElem?_cons_succ] at this ⊢
    rw [List.getElem?_append_right (by simp [Gx.cells]; omega), show (k + 1) * 4 + q - y.cells.length = k * 4 + q by simp [Gx.cells]; omega]
    exact this
structure Gok (w : World) (T : Tg) (g : Gx) : Prop where
  pg : SlT w T g.pA g.r.size g.pc ((pagesL g.r.syn g.r.size).map txtV)
  lo : SlT w T g.lA g.r.loose.length g.lc (looseV g.r.loose)
  ok : Rok g.r
structure GA (w : World) (T : Tg) (A : Option Addr) (n c : Nat) (gs : List Gx) : Prop where
  len : n = gs.length
  sl : SlT w T A n c (gsV gs)
  each : ∀ g ∈ gs, Gok w T g
def rgs (gs : List Gx) : List Rg := gs.map (·.r)
section
variable {w w' : World} {T T' : Tg} {A : Option Addr} {n c : Nat} {gs : List Gx} {g : Gx}
theorem Gok.below (h : Gok w T g) (hb : Below w.heap.size w w') : Gok w' T g := ⟨h.pg.below hb, h.lo.below hb, h.ok⟩
theorem Gok.tn {d : Nat} (h : Gok w T g) (k : Tn T d w T' w') : Gok w' T' g := ⟨h.pg.tn k, h.lo.tn k, h.ok⟩
theorem GA.below (h : GA w T A n c gs) (hb : Below w.heap.size w w') : GA w' T A n c gs := ⟨h.len, h.sl.below hb, fun g hg => (h.each g hg).below hb⟩
theorem GA.tn {d : Nat} (h : GA w T A n c gs) (k : Tn T d w T' w') : GA w' T' A n c gs := ⟨h.len, h.sl.tn k, fun g hg => (h.each g hg).tn k⟩
theorem GA.at_ (h : GA w T A n c gs) {k : Nat} {g : Gx} (hg : gs[k]? = some g) : ∃ b off, A = some ⟨b, off, none⟩ ∧ w.cell? ⟨b, off + k * 4, none⟩ = some (.slice g.pA g.r.size g.pc) ∧ w.cell? ⟨b, off + k * 4 + 1, none⟩ = some (.slice g.lA g.r.loose.length g.lc) ∧
    w.cell? ⟨b, off + k * 4 + 2, none⟩ = some (.int .i64 g.r.left) ∧ w.cell? ⟨b, off + k * 4 + 3, none⟩ = some (.bool g.r.down) := by
  have hk := (List.getElem?_eq_some_iff.1 hg).1
  obtain ⟨b, off, hA, hc⟩ := h.sl.reads (by rw [gsV_len]; omega)
  have q : ∀ j (hj : j < 4) u, g.cells[j]? = some u → w.cell? ⟨b, off + (k * 4 + j), none⟩ = some u := fun j hj u hu => hc _ _ (by rw [gsV_at gs k j hj, hg]; exact hu)
  exact ⟨b, off, hA, q 0 (by omega) _ rfl, q 1 (by omega) _ rfl, q 2 (by omega) _ rfl, q 3 (by omega) _ rfl⟩
theorem rgs_len (gs : List Gx) : (rgs gs).length = gs.length := by simp [rgs]
theorem regN_gs {x : Int} {r : Rg} (h : regN (rgs gs) x = some r) : ∃ k g, x = (k : Nat) ∧ gs[k]? = some g ∧ g.r = r ∧ k < gs.length := by
  obtain ⟨h1, h2, h3⟩ := regN_some h
  simp only [rgs, List.getElem?_map, Option.map_eq_some_iff] at h3
  obtain ⟨g, hg, rfl⟩ := h3
  exact ⟨x.toNat, g, by omega, hg, rfl, (List.getElem?_eq_some_iff.1 hg).1⟩
end

end Go.Proofs.Ythbchloghbfnmaa
