import Derived.Test.YthcjledpjlpfaaaDoorJ06
import Derived.Test.YthcjledpjlpfaaaDoorJ05
import Derived.Lib.AppendZeros
import Derived.Deep.RegionWith
import Derived.Deep.WholeRow
/- Of a claim's texts, joined: Dxr Cci Ccb Ceb Cec. No statement but in the last. -/
section
namespace Go.Proofs.YthcjledpjlpfaaaDoor
open Go.RowKit
set_option linter.unusedVariables false

/-! ### Slices that no disk has -/
structure SlT (w : World) (T : Tg) (A : Option Addr) (n c : Nat) (xs : List Value) : Prop where
  reads : Reads w A xs
  un : 0 < xs.length → ∀ a, A = some a → T a.block = none
  room : n ≤ c
  most : c ≤ maxLen
  nil : A = none → c = 0
section
variable {w w' : World} {T T' : Tg} {A : Option Addr} {n c : Nat} {xs : List Value}
theorem Reads.there {A : Option Addr} (h : Reads w A xs) (hx : 0 < xs.length) {a : Addr} (ha : A = some a) : a.block < w.heap.size := by
  obtain ⟨g, off, hA, hc⟩ := h hx
  rw [ha] at hA
  injection hA with hA
  subst hA
  exact World.block_lt_of_cell? w _ (hc 0 xs[0] (List.getElem?_eq_getElem hx))
theorem SlT.below (h : SlT w T A n c xs) (hb : Below w.heap.size w w') : SlT w' T A n c xs := ⟨h.reads.below hb (fun hx a ha => h.reads.there hx ha), h.un, h.room, h.most, h.nil⟩
theorem SlT.tn {d : Nat} (h : SlT w T A n c xs) (k : Tn T d w T' w') : SlT w' T' A n c xs :=
  ⟨fun hx => by
    obtain ⟨g, off, hA, hc⟩ := h.reads hx
    have hu := h.un hx _ hA
    refine ⟨g, off, hA, fun j u hj => ?_⟩
    have h1 := hc j u hj
    exact (cell_heap (p := ⟨g, off + j, none⟩) (k.block g (World.block_lt_of_cell? w _ h1) (fun q hq => by rw [hu] at hq; cases hq))).trans h1, fun hx a ha => (k.old _ (h.reads.there hx ha)).trans (h.un hx a ha), h.room, h.most, h.nil⟩
theorem SlT.none_ (w : World) (T : Tg) : SlT w T none 0 0 [] := ⟨Reads.empty, fun h => absurd h (Nat.lt_irrefl 0), Nat.le_refl _, Nat.zero_le _, fun _ => rfl⟩
theorem SlT.of_own {base : Nat} {e : TypeId} {s : Nat} {v : Value} (h : w.ownsRow base e s v n xs) (hT : ∀ g, base ≤ g → T g = none) : ∃ A c, v = .slice A n c ∧ SlT w T A n c xs := by
  rcases h.2 with ⟨rfl, rfl⟩ | ⟨g, cap, cur, rfl, h1, h2, h3, h4, h5, h6⟩
  · have := h.1
    rw [Nat.zero_mul] at this
    obtain rfl := List.eq_nil_of_length_eq_zero this
    exact ⟨none, 0, rfl, SlT.none_ w T⟩
  · refine ⟨_, cap, rfl, fun hx => ⟨g, 0, rfl, fun j u hj => ?_⟩, fun _ a ha => by injection ha with ha; subst ha; exact hT g h1, h3, h4, fun h => by cases h⟩
    have hjl := (List.getElem?_eq_some_iff.1 hj).1
    have : Has w g e cur := h2
    rw [this.cell, Nat.zero_add, ← hj, ← h6, List.getElem?_take, if_pos (by have := h.1; omega)]
    simp
end
theorem wpList_append_src {P : Program} {w : World} {ops : Array Oper} {rest : List Oper} {o : Oper} {a : Act} {Q : Exit → Act → World → Prop} (hgd : o.guard = none) (s x : Operand) (t : TypeId)
    (ho : o.op = .call { callee := .builtin .append, args := #[s, x], argTypes := #[t, t] }) (base : Nat) (e : TypeId) (i : TypeInfo) (z : Value) (size bytes : Nat) (ht : P.underlying t = some (.slice e)) (hi : P.info? e = some i) (hz : i.zero = some z)
    (hsize : i.size = size) (hby : i.bytes = bytes) (hzs : z.cells.size = size) (hsz : 0 < size) (v : Value) (n : Nat) (xs : List Value) (hs : a.eval s = v) (hown : w.ownsRow base e size v n xs) (A : Option Addr) (m c : Nat) (ys : List Value) (hx : a.eval x = .slice A m c) (hm : ys.length = m * size)
    (hA : A = none → c = 0) (hmc : m ≤ c) (hr : Reads w A ys) (h1 : ∀ u ∈ ys, u.oneCell' = true) (hmax : (n + m) * bytes ≤ 140737488355328) (h63 : n + m ≤ maxLen) (hbase : base ≤ w.heap.size)
    (h : ∀ v' w', w'.ownsRow base e size v' (n + m) (xs ++ ys) → w.grownBy w' v.ownBlock → wpList P ops Q rest (a.put o.dst v') w') : wpList P ops Q (o :: rest) a w := by
  rcases A with _ | ad
  · have hc := hA rfl
    subst hc
    obtain rfl : m = 0 := by omega
    obtain rfl : ys = [] := List.eq_nil_of_length_eq_zero (by omega)
    exact wpList_append_own_none hgd s x t ho base e i size ht hi v n xs hs hown hx (h v w (by simpa using hown) (World.grownBy.refl w _))
  · refine wpList_append_own w hgd s x t ho base e i z size bytes ht hi hz hsize hby hzs hsz v n xs hs hown ad m c ys hx hm (fun j u hj => ?_) h1 h63 hmax hbase (fun v' w' h1 h2 _ => h v' w' h1 h2)
    obtain ⟨g, off, hA', hc⟩ := hr (by
      have := (List.getElem?_eq_some_iff.1 hj).1
      omega)
    injection hA' with hA'
    subst hA'
    rw [add_plain]
    exact hc j u hj

/-! ### Regions -/
def pagesL (f : Int → Option (List UInt8)) (n : Nat) : List (List UInt8) := (List.range n).map fun (p : Nat) => (f (p : Int)).getD zeros
theorem pagesL_len (f : Int → Option (List UInt8)) (n : Nat) : (pagesL f n).length = n := by simp [pagesL]
theorem pagesL_at (f : Int → Option (List UInt8)) {n p : Nat} (h : p < n) : (pagesL f n)[p]? = some ((f (p : Int)).getD zeros) := by simp [pagesL, h]
def keptL (ps : List (List UInt8)) (l : List Wr) : List (List UInt8) := l.foldl (fun ps x => ps.set x.1.toNat x.2) ps
def keepF (K : Nat → Bool) : Nat → List Wr → List Wr
  | _, [] => []
  | i, x :: l => if K i then x :: keepF K (i + 1) l else keepF K (i + 1) l
def loW (x : Wr) : List Value := [.int .i64 x.1, txtV x.2]
def looseV (l : List Wr) : List Value := l.flatMap loW
theorem looseV_len (l : List Wr) : (looseV l).length = l.length * 2 := by
  induction l with
  | nil => rfl
  | cons x l ih => simp only [looseV, List.flatMap_cons, List.length_append, List.length_cons] at ih ⊢; rw [ih]; simp [loW]; omega
theorem looseV_snoc (l : List Wr) (x : Wr) : looseV (l ++ [x]) = looseV l ++ [.int .i64 x.1, txtV x.2] := by simp [looseV, loW]
theorem looseV_one (l : List Wr) : ∀ u ∈ looseV l, u.oneCell' = true := fun u hu => by
  obtain ⟨x, _, hx⟩ := List.mem_flatMap.1 hu
  simp [loW] at hx
  rcases hx with rfl | rfl <;> rfl
theorem looseV_at : ∀ (l : List Wr) (k : Nat) (x : Wr), l[k]? = some x → (looseV l)[k * 2]? = some (.int .i64 x.1) ∧ (looseV l)[k * 2 + 1]? = some (txtV x.2)
  | [], k, x, h => by simp at h
  | y :: l, 0, x, h => by simp at h; subst h; simp [looseV, loW]
  | y :: l, k + 1, x, h => by
    have := looseV_at l k x (by simpa using h)
    rw [show (k + 1) * 2 = k * 2 + 1 + 1 by omega, show k * 2 + 1 + 1 + 1 = (k * 2 + 1) + 1 + 1 by omega]
    simpa [looseV, loW] using this
structure Gx where
  r : Rg
  pA : Option Addr
  pc : Nat
  lA : Option Addr
  lc : Nat
def Gx.cells (g : Gx) : List Value := [.slice g.pA g.r.size g.pc, .slice g.lA g.r.loose.length g.lc, .int .i64 g.r.left, .bool g.r.down]
def gsV (gs : List Gx) : List Value := gs.flatMap Gx.cells
theorem gsV_len (gs : List Gx) : (gsV gs).length = gs.length * 4 := by
  induction gs with
  | nil => rfl
  | cons x l ih => simp only [gsV, List.flatMap_cons, List.length_append, List.length_cons] at ih ⊢; rw [ih]; simp [Gx.cells]; omega
theorem gsV_one (gs : List Gx) : ∀ u ∈ gsV gs, u.oneCell' = true := fun u hu => by
  obtain ⟨x, _, hx⟩ := List.mem_flatMap.1 hu
  simp [Gx.cells] at hx
  rcases hx with rfl | rfl | rfl | rfl <;> rfl
theorem gsV_at : ∀ (gs : List Gx) (k : Nat) (q : Nat), q < 4 → (gsV gs)[k * 4 + q]? = gs[k]?.bind (fun g => g.cells[q]?)
  | [], k, q, h => by simp [gsV]
  | y :: l, 0, q, h => by
    simp only [gsV, List.flatMap_cons, Nat.zero_mul, Nat.zero_add, List.getElem?_cons_zero, Option.bind_some]
    rw [List.getElem?_append_left (by simpa [Gx.cells] using h)]
  | y :: l, k + 1, q, h => by
    have := gsV_at l k q h
    simp only [gsV, List.flatMap_cons, List.getElem?_cons_succ] at this ⊢
    rw [List.getElem?_append_right (by simp [Gx.cells]; omega), show (k + 1) * 4 + q - y.cells.length = k * 4 + q by simp [Gx.cells]; omega]
    exact this
structure Gok (w : World) (T : Tg) (g : Gx) : Prop where
  pg : SlT w T g.pA g.r.size g.pc ((pagesL g.r.syn g.r.size).map txtV)
  lo : SlT w T g.lA g.r.loose.length g.lc (looseV g.r.loose)
  ok : Rok g.r
structure GA (w : World) (T : Tg) (A : Option Addr) (n c : Nat) (gs : List Gx) : Prop where
  len : n = gs.length
  sl : SlT w T A n c (gsV gs)
  each : ∀ g ∈ gs, Gok w T g
def rgs (gs : List Gx) : List Rg := gs.map (·.r)
section
variable {w w' : World} {T T' : Tg} {A : Option Addr} {n c : Nat} {gs : List Gx} {g : Gx}
theorem Gok.below (h : Gok w T g) (hb : Below w.heap.size w w') : Gok w' T g := ⟨h.pg.below hb, h.lo.below hb, h.ok⟩
theorem Gok.tn {d : Nat} (h : Gok w T g) (k : Tn T d w T' w') : Gok w' T' g := ⟨h.pg.tn k, h.lo.tn k, h.ok⟩
theorem GA.below (h : GA w T A n c gs) (hb : Below w.heap.size w w') : GA w' T A n c gs := ⟨h.len, h.sl.below hb, fun g hg => (h.each g hg).below hb⟩
theorem GA.tn {d : Nat} (h : GA w T A n c gs) (k : Tn T d w T' w') : GA w' T' A n c gs := ⟨h.len, h.sl.tn k, fun g hg => (h.each g hg).tn k⟩
theorem GA.at_ (h : GA w T A n c gs) {k : Nat} {g : Gx} (hg : gs[k]? = some g) : ∃ b off, A = some ⟨b, off, none⟩ ∧ w.cell? ⟨b, off + k * 4, none⟩ = some (.slice g.pA g.r.size g.pc) ∧ w.cell? ⟨b, off + k * 4 + 1, none⟩ = some (.slice g.lA g.r.loose.length g.lc) ∧
    w.cell? ⟨b, off + k * 4 + 2, none⟩ = some (.int .i64 g.r.left) ∧ w.cell? ⟨b, off + k * 4 + 3, none⟩ = some (.bool g.r.down) := by
  have hk := (List.getElem?_eq_some_iff.1 hg).1
  obtain ⟨b, off, hA, hc⟩ := h.sl.reads (by rw [gsV_len]; omega)
  have q : ∀ j (hj : j < 4) u, g.cells[j]? = some u → w.cell? ⟨b, off + (k * 4 + j), none⟩ = some u := fun j hj u hu => hc _ _ (by rw [gsV_at gs k j hj, hg]; exact hu)
  exact ⟨b, off, hA, q 0 (by omega) _ rfl, q 1 (by omega) _ rfl, q 2 (by omega) _ rfl, q 3 (by omega) _ rfl⟩
theorem rgs_len (gs : List Gx) : (rgs gs).length = gs.length := by simp [rgs]
theorem regN_gs {x : Int} {r : Rg} (h : regN (rgs gs) x = some r) : ∃ k g, x = (k : Nat) ∧ gs[k]? = some g ∧ g.r = r ∧ k < gs.length := by
  obtain ⟨h1, h2, h3⟩ := regN_some h
  simp only [rgs, List.getElem?_map, Option.map_eq_some_iff] at h3
  obtain ⟨g, hg, rfl⟩ := h3
  exact ⟨x.toNat, g, by omega, hg, rfl, (List.getElem?_eq_some_iff.1 hg).1⟩
end

end Go.Proofs.YthcjledpjlpfaaaDoor
end

section
namespace Go.Proofs.YthcjledpjlpfaaaDoor
open Go.RowKit
set_option linter.unusedVariables false

structure Hi where
  a : Option Addr
  n : Nat
  c : Nat
  l : List Int
def Hi.v (h : Hi) : Value := .slice h.a h.n h.c
structure CellsI (w : World) (A : Option Addr) (n c : Nat) (q : List Hi) : Prop where
  len : n = q.length
  reads : Reads w A (q.map Hi.v)
  each : ∀ h ∈ q, Ints6 w h.a h.n h.l ∧ (h.a = none → h.c = 0) ∧ h.n ≤ h.c
theorem CellsI.below {w w' : World} {A : Option Addr} {n c : Nat} {q : List Hi} (h : CellsI w A n c q) (hb : Below w.heap.size w w') : CellsI w' A n c q :=
  ⟨h.len, h.reads.keep_ hb, fun x hx => ⟨(h.each x hx).1.below9 hb, (h.each x hx).2⟩⟩
theorem CellsI.at {w : World} {A : Option Addr} {n c : Nat} {q : List Hi} (h : CellsI w A n c q) {k : Nat} (hk : k < q.length) :
    ∃ g off, A = some ⟨g, off, none⟩ ∧ w.cell? ⟨g, off + k, none⟩ = some (.slice (q[k]).a (q[k]).n (q[k]).c) := by
  obtain ⟨g, off, hA, hc⟩ := h.reads (by simp; omega)
  exact ⟨g, off, hA, hc k _ (by simp [List.getElem?_eq_getElem hk, Hi.v])⟩
theorem CellsI.hdr {w : World} {A : Option Addr} {n c : Nat} {q : List Hi} (h : CellsI w A n c q) {k : Nat} (hk : k < q.length) : Ints6 w (q[k]).a (q[k]).n (q[k]).l ∧ ((q[k]).a = none → (q[k]).c = 0) ∧ (q[k]).n ≤ (q[k]).c := h.each _ (List.getElem_mem hk)
def FreshI (W : Nat) (l : List Int) (w : World) (e : Ending) (w' : World) : Prop :=
  ∃ A c, e = .returned (.slice A l.length c) ∧ l.length ≤ c ∧ c ≤ maxLen ∧ Row w' 3 W A (l.map (Value.int .i64)) ∧ Below W w w'
theorem own_sliceI {w : World} {B : Nat} {v : Value} {n : Nat} {xs : List Value} (h : w.ownsRow B 3 1 v n xs) : ∃ A c, v = .slice A n c ∧ n ≤ c ∧ c ≤ maxLen := by
  rcases h.2 with ⟨rfl, rfl⟩ | ⟨g, cap, cur, rfl, _, _, h1, h2, _⟩
  · exact ⟨none, 0, rfl, Nat.le_refl _, Nat.zero_le _⟩
  · exact ⟨_, cap, rfl, h1, h2⟩
def flatI (q : List Hi) : List Int := q.flatMap Hi.l
end Go.Proofs.YthcjledpjlpfaaaDoor
end

section
namespace Go.Proofs.YthcjledpjlpfaaaDoor
open Go.RowKit
set_option linter.unusedVariables false


def flatH (q : List Hd) : List UInt8 := q.flatMap Hd.l
end Go.Proofs.YthcjledpjlpfaaaDoor
end

section
namespace Go.Proofs.YthcjledpjlpfaaaDoor
open Go.RowKit
set_option linter.unusedVariables false

theorem cCut_cons (b : List UInt8) (ss : List UInt8) (k end_ : Nat) (s : UInt8) (h : ss[k]? = some s) (hs : s.toNat ≤ end_) : cCut b (ss.drop k) end_ = (b.drop s.toNat).take (end_ - s.toNat) :: cCut b (ss.drop (k + 1)) s.toNat := by
  obtain ⟨hk, hg⟩ := List.getElem?_eq_some_iff.1 h
  rw [List.drop_eq_getElem_cons hk, hg]
  simp only [cCut]
  rw [if_neg (by omega)]
theorem cCut_stop (b : List UInt8) (ss : List UInt8) (k end_ : Nat) (s : UInt8) (h : ss[k]? = some s) (hs : ¬ s.toNat ≤ end_) : cCut b (ss.drop k) end_ = [] := by
  obtain ⟨hk, hg⟩ := List.getElem?_eq_some_iff.1 h
  rw [List.drop_eq_getElem_cons hk, hg]
  simp only [cCut]
  rw [if_pos (by omega)]
theorem Arg.cell_ {w : World} {g off c : Nat} {l : List UInt8} (h : Arg w (some ⟨g, off, none⟩) 128 c l) (s e : Nat) (hs : s ≤ e) (he : e ≤ 128) (A : Option Addr) (hA : e - s = 0 ∨ A = some ⟨g, off + s, none⟩) (hn : A ≠ none) :
    Arg w A (e - s) (e - s) ((l.drop s).take (e - s)) := by
  have hl := h.len
  have hm := h.most
  have hr := h.room
  refine ⟨by simp; omega, ?_, ?_, Nat.le_refl _, by unfold maxLen at *; omega, fun h => absurd h hn⟩
  · rcases hA with h0 | rfl
    · rw [h0, List.take_zero]
      exact Reads.empty
    · intro hx
      obtain ⟨g', off', hA', hc⟩ := h.reads (by simp; omega)
      injection hA' with hA'
      injection hA' with h1 h2 _
      subst h1 h2
      refine ⟨g, off + s, rfl, fun j u hj => ?_⟩
      have hjl := (List.getElem?_eq_some_iff.1 hj).1
      rw [List.length_map, List.length_take] at hjl
      rw [Nat.add_assoc]
      refine hc (s + j) u ?_
      rw [← hj, List.getElem?_map, List.getElem?_map, List.getElem?_take, if_pos (by omega), List.getElem?_drop]
  · rintro h0 a rfl
    rcases hA with h1 | hA
    · omega
    · injection hA with hA
      subst hA
      exact h.old (a := ⟨g, off, none⟩) (by omega) rfl
theorem byinfo : (Tryd.prog.info? 32).map (fun i => (i.zero, i.size, i.bytes)) = some (some (.slice none 0 0), 1, 24) := by kernel_rfl
theorem by_own_nil (w : World) (B : Nat) : w.ownsRow B 32 1 (.slice none 0 0) 0 [] := ⟨rfl, .inl ⟨rfl, rfl⟩⟩
theorem lq_snoc (q : List Hd) (y : Hd) : lq (q ++ [y]) = lq q ++ [y.l] := by simp [lq]
theorem hd_snoc (q : List Hd) (y : Hd) : (q ++ [y]).map Hd.v = q.map Hd.v ++ [y.v] := by simp
theorem CellsA.of_own {w : World} {base n : Nat} {v : Value} {q : List Hd} (h : w.ownsRow base 32 1 v n (q.map Hd.v)) (he : ∀ x ∈ q, Arg w x.a x.n x.c x.l) : ∃ A c, v = .slice A n c ∧ CellsA w A n c q := by
  have hn : n = q.length := by have := h.1; simpa using this.symm
  rcases h.2 with ⟨rfl, rfl⟩ | ⟨g, cap, cur, rfl, h1, h2, h3, h4, h5, h6⟩
  · have := List.eq_nil_of_length_eq_zero hn.symm
    subst this
    exact ⟨none, 0, rfl, CellsA.none_ w⟩
  · refine ⟨_, cap, rfl, hn, fun hx => ⟨g, 0, rfl, fun j u hj => ?_⟩, he, h3, h4, fun h => by cases h⟩
    have hjl := (List.getElem?_eq_some_iff.1 hj).1
    have : Has w g 32 cur := h2
    rw [this.cell, Nat.zero_add, ← hj, ← h6, List.getElem?_take, if_pos (by have := h.1; omega)]
    simp
def CutEnd (w : World) (ls : List (List UInt8)) (e : Ending) (w' : World) : Prop := ∃ A n c q, e = .returned (.slice A n c) ∧ CellsA w' A n c q ∧ lq q = ls ∧ Below w.heap.size w w'
def CutSt (w : World) (l : List UInt8) (k : Nat) (v e : Value) (wr : World) : Prop :=
  ∃ (end_ : Nat) (q : List Hd), e = .int .i64 end_ ∧ end_ ≤ 128 ∧ q.length = k ∧ lq q ++ cCut l ((cSlotsOf l).drop k) end_ = cCells l ∧ (∀ x ∈ q, Arg w x.a x.n x.c x.l) ∧ wr.ownsRow w.heap.size 32 1 v k (q.map Hd.v) ∧ Below w.heap.size w wr
theorem CutSt.end_ {w wr : World} {l : List UInt8} {k : Nat} {v e : Value} (h : CutSt w l k v e wr) (hc : ∀ end_ : Nat, e = .int .i64 end_ → cCut l ((cSlotsOf l).drop k) end_ = []) : CutEnd w (cCells l) (.returned v) wr := by
  obtain ⟨end_, q, h1, h2, h3, h4, h5, h6, h7⟩ := h
  obtain ⟨A, c, rfl, hC⟩ := CellsA.of_own h6 (fun x hx => (h5 x hx).below h7)
  rw [hc _ h1, List.append_nil] at h4
  exact ⟨A, k, c, q, rfl, hC, h4, h7⟩

set_option maxRecDepth 100000 in
set_option maxHeartbeats 4000000 in
theorem ceCut_any (A : Option Addr) (c : Nat) (l : List UInt8) (w : World) (h : Arg w A 128 c l) :
    Calls Tryd.prog 65 #[.slice A 128 c] w (CutEnd w (cCells l)) := by
  obtain ⟨j0, hj, jz0, jz1, jz2⟩ := info_parts byinfo
  have HH := Lib.hid h
  have HL := Lib.hid h.len
  have hc := h.room
  have hcm := h.most
  unfold maxLen at hcm
  obtain ⟨g, off, rfl, hcell⟩ := h.reads (by have := h.len; simp; omega)
  obtain ⟨x, hx⟩ : ∃ x, l[5]? = some x := ⟨_, List.getElem?_eq_getElem (by have := h.len; omega)⟩
  have h5 : w.cell? ⟨g, off + 5, none⟩ = some (.int .u8 (x.toNat : Int)) := hcell 5 (byteV x) (by simp [hx])
  have hxl := x.toNat_lt
  have HX : Hid (cCount l = x.toNat) := Lib.hid (by unfold cCount; rw [hx]; rfl)
  have HSL : Hid (∀ k s, (cSlotsOf l)[k]? = some s → ∀ wr, Below w.heap.size w wr → wr.cell? ⟨g, off + 6 + k, none⟩ = some (.int .u8 (s.toNat : Int))) := Lib.hid (fun k s hk wr hb => by
    unfold cSlotsOf at hk
    rw [List.getElem?_take] at hk
    split at hk
    · rw [List.getElem?_drop] at hk
      rw [Nat.add_assoc]
      have h6 := hcell (6 + k) (byteV s) (by rw [List.getElem?_map, hk]; rfl)
      exact (hb.cell (p := ⟨g, off + (6 + k), none⟩) (World.block_lt_of_cell? w _ h6)).trans h6
    · cases hk)
  clear hcell h hx
  generalize x.toNat = z at *
  by_cases hz : z ≤ 122
  · have HM : Hid ((cSlotsOf l).length = z) := Lib.hid (by unfold cSlotsOf; rw [HX.out]; have := HL.out; simp; omega)
    go_enter Tryd.func65, Tryd.ntmps65
    go_wp2
    have e1 : 6 + z - 6 = z := by omega
    rw [e1]
    clear e1
    go_loopw [3, 4, 21] (fun v e i wr => ∃ k : Nat, k ≤ z ∧ i = .int .i64 k ∧ CutSt w l k v e wr) (fun _ _ i _ => z - (intOf i).toNat)
    case atStart => exact ⟨0, Nat.zero_le _, rfl, 128, [], rfl, Nat.le_refl _, rfl, rfl, fun x hx => (by cases hx), by_own_nil _ _, Below.refl _ _⟩
    case round =>
      obtain ⟨k, hk, rfl, hST⟩ := hrel
      have ST := Lib.hid hST
      clear hST
      by_cases hlt : k < z
      · obtain ⟨end_, q, rfl, he, hqk, hcut, hargs, hO, hB⟩ := ST.out
        have HO := Lib.hid hO
        have HB := Lib.hid hB
        have HQ := Lib.hid hqk
        have HCT := Lib.hid hcut
        have HAR := Lib.hid hargs
        clear hO hB hqk hcut hargs
        obtain ⟨s, hs⟩ : ∃ s, (cSlotsOf l)[k]? = some s := ⟨_, List.getElem?_eq_getElem (by rw [HM.out]; exact hlt)⟩
        have cs := HSL.out k s hs wr HB.out
        have hsl := s.toNat_lt
        by_cases hse : s.toNat ≤ end_
        · have CC := Lib.hid (cCut_cons l (cSlotsOf l) k end_ s hs hse)
          clear hs
          generalize s.toNat = t at *
          have b1 : (t : Int) ≤ (end_ : Int) := by omega
          have b2 : (end_ : Int) ≤ (c : Int) := by omega
          have b3 : ¬ ((end_ : Int) < (t : Int)) := by omega
          by_cases hte : end_ - t = 0
          · have CE := Lib.hid (fun A hn => HH.out.cell_ t end_ hse he A (Or.inl hte) hn)
            obtain rfl : t = end_ := by omega
            go_wp2_with (at_builtin; refine wpList_append_one rfl _ _ 25 32 rfl w.heap.size 32 j0 _ 24 Tryd.underlying25 hj jz0 jz1 jz2 rfl _ k _ rfl HO.out (.slice (some ⟨g, off, none⟩) 0 0) rfl rfl ?_ ?_ ?_ ?_; (omega); (unfold maxLen; omega); (exact HB.out.size); intro v4 w4 h7 h8; have O4 := Lib.hid h7; have B4 := Lib.hid (HB.out.trans h8); clear h7 h8)
            go_roundw
            case rel =>
              refine ⟨k + 1, by omega, by go_num, t, q ++ [⟨some ⟨g, off, none⟩, 0, 0, (l.drop t).take (t - t)⟩], rfl, he, by simp [HQ.out], ?_, ?_, ?_, B4.out⟩
              · have h1 := HCT.out
                rw [CC.out] at h1
                rw [lq_snoc, List.append_assoc]
                exact h1
              · intro x hx
                rcases List.mem_append.1 hx with h | h
                · exact HAR.out x h
                · obtain rfl := List.mem_singleton.1 h
                  have := CE.out (some ⟨g, off, none⟩) (by simp)
                  rw [Nat.sub_self] at this ⊢
                  exact this
              · rw [hd_snoc]
                exact O4.out
            case measure => simp [intOf]; omega
          · have CE := Lib.hid (HH.out.cell_ t end_ hse he (some ⟨g, off + t, none⟩) (Or.inr rfl) (by simp))
            have b4 : t < end_ := by omega
            go_wp2_with (at_builtin; refine wpList_append_one rfl _ _ 25 32 rfl w.heap.size 32 j0 _ 24 Tryd.underlying25 hj jz0 jz1 jz2 rfl _ k _ rfl HO.out (.slice (some ⟨g, off + t, none⟩) (end_ - t) (end_ - t)) rfl rfl ?_ ?_ ?_ ?_; (omega); (unfold maxLen; omega); (exact HB.out.size); intro v4 w4 h7 h8; have O4 := Lib.hid h7; have B4 := Lib.hid (HB.out.trans h8); clear h7 h8)
            go_roundw
            case rel =>
              refine ⟨k + 1, by omega, by go_num, t, q ++ [⟨some ⟨g, off + t, none⟩, end_ - t, end_ - t, (l.drop t).take (end_ - t)⟩], rfl, by omega, by simp [HQ.out], ?_, ?_, ?_, B4.out⟩
              · have h1 := HCT.out
                rw [CC.out] at h1
                rw [lq_snoc, List.append_assoc]
                exact h1
              · intro x hx
                rcases List.mem_append.1 hx with h | h
                · exact HAR.out x h
                · obtain rfl := List.mem_singleton.1 h
                  exact CE.out
              · rw [hd_snoc]
                exact O4.out
            case measure => simp [intOf]; omega
        · have CS := Lib.hid (cCut_stop l (cSlotsOf l) k end_ s hs hse)
          clear hs
          generalize s.toNat = t at *
          have b3 : (end_ : Int) < (t : Int) := by omega
          obtain ⟨w3, hw3⟩ : ∃ w3 : World, w3 = wr := ⟨_, rfl⟩
          subst hw3
          go_wp2
          go_ret
          refine CutSt.end_ ST.out (fun e he => ?_)
          injection he with he
          obtain rfl : end_ = e := by omega
          exact CS.out
      · have CS := Lib.hid (fun (e : Nat) => show cCut l ((cSlotsOf l).drop z) e = [] by rw [List.drop_eq_nil_of_le (Nat.le_of_eq HM.out)]; rfl)
        obtain rfl : k = z := by omega
        obtain ⟨w3, hw3⟩ : ∃ w3 : World, w3 = wr := ⟨_, rfl⟩
        subst hw3
        go_wp2
        go_ret
        exact CutSt.end_ ST.out (fun e he => CS.out e)
  · have HM : Hid ((cSlotsOf l).length = 122) := Lib.hid (by unfold cSlotsOf; rw [HX.out]; have := HL.out; simp; omega)
    go_enter Tryd.func65, Tryd.ntmps65
    go_wp2
    go_loopw [3, 4, 21] (fun v e i wr => ∃ k : Nat, k ≤ 122 ∧ i = .int .i64 k ∧ CutSt w l k v e wr) (fun _ _ i _ => 122 - (intOf i).toNat)
    case atStart => exact ⟨0, Nat.zero_le _, rfl, 128, [], rfl, Nat.le_refl _, rfl, rfl, fun x hx => (by cases hx), by_own_nil _ _, Below.refl _ _⟩
    case round =>
      obtain ⟨k, hk, rfl, hST⟩ := hrel
      have ST := Lib.hid hST
      clear hST
      by_cases hlt : k < 122
      · obtain ⟨end_, q, rfl, he, hqk, hcut, hargs, hO, hB⟩ := ST.out
        have HO := Lib.hid hO
        have HB := Lib.hid hB
        have HQ := Lib.hid hqk
        have HCT := Lib.hid hcut
        have HAR := Lib.hid hargs
        clear hO hB hqk hcut hargs
        obtain ⟨s, hs⟩ : ∃ s, (cSlotsOf l)[k]? = some s := ⟨_, List.getElem?_eq_getElem (by rw [HM.out]; exact hlt)⟩
        have cs := HSL.out k s hs wr HB.out
        have hsl := s.toNat_lt
        by_cases hse : s.toNat ≤ end_
        · have CC := Lib.hid (cCut_cons l (cSlotsOf l) k end_ s hs hse)
          clear hs
          generalize s.toNat = t at *
          have b1 : (t : Int) ≤ (end_ : Int) := by omega
          have b2 : (end_ : Int) ≤ (c : Int) := by omega
          have b3 : ¬ ((end_ : Int) < (t : Int)) := by omega
          by_cases hte : end_ - t = 0
          · have CE := Lib.hid (fun A hn => HH.out.cell_ t end_ hse he A (Or.inl hte) hn)
            obtain rfl : t = end_ := by omega
            go_wp2_with (at_builtin; refine wpList_append_one rfl _ _ 25 32 rfl w.heap.size 32 j0 _ 24 Tryd.underlying25 hj jz0 jz1 jz2 rfl _ k _ rfl HO.out (.slice (some ⟨g, off, none⟩) 0 0) rfl rfl ?_ ?_ ?_ ?_; (omega); (unfold maxLen; omega); (exact HB.out.size); intro v4 w4 h7 h8; have O4 := Lib.hid h7; have B4 := Lib.hid (HB.out.trans h8); clear h7 h8)
            go_roundw
            case rel =>
              refine ⟨k + 1, by omega, by go_num, t, q ++ [⟨some ⟨g, off, none⟩, 0, 0, (l.drop t).take (t - t)⟩], rfl, he, by simp [HQ.out], ?_, ?_, ?_, B4.out⟩
              · have h1 := HCT.out
                rw [CC.out] at h1
                rw [lq_snoc, List.append_assoc]
                exact h1
              · intro x hx
                rcases List.mem_append.1 hx with h | h
                · exact HAR.out x h
                · obtain rfl := List.mem_singleton.1 h
                  have := CE.out (some ⟨g, off, none⟩) (by simp)
                  rw [Nat.sub_self] at this ⊢
                  exact this
              · rw [hd_snoc]
                exact O4.out
            case measure => simp [intOf]; omega
          · have CE := Lib.hid (HH.out.cell_ t end_ hse he (some ⟨g, off + t, none⟩) (Or.inr rfl) (by simp))
            have b4 : t < end_ := by omega
            go_wp2_with (at_builtin; refine wpList_append_one rfl _ _ 25 32 rfl w.heap.size 32 j0 _ 24 Tryd.underlying25 hj jz0 jz1 jz2 rfl _ k _ rfl HO.out (.slice (some ⟨g, off + t, none⟩) (end_ - t) (end_ - t)) rfl rfl ?_ ?_ ?_ ?_; (omega); (unfold maxLen; omega); (exact HB.out.size); intro v4 w4 h7 h8; have O4 := Lib.hid h7; have B4 := Lib.hid (HB.out.trans h8); clear h7 h8)
            go_roundw
            case rel =>
              refine ⟨k + 1, by omega, by go_num, t, q ++ [⟨some ⟨g, off + t, none⟩, end_ - t, end_ - t, (l.drop t).take (end_ - t)⟩], rfl, by omega, by simp [HQ.out], ?_, ?_, ?_, B4.out⟩
              · have h1 := HCT.out
                rw [CC.out] at h1
                rw [lq_snoc, List.append_assoc]
                exact h1
              · intro x hx
                rcases List.mem_append.1 hx with h | h
                · exact HAR.out x h
                · obtain rfl := List.mem_singleton.1 h
                  exact CE.out
              · rw [hd_snoc]
                exact O4.out
            case measure => simp [intOf]; omega
        · have CS := Lib.hid (cCut_stop l (cSlotsOf l) k end_ s hs hse)
          clear hs
          generalize s.toNat = t at *
          have b3 : (end_ : Int) < (t : Int) := by omega
          obtain ⟨w3, hw3⟩ : ∃ w3 : World, w3 = wr := ⟨_, rfl⟩
          subst hw3
          go_wp2
          go_ret
          refine CutSt.end_ ST.out (fun e he => ?_)
          injection he with he
          obtain rfl : end_ = e := by omega
          exact CS.out
      · have CS := Lib.hid (fun (e : Nat) => show cCut l ((cSlotsOf l).drop 122) e = [] by rw [List.drop_eq_nil_of_le (Nat.le_of_eq HM.out)]; rfl)
        obtain rfl : k = 122 := by omega
        obtain ⟨w3, hw3⟩ : ∃ w3 : World, w3 = wr := ⟨_, rfl⟩
        subst hw3
        go_wp2
        go_ret
        exact CutSt.end_ ST.out (fun e he => CS.out e)

end Go.Proofs.YthcjledpjlpfaaaDoor
end

section
namespace Go.Proofs.YthcjledpjlpfaaaDoor
open Go.RowKit
set_option linter.unusedVariables false

def PackOk (kind : UInt8) (ls : List (List UInt8)) (w : World) (e : Ending) (w' : World) : Prop :=
  ∃ A c, e = .returned (.tuple #[.slice A 128 c, .int .i64 0]) ∧ 128 ≤ c ∧ c ≤ maxLen ∧ Row w' 5 w.heap.size A ((cPage kind ls).map byteV) ∧ Below w.heap.size w w'
def PackNo (w : World) (e : Ending) (w' : World) : Prop := e = .returned (.tuple #[.slice none 0 0, .int .i64 1]) ∧ Below w.heap.size w w'
theorem cePack_no (kind : UInt8) (A : Option Addr) (n c : Nat) (q : List Hd) (w : World) (h : CellsA w A n c q) (hf : Few q) (hn : ¬ cFits kind (lq q)) :
    Calls Tryd.prog 47 #[.int .u8 (kind.toNat : Int), .slice A n c] w (PackNo w) := by
  have HS := Lib.hid (ceSize_any A n c q w h hf)
  by_cases hk : kind = 0
  · subst hk
    go_enter Tryd.func47, Tryd.ntmps47
    go_wp2
    go_ret2
    exact ⟨rfl, Below.refl _ _⟩
  · have hk0 : ((kind.toNat : Int) == 0) = false := beq_false_of_ne (fun e => hk (UInt8.toNat_inj.1 (by simpa using e)))
    have hz : 122 < cSz (lq q) := by
      unfold cFits at hn
      have : ¬ cSz (lq q) ≤ 122 := fun e => hn ⟨hk, e⟩
      omega
    clear hn h hf
    have e2 : decide (122 < (cSz (lq q) : Int)) = true := by simp; omega
    go_enter Tryd.func47, Tryd.ntmps47
    go_wp2_with (go_at_call 59; refine HS.out.mono ?_; rintro e w1 ⟨rfl, rfl⟩)
    go_ret2
    exact ⟨rfl, Below.refl _ _⟩

theorem splice_map {α β : Type} (f : α → β) (L : List α) (o : Nat) (c : List α) : splice (L.map f) o (c.map f) = (splice L o c).map f := by
  simp [splice, List.map_take, List.map_drop]
theorem u8sz : (Tryd.prog.info? 5).map (·.size) = some 1 := by kernel_rfl
theorem draft_zero (kind : UInt8) (n : Nat) (hn : n ≤ 122) : (((List.replicate 128 0).map byteV).toArray.setIfInBounds 4 (.int .u8 (kind.toNat : Int))).setIfInBounds 5 (.int .u8 (n : Int)) = ((cDraft kind n []).map byteV).toArray := by
  have e1 : Value.int .u8 (kind.toNat : Int) = byteV kind := rfl
  have e2 : Value.int .u8 (n : Int) = byteV (UInt8.ofNat n) := by
    unfold byteV
    congr 1
    simp
    omega
  have e3 : (List.replicate 128 0 : List UInt8) = [0, 0, 0, 0, 0, 0] ++ List.replicate 122 0 := by decide
  rw [e1, e2, e3, cDraft_nil]
  simp
theorem slice_page (W : World) (B r : Nat) (h : r ≤ 128) : (Instr.sliceAt 106 (.pointer (some ⟨B, 0, none⟩)) (some (.int .i64 (r : Int))) none none).run Tryd.prog W = .ok (.slice (some ⟨B, if 128 = r then 0 else r, none⟩) (128 - r) (128 - r)) W := by
  have hal : Tryd.prog.arrayLen 106 = 128 := by kernel_rfl
  have hel : Tryd.prog.elem 106 = 5 := by kernel_rfl
  have hun : Tryd.prog.underlying 106 = some (.array (Tryd.prog.arrayLen 106) (Tryd.prog.elem 106)) := by kernel_rfl
  have hsz : (sizeOf (Tryd.prog.elem 106)).run Tryd.prog W = .ok 1 W := by kernel_rfl
  rw [run_sliceAt_array_l W 106 ⟨B, 0, none⟩ hun .i64 (r : Int) (by omega) (by rw [hal]; omega), hsz]
  simp only [Result.andThen, slicedAt, hal, Int.toNat_natCast, Nat.mul_one, add_plain, Nat.zero_add]
  split <;> rfl
def DraftSt (w : World) (kind : UInt8) (n : Nat) (ls : List (List UInt8)) (k : Nat) (a : Value) (wr : World) : Prop :=
  a = .int .i64 ((128 - (cBack (ls.take k)).length : Nat) : Int) ∧ Has wr w.heap.size 106 ((cDraft kind n (ls.take k)).map byteV).toArray ∧ Below w.heap.size w wr
theorem zero_page : ∀ w, (zeroValue 106).run Tryd.prog w = .ok (.agg ((List.replicate 128 0).map byteV).toArray) w :=
  (zero_of_info (show (Tryd.prog.info? 106).map (fun i => (i.zero, i.size)) = some (some (.agg ((List.replicate 128 0).map byteV).toArray), 128) by kernel_rfl)).1
set_option maxRecDepth 100000 in
set_option maxHeartbeats 4000000 in
theorem cePack_yes (kind : UInt8) (A : Option Addr) (n c : Nat) (q : List Hd) (w : World) (ht : Tab w) (h : CellsA w A n c q) (hf : Few q) (hy : cFits kind (lq q)) :
    Calls Tryd.prog 47 #[.int .u8 (kind.toNat : Int), .slice A n c] w (PackOk kind (lq q) w) := by
  have HS := Lib.hid (ceSize_any A n c q w h hf)
  have HT := Lib.hid ht
  have HA := Lib.hid h
  have HL := Lib.hid h.len
  have hk0 : ((kind.toNat : Int) == 0) = false := beq_false_of_ne (fun e => hy.1 (UInt8.toNat_inj.1 (by simpa using e)))
  have hz := hy.2
  have hn : n ≤ 122 := by have := cSz_len (lq q); rw [lq_len] at this; have := h.len; omega
  have hkl := kind.toNat_lt
  have e2 : decide (122 < (cSz (lq q) : Int)) = false := by simp; omega
  clear ht h hf hy
  obtain ⟨zc, hzc⟩ : ∃ zc : Array Value, ((List.replicate 128 0).map byteV).toArray = zc := ⟨_, rfl⟩
  have hz1 : ∀ w, (zeroValue 106).run Tryd.prog w = .ok (.agg zc) w := fun w => by rw [← hzc]; exact zero_page w
  have HZC := Lib.hid hzc
  have hz4 : zc[4]? = some (.int .u8 0) := by rw [← hzc]; simp [byteV]
  have hz5 : zc[5]? = some (.int .u8 0) := by rw [← hzc]; simp [byteV]
  clear hzc
  go_enter Tryd.func47, Tryd.ntmps47
  go_wp2_with (go_at_call 59; refine HS.out.mono ?_; rintro e w1 ⟨rfl, rfl⟩)
  go_loopw [7, 25] (fun a i wr => ∃ k : Nat, k ≤ n ∧ i = .int .i64 k ∧ DraftSt w kind n (lq q) k a wr) (fun _ i _ => n - (intOf i).toNat)
  case atStart =>
    refine ⟨0, Nat.zero_le _, rfl, rfl, ?_, (Below.refl _ _).alloc (Nat.le_refl _) _⟩
    rw [List.take_zero, ← draft_zero kind n hn, HZC.out]
    exact Has.made w _ _
  case round =>
    obtain ⟨k, hk, rfl, hST⟩ := hrel
    by_cases hlt : k < n
    · obtain ⟨rfl, hH, hB⟩ := hST
      have hkl2 : k < q.length := by rw [← HL.out]; exact hlt
      have hlk := lq_at q hkl2
      obtain ⟨g, off, rfl, hc⟩ := (HA.out.below hB).at hkl2
      have HY := HA.out.hdr hkl2
      have hm := cSz_more hlk
      have hme := cSz_take (lq q) (k + 1)
      have hbl := cBack_len ((lq q).take k)
      have htl : ((lq q).take k).length = k := by rw [List.length_take, lq_len]; omega
      have hst := cDraft_step kind n ((lq q).take k) (q[k]).l (by omega)
      have hta : (lq q).take (k + 1) = (lq q).take k ++ [(q[k]).l] := by
        obtain ⟨h2, h3⟩ := List.getElem?_eq_some_iff.1 hlk
        rw [List.take_succ_eq_append_getElem h2, h3]
      have hbk : (cBack ((lq q).take (k + 1))).length = (q[k]).l.length + (cBack ((lq q).take k)).length := by rw [hta, cBack_snoc, List.length_append]
      have hd := cDraft_len kind n ((lq q).take k) (by omega)
      rw [htl] at hst
      have hyl := HY.len
      have NX : Hid (∀ a b W, b = 128 - (cBack ((lq q).take k)).length - (q[k]).l.length → a = .int .i64 ((b : Nat) : Int) → Has W w.heap.size 106 (splice (((cDraft kind n ((lq q).take k)).set (6 + k) (UInt8.ofNat b)).map byteV) b ((q[k]).l.map byteV)).toArray → Below w.heap.size w W → DraftSt w kind n (lq q) (k + 1) a W) := Lib.hid (fun a b W e1 e2 h1 h2 => by
        refine ⟨by rw [e2, e1, hbk]; congr 2; omega, ?_, h2⟩
        rw [splice_map, e1, hst, ← hta] at h1
        exact h1)
      have hb0 : (cBack ((lq q).take k)).length + (q[k]).l.length ≤ 122 := by omega
      have hb1 : 6 + k < 128 - ((cBack ((lq q).take k)).length + (q[k]).l.length) := by omega
      generalize q[k] = y at *
      clear hst hta hbk hm hme hlk hkl2 htl
      generalize (cBack ((lq q).take k)).length = z at *
      obtain ⟨L, hL⟩ : ∃ L, cDraft kind n ((lq q).take k) = L := ⟨_, rfl⟩
      rw [hL] at hd NX hH
      clear hL
      have hck := hH.cell (6 + k)
      have hfr := hH.free (6 + k)
      rw [List.getElem?_toArray, List.getElem?_eq_getElem (by rw [List.length_map]; omega)] at hck
      generalize ((L.map byteV)[6 + k]'_) = old at hck
      have HHR := Lib.hid hH
      have HB := Lib.hid hB
      have HLN := Lib.hid hd
      have HYY := Lib.hid HY
      have HYL := Lib.hid hyl
      have hyn : z + y.n ≤ 122 := by omega
      rw [← hyl] at hb1
      have hyr := HY.room
      have hym := HY.most
      unfold maxLen at hym
      clear hH hB hd HY hyl hbl
      obtain ⟨r, hr⟩ : ∃ r, 128 - z - y.n = r := ⟨_, rfl⟩
      have hpr : ((128 - z : Nat) : Int) - (y.n : Int) = (r : Int) := by omega
      have hr1 : 6 + k < r := by omega
      have hr2 : r + y.n ≤ 128 := by omega
      have HRE : Hid (r = 128 - z - y.l.length) := Lib.hid (by rw [← HYL.out]; exact hr.symm)
      clear hb0 hb1 hr hyn
      generalize ((128 - z : Nat) : Int) = zz at hpr
      have hcl : (L.map byteV).length = 128 := by rw [List.length_map, HLN.out]
      have HS1 : Hid (Has (wr.setCell ⟨w.heap.size, 6 + k, none⟩ (.int .u8 (r : Int))) w.heap.size 106 ((L.set (6 + k) (UInt8.ofNat r)).map byteV).toArray) := Lib.hid (by
        have h1 := HHR.out.store (6 + k) (.int .u8 (r : Int))
        have e : Value.int .u8 (r : Int) = byteV (UInt8.ofNat r) := by
          unfold byteV
          congr 1
          simp
          omega
        rw [e, List.setIfInBounds_toArray, ← List.map_set] at h1
        rw [e]
        exact h1)
      have HS2 : Hid (Below w.heap.size w (wr.setCell ⟨w.heap.size, 6 + k, none⟩ (.int .u8 (r : Int)))) := Lib.hid (HB.out.setCell (Nat.le_refl _) _)
      have HSR : Hid (∀ W, Below w.heap.size w W → 0 < (y.l.map byteV).length → ∃ ad, y.a = some ad ∧ ∀ j v, (y.l.map byteV)[j]? = some v → W.cell? (ad.add j) = some v) := Lib.hid (fun W hb hx => by
        obtain ⟨g1, o1, hA1, hc1⟩ := (HYY.out.below hb).reads hx
        exact ⟨_, hA1, fun j v hj => by rw [add_plain]; exact hc1 j v hj⟩)
      have HLM : Hid ((y.l.map byteV).length = Nat.min y.n (128 - r)) := Lib.hid (by rw [List.length_map, ← HYL.out]; exact (Nat.min_eq_left (by omega)).symm)
      have HFT : Hid (r + (y.l.map byteV).length ≤ ((L.set (6 + k) (UInt8.ofNat r)).map byteV).length) := Lib.hid (by rw [List.length_map, List.length_map, List.length_set, HLN.out, ← HYL.out]; exact hr2)
      clear hcl
      by_cases hr3 : r = 128
      · have HZ0 : Hid (¬ 0 < (y.l.map byteV).length) := Lib.hid (by rw [List.length_map, ← HYL.out]; omega)
        subst hr3
        obtain rfl : zz = 128 := by omega
        have hsl := fun W => slice_page W w.heap.size 128 (by omega)
        rw [if_pos rfl] at hsl
        clear hr2
        have HS1b : Hid (Has (wr.setCell ⟨w.heap.size, 6 + k, none⟩ (.int .u8 128)) w.heap.size 106 ((L.set (6 + k) (UInt8.ofNat 128)).map byteV).toArray) := HS1
        have HS2b : Hid (Below w.heap.size w (wr.setCell ⟨w.heap.size, 6 + k, none⟩ (.int .u8 128))) := HS2
        have HLMb : Hid ((y.l.map byteV).length = Nat.min y.n 0) := HLM
        go_wp2_with (refine wpList_copy_splice rfl (.tmp 40) (.tmp 41) 32 32 rfl 5 Tryd.underlying32 u8sz (some ⟨w.heap.size, 0, none⟩) y.a 0 0 y.n y.c rfl rfl w.heap.size 128 ((L.set (6 + k) (UInt8.ofNat 128)).map byteV) 106 HS1b.out (y.l.map byteV) HLMb.out (fun h => absurd h HZ0.out) HFT.out (one_byteV y.l) w.heap.size w HS2b.out (Nat.le_refl _) ?_; intro w5 h5 h6; have S5 := Lib.hid h5.out; have B5 := Lib.hid h6; clear h5 h6)
        go_roundw
        case rel => exact ⟨k + 1, by omega, by go_num, NX.out _ _ _ HRE.out (by go_num) S5.out B5.out⟩
        case measure => simp [intOf]; omega
      · have hsl := fun W => slice_page W w.heap.size r (by omega)
        rw [if_neg (by omega)] at hsl
        go_wp2_with (refine wpList_copy_splice rfl (.tmp 40) (.tmp 41) 32 32 rfl 5 Tryd.underlying32 u8sz (some ⟨w.heap.size, r, none⟩) y.a (128 - r) (128 - r) y.n y.c rfl rfl w.heap.size r ((L.set (6 + k) (UInt8.ofNat r)).map byteV) 106 HS1.out (y.l.map byteV) HLM.out (fun h => ⟨rfl, HSR.out _ HS2.out h⟩) HFT.out (one_byteV y.l) w.heap.size w HS2.out (Nat.le_refl _) ?_; intro w5 h5 h6; have S5 := Lib.hid h5.out; have B5 := Lib.hid h6; clear h5 h6)
        go_roundw
        case rel => exact ⟨k + 1, by omega, by go_num, NX.out _ _ _ HRE.out (by go_num) S5.out B5.out⟩
        case measure => simp [intOf]; omega
    · obtain rfl : k = n := by omega
      obtain ⟨rfl, hH, hB⟩ := hST
      have htk : (lq q).take k = lq q := List.take_of_length_le (by rw [lq_len, ← HL.out]; exact Nat.le_refl _)
      rw [htk] at hH
      have hlk : (lq q).length = k := by rw [lq_len, ← HL.out]
      have hpg : tagB ((cDraft kind k (lq q)).drop 4) = cPage kind (lq q) := by rw [cDraft_drop, cPage, hlk]
      have hdl : ((cDraft kind k (lq q)).drop 4).length = 124 := by rw [List.length_drop, cDraft_len _ _ _ hz]
      have hR : Reads wr (some ⟨w.heap.size, 4, none⟩) (((cDraft kind k (lq q)).drop 4).map byteV) := fun _ => ⟨w.heap.size, 4, rfl, fun j u hj => by
        rw [hH.cell, ← hj]
        simp [List.map_drop]⟩
      have HTG := Lib.hid (cTag_any (some ⟨w.heap.size, 4, none⟩) 124 124 ((cDraft kind k (lq q)).drop 4) wr (HT.out.below hB) hdl.symm (by omega) hR (fun h => by cases h))
      rw [hpg, ] at HTG
      have HPL := Lib.hid (cPage_len kind (lq q) hz)
      have HB := Lib.hid hB
      have hsl := fun W => slice_page W w.heap.size 4 (by omega)
      rw [if_neg (by omega)] at hsl
      clear hH hB htk hlk hpg hdl hR hlt
      obtain ⟨wo, hwo⟩ : ∃ wo : World, wo = wr := ⟨_, rfl⟩
      subst hwo
      go_wp2_with (go_at_call 60; refine HTG.out.mono ?_; rintro e w2 ⟨A2, c2, rfl, k1, k2, k3, k4⟩; have K1 := Lib.hid k1; have K2 := Lib.hid k2; have K3 := Lib.hid k3; have K4 := Lib.hid k4; clear k1 k2 k3 k4)
      go_ret2
      exact ⟨A2, c2, by rw [HPL.out]; rfl, by rw [← HPL.out]; exact K1.out, K2.out, K3.out.low HB.out.size, below_step HB.out K4.out⟩

end Go.Proofs.YthcjledpjlpfaaaDoor
end
