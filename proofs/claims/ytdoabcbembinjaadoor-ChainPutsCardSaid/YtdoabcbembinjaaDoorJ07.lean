import Derived.Test.YtdoabcbembinjaaDoorJ06
import Derived.Test.YtdoabcbembinjaaDoorJ02
import Derived.Lib.AppendZeros
/- Of a claim's texts, joined: Dxr Cci Ccb Ceb. No statement but in the last. -/
section
namespace Go.Proofs.YtdoabcbembinjaaDoor
open Go.RowKit
set_option linter.unusedVariables false

/-! ### Slices that no disk has -/
structure SlT (w : World) (T : Tg) (A : Option Addr) (n c : Nat) (xs : List Value) : Prop where
  reads : Reads w A xs
  un : 0 < xs.length → ∀ a, A = some a → T a.block = none
  room : n ≤ c
  most : c ≤ maxLen
  nil : A = none → c = 0
section
variable {w w' : World} {T T' : Tg} {A : Option Addr} {n c : Nat} {xs : List Value}
theorem Reads.there {A : Option Addr} (h : Reads w A xs) (hx : 0 < xs.length) {a : Addr} (ha : A = some a) : a.block < w.heap.size := by
  obtain ⟨g, off, hA, hc⟩ := h hx
  rw [ha] at hA
  injection hA with hA
  subst hA
  exact World.block_lt_of_cell? w _ (hc 0 xs[0] (List.getElem?_eq_getElem hx))
theorem SlT.below (h : SlT w T A n c xs) (hb : Below w.heap.size w w') : SlT w' T A n c xs := ⟨h.reads.below hb (fun hx a ha => h.reads.there hx ha), h.un, h.room, h.most, h.nil⟩
theorem SlT.tn {d : Nat} (h : SlT w T A n c xs) (k : Tn T d w T' w') : SlT w' T' A n c xs :=
  ⟨fun hx => by
    obtain ⟨g, off, hA, hc⟩ := h.reads hx
    have hu := h.un hx _ hA
    refine ⟨g, off, hA, fun j u hj => ?_⟩
    have h1 := hc j u hj
    exact (cell_heap (p := ⟨g, off + j, none⟩) (k.block g (World.block_lt_of_cell? w _ h1) (fun q hq => by rw [hu] at hq; cases hq))).trans h1, fun hx a ha => (k.old _ (h.reads.there hx ha)).trans (h.un hx a ha), h.room, h.most, h.nil⟩
theorem SlT.none_ (w : World) (T : Tg) : SlT w T none 0 0 [] := ⟨Reads.empty, fun h => absurd h (Nat.lt_irrefl 0), Nat.le_refl _, Nat.zero_le _, fun _ => rfl⟩
theorem SlT.of_own {base : Nat} {e : TypeId} {s : Nat} {v : Value} (h : w.ownsRow base e s v n xs) (hT : ∀ g, base ≤ g → T g = none) : ∃ A c, v = .slice A n c ∧ SlT w T A n c xs := by
  rcases h.2 with ⟨rfl, rfl⟩ | ⟨g, cap, cur, rfl, h1, h2, h3, h4, h5, h6⟩
  · have := h.1
    rw [Nat.zero_mul] at this
    obtain rfl := List.eq_nil_of_length_eq_zero this
    exact ⟨none, 0, rfl, SlT.none_ w T⟩
  · refine ⟨_, cap, rfl, fun hx => ⟨g, 0, rfl, fun j u hj => ?_⟩, fun _ a ha => by injection ha with ha; subst ha; exact hT g h1, h3, h4, fun h => by cases h⟩
    have hjl := (List.getElem?_eq_some_iff.1 hj).1
    have : Has w g e cur := h2
    rw [this.cell, Nat.zero_add, ← hj, ← h6, List.getElem?_take, if_pos (by have := h.1; omega)]
    simp
end
theorem wpList_append_src {P : Program} {w : World} {ops : Array Oper} {rest : List Oper} {o : Oper} {a : Act} {Q : Exit → Act → World → Prop} (hgd : o.guard = none) (s x : Operand) (t : TypeId)
    (ho : o.op = .call { callee := .builtin .append, args := #[s, x], argTypes := #[t, t] }) (base : Nat) (e : TypeId) (i : TypeInfo) (z : Value) (size bytes : Nat) (ht : P.underlying t = some (.slice e)) (hi : P.info? e = some i) (hz : i.zero = some z)
    (hsize : i.size = size) (hby : i.bytes = bytes) (hzs : z.cells.size = size) (hsz : 0 < size) (v : Value) (n : Nat) (xs : List Value) (hs : a.eval s = v) (hown : w.ownsRow base e size v n xs) (A : Option Addr) (m c : Nat) (ys : List Value) (hx : a.eval x = .slice A m c) (hm : ys.length = m * size)
    (hA : A = none → c = 0) (hmc : m ≤ c) (hr : Reads w A ys) (h1 : ∀ u ∈ ys, u.oneCell' = true) (hmax : (n + m) * bytes ≤ 140737488355328) (h63 : n + m ≤ maxLen) (hbase : base ≤ w.heap.size)
    (h : ∀ v' w', w'.ownsRow base e size v' (n + m) (xs ++ ys) → w.grownBy w' v.ownBlock → wpList P ops Q rest (a.put o.dst v') w') : wpList P ops Q (o :: rest) a w := by
  rcases A with _ | ad
  · have hc := hA rfl
    subst hc
    obtain rfl : m = 0 := by omega
    obtain rfl : ys = [] := List.eq_nil_of_length_eq_zero (by omega)
    exact wpList_append_own_none hgd s x t ho base e i size ht hi v n xs hs hown hx (h v w (by simpa using hown) (World.grownBy.refl w _))
  · refine wpList_append_own w hgd s x t ho base e i z size bytes ht hi hz hsize hby hzs hsz v n xs hs hown ad m c ys hx hm (fun j u hj => ?_) h1 h63 hmax hbase (fun v' w' h1 h2 _ => h v' w' h1 h2)
    obtain ⟨g, off, hA', hc⟩ := hr (by
      have := (List.getElem?_eq_some_iff.1 hj).1
      omega)
    injection hA' with hA'
    subst hA'
    rw [add_plain]
    exact hc j u hj

/-! ### Regions -/
def pagesL (f : Int → Option (List UInt8)) (n : Nat) : List (List UInt8) := (List.range n).map fun (p : Nat) => (f (p : Int)).getD zeros
theorem pagesL_len (f : Int → Option (List UInt8)) (n : Nat) : (pagesL f n).length = n := by simp [pagesL]
theorem pagesL_at (f : Int → Option (List UInt8)) {n p : Nat} (h : p < n) : (pagesL f n)[p]? = some ((f (p : Int)).getD zeros) := by simp [pagesL, h]
def keptL (ps : List (List UInt8)) (l : List Wr) : List (List UInt8) := l.foldl (fun ps x => ps.set x.1.toNat x.2) ps
def keepF (K : Nat → Bool) : Nat → List Wr → List Wr
  | _, [] => []
  | i, x :: l => if K i then x :: keepF K (i + 1) l else keepF K (i + 1) l
def loW (x : Wr) : List Value := [.int .i64 x.1, txtV x.2]
def looseV (l : List Wr) : List Value := l.flatMap loW
theorem looseV_len (l : List Wr) : (looseV l).length = l.length * 2 := by
  induction l with
  | nil => rfl
  | cons x l ih => simp only [looseV, List.flatMap_cons, List.length_append, List.length_cons] at ih ⊢; rw [ih]; simp [loW]; omega
theorem looseV_snoc (l : List Wr) (x : Wr) : looseV (l ++ [x]) = looseV l ++ [.int .i64 x.1, txtV x.2] := by simp [looseV, loW]
theorem looseV_one (l : List Wr) : ∀ u ∈ looseV l, u.oneCell' = true := fun u hu => by
  obtain ⟨x, _, hx⟩ := List.mem_flatMap.1 hu
  simp [loW] at hx
  rcases hx with rfl | rfl <;> rfl
theorem looseV_at : ∀ (l : List Wr) (k : Nat) (x : Wr), l[k]? = some x → (looseV l)[k * 2]? = some (.int .i64 x.1) ∧ (looseV l)[k * 2 + 1]? = some (txtV x.2)
  | [], k, x, h => by simp at h
  | y :: l, 0, x, h => by simp at h; subst h; simp [looseV, loW]
  | y :: l, k + 1, x, h => by
    have := looseV_at l k x (by simpa using h)
    rw [show (k + 1) * 2 = k * 2 + 1 + 1 by omega, show k * 2 + 1 + 1 + 1 = (k * 2 + 1) + 1 + 1 by omega]
    simpa [looseV, loW] using this
structure Gx where
  r : Rg
  pA : Option Addr
  pc : Nat
  lA : Option Addr
  lc : Nat
def Gx.cells (g : Gx) : List Value := [.slice g.pA g.r.size g.pc, .slice g.lA g.r.loose.length g.lc, .int .i64 g.r.left, .bool g.r.down]
def gsV (gs : List Gx) : List Value := gs.flatMap Gx.cells
theorem gsV_len (gs : List Gx) : (gsV gs).length = gs.length * 4 := by
  induction gs with
  | nil => rfl
  | cons x l ih => simp only [gsV, List.flatMap_cons, List.length_append, List.length_cons] at ih ⊢; rw [ih]; simp [Gx.cells]; omega
theorem gsV_one (gs : List Gx) : ∀ u ∈ gsV gs, u.oneCell' = true := fun u hu => by
  obtain ⟨x, _, hx⟩ := List.mem_flatMap.1 hu
  simp [Gx.cells] at hx
  rcases hx with rfl | rfl | rfl | rfl <;> rfl
theorem gsV_at : ∀ (gs : List Gx) (k : Nat) (q : Nat), q < 4 → (gsV gs)[k * 4 + q]? = gs[k]?.bind (fun g => g.cells[q]?)
  | [], k, q, h => by simp [gsV]
  | y :: l, 0, q, h => by
    simp only [gsV, List.flatMap_cons, Nat.zero_mul, Nat.zero_add, List.getElem?_cons_zero, Option.bind_some]
    rw [List.getElem?_append_left (by simpa [Gx.cells] using h)]
  | y :: l, k + 1, q, h => by
    have := gsV_at l k q h
    simp only [gsV, List.flatMap_cons, List.getElem?_cons_succ] at this ⊢
    rw [List.getElem?_append_right (by simp [Gx.cells]; omega), show (k + 1) * 4 + q - y.cells.length = k * 4 + q by simp [Gx.cells]; omega]
    exact this
structure Gok (w : World) (T : Tg) (g : Gx) : Prop where
  pg : SlT w T g.pA g.r.size g.pc ((pagesL g.r.syn g.r.size).map txtV)
  lo : SlT w T g.lA g.r.loose.length g.lc (looseV g.r.loose)
  ok : Rok g.r
structure GA (w : World) (T : Tg) (A : Option Addr) (n c : Nat) (gs : List Gx) : Prop where
  len : n = gs.length
  sl : SlT w T A n c (gsV gs)
  each : ∀ g ∈ gs, Gok w T g
def rgs (gs : List Gx) : List Rg := gs.map (·.r)
section
variable {w w' : World} {T T' : Tg} {A : Option Addr} {n c : Nat} {gs : List Gx} {g : Gx}
theorem Gok.below (h : Gok w T g) (hb : Below w.heap.size w w') : Gok w' T g := ⟨h.pg.below hb, h.lo.below hb, h.ok⟩
theorem Gok.tn {d : Nat} (h : Gok w T g) (k : Tn T d w T' w') : Gok w' T' g := ⟨h.pg.tn k, h.lo.tn k, h.ok⟩
theorem GA.below (h : GA w T A n c gs) (hb : Below w.heap.size w w') : GA w' T A n c gs := ⟨h.len, h.sl.below hb, fun g hg => (h.each g hg).below hb⟩
theorem GA.tn {d : Nat} (h : GA w T A n c gs) (k : Tn T d w T' w') : GA w' T' A n c gs := ⟨h.len, h.sl.tn k, fun g hg => (h.each g hg).tn k⟩
theorem GA.at_ (h : GA w T A n c gs) {k : Nat} {g : Gx} (hg : gs[k]? = some g) : ∃ b off, A = some ⟨b, off, none⟩ ∧ w.cell? ⟨b, off + k * 4, none⟩ = some (.slice g.pA g.r.size g.pc) ∧ w.cell? ⟨b, off + k * 4 + 1, none⟩ = some (.slice g.lA g.r.loose.length g.lc) ∧
    w.cell? ⟨b, off + k * 4 + 2, none⟩ = some (.int .i64 g.r.left) ∧ w.cell? ⟨b, off + k * 4 + 3, none⟩ = some (.bool g.r.down) := by
  have hk := (List.getElem?_eq_some_iff.1 hg).1
  obtain ⟨b, off, hA, hc⟩ := h.sl.reads (by rw [gsV_len]; omega)
  have q : ∀ j (hj : j < 4) u, g.cells[j]? = some u → w.cell? ⟨b, off + (k * 4 + j), none⟩ = some u := fun j hj u hu => hc _ _ (by rw [gsV_at gs k j hj, hg]; exact hu)
  exact ⟨b, off, hA, q 0 (by omega) _ rfl, q 1 (by omega) _ rfl, q 2 (by omega) _ rfl, q 3 (by omega) _ rfl⟩
theorem rgs_len (gs : List Gx) : (rgs gs).length = gs.length := by simp [rgs]
theorem regN_gs {x : Int} {r : Rg} (h : regN (rgs gs) x = some r) : ∃ k g, x = (k : Nat) ∧ gs[k]? = some g ∧ g.r = r ∧ k < gs.length := by
  obtain ⟨h1, h2, h3⟩ := regN_some h
  simp only [rgs, List.getElem?_map, Option.map_eq_some_iff] at h3
  obtain ⟨g, hg, rfl⟩ := h3
  exact ⟨x.toNat, g, by omega, hg, rfl, (List.getElem?_eq_some_iff.1 hg).1⟩
end

end Go.Proofs.YtdoabcbembinjaaDoor
end

section
namespace Go.Proofs.YtdoabcbembinjaaDoor
open Go.RowKit
set_option linter.unusedVariables false

structure Hi where
  a : Option Addr
  n : Nat
  c : Nat
  l : List Int
def Hi.v (h : Hi) : Value := .slice h.a h.n h.c
structure CellsI (w : World) (A : Option Addr) (n c : Nat) (q : List Hi) : Prop where
  len : n = q.length
  reads : Reads w A (q.map Hi.v)
  each : ∀ h ∈ q, Ints6 w h.a h.n h.l ∧ (h.a = none → h.c = 0) ∧ h.n ≤ h.c
theorem CellsI.below {w w' : World} {A : Option Addr} {n c : Nat} {q : List Hi} (h : CellsI w A n c q) (hb : Below w.heap.size w w') : CellsI w' A n c q :=
  ⟨h.len, h.reads.keep_ hb, fun x hx => ⟨(h.each x hx).1.below9 hb, (h.each x hx).2⟩⟩
theorem CellsI.at {w : World} {A : Option Addr} {n c : Nat} {q : List Hi} (h : CellsI w A n c q) {k : Nat} (hk : k < q.length) :
    ∃ g off, A = some ⟨g, off, none⟩ ∧ w.cell? ⟨g, off + k, none⟩ = some (.slice (q[k]).a (q[k]).n (q[k]).c) := by
  obtain ⟨g, off, hA, hc⟩ := h.reads (by simp; omega)
  exact ⟨g, off, hA, hc k _ (by simp [List.getElem?_eq_getElem hk, Hi.v])⟩
theorem CellsI.hdr {w : World} {A : Option Addr} {n c : Nat} {q : List Hi} (h : CellsI w A n c q) {k : Nat} (hk : k < q.length) : Ints6 w (q[k]).a (q[k]).n (q[k]).l ∧ ((q[k]).a = none → (q[k]).c = 0) ∧ (q[k]).n ≤ (q[k]).c := h.each _ (List.getElem_mem hk)
def FreshI (W : Nat) (l : List Int) (w : World) (e : Ending) (w' : World) : Prop :=
  ∃ A c, e = .returned (.slice A l.length c) ∧ l.length ≤ c ∧ c ≤ maxLen ∧ Row w' 3 W A (l.map (Value.int .i64)) ∧ Below W w w'
theorem own_sliceI {w : World} {B : Nat} {v : Value} {n : Nat} {xs : List Value} (h : w.ownsRow B 3 1 v n xs) : ∃ A c, v = .slice A n c ∧ n ≤ c ∧ c ≤ maxLen := by
  rcases h.2 with ⟨rfl, rfl⟩ | ⟨g, cap, cur, rfl, _, _, h1, h2, _⟩
  · exact ⟨none, 0, rfl, Nat.le_refl _, Nat.zero_le _⟩
  · exact ⟨_, cap, rfl, h1, h2⟩
theorem one_intV (l : List Int) : ∀ u ∈ l.map (Value.int .i64), u.oneCell' = true := by
  intro u hu
  obtain ⟨c, _, rfl⟩ := List.mem_map.1 hu
  rfl
set_option maxRecDepth 100000 in
set_option maxHeartbeats 1000000 in
theorem growI_any (n : Nat) (hn : n ≤ 1000000) (w : World) :
    Calls Tryd.prog 47 #[.slice none 0 0, .int .i64 n] w fun e w' => ∃ v, e = .returned v ∧ w'.ownsRow w.heap.size 3 1 v 0 [] ∧ Below w.heap.size w w' := by
  obtain ⟨i0, hi, hz0, hz1, hz2⟩ := info_parts int_info
  rcases Nat.eq_zero_or_pos n with rfl | h0
  · go_enter Tryd.func47, Tryd.ntmps47
    go_wp2
    go_ret
    exact ⟨_, rfl, ⟨rfl, .inl ⟨rfl, rfl⟩⟩, Below.refl _ _⟩
  · have hA := fun ty => Lib.run_append_nil_zeros (P := Tryd.prog) w 22 3 ty 3 i0 (.int .i64 0) .i64 .i64 Tryd.underlying22 Tryd.underlying3 hi hz0 n h0 (by rw [hz1]; decide) (by omega) (by rw [hz2]; omega)
    have hge := grownCap_ge w n 0 3
    have hle := grownCap_le_maxLen w n 0 3 (by unfold maxLen; omega)
    have hO := World.ownsRow_made (base := w.heap.size) (e := 3) (size := 1) w.drew (Builtin.zeroCells (Value.int .i64 0).cells n ++ Builtin.zeroCells (Value.int .i64 0).cells (grownCap w n 0 3 - n)) (grownCap w n 0 3) (Nat.le_refl _) hle (by rw [Array.size_append, size_zeroCells, size_zeroCells]; show n * 1 + _ * 1 = _ * 1; omega)
    have hB : Below w.heap.size w (w.drew.alloc (.cells (Builtin.zeroCells (Value.int .i64 0).cells n ++ Builtin.zeroCells (Value.int .i64 0).cells (grownCap w n 0 3 - n)) 3)) := (Below.refl _ w).drew.alloc (Nat.le_refl _) _
    generalize (w.drew.alloc (.cells (Builtin.zeroCells (Value.int .i64 0).cells n ++ Builtin.zeroCells (Value.int .i64 0).cells (grownCap w n 0 3 - n)) 3)) = W1 at *
    generalize grownCap w n 0 3 = G at *
    have HA := Lib.hid hA
    have HO := Lib.hid hO
    have HB := Lib.hid hB
    have e0 : w.drew.heap.size = w.heap.size := rfl
    rw [e0] at HO
    unfold maxLen at hle
    clear hA hO hB e0
    go_enter Tryd.func47, Tryd.ntmps47
    go_wp2_with (at_builtin; refine Lib.wpList_append_run _ rfl _ _ _ _ rfl _ _ rfl rfl _ _ (HA.out _) ?_)
    go_ret
    exact ⟨_, rfl, HO.out, HB.out⟩

def flatI (q : List Hi) : List Int := q.flatMap Hi.l
theorem flatI_snoc {q : List Hi} {k : Nat} (hk : k < q.length) : flatI (q.take (k + 1)) = flatI (q.take k) ++ (q[k]).l := by
  unfold flatI
  rw [List.take_succ_eq_append_getElem hk, List.flatMap_append]
  simp
set_option maxHeartbeats 4000000 in
theorem concatI_any (A : Option Addr) (n c : Nat) (q : List Hi) (w : World) (h : CellsI w A n c q) (hl : (flatI q).length ≤ 1000000) (hn : n ≤ 1000000) :
    Calls Tryd.prog 25 #[.slice A n c] w (FreshI w.heap.size (flatI q) w) := by
  have HA := Lib.hid h
  have HL := Lib.hid h.len
  have HG := Lib.hid (fun w => growI_any (flatI q).length hl w)
  have hmono : ∀ k, (flatI (q.take k)).length ≤ (flatI q).length := fun k => by
    have : flatI q = flatI (q.take k) ++ flatI (q.drop k) := by
      unfold flatI
      rw [← List.flatMap_append, List.take_append_drop]
    rw [this, List.length_append]
    omega
  have HM := Lib.hid hmono
  obtain ⟨i0, hi, hz0, hz1, hz2⟩ := info_parts int_info
  clear h hmono
  go_enter Tryd.func25, Tryd.ntmps25
  go_wp2
  go_loop [3, 11] (fun s i => ∃ k : Nat, k ≤ n ∧ i = .int .i64 k ∧ s = .int .i64 ((flatI (q.take k)).length : Int)) (fun _ i => n - (intOf i).toNat)
  case atStart => exact ⟨0, Nat.zero_le _, rfl, rfl⟩
  case round =>
    obtain ⟨k, hk, rfl, rfl⟩ := hrel
    by_cases hlt : k < n
    · have hkl : k < q.length := by rw [← HL.out]; exact hlt
      obtain ⟨g, off, rfl, hc⟩ := HA.out.at hkl
      have hlen := (HA.out.hdr hkl).1.len
      have h1 := congrArg List.length (flatI_snoc hkl)
      rw [List.length_append, ← hlen] at h1
      have h2 := HM.out (k + 1)
      rw [h1] at h2
      have HS := Lib.hid h1
      generalize (flatI (q.take k)).length = x at *
      generalize q[k] = y at *
      have hb : x + y.n ≤ 1000000 := by omega
      have hge : ¬ ((x : Int) + (y.n : Int) < 0) := by omega
      clear h1 h2 hkl hlen
      go_wp2
      go_round
      case rel => exact ⟨k + 1, by omega, by go_num, by rw [HS.out]; go_num⟩
      case measure => simp [intOf]; omega
    · obtain rfl : k = n := by omega
      have e : q.take k = q := List.take_of_length_le (by rw [← HL.out]; exact Nat.le_refl _)
      rw [e]
      go_wp2_with (go_at_call 47; (with_reducible refine (HG.out _).mono ?_); rintro r1 w1 ⟨v1, rfl, o1, b1⟩; have O1 := Lib.hid o1; have B1 := Lib.hid b1; clear o1 b1)
      go_loopw [6, 27] (fun v i wr => ∃ m : Nat, m ≤ k ∧ i = .int .i64 m ∧ wr.ownsRow w.heap.size 3 1 v (flatI (q.take m)).length ((flatI (q.take m)).map (Value.int .i64)) ∧ Below w.heap.size w wr) (fun _ i _ => k - (intOf i).toNat)
      case atStart => exact ⟨0, Nat.zero_le _, rfl, O1.out, B1.out⟩
      case round =>
        obtain ⟨m, hm, rfl, ho, hb⟩ := hrel
        have HO := Lib.hid ho
        have HB := Lib.hid hb
        clear ho hb
        by_cases hlt2 : m < k
        · have hkl : m < q.length := by rw [← HL.out]; exact hlt2
          have hC := HA.out.below HB.out
          obtain ⟨g, off, rfl, hc⟩ := hC.at hkl
          have hy := hC.hdr hkl
          have h1 := flatI_snoc hkl
          have h2 := HM.out (m + 1)
          rw [h1, List.length_append, ← hy.1.len] at h2
          have HS := Lib.hid h1
          generalize flatI (q.take m) = x at *
          generalize q[m] = y at *
          have HY := Lib.hid hy
          have HLX : Hid ((flatI (q.take (m + 1))).length = x.length + y.n) := Lib.hid (by rw [HS.out, List.length_append, ← HY.out.1.len])
          have HMX : Hid ((flatI (q.take (m + 1))).map (Value.int .i64) = x.map (Value.int .i64) ++ y.l.map (Value.int .i64)) := Lib.hid (by rw [HS.out, List.map_append])
          obtain ⟨X, hX⟩ : ∃ X, x.length = X := ⟨_, rfl⟩
          rw [hX] at HO h2 HLX
          clear hX hy h1 hkl hC
          go_wp2_with (at_builtin; refine wpList_append_src rfl _ _ 22 rfl w.heap.size 3 i0 (.int .i64 0) 1 8 Tryd.underlying22 hi hz0 hz1 hz2 rfl (by decide) _ X _ rfl HO.out y.a y.n y.c (y.l.map (Value.int .i64)) rfl (by rw [List.length_map, Nat.mul_one]; exact HY.out.1.len.symm) HY.out.2.1 HY.out.2.2 HY.out.1.reads (one_intV _) (by omega) (by unfold maxLen; omega) HB.out.size ?_; intro v4 w4 h7 h8; have O4 := Lib.hid h7; have B4 := Lib.hid (HB.out.grown h8 HB.out.size (fun k hk => (HO.out.lt k hk).1)); clear h7 h8)
          go_roundw
          case rel => exact ⟨m + 1, by omega, by go_num, by rw [HLX.out, HMX.out]; exact O4.out, B4.out⟩
          case measure => simp [intOf]; omega
        · obtain rfl : m = k := by omega
          have e : q.take m = q := List.take_of_length_le (by rw [← HL.out]; exact Nat.le_refl _)
          rw [e] at HO
          obtain ⟨w3, hw3⟩ : ∃ w3 : World, w3 = wr := ⟨_, rfl⟩
          subst hw3
          obtain ⟨A2, c2, rfl, hc1, hc2⟩ := own_sliceI HO.out
          have HC1 := Lib.hid hc1
          have HC2 := Lib.hid hc2
          clear hc1 hc2
          go_wp2
          go_ret
          exact ⟨A2, c2, rfl, HC1.out, HC2.out, Row.of_own HO.out, HB.out⟩

end Go.Proofs.YtdoabcbembinjaaDoor
end

section
namespace Go.Proofs.YtdoabcbembinjaaDoor
open Go.RowKit
set_option linter.unusedVariables false

set_option maxRecDepth 100000 in
set_option maxHeartbeats 1000000 in
theorem growB_any (n : Nat) (hn : n ≤ 1000000) (w : World) :
    Calls Tryd.prog 64 #[.slice none 0 0, .int .i64 n] w fun e w' => ∃ v, e = .returned v ∧ w'.ownsRow w.heap.size 5 1 v 0 [] ∧ Below w.heap.size w w' := by
  obtain ⟨i0, hi, hz0, hz1, hz2⟩ := info_parts u8info
  rcases Nat.eq_zero_or_pos n with rfl | h0
  · go_enter Tryd.func64, Tryd.ntmps64
    go_wp2
    go_ret
    exact ⟨_, rfl, ⟨rfl, .inl ⟨rfl, rfl⟩⟩, Below.refl _ _⟩
  · have hA := fun ty => Lib.run_append_nil_zeros (P := Tryd.prog) w 31 3 ty 5 i0 (.int .u8 0) .i64 .i64 Tryd.underlying31 Tryd.underlying3 hi hz0 n h0 (by rw [hz1]; decide) (by omega) (by rw [hz2]; omega)
    have hge := grownCap_ge w n 0 5
    have hle := grownCap_le_maxLen w n 0 5 (by unfold maxLen; omega)
    have hO := World.ownsRow_made (base := w.heap.size) (e := 5) (size := 1) w.drew (Builtin.zeroCells (Value.int .u8 0).cells n ++ Builtin.zeroCells (Value.int .u8 0).cells (grownCap w n 0 5 - n)) (grownCap w n 0 5) (Nat.le_refl _) hle (by rw [Array.size_append, size_zeroCells, size_zeroCells]; show n * 1 + _ * 1 = _ * 1; omega)
    have hB : Below w.heap.size w (w.drew.alloc (.cells (Builtin.zeroCells (Value.int .u8 0).cells n ++ Builtin.zeroCells (Value.int .u8 0).cells (grownCap w n 0 5 - n)) 5)) := (Below.refl _ w).drew.alloc (Nat.le_refl _) _
    generalize (w.drew.alloc (.cells (Builtin.zeroCells (Value.int .u8 0).cells n ++ Builtin.zeroCells (Value.int .u8 0).cells (grownCap w n 0 5 - n)) 5)) = W1 at *
    generalize grownCap w n 0 5 = G at *
    have HA := Lib.hid hA
    have HO := Lib.hid hO
    have HB := Lib.hid hB
    have e0 : w.drew.heap.size = w.heap.size := rfl
    rw [e0] at HO
    unfold maxLen at hle
    clear hA hO hB e0
    go_enter Tryd.func64, Tryd.ntmps64
    go_wp2_with (at_builtin; refine Lib.wpList_append_run _ rfl _ _ _ _ rfl _ _ rfl rfl _ _ (HA.out _) ?_)
    go_ret
    exact ⟨_, rfl, HO.out, HB.out⟩

def flatH (q : List Hd) : List UInt8 := q.flatMap Hd.l
theorem flatH_snoc {q : List Hd} {k : Nat} (hk : k < q.length) : flatH (q.take (k + 1)) = flatH (q.take k) ++ (q[k]).l := by
  unfold flatH
  rw [List.take_succ_eq_append_getElem hk, List.flatMap_append]
  simp
set_option maxHeartbeats 4000000 in
theorem concatB_any (A : Option Addr) (n c : Nat) (q : List Hd) (w : World) (h : CellsA w A n c q) (hl : (flatH q).length ≤ 1000000) (hn : n ≤ 1000000) :
    Calls Tryd.prog 49 #[.slice A n c] w (Fresh w.heap.size (flatH q) w) := by
  have HA := Lib.hid h
  have HL := Lib.hid h.len
  have HG := Lib.hid (fun w => growB_any (flatH q).length hl w)
  have hmono : ∀ k, (flatH (q.take k)).length ≤ (flatH q).length := fun k => by
    have : flatH q = flatH (q.take k) ++ flatH (q.drop k) := by
      unfold flatH
      rw [← List.flatMap_append, List.take_append_drop]
    rw [this, List.length_append]
    omega
  have HM := Lib.hid hmono
  obtain ⟨i0, hi, hz0, hz1, hz2⟩ := info_parts u8info
  clear h hmono
  go_enter Tryd.func49, Tryd.ntmps49
  go_wp2
  go_loop [3, 11] (fun s i => ∃ k : Nat, k ≤ n ∧ i = .int .i64 k ∧ s = .int .i64 ((flatH (q.take k)).length : Int)) (fun _ i => n - (intOf i).toNat)
  case atStart => exact ⟨0, Nat.zero_le _, rfl, rfl⟩
  case round =>
    obtain ⟨k, hk, rfl, rfl⟩ := hrel
    by_cases hlt : k < n
    · have hkl : k < q.length := by rw [← HL.out]; exact hlt
      obtain ⟨g, off, rfl, hc⟩ := HA.out.at hkl
      have hlen := (HA.out.hdr hkl).len
      have h1 := congrArg List.length (flatH_snoc hkl)
      rw [List.length_append, ← hlen] at h1
      have h2 := HM.out (k + 1)
      rw [h1] at h2
      have HS := Lib.hid h1
      generalize (flatH (q.take k)).length = x at *
      generalize q[k] = y at *
      have hb : x + y.n ≤ 1000000 := by omega
      have hge : ¬ ((x : Int) + (y.n : Int) < 0) := by omega
      clear h1 h2 hkl hlen
      go_wp2
      go_round
      case rel => exact ⟨k + 1, by omega, by go_num, by rw [HS.out]; go_num⟩
      case measure => simp [intOf]; omega
    · obtain rfl : k = n := by omega
      have e : q.take k = q := List.take_of_length_le (by rw [← HL.out]; exact Nat.le_refl _)
      rw [e]
      go_wp2_with (go_at_call 64; (with_reducible refine (HG.out _).mono ?_); rintro r1 w1 ⟨v1, rfl, o1, b1⟩; have O1 := Lib.hid o1; have B1 := Lib.hid b1; clear o1 b1)
      go_loopw [6, 27] (fun v i wr => ∃ m : Nat, m ≤ k ∧ i = .int .i64 m ∧ wr.ownsRow w.heap.size 5 1 v (flatH (q.take m)).length ((flatH (q.take m)).map byteV) ∧ Below w.heap.size w wr) (fun _ i _ => k - (intOf i).toNat)
      case atStart => exact ⟨0, Nat.zero_le _, rfl, O1.out, B1.out⟩
      case round =>
        obtain ⟨m, hm, rfl, ho, hb⟩ := hrel
        have HO := Lib.hid ho
        have HB := Lib.hid hb
        clear ho hb
        by_cases hlt2 : m < k
        · have hkl : m < q.length := by rw [← HL.out]; exact hlt2
          have hC := HA.out.below HB.out
          obtain ⟨g, off, rfl, hc⟩ := hC.at hkl
          have hy := hC.hdr hkl
          have h1 := flatH_snoc hkl
          have h2 := HM.out (m + 1)
          rw [h1, List.length_append, ← hy.len] at h2
          have HS := Lib.hid h1
          generalize flatH (q.take m) = x at *
          generalize q[m] = y at *
          have HY := Lib.hid hy
          have HLX : Hid ((flatH (q.take (m + 1))).length = x.length + y.n) := Lib.hid (by rw [HS.out, List.length_append, ← HY.out.len])
          have HMX : Hid ((flatH (q.take (m + 1))).map byteV = x.map byteV ++ y.l.map byteV) := Lib.hid (by rw [HS.out, List.map_append])
          obtain ⟨X, hX⟩ : ∃ X, x.length = X := ⟨_, rfl⟩
          rw [hX] at HO h2 HLX
          clear hX hy h1 hkl hC
          go_wp2_with (at_builtin; refine wpList_append_bytes rfl _ _ 31 rfl w.heap.size 5 i0 Tryd.underlying31 hi hz0 hz1 hz2 _ X _ rfl HO.out y.a y.n y.c y.l rfl HY.out.len HY.out.none_ HY.out.reads ?_ ?_ ?_; (omega); (exact HB.out.size); intro v4 w4 h7 h8; have O4 := Lib.hid h7; have B4 := Lib.hid (HB.out.grown h8 HB.out.size (fun k hk => (HO.out.lt k hk).1)); clear h7 h8)
          go_roundw
          case rel => exact ⟨m + 1, by omega, by go_num, by rw [HLX.out, HMX.out]; exact O4.out, B4.out⟩
          case measure => simp [intOf]; omega
        · obtain rfl : m = k := by omega
          have e : q.take m = q := List.take_of_length_le (by rw [← HL.out]; exact Nat.le_refl _)
          rw [e] at HO
          obtain ⟨w3, hw3⟩ : ∃ w3 : World, w3 = wr := ⟨_, rfl⟩
          subst hw3
          obtain ⟨A2, c2, rfl, hc1, hc2⟩ := own_slice HO.out
          have HC1 := Lib.hid hc1
          have HC2 := Lib.hid hc2
          clear hc1 hc2
          go_wp2
          go_ret
          exact ⟨A2, c2, rfl, HC1.out, HC2.out, Row.of_own HO.out, HB.out⟩

end Go.Proofs.YtdoabcbembinjaaDoor
end

section
namespace Go.Proofs.YtdoabcbembinjaaDoor
open Go.RowKit
set_option linter.unusedVariables false

theorem cCut_cons (b : List UInt8) (ss : List UInt8) (k end_ : Nat) (s : UInt8) (h : ss[k]? = some s) (hs : s.toNat ≤ end_) : cCut b (ss.drop k) end_ = (b.drop s.toNat).take (end_ - s.toNat) :: cCut b (ss.drop (k + 1)) s.toNat := by
  obtain ⟨hk, hg⟩ := List.getElem?_eq_some_iff.1 h
  rw [List.drop_eq_getElem_cons hk, hg]
  simp only [cCut]
  rw [if_neg (by omega)]
theorem cCut_stop (b : List UInt8) (ss : List UInt8) (k end_ : Nat) (s : UInt8) (h : ss[k]? = some s) (hs : ¬ s.toNat ≤ end_) : cCut b (ss.drop k) end_ = [] := by
  obtain ⟨hk, hg⟩ := List.getElem?_eq_some_iff.1 h
  rw [List.drop_eq_getElem_cons hk, hg]
  simp only [cCut]
  rw [if_pos (by omega)]
theorem Arg.cell_ {w : World} {g off c : Nat} {l : List UInt8} (h : Arg w (some ⟨g, off, none⟩) 128 c l) (s e : Nat) (hs : s ≤ e) (he : e ≤ 128) (A : Option Addr) (hA : e - s = 0 ∨ A = some ⟨g, off + s, none⟩) (hn : A ≠ none) :
    Arg w A (e - s) (e - s) ((l.drop s).take (e - s)) := by
  have hl := h.len
  have hm := h.most
  have hr := h.room
  refine ⟨by simp; omega, ?_, ?_, Nat.le_refl _, by unfold maxLen at *; omega, fun h => absurd h hn⟩
  · rcases hA with h0 | rfl
    · rw [h0, List.take_zero]
      exact Reads.empty
    · intro hx
      obtain ⟨g', off', hA', hc⟩ := h.reads (by simp; omega)
      injection hA' with hA'
      injection hA' with h1 h2 _
      subst h1 h2
      refine ⟨g, off + s, rfl, fun j u hj => ?_⟩
      have hjl := (List.getElem?_eq_some_iff.1 hj).1
      rw [List.length_map, List.length_take] at hjl
      rw [Nat.add_assoc]
      refine hc (s + j) u ?_
      rw [← hj, List.getElem?_map, List.getElem?_map, List.getElem?_take, if_pos (by omega), List.getElem?_drop]
  · rintro h0 a rfl
    rcases hA with h1 | hA
    · omega
    · injection hA with hA
      subst hA
      exact h.old (a := ⟨g, off, none⟩) (by omega) rfl
theorem byinfo : (Tryd.prog.info? 31).map (fun i => (i.zero, i.size, i.bytes)) = some (some (.slice none 0 0), 1, 24) := by kernel_rfl
theorem by_own_nil (w : World) (B : Nat) : w.ownsRow B 31 1 (.slice none 0 0) 0 [] := ⟨rfl, .inl ⟨rfl, rfl⟩⟩
theorem lq_snoc (q : List Hd) (y : Hd) : lq (q ++ [y]) = lq q ++ [y.l] := by simp [lq]
theorem hd_snoc (q : List Hd) (y : Hd) : (q ++ [y]).map Hd.v = q.map Hd.v ++ [y.v] := by simp
theorem CellsA.of_own {w : World} {base n : Nat} {v : Value} {q : List Hd} (h : w.ownsRow base 31 1 v n (q.map Hd.v)) (he : ∀ x ∈ q, Arg w x.a x.n x.c x.l) : ∃ A c, v = .slice A n c ∧ CellsA w A n c q := by
  have hn : n = q.length := by have := h.1; simpa using this.symm
  rcases h.2 with ⟨rfl, rfl⟩ | ⟨g, cap, cur, rfl, h1, h2, h3, h4, h5, h6⟩
  · have := List.eq_nil_of_length_eq_zero hn.symm
    subst this
    exact ⟨none, 0, rfl, CellsA.none_ w⟩
  · refine ⟨_, cap, rfl, hn, fun hx => ⟨g, 0, rfl, fun j u hj => ?_⟩, he, h3, h4, fun h => by cases h⟩
    have hjl := (List.getElem?_eq_some_iff.1 hj).1
    have : Has w g 31 cur := h2
    rw [this.cell, Nat.zero_add, ← hj, ← h6, List.getElem?_take, if_pos (by have := h.1; omega)]
    simp
def CutEnd (w : World) (ls : List (List UInt8)) (e : Ending) (w' : World) : Prop := ∃ A n c q, e = .returned (.slice A n c) ∧ CellsA w' A n c q ∧ lq q = ls ∧ Below w.heap.size w w'
def CutSt (w : World) (l : List UInt8) (k : Nat) (v e : Value) (wr : World) : Prop :=
  ∃ (end_ : Nat) (q : List Hd), e = .int .i64 end_ ∧ end_ ≤ 128 ∧ q.length = k ∧ lq q ++ cCut l ((cSlotsOf l).drop k) end_ = cCells l ∧ (∀ x ∈ q, Arg w x.a x.n x.c x.l) ∧ wr.ownsRow w.heap.size 31 1 v k (q.map Hd.v) ∧ Below w.heap.size w wr
theorem CutSt.end_ {w wr : World} {l : List UInt8} {k : Nat} {v e : Value} (h : CutSt w l k v e wr) (hc : ∀ end_ : Nat, e = .int .i64 end_ → cCut l ((cSlotsOf l).drop k) end_ = []) : CutEnd w (cCells l) (.returned v) wr := by
  obtain ⟨end_, q, h1, h2, h3, h4, h5, h6, h7⟩ := h
  obtain ⟨A, c, rfl, hC⟩ := CellsA.of_own h6 (fun x hx => (h5 x hx).below h7)
  rw [hc _ h1, List.append_nil] at h4
  exact ⟨A, k, c, q, rfl, hC, h4, h7⟩

set_option maxRecDepth 100000 in
set_option maxHeartbeats 4000000 in
theorem ceCut_any (A : Option Addr) (c : Nat) (l : List UInt8) (w : World) (h : Arg w A 128 c l) :
    Calls Tryd.prog 71 #[.slice A 128 c] w (CutEnd w (cCells l)) := by
  obtain ⟨j0, hj, jz0, jz1, jz2⟩ := info_parts byinfo
  have HH := Lib.hid h
  have HL := Lib.hid h.len
  have hc := h.room
  have hcm := h.most
  unfold maxLen at hcm
  obtain ⟨g, off, rfl, hcell⟩ := h.reads (by have := h.len; simp; omega)
  obtain ⟨x, hx⟩ : ∃ x, l[5]? = some x := ⟨_, List.getElem?_eq_getElem (by have := h.len; omega)⟩
  have h5 : w.cell? ⟨g, off + 5, none⟩ = some (.int .u8 (x.toNat : Int)) := hcell 5 (byteV x) (by simp [hx])
  have hxl := x.toNat_lt
  have HX : Hid (cCount l = x.toNat) := Lib.hid (by unfold cCount; rw [hx]; rfl)
  have HSL : Hid (∀ k s, (cSlotsOf l)[k]? = some s → ∀ wr, Below w.heap.size w wr → wr.cell? ⟨g, off + 6 + k, none⟩ = some (.int .u8 (s.toNat : Int))) := Lib.hid (fun k s hk wr hb => by
    unfold cSlotsOf at hk
    rw [List.getElem?_take] at hk
    split at hk
    · rw [List.getElem?_drop] at hk
      rw [Nat.add_assoc]
      have h6 := hcell (6 + k) (byteV s) (by rw [List.getElem?_map, hk]; rfl)
      exact (hb.cell (p := ⟨g, off + (6 + k), none⟩) (World.block_lt_of_cell? w _ h6)).trans h6
    · cases hk)
  clear hcell h hx
  generalize x.toNat = z at *
  by_cases hz : z ≤ 122
  · have HM : Hid ((cSlotsOf l).length = z) := Lib.hid (by unfold cSlotsOf; rw [HX.out]; have := HL.out; simp; omega)
    go_enter Tryd.func71, Tryd.ntmps71
    go_wp2
    have e1 : 6 + z - 6 = z := by omega
    rw [e1]
    clear e1
    go_loopw [3, 4, 21] (fun v e i wr => ∃ k : Nat, k ≤ z ∧ i = .int .i64 k ∧ CutSt w l k v e wr) (fun _ _ i _ => z - (intOf i).toNat)
    case atStart => exact ⟨0, Nat.zero_le _, rfl, 128, [], rfl, Nat.le_refl _, rfl, rfl, fun x hx => (by cases hx), by_own_nil _ _, Below.refl _ _⟩
    case round =>
      obtain ⟨k, hk, rfl, hST⟩ := hrel
      have ST := Lib.hid hST
      clear hST
      by_cases hlt : k < z
      · obtain ⟨end_, q, rfl, he, hqk, hcut, hargs, hO, hB⟩ := ST.out
        have HO := Lib.hid hO
        have HB := Lib.hid hB
        have HQ := Lib.hid hqk
        have HCT := Lib.hid hcut
        have HAR := Lib.hid hargs
        clear hO hB hqk hcut hargs
        obtain ⟨s, hs⟩ : ∃ s, (cSlotsOf l)[k]? = some s := ⟨_, List.getElem?_eq_getElem (by rw [HM.out]; exact hlt)⟩
        have cs := HSL.out k s hs wr HB.out
        have hsl := s.toNat_lt
        by_cases hse : s.toNat ≤ end_
        · have CC := Lib.hid (cCut_cons l (cSlotsOf l) k end_ s hs hse)
          clear hs
          generalize s.toNat = t at *
          have b1 : (t : Int) ≤ (end_ : Int) := by omega
          have b2 : (end_ : Int) ≤ (c : Int) := by omega
          have b3 : ¬ ((end_ : Int) < (t : Int)) := by omega
          by_cases hte : end_ - t = 0
          · have CE := Lib.hid (fun A hn => HH.out.cell_ t end_ hse he A (Or.inl hte) hn)
            obtain rfl : t = end_ := by omega
            go_wp2_with (at_builtin; refine wpList_append_one rfl _ _ 24 31 rfl w.heap.size 31 j0 _ 24 Tryd.underlying24 hj jz0 jz1 jz2 rfl _ k _ rfl HO.out (.slice (some ⟨g, off, none⟩) 0 0) rfl rfl ?_ ?_ ?_ ?_; (omega); (unfold maxLen; omega); (exact HB.out.size); intro v4 w4 h7 h8; have O4 := Lib.hid h7; have B4 := Lib.hid (HB.out.trans h8); clear h7 h8)
            go_roundw
            case rel =>
              refine ⟨k + 1, by omega, by go_num, t, q ++ [⟨some ⟨g, off, none⟩, 0, 0, (l.drop t).take (t - t)⟩], rfl, he, by simp [HQ.out], ?_, ?_, ?_, B4.out⟩
              · have h1 := HCT.out
                rw [CC.out] at h1
                rw [lq_snoc, List.append_assoc]
                exact h1
              · intro x hx
                rcases List.mem_append.1 hx with h | h
                · exact HAR.out x h
                · obtain rfl := List.mem_singleton.1 h
                  have := CE.out (some ⟨g, off, none⟩) (by simp)
                  rw [Nat.sub_self] at this ⊢
                  exact this
              · rw [hd_snoc]
                exact O4.out
            case measure => simp [intOf]; omega
          · have CE := Lib.hid (HH.out.cell_ t end_ hse he (some ⟨g, off + t, none⟩) (Or.inr rfl) (by simp))
            have b4 : t < end_ := by omega
            go_wp2_with (at_builtin; refine wpList_append_one rfl _ _ 24 31 rfl w.heap.size 31 j0 _ 24 Tryd.underlying24 hj jz0 jz1 jz2 rfl _ k _ rfl HO.out (.slice (some ⟨g, off + t, none⟩) (end_ - t) (end_ - t)) rfl rfl ?_ ?_ ?_ ?_; (omega); (unfold maxLen; omega); (exact HB.out.size); intro v4 w4 h7 h8; have O4 := Lib.hid h7; have B4 := Lib.hid (HB.out.trans h8); clear h7 h8)
            go_roundw
            case rel =>
              refine ⟨k + 1, by omega, by go_num, t, q ++ [⟨some ⟨g, off + t, none⟩, end_ - t, end_ - t, (l.drop t).take (end_ - t)⟩], rfl, by omega, by simp [HQ.out], ?_, ?_, ?_, B4.out⟩
              · have h1 := HCT.out
                rw [CC.out] at h1
                rw [lq_snoc, List.append_assoc]
                exact h1
              · intro x hx
                rcases List.mem_append.1 hx with h | h
                · exact HAR.out x h
                · obtain rfl := List.mem_singleton.1 h
                  exact CE.out
              · rw [hd_snoc]
                exact O4.out
            case measure => simp [intOf]; omega
        · have CS := Lib.hid (cCut_stop l (cSlotsOf l) k end_ s hs hse)
          clear hs
          generalize s.toNat = t at *
          have b3 : (end_ : Int) < (t : Int) := by omega
          obtain ⟨w3, hw3⟩ : ∃ w3 : World, w3 = wr := ⟨_, rfl⟩
          subst hw3
          go_wp2
          go_ret
          refine CutSt.end_ ST.out (fun e he => ?_)
          injection he with he
          obtain rfl : end_ = e := by omega
          exact CS.out
      · have CS := Lib.hid (fun (e : Nat) => show cCut l ((cSlotsOf l).drop z) e = [] by rw [List.drop_eq_nil_of_le (Nat.le_of_eq HM.out)]; rfl)
        obtain rfl : k = z := by omega
        obtain ⟨w3, hw3⟩ : ∃ w3 : World, w3 = wr := ⟨_, rfl⟩
        subst hw3
        go_wp2
        go_ret
        exact CutSt.end_ ST.out (fun e he => CS.out e)
  · have HM : Hid ((cSlotsOf l).length = 122) := Lib.hid (by unfold cSlotsOf; rw [HX.out]; have := HL.out; simp; omega)
    go_enter Tryd.func71, Tryd.ntmps71
    go_wp2
    go_loopw [3, 4, 21] (fun v e i wr => ∃ k : Nat, k ≤ 122 ∧ i = .int .i64 k ∧ CutSt w l k v e wr) (fun _ _ i _ => 122 - (intOf i).toNat)
    case atStart => exact ⟨0, Nat.zero_le _, rfl, 128, [], rfl, Nat.le_refl _, rfl, rfl, fun x hx => (by cases hx), by_own_nil _ _, Below.refl _ _⟩
    case round =>
      obtain ⟨k, hk, rfl, hST⟩ := hrel
      have ST := Lib.hid hST
      clear hST
      by_cases hlt : k < 122
      · obtain ⟨end_, q, rfl, he, hqk, hcut, hargs, hO, hB⟩ := ST.out
        have HO := Lib.hid hO
        have HB := Lib.hid hB
        have HQ := Lib.hid hqk
        have HCT := Lib.hid hcut
        have HAR := Lib.hid hargs
        clear hO hB hqk hcut hargs
        obtain ⟨s, hs⟩ : ∃ s, (cSlotsOf l)[k]? = some s := ⟨_, List.getElem?_eq_getElem (by rw [HM.out]; exact hlt)⟩
        have cs := HSL.out k s hs wr HB.out
        have hsl := s.toNat_lt
        by_cases hse : s.toNat ≤ end_
        · have CC := Lib.hid (cCut_cons l (cSlotsOf l) k end_ s hs hse)
          clear hs
          generalize s.toNat = t at *
          have b1 : (t : Int) ≤ (end_ : Int) := by omega
          have b2 : (end_ : Int) ≤ (c : Int) := by omega
          have b3 : ¬ ((end_ : Int) < (t : Int)) := by omega
          by_cases hte : end_ - t = 0
          · have CE := Lib.hid (fun A hn => HH.out.cell_ t end_ hse he A (Or.inl hte) hn)
            obtain rfl : t = end_ := by omega
            go_wp2_with (at_builtin; refine wpList_append_one rfl _ _ 24 31 rfl w.heap.size 31 j0 _ 24 Tryd.underlying24 hj jz0 jz1 jz2 rfl _ k _ rfl HO.out (.slice (some ⟨g, off, none⟩) 0 0) rfl rfl ?_ ?_ ?_ ?_; (omega); (unfold maxLen; omega); (exact HB.out.size); intro v4 w4 h7 h8; have O4 := Lib.hid h7; have B4 := Lib.hid (HB.out.trans h8); clear h7 h8)
            go_roundw
            case rel =>
              refine ⟨k + 1, by omega, by go_num, t, q ++ [⟨some ⟨g, off, none⟩, 0, 0, (l.drop t).take (t - t)⟩], rfl, he, by simp [HQ.out], ?_, ?_, ?_, B4.out⟩
              · have h1 := HCT.out
                rw [CC.out] at h1
                rw [lq_snoc, List.append_assoc]
                exact h1
              · intro x hx
                rcases List.mem_append.1 hx with h | h
                · exact HAR.out x h
                · obtain rfl := List.mem_singleton.1 h
                  have := CE.out (some ⟨g, off, none⟩) (by simp)
                  rw [Nat.sub_self] at this ⊢
                  exact this
              · rw [hd_snoc]
                exact O4.out
            case measure => simp [intOf]; omega
          · have CE := Lib.hid (HH.out.cell_ t end_ hse he (some ⟨g, off + t, none⟩) (Or.inr rfl) (by simp))
            have b4 : t < end_ := by omega
            go_wp2_with (at_builtin; refine wpList_append_one rfl _ _ 24 31 rfl w.heap.size 31 j0 _ 24 Tryd.underlying24 hj jz0 jz1 jz2 rfl _ k _ rfl HO.out (.slice (some ⟨g, off + t, none⟩) (end_ - t) (end_ - t)) rfl rfl ?_ ?_ ?_ ?_; (omega); (unfold maxLen; omega); (exact HB.out.size); intro v4 w4 h7 h8; have O4 := Lib.hid h7; have B4 := Lib.hid (HB.out.trans h8); clear h7 h8)
            go_roundw
            case rel =>
              refine ⟨k + 1, by omega, by go_num, t, q ++ [⟨some ⟨g, off + t, none⟩, end_ - t, end_ - t, (l.drop t).take (end_ - t)⟩], rfl, by omega, by simp [HQ.out], ?_, ?_, ?_, B4.out⟩
              · have h1 := HCT.out
                rw [CC.out] at h1
                rw [lq_snoc, List.append_assoc]
                exact h1
              · intro x hx
                rcases List.mem_append.1 hx with h | h
                · exact HAR.out x h
                · obtain rfl := List.mem_singleton.1 h
                  exact CE.out
              · rw [hd_snoc]
                exact O4.out
            case measure => simp [intOf]; omega
        · have CS := Lib.hid (cCut_stop l (cSlotsOf l) k end_ s hs hse)
          clear hs
          generalize s.toNat = t at *
          have b3 : (end_ : Int) < (t : Int) := by omega
          obtain ⟨w3, hw3⟩ : ∃ w3 : World, w3 = wr := ⟨_, rfl⟩
          subst hw3
          go_wp2
          go_ret
          refine CutSt.end_ ST.out (fun e he => ?_)
          injection he with he
          obtain rfl : end_ = e := by omega
          exact CS.out
      · have CS := Lib.hid (fun (e : Nat) => show cCut l ((cSlotsOf l).drop 122) e = [] by rw [List.drop_eq_nil_of_le (Nat.le_of_eq HM.out)]; rfl)
        obtain rfl : k = 122 := by omega
        obtain ⟨w3, hw3⟩ : ∃ w3 : World, w3 = wr := ⟨_, rfl⟩
        subst hw3
        go_wp2
        go_ret
        exact CutSt.end_ ST.out (fun e he => CS.out e)

end Go.Proofs.YtdoabcbembinjaaDoor
end
