/- Words of my own for memory and for lists of bytes: no statement is proved here; nothing here speaks of any one program. -/
import Derived.WalkKit
import Derived.Below
import Derived.Lib.Hide
import Derived.Lib.AppendStr
import Derived.Laws.OwnMore
import Derived.Laws.AppendOwnNone
import Derived.Laws.IdiomStrings
import Derived.Deep.Draws
import Derived.Maps.AppendAt
namespace Go.Proofs.Ytnidommmnmpdlaa
open Go.RowKit

/-- A byte as a cell. -/
def byteV (c : UInt8) : Value := .int .u8 (c.toNat : Int)

/-- Block g is just the cells cs, of type t, and none of them is read-only. -/
def Has (w : World) (g : Nat) (t : TypeId) (cs : Array Value) : Prop := w.heap[g]? = some (.cells cs t (0, 0))

section
variable {w w' : World} {g : Nat} {t : TypeId} {cs : Array Value}
theorem Has.lt (h : Has w g t cs) : g < w.heap.size := by
  unfold Has at h
  exact (Array.getElem?_eq_some_iff.1 h).1
theorem Has.cell (h : Has w g t cs) (i : Nat) : w.cell? ⟨g, i, none⟩ = cs[i]? := cell_of_row w g i cs t (0, 0) h
theorem Has.cell0 {u : Value} {r : List Value} (h : Has w g t ⟨u :: r⟩) : w.cell? ⟨g, 0, none⟩ = some u := by rw [h.cell]; simp
theorem Has.cell1 {u v : Value} {r : List Value} (h : Has w g t ⟨u :: v :: r⟩) : w.cell? ⟨g, 1, none⟩ = some v := by rw [h.cell]; simp
theorem Has.free (h : Has w g t cs) (i : Nat) : w.frozen? ⟨g, i, none⟩ = false := by unfold Has at h; simp [World.frozen?, h]
theorem Has.made (w : World) (t : TypeId) (cs : Array Value) : Has (w.alloc (.cells cs t)) w.heap.size t cs := heap_alloc_new w _
theorem Has.drew (h : Has w g t cs) : Has w.drew g t cs := h
theorem Has.drewN (h : Has w g t cs) (n : Nat) : Has (w.drewN n) g t cs := h
theorem Has.alloc (h : Has w g t cs) (o : Obj) : Has (w.alloc o) g t cs := (Below.heap_alloc w o g h.lt).trans h
theorem Has.store (h : Has w g t cs) (i : Nat) (u : Value) : Has (w.setCell ⟨g, i, none⟩ u) g t (cs.setIfInBounds i u) := by
  unfold Has at h ⊢
  simp [World.setCell, Array.getElem?_modify, h]
theorem Has.away (h : Has w g t cs) {p : Addr} (hp : g ≠ p.block) (u : Value) : Has (w.setCell p u) g t cs := (Below.heap_setCell w p u g hp).trans h
theorem Has.below {B : Nat} (h : Has w g t cs) (hb : Below B w w') (hg : g < B) : Has w' g t cs := (hb.block g hg).trans h
theorem Has.grown {row : Option Nat} (h : Has w g t cs) (hb : w.grownBy w' row) (hg : some g ≠ row) : Has w' g t cs := (hb.block g h.lt hg).trans h
theorem Has.apart {g' : Nat} {t' : TypeId} {cs' : Array Value} (h : Has w g t cs) (h' : Has w g' t' cs') (hne : t ≠ t') : g ≠ g' := by
  rintro rfl
  unfold Has at h h'
  simp_all
end

/-- The slice's values xs (each one cell) lie in a block, from lo on, whose cells are of type t; an empty one may lie anywhere. -/
def Row (w : World) (t : TypeId) (lo : Nat) (A : Option Addr) (xs : List Value) : Prop :=
  0 < xs.length → ∃ g off cs, A = some ⟨g, off, none⟩ ∧ lo ≤ g ∧ Has w g t cs ∧ ∀ j u, xs[j]? = some u → cs[off + j]? = some u

/-- The cells of a slice, wherever they lie. -/
def Reads (w : World) (A : Option Addr) (xs : List Value) : Prop :=
  0 < xs.length → ∃ g off, A = some ⟨g, off, none⟩ ∧ ∀ j u, xs[j]? = some u → w.cell? ⟨g, off + j, none⟩ = some u

theorem add_block (a : Addr) (n : Nat) : (a.add n).block = a.block := by unfold Addr.add; split <;> rfl
theorem add_plain (g off j : Nat) : (⟨g, off, none⟩ : Addr).add j = ⟨g, off + j, none⟩ := by
  unfold Addr.add
  by_cases h : j = 0 <;> simp [h]

section
variable {w w' : World} {t : TypeId} {lo : Nat} {A : Option Addr} {xs : List Value}
theorem Row.empty : Row w t lo A [] := fun h => absurd h (by simp)
theorem Row.keep_ (h : Row w t lo A xs) (hk : ∀ g cs, lo ≤ g → Has w g t cs → Has w' g t cs) : Row w' t lo A xs := fun hx => by
  obtain ⟨g, off, cs, hA, hl, hg, hc⟩ := h hx
  exact ⟨g, off, cs, hA, hl, hk g cs hl hg, hc⟩
theorem Row.drew (h : Row w t lo A xs) : Row w.drew t lo A xs := h
theorem Row.drewN (h : Row w t lo A xs) (n : Nat) : Row (w.drewN n) t lo A xs := h
theorem Row.alloc (h : Row w t lo A xs) (o : Obj) : Row (w.alloc o) t lo A xs := h.keep_ fun _ _ _ hg => hg.alloc o
theorem Row.below (h : Row w t lo A xs) (hb : Below w.heap.size w w') : Row w' t lo A xs := h.keep_ fun _ _ _ hg => hg.below hb hg.lt
/-- Only block P, which lies ahead of the row, has turned. -/
theorem Row.away {P : Nat} (h : Row w t lo A xs) (hP : P < lo) (hg : w.grownBy w' (some P)) : Row w' t lo A xs := h.keep_ fun _ _ hl hh => hh.grown hg (by
  intro e
  injection e with e
  omega)
/-- Only block P, whose cells are of another type, has turned. -/
theorem Row.grown {P : Nat} {t' : TypeId} {cs' : Array Value} (h : Row w t lo A xs) (hP : Has w P t' cs') (hne : t ≠ t') (hg : w.grownBy w' (some P)) : Row w' t lo A xs :=
  h.keep_ fun _ _ _ hh => hh.grown hg (by
    intro e
    injection e with e
    exact hh.apart hP hne e)
theorem Row.store {P : Nat} {t' : TypeId} {cs' : Array Value} (h : Row w t lo A xs) (hP : Has w P t' cs') (hne : t ≠ t') (i : Nat) (u : Value) : Row (w.setCell ⟨P, i, none⟩ u) t lo A xs :=
  h.keep_ fun _ _ _ hh => hh.away (p := ⟨P, i, none⟩) (hh.apart hP hne) u
theorem Row.reads (h : Row w t lo A xs) : Reads w A xs := fun hx => by
  obtain ⟨g, off, cs, hA, _, hg, hc⟩ := h hx
  exact ⟨g, off, hA, fun j u hj => by rw [hg.cell (off + j)]; exact hc j u hj⟩
theorem Row.take (h : Row w t lo A xs) (k : Nat) : Row w t lo A (xs.take k) := fun hx => by
  obtain ⟨g, off, cs, hA, hl, hg, hc⟩ := h (by simp at hx; omega)
  exact ⟨g, off, cs, hA, hl, hg, fun j u hj => hc j u (by
    rw [List.getElem?_take] at hj
    split at hj
    · exact hj
    · cases hj)⟩
/-- What is left behind the first k: as the model has 's[k:]'. -/
theorem Row.drop (h : Row w t lo A xs) {k cap : Nat} (hc : xs.length ≤ cap) : Row w t lo (if cap = k then A else A.map (·.add k)) (xs.drop k) := fun hx => by
  simp at hx
  obtain ⟨g, off, cs, hA, hl, hg, hcell⟩ := h (by omega)
  rw [if_neg (by omega), hA]
  refine ⟨g, off + k, cs, by simp [add_plain], hl, hg, fun j u hj => ?_⟩
  rw [Nat.add_assoc]
  exact hcell _ u (by rw [← hj, List.getElem?_drop])
theorem Row.some_ (h : Row w t lo A xs) (hx : 0 < xs.length) : A ≠ none := by
  obtain ⟨g, off, cs, hA, _⟩ := h hx
  rw [hA]
  simp
theorem Row.low (h : Row w t lo A xs) {lo' : Nat} (hl : lo' ≤ lo) : Row w t lo' A xs := fun hx => by
  obtain ⟨g, off, cs, hA, hlo, hg, hc⟩ := h hx
  exact ⟨g, off, cs, hA, by omega, hg, hc⟩
theorem Row.of_own {base : Nat} {e : TypeId} {n c : Nat} (h : w.ownsRow base e 1 (.slice A n c) n xs) : Row w e base A xs := fun hx => by
  rcases h.2 with ⟨hv, hn⟩ | ⟨g, cap, cur, hv, hb, hg, _, _, _, hcur⟩
  · have := h.1
    omega
  · injection hv with hA _ _
    subst hA
    refine ⟨g, 0, cur, rfl, hb, hg, fun j u hj => ?_⟩
    rw [← hcur, List.getElem?_take] at hj
    split at hj
    · simpa using hj
    · cases hj
theorem Reads.empty : Reads w A [] := fun h => absurd h (by simp)
theorem Reads.below {B : Nat} (h : Reads w A xs) (hb : Below B w w') (hA : 0 < xs.length → ∀ a, A = some a → a.block < B) : Reads w' A xs := fun hx => by
  obtain ⟨g, off, hA', hc⟩ := h hx
  exact ⟨g, off, hA', fun j u hj => (hb.cell (p := ⟨g, off + j, none⟩) (hA hx ⟨g, off, none⟩ hA')).trans (hc j u hj)⟩
/-- Whatever is new: the cells of a slice that reads stay. -/
theorem Reads.keep_ (h : Reads w A xs) (hb : Below w.heap.size w w') : Reads w' A xs := fun hx => by
  obtain ⟨g, off, hA, hc⟩ := h hx
  exact ⟨g, off, hA, fun j u hj => (hb.cell (p := ⟨g, off + j, none⟩) (World.block_lt_of_cell? w _ (hc j u hj))).trans (hc j u hj)⟩
theorem Reads.drew (h : Reads w A xs) : Reads w.drew A xs := h
theorem Reads.drewN (h : Reads w A xs) (n : Nat) : Reads (w.drewN n) A xs := h
theorem Reads.take (h : Reads w A xs) (k : Nat) : Reads w A (xs.take k) := fun hx => by
  obtain ⟨g, off, hA, hc⟩ := h (by simp at hx; omega)
  exact ⟨g, off, hA, fun j u hj => hc j u (by
    rw [List.getElem?_take] at hj
    split at hj
    · exact hj
    · cases hj)⟩
end

/-! Only block g, and what is new, has turned. -/
theorem only_refl (w : World) (g : Nat) : w.grownBy w (some g) := ⟨rfl, rfl, rfl, Nat.le_refl _, fun _ _ _ => rfl⟩
theorem only_store {a w : World} {g : Nat} (h : a.grownBy w (some g)) (i : Nat) (u : Value) : a.grownBy (w.setCell ⟨g, i, none⟩ u) (some g) :=
  ⟨h.os, h.tape, h.output, by simpa [World.setCell] using h.size, fun i hi hne => (Below.heap_setCell w _ u i (by
    rintro rfl
    exact hne rfl)).trans (h.block i hi hne)⟩
theorem only_below {a b w : World} {g : Nat} (h : a.grownBy b (some g)) (hb : Below b.heap.size b w) : a.grownBy w (some g) :=
  ⟨hb.os.trans h.os, hb.tape.trans h.tape, hb.output.trans h.output, Nat.le_trans h.size hb.size, fun i hi hn => (hb.block i (Nat.lt_of_lt_of_le hi h.size)).trans (h.block i hi hn)⟩
theorem only_of_below {a w : World} {B g : Nat} (h : Below B a w) (hB : a.heap.size ≤ B) : a.grownBy w (some g) := ⟨h.os, h.tape, h.output, h.size, fun i hi _ => h.block i (by omega)⟩
theorem only_trans {a b c : World} {g : Nat} (h : a.grownBy b (some g)) (k : b.grownBy c (some g)) : a.grownBy c (some g) :=
  ⟨k.os.trans h.os, k.tape.trans h.tape, k.output.trans h.output, Nat.le_trans h.size k.size, fun i hi hn => (k.block i (Nat.lt_of_lt_of_le hi h.size) hn).trans (h.block i hi hn)⟩
theorem below_only {a b : World} {B g : Nat} (h : a.grownBy b (some g)) (hB : B ≤ g) (hs : B ≤ a.heap.size) : Below B a b :=
  ⟨h.os, h.tape, h.output, h.size, fun i hi => h.block i (by omega) (by intro e; injection e with e; omega)⟩
theorem below_step {w b c : World} (h : Below w.heap.size w b) (k : Below b.heap.size b c) : Below w.heap.size w c := h.trans (k.mono h.size)
theorem below_drewN {B : Nat} {a w : World} (h : Below B a w) (n : Nat) : Below B a (w.drewN n) := ⟨h.os, h.tape, h.output, h.size, h.block⟩

theorem u64_bounds {n : Int} (h : (Lit.int .u64 n).wf = true) : 0 ≤ n ∧ n ≤ 18446744073709551615 := by
  simp [Lit.wf, IntKind.min, IntKind.max, IntKind.signed, IntKind.bits] at h
  omega
theorem u32_bounds {n : Int} (h : (Lit.int .u32 n).wf = true) : 0 ≤ n ∧ n ≤ 4294967295 := by
  simp [Lit.wf, IntKind.min, IntKind.max, IntKind.signed, IntKind.bits] at h
  omega
theorem u16_bounds {n : Int} (h : (Lit.int .u16 n).wf = true) : 0 ≤ n ∧ n ≤ 65535 := by
  simp [Lit.wf, IntKind.min, IntKind.max, IntKind.signed, IntKind.bits] at h
  omega
theorem u8_bounds {n : Int} (h : (Lit.int .u8 n).wf = true) : 0 ≤ n ∧ n ≤ 255 := by
  simp [Lit.wf, IntKind.min, IntKind.max, IntKind.signed, IntKind.bits] at h
  omega
theorem bytes_of (zs : List Int) (h : ∀ n ∈ zs, (Lit.int .u8 n).wf = true) : ∃ l : List UInt8, l.length = zs.length ∧ zs.map (Value.int .u8) = l.map byteV := by
  induction zs with
  | nil => exact ⟨[], rfl, rfl⟩
  | cons n zs ih =>
    obtain ⟨l, h1, h2⟩ := ih fun m hm => h m (List.mem_cons_of_mem _ hm)
    have hb := u8_bounds (h n (List.mem_cons_self ..))
    refine ⟨UInt8.ofNat n.toNat :: l, by simp [h1], ?_⟩
    simp only [List.map_cons, h2, byteV]
    congr 2
    simp
    omega

/-- A slice of bytes that came in: it reads as l, and lies in memory that was there. -/
structure Arg (w : World) (A : Option Addr) (n c : Nat) (l : List UInt8) : Prop where
  len : n = l.length
  reads : Reads w A (l.map byteV)
  old : 0 < n → ∀ a, A = some a → a.block < w.heap.size
  room : n ≤ c
  most : c ≤ maxLen
  none_ : A = none → c = 0
theorem Arg.below {w w' : World} {A : Option Addr} {n c : Nat} {l : List UInt8} (h : Arg w A n c l) (hb : Below w.heap.size w w') : Arg w' A n c l :=
  ⟨h.len, h.reads.below hb (fun hx => h.old (by rw [h.len]; simpa using hx)), fun hn a ha => Nat.lt_of_lt_of_le (h.old hn a ha) hb.size, h.room, h.most, h.none_⟩

theorem one_byteV (l : List UInt8) : ∀ u ∈ l.map byteV, u.oneCell' = true := by
  intro u hu
  obtain ⟨c, _, rfl⟩ := List.mem_map.1 hu
  rfl

/-- 'append(v, x...)' of bytes, wherever x lies, nil included. -/
theorem wpList_append_bytes {P : Program} {w : World} {ops : Array Oper} {rest : List Oper} {o : Oper} {a : Act} {Q : Exit → Act → World → Prop} (hgd : o.guard = none) (s x : Operand) (t : TypeId)
    (ho : o.op = .call { callee := .builtin .append, args := #[s, x], argTypes := #[t, t] }) (base : Nat) (e : TypeId) (i : TypeInfo) (ht : P.underlying t = some (.slice e)) (hi : P.info? e = some i) (hz : i.zero = some (.int .u8 0))
    (hsize : i.size = 1) (hby : i.bytes = 1) (v : Value) (n : Nat) (xs : List Value) (hs : a.eval s = v) (hown : w.ownsRow base e 1 v n xs) (A : Option Addr) (m c : Nat) (l : List UInt8) (hx : a.eval x = .slice A m c) (hm : m = l.length)
    (hA : A = none → c = 0) (hr : Reads w A (l.map byteV)) (hmax : n + m ≤ 1000000) (hbase : base ≤ w.heap.size)
    (h : ∀ v' w', w'.ownsRow base e 1 v' (n + m) (xs ++ l.map byteV) → w.grownBy w' v.ownBlock → wpList P ops Q rest (a.put o.dst v') w') : wpList P ops Q (o :: rest) a w := by
  subst hm
  rcases A with _ | ad
  · have h0 : l = [] := by
      rcases l with _ | ⟨d, l⟩
      · rfl
      · obtain ⟨g, off, ha, _⟩ := hr (by simp)
        cases ha
    subst h0
    have hc := hA rfl
    subst hc
    exact wpList_append_own_none hgd s x t ho base e i 1 ht hi v n xs hs hown hx (h v w (by simpa using hown) (World.grownBy.refl w _))
  · refine wpList_append_own w hgd s x t ho base e i (.int .u8 0) 1 1 ht hi hz hsize hby rfl (by decide) v n xs hs hown ad l.length c (l.map byteV) hx (by simp) (fun j u hj => ?_) (one_byteV l) (by unfold maxLen; omega) (by omega) hbase (fun v' w' h1 h2 _ => h v' w' h1 h2)
    obtain ⟨g, off, hA', hc⟩ := hr (by
      have := (List.getElem?_eq_some_iff.1 hj).1
      omega)
    injection hA' with hA'
    subst hA'
    rw [add_plain]
    exact hc j u hj

/-! Strings. -/
theorem str_eq {a b : List UInt8} : ((⟨a.toArray⟩ : ByteArray) = ⟨b.toArray⟩) ↔ a = b := by
  constructor
  · intro h
    injection h with h
    exact List.toArray_inj h
  · rintro rfl; rfl
theorem size_list (l : List UInt8) : (⟨l.toArray⟩ : ByteArray).size = l.length := by simp [ByteArray.size]

/-- 'string(b)' of any slice of bytes. -/
theorem run_string_of {P : Program} (w : World) (src dst e : TypeId) (hs : P.underlying src = some (.slice e)) (he : P.underlying e = some (.int .u8)) (hd : P.underlying dst = some .string)
    {A : Option Addr} {n cap : Nat} {l : List UInt8} (hn : n = l.length) (h : Reads w A (l.map byteV)) :
    (convert src dst (.slice A n cap)).run P w = .ok (.string ⟨l.toArray⟩) w := by
  subst hn
  rcases A with _ | a
  · have hl : l = [] := by
      rcases l with _ | ⟨c, l⟩
      · rfl
      · obtain ⟨g, off, ha, _⟩ := h (by simp)
        cases ha
    subst hl
    rw [run_convert_bytes_string w src dst e none _ cap hs he hd]
    simp [Conv.bytesToString]
    rfl
  · refine run_convert_bytes_back w src dst e a cap l hs he hd fun j hj => ?_
    obtain ⟨g, off, ha, hc⟩ := h (by simp; omega)
    injection ha with ha
    subst ha
    rw [add_plain]
    exact hc j _ (by simp [List.getElem?_eq_getElem hj, byteV])
theorem below_alloc' {w b : World} (h : Below w.heap.size w b) (o : Obj) : Below w.heap.size w (b.alloc o) := h.alloc h.size o
theorem below_alloc1 {B : Nat} {w W : World} (h : Below B w W) (o : Obj) (hs : B ≤ w.heap.size) : Below B w (W.alloc o) := h.alloc (Nat.le_trans hs h.size) o

end Go.Proofs.Ytnidommmnmpdlaa
