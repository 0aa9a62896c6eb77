import Derived.WalkKit
import Derived.Below
import Derived.Lib.Hide
import Derived.Lib.AppendStr
import Derived.Laws.OwnMore
import Derived.Laws.AppendOwnNone
import Derived.Laws.IdiomStrings
import Derived.Deep.Draws
import Derived.Maps.AppendAt
import Derived.Test.YthcjledpjlpfaaaDoorRows
import Derived.LoopTactic
import Derived.Outline
import Derived.WalkSpells
import Derived.WalkLawsBesides
import Derived.KernelRfl
/- Of a claim's texts, joined: Kit Mem Num Rnum Crcm Crcr. No statement but in the last. -/
section
namespace Go.Proofs.YthcjledpjlpfaaaDoor
open Go.RowKit

def byteV (c : UInt8) : Value := .int .u8 (c.toNat : Int)

def Has (w : World) (g : Nat) (t : TypeId) (cs : Array Value) : Prop := w.heap[g]? = some (.cells cs t (0, 0))

section
variable {w w' : World} {g : Nat} {t : TypeId} {cs : Array Value}
theorem Has.lt (h : Has w g t cs) : g < w.heap.size := by
  unfold Has at h
  exact (Array.getElem?_eq_some_iff.1 h).1
theorem Has.cell (h : Has w g t cs) (i : Nat) : w.cell? ⟨g, i, none⟩ = cs[i]? := cell_of_row w g i cs t (0, 0) h
theorem Has.cell0 {u : Value} {r : List Value} (h : Has w g t ⟨u :: r⟩) : w.cell? ⟨g, 0, none⟩ = some u := by rw [h.cell]; simp
theorem Has.cell1 {u v : Value} {r : List Value} (h : Has w g t ⟨u :: v :: r⟩) : w.cell? ⟨g, 1, none⟩ = some v := by rw [h.cell]; simp
theorem Has.free (h : Has w g t cs) (i : Nat) : w.frozen? ⟨g, i, none⟩ = false := by unfold Has at h; simp [World.frozen?, h]
theorem Has.made (w : World) (t : TypeId) (cs : Array Value) : Has (w.alloc (.cells cs t)) w.heap.size t cs := heap_alloc_new w _
theorem Has.drew (h : Has w g t cs) : Has w.drew g t cs := h
theorem Has.alloc (h : Has w g t cs) (o : Obj) : Has (w.alloc o) g t cs := (Below.heap_alloc w o g h.lt).trans h
theorem Has.store (h : Has w g t cs) (i : Nat) (u : Value) : Has (w.setCell ⟨g, i, none⟩ u) g t (cs.setIfInBounds i u) := by
  unfold Has at h ⊢
  simp [World.setCell, Array.getElem?_modify, h]
theorem Has.away (h : Has w g t cs) {p : Addr} (hp : g ≠ p.block) (u : Value) : Has (w.setCell p u) g t cs := (Below.heap_setCell w p u g hp).trans h
theorem Has.below {B : Nat} (h : Has w g t cs) (hb : Below B w w') (hg : g < B) : Has w' g t cs := (hb.block g hg).trans h
theorem Has.grown {row : Option Nat} (h : Has w g t cs) (hb : w.grownBy w' row) (hg : some g ≠ row) : Has w' g t cs := (hb.block g h.lt hg).trans h
theorem Has.apart {g' : Nat} {t' : TypeId} {cs' : Array Value} (h : Has w g t cs) (h' : Has w g' t' cs') (hne : t ≠ t') : g ≠ g' := by
  rintro rfl
  unfold Has at h h'
  simp_all
end

def Row (w : World) (t : TypeId) (lo : Nat) (A : Option Addr) (xs : List Value) : Prop :=
  0 < xs.length → ∃ g off cs, A = some ⟨g, off, none⟩ ∧ lo ≤ g ∧ Has w g t cs ∧ ∀ j u, xs[j]? = some u → cs[off + j]? = some u

def Reads (w : World) (A : Option Addr) (xs : List Value) : Prop :=
  0 < xs.length → ∃ g off, A = some ⟨g, off, none⟩ ∧ ∀ j u, xs[j]? = some u → w.cell? ⟨g, off + j, none⟩ = some u

theorem add_plain (g off j : Nat) : (⟨g, off, none⟩ : Addr).add j = ⟨g, off + j, none⟩ := by
  unfold Addr.add
  by_cases h : j = 0 <;> simp [h]

section
variable {w w' : World} {t : TypeId} {lo : Nat} {A : Option Addr} {xs : List Value}
theorem Row.empty : Row w t lo A [] := fun h => absurd h (by simp)
theorem Row.keep_ (h : Row w t lo A xs) (hk : ∀ g cs, lo ≤ g → Has w g t cs → Has w' g t cs) : Row w' t lo A xs := fun hx => by
  obtain ⟨g, off, cs, hA, hl, hg, hc⟩ := h hx
  exact ⟨g, off, cs, hA, hl, hk g cs hl hg, hc⟩
theorem Row.drew (h : Row w t lo A xs) : Row w.drew t lo A xs := h
theorem Row.alloc (h : Row w t lo A xs) (o : Obj) : Row (w.alloc o) t lo A xs := h.keep_ fun _ _ _ hg => hg.alloc o
theorem Row.below (h : Row w t lo A xs) (hb : Below w.heap.size w w') : Row w' t lo A xs := h.keep_ fun _ _ _ hg => hg.below hb hg.lt
theorem Row.away {P : Nat} (h : Row w t lo A xs) (hP : P < lo) (hg : w.grownBy w' (some P)) : Row w' t lo A xs := h.keep_ fun _ _ hl hh => hh.grown hg (by
  intro e
  injection e with e
  omega)
theorem Row.grown {P : Nat} {t' : TypeId} {cs' : Array Value} (h : Row w t lo A xs) (hP : Has w P t' cs') (hne : t ≠ t') (hg : w.grownBy w' (some P)) : Row w' t lo A xs :=
  h.keep_ fun _ _ _ hh => hh.grown hg (by
    intro e
    injection e with e
    exact hh.apart hP hne e)
theorem Row.store {P : Nat} {t' : TypeId} {cs' : Array Value} (h : Row w t lo A xs) (hP : Has w P t' cs') (hne : t ≠ t') (i : Nat) (u : Value) : Row (w.setCell ⟨P, i, none⟩ u) t lo A xs :=
  h.keep_ fun _ _ _ hh => hh.away (p := ⟨P, i, none⟩) (hh.apart hP hne) u
theorem Row.reads (h : Row w t lo A xs) : Reads w A xs := fun hx => by
  obtain ⟨g, off, cs, hA, _, hg, hc⟩ := h hx
  exact ⟨g, off, hA, fun j u hj => by rw [hg.cell (off + j)]; exact hc j u hj⟩
theorem Row.take (h : Row w t lo A xs) (k : Nat) : Row w t lo A (xs.take k) := fun hx => by
  obtain ⟨g, off, cs, hA, hl, hg, hc⟩ := h (by simp at hx; omega)
  exact ⟨g, off, cs, hA, hl, hg, fun j u hj => hc j u (by
    rw [List.getElem?_take] at hj
    split at hj
    · exact hj
    · cases hj)⟩
theorem Row.drop (h : Row w t lo A xs) {k cap : Nat} (hc : xs.length ≤ cap) : Row w t lo (if cap = k then A else A.map (·.add k)) (xs.drop k) := fun hx => by
  simp at hx
  obtain ⟨g, off, cs, hA, hl, hg, hcell⟩ := h (by omega)
  rw [if_neg (by omega), hA]
  refine ⟨g, off + k, cs, by simp [add_plain], hl, hg, fun j u hj => ?_⟩
  rw [Nat.add_assoc]
  exact hcell _ u (by rw [← hj, List.getElem?_drop])
theorem Row.some_ (h : Row w t lo A xs) (hx : 0 < xs.length) : A ≠ none := by
  obtain ⟨g, off, cs, hA, _⟩ := h hx
  rw [hA]
  simp
theorem Row.low (h : Row w t lo A xs) {lo' : Nat} (hl : lo' ≤ lo) : Row w t lo' A xs := fun hx => by
  obtain ⟨g, off, cs, hA, hlo, hg, hc⟩ := h hx
  exact ⟨g, off, cs, hA, by omega, hg, hc⟩
theorem Row.of_own {base : Nat} {e : TypeId} {n c : Nat} (h : w.ownsRow base e 1 (.slice A n c) n xs) : Row w e base A xs := fun hx => by
  rcases h.2 with ⟨hv, hn⟩ | ⟨g, cap, cur, hv, hb, hg, _, _, _, hcur⟩
  · have := h.1
    omega
  · injection hv with hA _ _
    subst hA
    refine ⟨g, 0, cur, rfl, hb, hg, fun j u hj => ?_⟩
    rw [← hcur, List.getElem?_take] at hj
    split at hj
    · simpa using hj
    · cases hj
theorem Reads.empty : Reads w A [] := fun h => absurd h (by simp)
theorem Reads.below {B : Nat} (h : Reads w A xs) (hb : Below B w w') (hA : 0 < xs.length → ∀ a, A = some a → a.block < B) : Reads w' A xs := fun hx => by
  obtain ⟨g, off, hA', hc⟩ := h hx
  exact ⟨g, off, hA', fun j u hj => (hb.cell (p := ⟨g, off + j, none⟩) (hA hx ⟨g, off, none⟩ hA')).trans (hc j u hj)⟩
theorem Reads.keep_ (h : Reads w A xs) (hb : Below w.heap.size w w') : Reads w' A xs := fun hx => by
  obtain ⟨g, off, hA, hc⟩ := h hx
  exact ⟨g, off, hA, fun j u hj => (hb.cell (p := ⟨g, off + j, none⟩) (World.block_lt_of_cell? w _ (hc j u hj))).trans (hc j u hj)⟩
theorem Reads.drew (h : Reads w A xs) : Reads w.drew A xs := h
theorem Reads.take (h : Reads w A xs) (k : Nat) : Reads w A (xs.take k) := fun hx => by
  obtain ⟨g, off, hA, hc⟩ := h (by simp at hx; omega)
  exact ⟨g, off, hA, fun j u hj => hc j u (by
    rw [List.getElem?_take] at hj
    split at hj
    · exact hj
    · cases hj)⟩
end

/-! Only block g, and what is new, has turned. -/
theorem only_refl (w : World) (g : Nat) : w.grownBy w (some g) := ⟨rfl, rfl, rfl, Nat.le_refl _, fun _ _ _ => rfl⟩
theorem only_store {a w : World} {g : Nat} (h : a.grownBy w (some g)) (i : Nat) (u : Value) : a.grownBy (w.setCell ⟨g, i, none⟩ u) (some g) :=
  ⟨h.os, h.tape, h.output, by simpa [World.setCell] using h.size, fun i hi hne => (Below.heap_setCell w _ u i (by
    rintro rfl
    exact hne rfl)).trans (h.block i hi hne)⟩
theorem only_below {a b w : World} {g : Nat} (h : a.grownBy b (some g)) (hb : Below b.heap.size b w) : a.grownBy w (some g) :=
  ⟨hb.os.trans h.os, hb.tape.trans h.tape, hb.output.trans h.output, Nat.le_trans h.size hb.size, fun i hi hn => (hb.block i (Nat.lt_of_lt_of_le hi h.size)).trans (h.block i hi hn)⟩
theorem below_only {a b : World} {B g : Nat} (h : a.grownBy b (some g)) (hB : B ≤ g) (hs : B ≤ a.heap.size) : Below B a b :=
  ⟨h.os, h.tape, h.output, h.size, fun i hi => h.block i (by omega) (by intro e; injection e with e; omega)⟩
theorem below_step {w b c : World} (h : Below w.heap.size w b) (k : Below b.heap.size b c) : Below w.heap.size w c := h.trans (k.mono h.size)
theorem u32_bounds {n : Int} (h : (Lit.int .u32 n).wf = true) : 0 ≤ n ∧ n ≤ 4294967295 := by
  simp [Lit.wf, IntKind.min, IntKind.max, IntKind.signed, IntKind.bits] at h
  omega
theorem u16_bounds {n : Int} (h : (Lit.int .u16 n).wf = true) : 0 ≤ n ∧ n ≤ 65535 := by
  simp [Lit.wf, IntKind.min, IntKind.max, IntKind.signed, IntKind.bits] at h
  omega
theorem u8_bounds {n : Int} (h : (Lit.int .u8 n).wf = true) : 0 ≤ n ∧ n ≤ 255 := by
  simp [Lit.wf, IntKind.min, IntKind.max, IntKind.signed, IntKind.bits] at h
  omega
theorem bytes_of (zs : List Int) (h : ∀ n ∈ zs, (Lit.int .u8 n).wf = true) : ∃ l : List UInt8, l.length = zs.length ∧ zs.map (Value.int .u8) = l.map byteV := by
  induction zs with
  | nil => exact ⟨[], rfl, rfl⟩
  | cons n zs ih =>
    obtain ⟨l, h1, h2⟩ := ih fun m hm => h m (List.mem_cons_of_mem _ hm)
    have hb := u8_bounds (h n (List.mem_cons_self ..))
    refine ⟨UInt8.ofNat n.toNat :: l, by simp [h1], ?_⟩
    simp only [List.map_cons, h2, byteV]
    congr 2
    simp
    omega

structure Arg (w : World) (A : Option Addr) (n c : Nat) (l : List UInt8) : Prop where
  len : n = l.length
  reads : Reads w A (l.map byteV)
  old : 0 < n → ∀ a, A = some a → a.block < w.heap.size
  room : n ≤ c
  most : c ≤ maxLen
  none_ : A = none → c = 0
theorem Arg.below {w w' : World} {A : Option Addr} {n c : Nat} {l : List UInt8} (h : Arg w A n c l) (hb : Below w.heap.size w w') : Arg w' A n c l :=
  ⟨h.len, h.reads.below hb (fun hx => h.old (by rw [h.len]; simpa using hx)), fun hn a ha => Nat.lt_of_lt_of_le (h.old hn a ha) hb.size, h.room, h.most, h.none_⟩

theorem one_byteV (l : List UInt8) : ∀ u ∈ l.map byteV, u.oneCell' = true := by
  intro u hu
  obtain ⟨c, _, rfl⟩ := List.mem_map.1 hu
  rfl

theorem wpList_append_bytes {P : Program} {w : World} {ops : Array Oper} {rest : List Oper} {o : Oper} {a : Act} {Q : Exit → Act → World → Prop} (hgd : o.guard = none) (s x : Operand) (t : TypeId)
    (ho : o.op = .call { callee := .builtin .append, args := #[s, x], argTypes := #[t, t] }) (base : Nat) (e : TypeId) (i : TypeInfo) (ht : P.underlying t = some (.slice e)) (hi : P.info? e = some i) (hz : i.zero = some (.int .u8 0))
    (hsize : i.size = 1) (hby : i.bytes = 1) (v : Value) (n : Nat) (xs : List Value) (hs : a.eval s = v) (hown : w.ownsRow base e 1 v n xs) (A : Option Addr) (m c : Nat) (l : List UInt8) (hx : a.eval x = .slice A m c) (hm : m = l.length)
    (hA : A = none → c = 0) (hr : Reads w A (l.map byteV)) (hmax : n + m ≤ 1000000) (hbase : base ≤ w.heap.size)
    (h : ∀ v' w', w'.ownsRow base e 1 v' (n + m) (xs ++ l.map byteV) → w.grownBy w' v.ownBlock → wpList P ops Q rest (a.put o.dst v') w') : wpList P ops Q (o :: rest) a w := by
  subst hm
  rcases A with _ | ad
  · have h0 : l = [] := by
      rcases l with _ | ⟨d, l⟩
      · rfl
      · obtain ⟨g, off, ha, _⟩ := hr (by simp)
        cases ha
    subst h0
    have hc := hA rfl
    subst hc
    exact wpList_append_own_none hgd s x t ho base e i 1 ht hi v n xs hs hown hx (h v w (by simpa using hown) (World.grownBy.refl w _))
  · refine wpList_append_own w hgd s x t ho base e i (.int .u8 0) 1 1 ht hi hz hsize hby rfl (by decide) v n xs hs hown ad l.length c (l.map byteV) hx (by simp) (fun j u hj => ?_) (one_byteV l) (by unfold maxLen; omega) (by omega) hbase (fun v' w' h1 h2 _ => h v' w' h1 h2)
    obtain ⟨g, off, hA', hc⟩ := hr (by
      have := (List.getElem?_eq_some_iff.1 hj).1
      omega)
    injection hA' with hA'
    subst hA'
    rw [add_plain]
    exact hc j u hj

/-! Strings. -/
theorem size_list (l : List UInt8) : (⟨l.toArray⟩ : ByteArray).size = l.length := by simp [ByteArray.size]

theorem run_string_of {P : Program} (w : World) (src dst e : TypeId) (hs : P.underlying src = some (.slice e)) (he : P.underlying e = some (.int .u8)) (hd : P.underlying dst = some .string)
    {A : Option Addr} {n cap : Nat} {l : List UInt8} (hn : n = l.length) (h : Reads w A (l.map byteV)) :
    (convert src dst (.slice A n cap)).run P w = .ok (.string ⟨l.toArray⟩) w := by
  subst hn
  rcases A with _ | a
  · have hl : l = [] := by
      rcases l with _ | ⟨c, l⟩
      · rfl
      · obtain ⟨g, off, ha, _⟩ := h (by simp)
        cases ha
    subst hl
    rw [run_convert_bytes_string w src dst e none _ cap hs he hd]
    simp [Conv.bytesToString]
    rfl
  · refine run_convert_bytes_back w src dst e a cap l hs he hd fun j hj => ?_
    obtain ⟨g, off, ha, hc⟩ := h (by simp; omega)
    injection ha with ha
    subst ha
    rw [add_plain]
    exact hc j _ (by simp [List.getElem?_eq_getElem hj, byteV])
theorem below_alloc' {w b : World} (h : Below w.heap.size w b) (o : Obj) : Below w.heap.size w (b.alloc o) := h.alloc h.size o
end Go.Proofs.YthcjledpjlpfaaaDoor
end

section
namespace Go.Proofs.YthcjledpjlpfaaaDoor
open Go.RowKit
set_option linter.unusedVariables false

def Fresh (W : Nat) (l : List UInt8) (w : World) (e : Ending) (w' : World) : Prop :=
  ∃ A c, e = .returned (.slice A l.length c) ∧ l.length ≤ c ∧ c ≤ maxLen ∧ Row w' 5 W A (l.map byteV) ∧ Below W w w'
theorem eq_nil_yes (n c : Nat) (w : World) : (binOp .eql 32 (.slice none n c) (.slice none 0 0)).run Tryd.prog w = .ok (.bool true) w := Lib.run_eql_slice_nil w 32 5 none n c 0 0 Tryd.underlying32
theorem eq_nil_no (a : Addr) (n c : Nat) (w : World) : (binOp .eql 32 (.slice (some a) n c) (.slice none 0 0)).run Tryd.prog w = .ok (.bool false) w := Lib.run_eql_slice_nil w 32 5 (some a) n c 0 0 Tryd.underlying32
theorem u8info : (Tryd.prog.info? 5).map (fun i => (i.zero, i.size, i.bytes)) = some (some (.int .u8 0), 1, 1) := by kernel_rfl
theorem own_new (w : World) : (w.alloc (.cells #[] 5)).ownsRow w.heap.size 5 1 (.slice (some ⟨w.heap.size, 0, none⟩) 0 0) 0 [] := World.ownsRow_made w #[] 0 (Nat.le_refl _) (by decide) rfl
theorem own_slice {w : World} {B : Nat} {v : Value} {n : Nat} {xs : List Value} (h : w.ownsRow B 5 1 v n xs) : ∃ A c, v = .slice A n c ∧ n ≤ c ∧ c ≤ maxLen := by
  rcases h.2 with ⟨rfl, rfl⟩ | ⟨g, cap, cur, rfl, _, _, h1, h2, _⟩
  · exact ⟨none, 0, rfl, Nat.le_refl _, Nat.zero_le _⟩
  · exact ⟨_, cap, rfl, h1, h2⟩
theorem fresh_of {W : Nat} {w w1 w' : World} {v : Value} {l : List UInt8} (hown : w'.ownsRow W 5 1 v l.length (l.map byteV)) (hb : Below W w w1) (hg : w1.grownBy w' (some W)) (hW : W ≤ w1.heap.size) : Fresh W l w (.returned v) w' := by
  obtain ⟨A, c, rfl, h1, h2⟩ := own_slice hown
  exact ⟨A, c, rfl, h1, h2, Row.of_own hown, hb.trans (below_only hg (Nat.le_refl _) hW)⟩
theorem str_row {w : World} {lo n c : Nat} {A : Option Addr} {l : List UInt8} (hn : n = l.length) (h : Row w 5 lo A (l.map byteV)) : (convert 32 9 (.slice A n c)).run Tryd.prog w = .ok (.string ⟨l.toArray⟩) w :=
  run_string_of w 32 9 5 Tryd.underlying32 Tryd.underlying5 Tryd.underlying9 hn h.reads
theorem row_made (w : World) (l : List UInt8) : Row (w.alloc (.cells (l.map byteV).toArray 5)) 5 w.heap.size (some ⟨w.heap.size, 0, none⟩) (l.map byteV) := fun _ =>
  ⟨w.heap.size, 0, _, rfl, Nat.le_refl _, Has.made w 5 _, fun j u hj => by simpa using hj⟩
theorem u64_eq {a b : Int} (h : a = b) : Value.int .u64 a = .int .u64 b := by rw [h]
theorem str_eq2 {a b : ByteArray} (h : a = b) : Value.string a = .string b := by rw [h]
theorem ret_str {a b : ByteArray} (h : a = b) : Ending.returned (.string a) = .returned (.string b) := by rw [h]
theorem str_cons (c : UInt8) (l : List UInt8) : (⟨#[c]⟩ : ByteArray) ++ ⟨l.toArray⟩ = ⟨(c :: l).toArray⟩ := by
  apply ByteArray.ext
  simp
theorem ret_u64 {a b : Int} (h : a = b) : Ending.returned (.int .u64 a) = .returned (.int .u64 b) := by rw [h]
theorem take_more {l : List UInt8} {k : Nat} {c : UInt8} (h : l[k]? = some c) : l.take (k + 1) = l.take k ++ [c] := by
  obtain ⟨hk, hc⟩ := List.getElem?_eq_some_iff.1 h
  rw [List.take_succ_eq_append_getElem hk, hc]

end Go.Proofs.YthcjledpjlpfaaaDoor
end

section
namespace Go.Proofs.YthcjledpjlpfaaaDoor
open Go.RowKit
set_option linter.unusedVariables false

theorem isSize_yes (n : Int) (w : World) (h1 : 1 ≤ n) (h8 : n ≤ 8) : Calls Tryd.prog 58 #[.int .i64 n] w fun e w' => e = .returned (.bool true) ∧ w = w' := by
  go_enter Tryd.func58, Tryd.ntmps58
  go_wp2
  go_ret
  exact ⟨rfl, rfl⟩
theorem isSize_no (n : Int) (w : World) (h : n < 1 ∨ 8 < n) : Calls Tryd.prog 58 #[.int .i64 n] w fun e w' => e = .returned (.bool false) ∧ w = w' := by
  rcases h with h | h
  · have hd : decide (1 ≤ n) = false := by simp; omega
    go_enter Tryd.func58, Tryd.ntmps58
    go_wp2
    go_ret
    exact ⟨rfl, rfl⟩
  · have hd : decide (n ≤ 8) = false := by simp; omega
    go_enter Tryd.func58, Tryd.ntmps58
    go_wp2
    go_ret
    exact ⟨rfl, rfl⟩
def numB (x n : Nat) : List UInt8 := (List.range n).map fun j => UInt8.ofNat (x / 256 ^ (n - 1 - j))
theorem numB_len (x n : Nat) : (numB x n).length = n := by simp [numB]
theorem numB_at (x n j : Nat) (hj : j < n) : (numB x n)[j]? = some (UInt8.ofNat (x / 256 ^ (n - 1 - j))) := by simp [numB, hj]
theorem byteV_ofNat (x k : Nat) : byteV (UInt8.ofNat (x / 256 ^ k)) = .int .u8 ((x : Int) / 2 ^ (8 * k) % 256) := by
  have h : (2 : Nat) ^ (8 * k) = 256 ^ k := by rw [Nat.pow_mul]
  have h2 : ((x : Int) / 2 ^ (8 * k) % 256) = ((x / 256 ^ k % 256 : Nat) : Int) := by
    rw [← h]
    simp
  rw [h2]
  simp [byteV]
theorem make_bytes (n : Nat) (hn : n ≤ 1000000) (w : World) : (Instr.makeSlice 32 (.int .i64 n) (.int .i64 n)).run Tryd.prog w = .ok (.slice (some ⟨w.heap.size, 0, none⟩) n n) (w.alloc (.cells (madeCells #[.int .u8 0] n) 5)) := by
  obtain ⟨i0, hi, hz0, hz1, hz2⟩ := info_parts u8info
  have := run_make (P := Tryd.prog) (w := w) 32 5 i0 (.int .u8 0) Tryd.underlying32 hi hz0 .i64 .i64 n n (by omega) (by omega) (by rw [hz2]; omega) (by omega)
  simp only [Int.toNat_natCast, hz1, Nat.mul_one] at this
  exact this
set_option maxHeartbeats 400000 in
theorem Num_yes (x n : Nat) (w : World) (hx : x < 18446744073709551616) (h1 : 1 ≤ n) (h8 : n ≤ 8) :
    Calls Tryd.prog 46 #[.int .u64 x, .int .i64 n] w fun e w' => e = .returned (.slice (some ⟨w.heap.size, 0, none⟩) n n) ∧ w.alloc (.cells ((numB x n).map byteV).toArray 5) = w' := by
  have hmk := make_bytes n (by omega)
  go_enter Tryd.func46, Tryd.ntmps46
  go_wp2_with (first | (go_at_call 58; refine (isSize_yes _ _ (by omega) (by omega)).mono ?_; rintro e w' ⟨rfl, rfl⟩))
  go_loopw [6, 14] (fun _ i wr => ∃ (k : Nat) (C : Array Value), k ≤ n ∧ i = .int .i64 k ∧ C.size = n ∧ (∀ j, n ≤ j + k → j < n → C[j]? = ((numB x n).map byteV)[j]?) ∧ wr = w.alloc (.cells C 5)) (fun _ i _ => n - (intOf i).toNat)
  case atStart => exact ⟨0, _, Nat.zero_le _, rfl, size_madeCells _ _, fun j h h' => absurd h (by omega), rfl⟩
  case round =>
    obtain ⟨k, C, hk, rfl, hC, hj, rfl⟩ := hrel
    by_cases hlt : k < n
    · have HC := Lib.hid hC
      have HJ := Lib.hid hj
      obtain ⟨u, hu⟩ : ∃ u, C[n - 1 - k]? = some u := ⟨_, Array.getElem?_eq_getElem (by omega)⟩
      have hcell : (w.alloc (.cells C 5)).cell? ⟨w.heap.size, n - 1 - k, none⟩ = some u := by rw [(Has.made w 5 C).cell]; exact hu
      clear hC hj hu
      go_wp2
      go_roundw
      case rel =>
        refine ⟨k + 1, _, by omega, by go_num, ?_, ?_, rfl⟩
        · simp [HC.out]
        · intro j h h'
          by_cases he : j = n - 1 - k
          · subst he
            rw [Array.getElem?_setIfInBounds_self_of_lt (by have := HC.out; omega), List.getElem?_map, numB_at x n _ h', Option.map_some]
            have e : n - 1 - (n - 1 - k) = k := by omega
            rw [e, byteV_ofNat]
          · rw [Array.getElem?_setIfInBounds_ne (by omega)]
            exact HJ.out j (by omega) h'
      case measure => simp [intOf]; omega
    · go_wp2
      go_ret
      refine ⟨rfl, ?_⟩
      have hk' : k = n := by omega
      subst hk'
      congr 2
      apply Array.ext_getElem?
      intro j
      by_cases hjn : j < k
      · rw [hj j (by omega) hjn]; simp
      · rw [Array.getElem?_eq_none (by simp [numB_len]; omega), Array.getElem?_eq_none (by omega)]
def numX (x : Nat) (size : Int) : List UInt8 := if size < 1 ∨ 8 < size then [] else numB x size.toNat
end Go.Proofs.YthcjledpjlpfaaaDoor
end

section
namespace Go.Proofs.YthcjledpjlpfaaaDoor
open Go.RowKit
set_option linter.unusedVariables false

theorem numB_succ (x k : Nat) : numB x (k + 1) = UInt8.ofNat (x / 256 ^ k) :: numB x k := by
  apply List.ext_getElem?
  intro j
  rcases j with _ | j
  · rw [numB_at _ _ _ (by omega)]; simp
  · by_cases hj : j < k
    · rw [numB_at _ _ _ (by omega), List.getElem?_cons_succ, numB_at _ _ _ hj]
      have : k + 1 - 1 - (j + 1) = k - 1 - j := by omega
      rw [this]
    · rw [List.getElem?_eq_none (by rw [numB_len]; omega), List.getElem?_eq_none (by simp [numB_len]; omega)]
theorem str_one (y : Nat) (W : World) : (convert 32 9 (.slice (some ⟨W.heap.size, 0, none⟩) 1 1)).run Tryd.prog (W.alloc (.cells #[.int .u8 ((y : Int) % 256)] 5)) = .ok (.string ⟨#[UInt8.ofNat y]⟩) (W.alloc (.cells #[.int .u8 ((y : Int) % 256)] 5)) := by
  have h := row_made W [UInt8.ofNat y]
  have e : (([UInt8.ofNat y] : List UInt8).map byteV).toArray = #[.int .u8 ((y : Int) % 256)] := by simp [byteV]
  rw [e] at h
  exact str_row (n := 1) (c := 1) rfl h
set_option maxHeartbeats 400000 in
theorem rNum_yes (x n : Nat) (w : World) (hx : x < 18446744073709551616) (h1 : 1 ≤ n) (h8 : n ≤ 8) :
    Calls Tryd.prog 29 #[.int .u64 x, .int .i64 n] w fun e w' => e = .returned (.string ⟨(numB x n).toArray⟩) ∧ Below w.heap.size w w' := by
  go_enter Tryd.func29, Tryd.ntmps29
  go_wp2
  go_loopw [0, 5, 6] (fun v s i wr => ∃ k : Nat, k ≤ n ∧ v = .int .u64 ((x / 256 ^ k : Nat) : Int) ∧ s = .string ⟨(numB x k).toArray⟩ ∧ i = .int .i64 k ∧ Below w.heap.size w wr) (fun _ _ i _ => n - (intOf i).toNat)
  case atStart => exact ⟨0, Nat.zero_le _, by simp, rfl, rfl, Below.refl _ _⟩
  case round =>
    obtain ⟨k, hk, rfl, rfl, rfl, hb⟩ := hrel
    have HB := Lib.hid hb
    clear hb
    by_cases hlt : k < n
    · obtain ⟨y, hy⟩ : ∃ y, y = x / 256 ^ k := ⟨_, rfl⟩
      have hy2 : y ≤ x := by rw [hy]; exact Nat.div_le_self _ _
      have hs1 := str_one y
      rw [← hy]
      have HY := Lib.hid hy
      clear hy
      have hl : (numB x k).length ≤ 8 := by rw [numB_len]; omega
      go_wp2
      go_roundw
      case rel => exact ⟨k + 1, by omega, u64_eq (by rw [HY.out, Nat.pow_succ, ← Nat.div_div_eq_div_mul]; rfl), str_eq2 (by rw [str_cons, numB_succ, ← HY.out]), by go_num, (HB.out.alloc HB.out.size _)⟩
      case measure => simp [intOf]; omega
    · go_wp2
      go_ret
      have hk' : k = n := by omega
      subst hk'
      exact ⟨rfl, HB.out⟩
end Go.Proofs.YthcjledpjlpfaaaDoor
end

section
namespace Go.Proofs.YthcjledpjlpfaaaDoor
open Go.RowKit

def st (x : Nat) : Nat := x / 2 ^^^ (if x % 2 = 1 then 3988292384 else 0)
def sts : Nat → Nat → Nat
  | 0, x => x
  | n + 1, x => sts n (st x)

theorem mod2_xor (x y : Nat) : (x ^^^ y) % 2 = (x % 2 + y % 2) % 2 := by
  have h := @Nat.xor_mod_two_eq_one x y
  omega
theorem div2_xor (x y : Nat) : (x ^^^ y) / 2 = x / 2 ^^^ y / 2 := by
  have h := Nat.shiftRight_xor_distrib (a := x) (b := y) (i := 1)
  simpa [Nat.shiftRight_succ] using h
theorem xor_four (a b c d : Nat) : (a ^^^ b) ^^^ (c ^^^ d) = (a ^^^ c) ^^^ (b ^^^ d) := by
  rw [Nat.xor_assoc, Nat.xor_assoc, ← Nat.xor_assoc b, ← Nat.xor_assoc c, Nat.xor_comm b c]
theorem st_xor (x y : Nat) : st (x ^^^ y) = st x ^^^ st y := by
  unfold st
  rw [div2_xor, xor_four, mod2_xor]
  congr 1
  rcases Nat.mod_two_eq_zero_or_one x with hx | hx <;> rcases Nat.mod_two_eq_zero_or_one y with hy | hy <;> simp [hx, hy]
theorem sts_xor (n : Nat) : ∀ x y, sts n (x ^^^ y) = sts n x ^^^ sts n y := by
  induction n with
  | zero => intro x y; rfl
  | succ n ih => intro x y; rw [sts, sts, sts, st_xor, ih]
theorem sts_add (n m : Nat) : ∀ x, sts (n + m) x = sts m (sts n x) := by
  induction n with
  | zero => intro x; rw [Nat.zero_add]; rfl
  | succ n ih => intro x; rw [Nat.add_right_comm, sts, sts, ih]
theorem st_even (y : Nat) : st (2 * y) = y := by
  unfold st
  have h : 2 * y % 2 = 0 := by omega
  rw [h]
  simp
theorem sts_shift (n : Nat) : ∀ y, sts n (2 ^ n * y) = y := by
  induction n with
  | zero => intro y; simp [sts]
  | succ n ih =>
    intro y
    have e : 2 ^ (n + 1) * y = 2 * (2 ^ n * y) := by rw [Nat.pow_succ]; ac_rfl
    rw [sts, e, st_even, ih]
theorem st_lt (x : Nat) (h : x < 4294967296) : st x < 4294967296 := by
  unfold st
  exact Nat.xor_lt_two_pow (n := 32) (by omega) (by split <;> omega)
theorem sts_lt (n : Nat) : ∀ x, x < 4294967296 → sts n x < 4294967296 := by
  induction n with
  | zero => intro x h; exact h
  | succ n ih => intro x h; exact ih _ (st_lt x h)
theorem xor_eq_zero {a b : Nat} (h : a ^^^ b = 0) : a = b := by
  have h2 : (a ^^^ b) ^^^ b = 0 ^^^ b := by rw [h]
  rw [Nat.xor_assoc, Nat.xor_self, Nat.xor_zero, Nat.zero_xor] at h2
  exact h2
theorem st_ne (x : Nat) (h : x < 4294967296) (h0 : st x = 0) : x = 0 := by
  unfold st at h0
  have h1 := xor_eq_zero h0
  split at h1 <;> omega
theorem sts_ne (n : Nat) : ∀ x, x < 4294967296 → sts n x = 0 → x = 0 := by
  induction n with
  | zero => intro x _ h; exact h
  | succ n ih => intro x h h0; exact st_ne x h (ih _ (st_lt x h) h0)

def bt (x : Nat) (c : UInt8) : Nat := sts 8 (x ^^^ c.toNat)
def fd (x : Nat) (l : List UInt8) : Nat := l.foldl bt x
def dg : List UInt8 → Nat
  | [] => 0
  | c :: l => c.toNat + 256 * dg l
theorem add_xor (c : UInt8) (r : Nat) : c.toNat + 256 * r = c.toNat ^^^ 256 * r := by
  have h := Nat.two_pow_add_eq_or_of_lt (b := c.toNat) (i := 8) c.toNat_lt r
  have hx : (256 * r) ^^^ c.toNat = 256 * r + c.toNat := by
    apply Nat.eq_of_testBit_eq
    intro i
    have e : 256 * r = 2 ^ 8 * r := by omega
    rw [e, h, Nat.testBit_xor, Nat.testBit_or, Nat.testBit_two_pow_mul]
    by_cases hi : 8 ≤ i
    · have : c.toNat.testBit i = false := Nat.testBit_lt_two_pow (Nat.lt_of_lt_of_le c.toNat_lt (Nat.pow_le_pow_right (by omega) hi))
      simp [this]
    · simp [hi]
  rw [Nat.xor_comm, hx, Nat.add_comm]
theorem xor_low (a r : Nat) (h : a < 16) : a ^^^ 16 * r = a + 16 * r := by
  have h1 := Nat.two_pow_add_eq_or_of_lt (b := a) (i := 4) h r
  have e : 16 * r = 2 ^ 4 * r := by omega
  rw [Nat.add_comm, e, h1]
  apply Nat.eq_of_testBit_eq
  intro i
  rw [Nat.testBit_xor, Nat.testBit_or, Nat.testBit_two_pow_mul]
  by_cases hi : 4 ≤ i
  · have : a.testBit i = false := Nat.testBit_lt_two_pow (Nat.lt_of_lt_of_le h (Nat.pow_le_pow_right (n := 2) (i := 4) (by omega) hi))
    simp [this]
  · simp [hi]
theorem bt_all (x : Nat) (c : UInt8) (r : Nat) : sts 8 (x ^^^ (c.toNat + 256 * r)) = bt x c ^^^ r := by
  rw [add_xor, ← Nat.xor_assoc, sts_xor, show 256 * r = 2 ^ 8 * r by omega, sts_shift]
  rfl
theorem fd_dg (l : List UInt8) : ∀ x, fd x l = sts (8 * l.length) (x ^^^ dg l) := by
  induction l with
  | nil => intro x; simp [fd, dg, sts]
  | cons c l ih =>
    intro x
    have e : 8 * (c :: l).length = 8 + 8 * l.length := by simp; omega
    rw [e, sts_add, dg, bt_all]
    exact ih (bt x c)
theorem fd_lt (l : List UInt8) : ∀ x, x < 4294967296 → fd x l < 4294967296 := by
  induction l with
  | nil => intro x h; exact h
  | cons c l ih =>
    intro x h
    exact ih _ (sts_lt 8 _ (Nat.xor_lt_two_pow (n := 32) h (Nat.lt_trans c.toNat_lt (by decide))))
theorem fd_append (a b : List UInt8) (x : Nat) : fd x (a ++ b) = fd (fd x a) b := by simp [fd, List.foldl_append]

def onN (s : Nat) (l : List UInt8) : Nat := 4294967295 - fd (4294967295 - s) l
def ofN (l : List UInt8) : Nat := onN 0 l
theorem onN_lt (s : Nat) (l : List UInt8) : onN s l < 4294967296 := by unfold onN; omega
theorem ofN_lt (l : List UInt8) : ofN l < 4294967296 := onN_lt 0 l
theorem dg_xor (l : List UInt8) : ∀ (j : Nat) (o : UInt8) (h : j < l.length), dg (l.set j (l[j] ^^^ o)) = dg l ^^^ (o.toNat * 256 ^ j) := by
  induction l with
  | nil => intro j o h; exact absurd h (by simp)
  | cons c l ih =>
    intro j o h
    rcases j with _ | j
    · simp only [List.set_cons_zero, List.getElem_cons_zero, dg]
      rw [add_xor, add_xor, UInt8.toNat_xor]
      simp only [Nat.pow_zero, Nat.mul_one]
      rw [Nat.xor_assoc, Nat.xor_assoc, Nat.xor_comm o.toNat]
    · have hl : j < l.length := by simpa using h
      simp only [List.set_cons_succ, List.getElem_cons_succ, dg]
      rw [ih j o hl, add_xor, add_xor, Nat.xor_assoc]
      congr 1
      have e : o.toNat * 256 ^ (j + 1) = 256 * (o.toNat * 256 ^ j) := by rw [Nat.pow_succ]; ac_rfl
      rw [e]
      have h8 : ∀ a b : Nat, 256 * (a ^^^ b) = 256 * a ^^^ 256 * b := fun a b => by
        have := Nat.shiftLeft_xor_distrib (a := a) (b := b) (i := 8)
        simp only [Nat.shiftLeft_eq] at this
        rw [Nat.mul_comm 256, Nat.mul_comm 256, Nat.mul_comm 256]
        exact this
      exact h8 _ _

theorem burst (b c : List UInt8) (k t : Nat) (hl : c.length = b.length) (hd : dg c = dg b ^^^ (2 ^ k * t)) (hk : k ≤ 8 * b.length) (ht : t < 4294967296) (h0 : t ≠ 0) : ofN c ≠ ofN b := by
  intro h
  have hb := fd_lt b 4294967295 (by decide)
  have hc := fd_lt c 4294967295 (by decide)
  have h1 : fd 4294967295 c = fd 4294967295 b := by
    unfold ofN onN at h
    simp only [Nat.sub_zero] at h
    omega
  rw [fd_dg, fd_dg, hd, hl, ← Nat.xor_assoc, sts_xor] at h1
  have h2 : sts (8 * b.length) (2 ^ k * t) = 0 := by
    have h3 : sts (8 * b.length) (4294967295 ^^^ dg b) ^^^ (sts (8 * b.length) (4294967295 ^^^ dg b) ^^^ sts (8 * b.length) (2 ^ k * t)) = 0 := by rw [h1, Nat.xor_self]
    rw [← Nat.xor_assoc, Nat.xor_self, Nat.zero_xor] at h3
    exact h3
  have e : 8 * b.length = k + (8 * b.length - k) := by omega
  rw [e, sts_add, sts_shift] at h2
  exact h0 (sts_ne _ t ht h2)

def xor3 (a b c : List UInt8) : List UInt8 := List.zipWith (· ^^^ ·) (List.zipWith (· ^^^ ·) a b) c
theorem inv_xor (x : Nat) (h : x < 4294967296) : 4294967295 - x = 4294967295 ^^^ x := by
  have e1 : 4294967295 - x = 2 ^ 32 - (x + 1) := by omega
  have e2 : (4294967295 : Nat) = 2 ^ 32 - 1 := by decide
  rw [e1]
  apply Nat.eq_of_testBit_eq
  intro i
  rw [Nat.testBit_two_pow_sub_succ (n := 32) h, e2, Nat.testBit_xor, Nat.testBit_two_pow_sub_one]
  by_cases hi : i < 32
  · simp [hi]
  · have : x.testBit i = false := Nat.testBit_lt_two_pow (Nat.lt_of_lt_of_le h (Nat.pow_le_pow_right (n := 2) (i := 32) (by omega) (by omega)))
    simp [hi, this]
end Go.Proofs.YthcjledpjlpfaaaDoor
end

section
namespace Go.Proofs.YthcjledpjlpfaaaDoor
open Go.RowKit
set_option linter.unusedVariables false

theorem u32_eq {a b : Int} (h : a = b) : Value.int .u32 a = .int .u32 b := by rw [h]
theorem ret_u32 {a b : Int} (h : a = b) : Ending.returned (.int .u32 a) = .returned (.int .u32 b) := by rw [h]
theorem fd_more (x : Nat) (l : List UInt8) (k : Nat) (d : UInt8) (h : l[k]? = some d) : fd x (l.take (k + 1)) = bt (fd x (l.take k)) d := by rw [take_more h, fd_append]; rfl
theorem sts_more (n : Nat) (x : Nat) : sts (n + 1) x = st (sts n x) := by rw [sts_add]; rfl
theorem xor_cast (a b : Nat) (ha : a < 4294967296) (hb : b < 4294967296) : bits .xor .u32 (a : Int) (b : Int) = ((a ^^^ b : Nat) : Int) := u32_xor_nat a b ha hb

set_option maxHeartbeats 800000 in
theorem r2On_any (sum : Nat) (s : ByteArray) (w : World) (hsum : sum < 4294967296) (hs : s.size ≤ 1000000) :
    Calls Tryd.prog 61 #[.int .u32 sum, .string s] w fun e w' => e = .returned (.int .u32 (onN sum s.data.toList : Int)) ∧ w = w' := by
  have hsz : s.size = s.data.toList.length := rfl
  have HZ := Lib.hid hsz
  clear hsz
  go_enter Tryd.func61, Tryd.ntmps61
  go_wp2
  go_loop [5, 6] (fun x i => ∃ k : Nat, k ≤ s.size ∧ i = .int .i64 k ∧ x = .int .u32 (fd (4294967295 - sum) (s.data.toList.take k) : Int)) (fun _ i => s.size - (intOf i).toNat)
  case atStart => exact ⟨0, Nat.zero_le _, rfl, u32_eq (by simp [fd]; omega)⟩
  case round =>
    obtain ⟨k, hk, rfl, rfl⟩ := hrel
    by_cases hlt : k < s.size
    · obtain ⟨d, hd⟩ : ∃ d, s.data.toList[k]? = some d := ⟨_, List.getElem?_eq_getElem (by rw [← HZ.out]; exact hlt)⟩
      have hsd : Hid (s[k] = d) := Lib.hid (by
        rw [List.getElem?_eq_getElem (by rw [← HZ.out]; exact hlt)] at hd
        injection hd)
      have HM := Lib.hid (fd_more (4294967295 - sum) s.data.toList k d hd)
      have hx := fd_lt (s.data.toList.take k) (4294967295 - sum) (by omega)
      clear hd
      generalize fd (4294967295 - sum) (s.data.toList.take k) = x at hx HM
      have hdl := d.toNat_lt
      have hxc : Hid (bits .xor .u32 (x : Int) (d.toNat : Int) = ((x ^^^ d.toNat : Nat) : Int)) := Lib.hid (xor_cast x d.toNat hx (by omega))
      have hyl : x ^^^ d.toNat < 4294967296 := Nat.xor_lt_two_pow (n := 32) hx (by omega)
      have HB : Hid (bt x d = sts 8 (x ^^^ d.toNat)) := Lib.hid rfl
      go_wp2
      go_loop [5, 7] (fun v i => ∃ j : Nat, j ≤ 8 ∧ i = .int .i64 j ∧ v = .int .u32 (sts j (x ^^^ d.toNat) : Int)) (fun _ i => 8 - (intOf i).toNat)
      case atStart =>
        refine ⟨0, Nat.zero_le _, rfl, u32_eq ?_⟩
        rw [hsd.out, Int.emod_eq_of_lt (by omega) (by omega), hxc.out]
        rfl
      case round =>
        obtain ⟨j, hj, rfl, rfl⟩ := hrel
        by_cases hl8 : j < 8
        · have hz := sts_lt j _ hyl
          have HS := Lib.hid (sts_more j (x ^^^ d.toNat))
          generalize sts j (x ^^^ d.toNat) = y at hz HS
          have hy2 : y / 2 < 4294967296 := by omega
          have HX : Hid (bits .xor .u32 ((y : Int) / 2) 3988292384 = ((y / 2 ^^^ 3988292384 : Nat) : Int)) := Lib.hid (by
            have := xor_cast (y / 2) 3988292384 (by omega) (by omega)
            have e : ((y / 2 : Nat) : Int) = (y : Int) / 2 := by omega
            rw [e] at this
            exact this)
          by_cases hodd : y % 2 = 1
          · have h1 : ((y : Int) % 2 == 1) = true := by simp; omega
            have HO := Lib.hid hodd
            clear hodd
            go_wp2
            go_round
            case rel => exact ⟨j + 1, by omega, by go_num, u32_eq (by rw [HS.out, HX.out]; unfold st; rw [if_pos HO.out])⟩
            case measure => simp [intOf]; omega
          · have h1 : ((y : Int) % 2 == 1) = false := by simp; omega
            have HO := Lib.hid hodd
            clear hodd
            go_wp2
            go_round
            case rel => exact ⟨j + 1, by omega, by go_num, u32_eq (by rw [HS.out]; unfold st; rw [if_neg HO.out]; simp)⟩
            case measure => simp [intOf]; omega
        · have hj8 : j = 8 := by omega
          subst hj8
          go_wp2
          go_round
          case rel => exact ⟨k + 1, by omega, by go_num, u32_eq (by rw [HM.out, HB.out])⟩
          case measure => simp [intOf]; omega
    · go_wp2
      go_ret
      have e : s.data.toList.take k = s.data.toList := List.take_of_length_le (by rw [← HZ.out]; omega)
      have hb := fd_lt s.data.toList (4294967295 - sum) (by omega)
      rw [e]
      exact ⟨ret_u32 (by unfold onN; omega), rfl⟩

theorem r2Of_any (s : ByteArray) (w : World) (hs : s.size ≤ 1000000) :
    Calls Tryd.prog 49 #[.string s] w fun e w' => e = .returned (.int .u32 (ofN s.data.toList : Int)) ∧ w = w' := by
  go_enter Tryd.func49, Tryd.ntmps49
  go_wp2_with (go_at_call 61; refine (r2On_any 0 s _ (by decide) hs).mono ?_; rintro e w' ⟨rfl, rfl⟩)
  go_ret
  exact ⟨rfl, rfl⟩

def tagB (l : List UInt8) : List UInt8 := numB (ofN l) 4 ++ l
theorem tagB_len (l : List UInt8) : (tagB l).length = l.length + 4 := by simp [tagB, numB_len]; omega
theorem str_app (a : List UInt8) (s : ByteArray) : (⟨a.toArray⟩ : ByteArray) ++ s = ⟨(a ++ s.data.toList).toArray⟩ := by
  apply ByteArray.ext
  simp
def isTag (l : List UInt8) : Prop := 4 ≤ l.length ∧ tagB (l.drop 4) = l
end Go.Proofs.YthcjledpjlpfaaaDoor
end
