/- Rows of ints as layers 13 and 14 have them, nil included: reading, appending, fronts and backs; nothing of the program but the type int; no statement. -/
import Derived.Test.YtnidommmnmpdlaaKit
import Derived.Test.YtnidommmnmpdlaaMem
import Derived.Test.YtnidommmnmpdlaaRdr
import Derived.Test.YtnidommmnmpdlaaLit
import Derived.Deep.Onto
namespace Go.Proofs.Ytnidommmnmpdlaa
open Go.RowKit
set_option linter.unusedVariables false

/-- A row of pages. -/
structure RowZ (w : World) (A : Option Addr) (n c : Nat) (l : List Int) : Prop where
  len : n = l.length
  reads : Reads w A (l.map (Value.int .i64))
  nil : A = none → c = 0
  room : n ≤ c
  most : c ≤ maxLen
theorem RowZ.below {w w' : World} {A : Option Addr} {n c : Nat} {l : List Int} (h : RowZ w A n c l) (hb : Below w.heap.size w w') : RowZ w' A n c l := ⟨h.len, h.reads.keep_ hb, h.nil, h.room, h.most⟩
theorem RowZ.none_ (w : World) : RowZ w none 0 0 [] := ⟨rfl, Reads.empty, fun _ => rfl, Nat.le_refl _, Nat.zero_le _⟩
theorem int_info13 : (Try.prog.info? 3).map (fun i => (i.zero, i.size, i.bytes)) = some (some (.int .i64 0), 1, 8) := by kernel_rfl
theorem one_z13 (l : List Int) : ∀ u ∈ l.map (Value.int .i64), u.oneCell' = true := by
  intro u hu
  obtain ⟨c, _, rfl⟩ := List.mem_map.1 hu
  rfl
theorem lies_one13 (w : World) (u : Value) (t : TypeId) : ∀ j y, ([u] : List Value)[j]? = some y → (w.alloc (.cells #[u] t)).cell? ((⟨w.heap.size, 0, none⟩ : Addr).add j) = some y := fun j y hj => by
  rw [add_plain, (Has.made w t #[u]).cell, Nat.zero_add]
  simpa using hj
/-- 'append(v, x...)' of ints, wherever x lies, nil included. -/
theorem wpList_append_zs {P : Program} {w : World} {ops : Array Oper} {rest : List Oper} {o : Oper} {a : Act} {Q : Exit → Act → World → Prop} (hgd : o.guard = none) (s x : Operand) (t : TypeId)
    (ho : o.op = .call { callee := .builtin .append, args := #[s, x], argTypes := #[t, t] }) (base : Nat) (e : TypeId) (i : TypeInfo) (ht : P.underlying t = some (.slice e)) (hi : P.info? e = some i) (hz : i.zero = some (.int .i64 0))
    (hsize : i.size = 1) (hby : i.bytes = 8) (v : Value) (n : Nat) (xs : List Value) (hs : a.eval s = v) (hown : w.ownsRow base e 1 v n xs) (A : Option Addr) (m c : Nat) (l : List Int) (hx : a.eval x = .slice A m c) (hm : m = l.length)
    (hA : A = none → c = 0) (hr : Reads w A (l.map (Value.int .i64))) (hmax : n + m ≤ 1000000) (hbase : base ≤ w.heap.size)
    (h : ∀ v' w', w'.ownsRow base e 1 v' (n + m) (xs ++ l.map (Value.int .i64)) → w.grownBy w' v.ownBlock → wpList P ops Q rest (a.put o.dst v') w') : wpList P ops Q (o :: rest) a w := by
  subst hm
  rcases A with _ | ad
  · have h0 : l = [] := by
      rcases l with _ | ⟨d, l⟩
      · rfl
      · obtain ⟨g, off, ha, _⟩ := hr (by simp)
        cases ha
    subst h0
    have hc := hA rfl
    subst hc
    exact wpList_append_own_none hgd s x t ho base e i 1 ht hi v n xs hs hown hx (h v w (by simpa using hown) (World.grownBy.refl w _))
  · refine wpList_append_own w hgd s x t ho base e i (.int .i64 0) 1 8 ht hi hz hsize hby rfl (by decide) v n xs hs hown ad l.length c (l.map (Value.int .i64)) hx (by simp) (fun j u hj => ?_) (one_z13 l) (by unfold maxLen; omega) (by omega) hbase (fun v' w' h1 h2 _ => h v' w' h1 h2)
    obtain ⟨g, off, hA', hc⟩ := hr (by
      have := (List.getElem?_eq_some_iff.1 hj).1
      omega)
    injection hA' with hA'
    subst hA'
    rw [add_plain]
    exact hc j u hj
theorem RowZ.own {w : World} {B n : Nat} {v : Value} {l : List Int} (h : w.ownsRow B 3 1 v n (l.map (Value.int .i64))) : ∃ A c, v = .slice A n c ∧ RowZ w A n c l := by
  have hl : n = l.length := by have := h.1; simpa using this.symm
  rcases h.2 with ⟨rfl, hn⟩ | ⟨g, cap, cur, rfl, _, hc, h1, h2, h3, h4⟩
  · subst hn
    obtain rfl : l = [] := List.length_eq_zero_iff.1 hl.symm
    exact ⟨none, 0, rfl, RowZ.none_ _⟩
  · exact ⟨_, cap, rfl, hl, (Row.of_own h).reads, fun e => (by cases e), h1, h2⟩
theorem Reads.dropZ {w : World} {A : Option Addr} {n c : Nat} {l : List Int} (h : Reads w A (l.map (Value.int .i64))) (hn : n = l.length) (hc : n ≤ c) {k : Nat} (hk : k ≤ n) : Reads w (if c = k then A else A.map (·.add k)) ((l.drop k).map (Value.int .i64)) := fun hx => by
  have hl : k < l.length := by
    rw [List.length_map, List.length_drop] at hx
    omega
  rw [if_neg (by omega)]
  obtain ⟨g, off, hA, hr⟩ := h (by rw [List.length_map]; omega)
  subst hA
  refine ⟨g, off + k, by simp [add_plain], fun j u hj => ?_⟩
  have := hr (k + j) u (by rw [← hj, List.map_drop, List.getElem?_drop])
  rw [← Nat.add_assoc] at this
  exact this
theorem Reads.zint14 {w : World} {A : Option Addr} {l : List Int} (h : Reads w A (l.map (Value.int .i64))) {i : Nat} (hi : i < l.length) :
    ∃ g off, A = some ⟨g, off, none⟩ ∧ w.cell? ⟨g, off + i, none⟩ = some (.int .i64 l[i]) := by
  obtain ⟨g, off, hA, hc⟩ := h (by simpa using Nat.lt_of_le_of_lt (Nat.zero_le _) hi)
  exact ⟨g, off, hA, hc _ _ (by simp [hi])⟩
theorem below_own14 {B : Nat} {w0 w w' : World} {e : TypeId} {s n : Nat} {v : Value} {xs : List Value} (h : Below B w0 w) (hg : w.grownBy w' v.ownBlock) (ho : w.ownsRow B e s v n xs) (hB : B ≤ w.heap.size) : Below B w0 w' :=
  h.grown hg hB (fun k hk => (ho.lt k hk).1)
end Go.Proofs.Ytnidommmnmpdlaa
