import Derived.Test.YthcjledpjlpfaaaDoorJ00
import Derived.MapKept
import Derived.Deep.MidRow
import Derived.Deep.WholeRow
/- Of a claim's texts, joined: Dmp Dsk Dar Drd. No statement but in the last. -/
section
namespace Go.Proofs.YthcjledpjlpfaaaDoor
open Go.RowKit Go.MapKept
set_option linter.unusedVariables false

def MapAt (w : World) (b : Nat) (f : Int → Option Value) : Prop :=
  ∃ es clock, w.heap[b]? = some (.map es clock) ∧ (∀ x ∈ es.toList, ∃ k, x.key = .int .i64 k) ∧ es.toList.Pairwise (fun x y => x.key ≠ y.key) ∧ ∀ k v, f k = some v ↔ ∃ x ∈ es.toList, x.key = .int .i64 k ∧ x.val = v
def noMap : Int → Option Value := fun _ => none
def putM (f : Int → Option Value) (k : Int) (v : Value) : Int → Option Value := fun j => if j = k then some v else f j
theorem MapAt.lt {w : World} {b : Nat} {f : Int → Option Value} (h : MapAt w b f) : b < w.heap.size := by
  obtain ⟨es, c, hb, _⟩ := h
  exact (Array.getElem?_eq_some_iff.1 hb).1
theorem MapAt.keep {w w' : World} {b : Nat} {f : Int → Option Value} (h : MapAt w b f) (e : w'.heap[b]? = w.heap[b]?) : MapAt w' b f := by
  obtain ⟨es, c, hb, h⟩ := h
  exact ⟨es, c, e.trans hb, h⟩
theorem MapAt.made (w : World) : MapAt (w.alloc (.map #[] 0)) w.heap.size noMap :=
  ⟨#[], 0, (heap_alloc w _).1, by simp, by simp, by simp [noMap]⟩
theorem MapAt.apart {w : World} {b g : Nat} {f : Int → Option Value} {t : TypeId} {cs : Array Value} (h : MapAt w b f) (h' : Has w g t cs) : b ≠ g := by
  rintro rfl
  obtain ⟨es, c, hb, _⟩ := h
  unfold Has at h'
  rw [hb] at h'
  cases h'
theorem isKey_int (k : Int) : IsKey (.int .i64) (.int .i64 k) := rfl
theorem keys_int {l : List MapEntry} (h : ∀ x ∈ l, ∃ k, x.key = .int .i64 k) : ∀ x ∈ l, IsKey (.int .i64) x.key := fun x hx => by
  obtain ⟨k, hk⟩ := h x hx
  rw [hk]
  rfl
section
variable {P : Program} {w : World} {mty kt et : TypeId} {b : Nat} {f : Int → Option Value}
theorem run_look_some (hm : P.underlying mty = some (.map kt et)) (hd : P.underlying kt = some (.int .i64)) (h : MapAt w b f) {k : Int} {v : Value} (hv : f k = some v) (c : Bool) :
    (Instr.lookup mty (.map (some b)) (.int .i64 k) c).run P w = .ok (if c then .tuple #[v, .bool true] else v) w := by
  obtain ⟨es, cl, hb, hk, hp, hf⟩ := h
  obtain ⟨x, hx, hxk, hxv⟩ := (hf k v).1 hv
  rcases findNow_spec (isKey_int k) es.toList 0 (keys_int hk) with ⟨h1, h2⟩ | ⟨j, e, h1, h2, h3⟩
  · exact absurd hxk (h2 x hx)
  · have he : e.val = v := by
      have := (hf k e.val).2 ⟨e, List.mem_of_getElem? h2, h3, rfl⟩
      rw [hv] at this
      injection this with this
      exact this.symm
    simp [Instr.lookup, run_underlying hm, MapKept.run_getObj_map hb, MapKept.run_checkKey hd (isKey_int k), MapKept.run_findKey hd h1, Result.andThen, he]
theorem run_look_none (hm : P.underlying mty = some (.map kt et)) (hd : P.underlying kt = some (.int .i64)) {z : Value} (hz : ∀ w, (zeroValue et).run P w = .ok z w) (h : MapAt w b f) {k : Int} (hv : f k = none) (c : Bool) :
    (Instr.lookup mty (.map (some b)) (.int .i64 k) c).run P w = .ok (if c then .tuple #[z, .bool false] else z) w := by
  obtain ⟨es, cl, hb, hk, hp, hf⟩ := h
  rcases findNow_spec (isKey_int k) es.toList 0 (keys_int hk) with ⟨h1, h2⟩ | ⟨j, e, h1, h2, h3⟩
  · simp [Instr.lookup, run_underlying hm, MapKept.run_getObj_map hb, MapKept.run_checkKey hd (isKey_int k), MapKept.run_findKey hd h1, hz, Result.andThen]
  · have := (hf k e.val).2 ⟨e, List.mem_of_getElem? h2, h3, rfl⟩
    rw [hv] at this
    cases this
theorem grown_set {o o' : Obj} (hb : w.heap[b]? = some o) : w.grownBy { w with heap := w.heap.setIfInBounds b o' } (some b) :=
  ⟨rfl, rfl, rfl, by simp, fun i _ hi => (heap_set (w := w) hb).2 i (fun e => hi (by rw [e]))⟩
theorem run_put (hm : P.underlying mty = some (.map kt et)) (hd : P.underlying kt = some (.int .i64)) (h : MapAt w b f) (k : Int) (v : Value) :
    ∃ w', (Instr.mapUpdate mty (.map (some b)) (.int .i64 k) v).run P w = .ok () w' ∧ MapAt w' b (putM f k v) ∧ w.grownBy w' (some b) ∧ w'.heap.size = w.heap.size := by
  obtain ⟨es, cl, hb, hk, hp, hf⟩ := h
  rcases findNow_spec (isKey_int k) es.toList 0 (keys_int hk) with ⟨h1, h2⟩ | ⟨j, e, h1, h2, h3⟩
  · refine ⟨_, by simp [Instr.mapUpdate, run_underlying hm, MapKept.run_getObj_map hb, MapKept.run_checkKey hd (isKey_int k), MapKept.run_findKey hd h1, MapKept.run_setObj_map _ hb, Result.andThen]; rfl, ⟨_, _, (heap_set hb).1, ?_, ?_, ?_⟩, grown_set hb, by simp⟩
    · intro x hx
      simp only [Array.toList_push, List.mem_append, List.mem_singleton] at hx
      rcases hx with hx | rfl
      · exact hk x hx
      · exact ⟨k, rfl⟩
    · simp only [Array.toList_push]
      rw [List.pairwise_append]
      refine ⟨hp, by simp, ?_⟩
      intro x hx y hy
      simp only [List.mem_singleton] at hy
      subst hy
      exact h2 x hx
    · intro a u
      simp only [Array.toList_push, List.mem_append, List.mem_singleton]
      unfold putM
      by_cases e : a = k
      · subst e
        simp only [if_true]
        constructor
        · intro h
          injection h with h
          exact ⟨_, .inr rfl, rfl, h⟩
        · rintro ⟨x, hx | rfl, hxk, rfl⟩
          · exact absurd hxk (h2 x hx)
          · rfl
      · rw [if_neg e, hf a u]
        constructor
        · rintro ⟨x, hx, hxk⟩
          exact ⟨x, .inl hx, hxk⟩
        · rintro ⟨x, hx | rfl, hxk, hv⟩
          · exact ⟨x, hx, hxk, hv⟩
          · injection hxk with _ hxk
            exact absurd hxk.symm e
  · have hj : j < es.toList.length := (List.getElem?_eq_some_iff.1 h2).1
    have hje : es.toList[j] = e := (List.getElem?_eq_some_iff.1 h2).2
    have hes : es[j]? = some e := by rw [← Array.getElem?_toList]; exact h2
    have hcur : ((es[j]?).map (·.key)).getD (.int .i64 k) = .int .i64 k := by rw [hes]; exact h3
    have hml : (es.modify j fun e => { e with key := .int .i64 k, val := v }).toList = es.toList.set j { e with key := .int .i64 k, val := v } := by
      apply List.ext_getElem?
      intro i
      rw [Array.getElem?_toList, Array.getElem?_modify, List.getElem?_set]
      by_cases hij : j = i
      · subst hij
        simp [hes]
        simpa using hj
      · simp [hij]
    refine ⟨_, by simp [Instr.mapUpdate, run_underlying hm, MapKept.run_getObj_map hb, MapKept.run_checkKey hd (isKey_int k), MapKept.run_findKey hd h1, hcur, run_keyThatStays (d := .int .i64) (isKey_int k), MapKept.run_setObj_map _ hb, Result.andThen]; rfl, ⟨_, _, (heap_set hb).1, ?_, ?_, ?_⟩, grown_set hb, by simp⟩
    · intro x hx
      rw [hml] at hx
      rcases List.mem_or_eq_of_mem_set hx with hx | rfl
      · exact hk x hx
      · exact ⟨k, rfl⟩
    · have hkeys : (es.modify j fun e => { e with key := .int .i64 k, val := v }).toList.map (·.key) = es.toList.map (·.key) := modify_keys j _ (fun e' he' => by
        rw [hes] at he'
        injection he' with he'
        subst he'
        exact h3.symm)
      have hp' : (es.toList.map (·.key)).Pairwise (· ≠ ·) := List.pairwise_map.2 hp
      rw [← hkeys] at hp'
      exact List.pairwise_map.1 hp'
    · have huniq : ∀ x ∈ es.toList, x.key = .int .i64 k → x = e := by
        intro x hx hxk
        obtain ⟨i, hi, hix⟩ := List.getElem_of_mem hx
        rw [List.pairwise_iff_getElem] at hp
        rcases Nat.lt_trichotomy i j with h | h | h
        · exact absurd (show es.toList[i].key = es.toList[j].key by rw [hix, hje, hxk, h3]) (hp i j hi hj h)
        · subst h; rw [← hix, hje]
        · exact absurd (show es.toList[j].key = es.toList[i].key by rw [hix, hje, hxk, h3]) (hp j i hj hi h)
      intro a u
      rw [hml]
      unfold putM
      by_cases ea : a = k
      · subst ea
        simp only [if_true]
        constructor
        · intro h
          injection h with h
          exact ⟨_, List.mem_set hj _, rfl, h⟩
        · rintro ⟨x, hx, hxk, rfl⟩
          obtain ⟨i, hi, hix⟩ := List.getElem_of_mem hx
          rw [List.getElem_set] at hix
          by_cases hij : j = i
          · rw [if_pos hij] at hix
            subst hix
            rfl
          · rw [if_neg hij] at hix
            have hi' : i < es.toList.length := by simpa using hi
            have := huniq es.toList[i] (List.getElem_mem hi') (by rw [hix]; exact hxk)
            rw [List.pairwise_iff_getElem] at hp
            rcases Nat.lt_or_gt_of_ne (Ne.symm hij) with h | h
            · exact absurd (show es.toList[i].key = es.toList[j].key by rw [this, hje]) (hp i j hi' hj h)
            · exact absurd (show es.toList[j].key = es.toList[i].key by rw [this, hje]) (hp j i hj hi' h)
      · rw [if_neg ea, hf a u]
        constructor
        · rintro ⟨x, hx, hxk, hv⟩
          obtain ⟨i, hi, hix⟩ := List.getElem_of_mem hx
          have hij : j ≠ i := by
            rintro rfl
            rw [hje] at hix
            subst hix
            rw [h3] at hxk
            injection hxk with _ hxk
            exact ea hxk.symm
          refine ⟨x, ?_, hxk, hv⟩
          have hi2 : i < (es.toList.set j { e with key := .int .i64 k, val := v }).length := by simpa using hi
          have h4 := List.getElem_mem hi2
          rw [List.getElem_set, if_neg hij, hix] at h4
          exact h4
        · rintro ⟨x, hx, hxk, hv⟩
          rcases List.mem_or_eq_of_mem_set hx with hx | rfl
          · exact ⟨x, hx, hxk, hv⟩
          · injection hxk with _ hxk
            exact absurd hxk.symm ea
end

end Go.Proofs.YthcjledpjlpfaaaDoor
end

section
namespace Go.Proofs.YthcjledpjlpfaaaDoor
open Go.RowKit Go.MapKept
set_option linter.unusedVariables false

/-! ### Mathematics -/
abbrev Wr := Int × List UInt8
structure Rg where
  size : Nat
  syn : Int → Option (List UInt8)
  loose : List Wr
  left : Int
  down : Bool
def zeros : List UInt8 := List.replicate 128 0
def fresh6 (n : Nat) : Rg := ⟨n, fun _ => none, [], -1, false⟩
def lastFrom : Nat → List Wr → Int → Option Nat
  | _, [], _ => none
  | i, x :: r, p => match lastFrom (i + 1) r p with
    | some j => some j
    | none => if x.1 = p then some i else none
theorem lastFrom_snoc (x : Wr) (p : Int) : ∀ (l : List Wr) (i : Nat), lastFrom i (l ++ [x]) p = if p = x.1 then some (i + l.length) else lastFrom i l p
  | [], i => by
    by_cases h : x.1 = p
    · simp [lastFrom, h]
    · have h' : ¬ p = x.1 := fun e => h e.symm
      simp [lastFrom, h, h']
  | y :: l, i => by
    simp only [List.cons_append, lastFrom, lastFrom_snoc x p l (i + 1), List.length_cons]
    by_cases h : p = x.1
    · simp only [h, if_true]
      congr 1
      omega
    · simp only [h, if_false]
theorem lastFrom_some (p : Int) : ∀ (l : List Wr) (i j : Nat), lastFrom i l p = some j → i ≤ j ∧ ∃ x, l[j - i]? = some x ∧ x.1 = p
  | [], i, j, h => by cases h
  | y :: l, i, j, h => by
    simp only [lastFrom] at h
    split at h
    · rename_i k hk
      injection h with h
      subst h
      obtain ⟨h1, x, h2, h3⟩ := lastFrom_some p l (i + 1) k hk
      refine ⟨by omega, x, ?_, h3⟩
      rw [show k - i = (k - (i + 1)) + 1 by omega]
      simpa using h2
    · split at h
      · rename_i _ _ h1
        injection h with h
        subst h
        exact ⟨Nat.le_refl _, y, by simp, h1⟩
      · cases h
def rdP (r : Rg) (p : Int) : List UInt8 :=
  match lastFrom 0 r.loose p with
  | some i => (r.loose.getD i (0, [])).2
  | none => (r.syn p).getD zeros
def putS (f : Int → Option (List UInt8)) (x : Wr) : Int → Option (List UInt8) := fun j => if j = x.1 then some x.2 else f j
def setK (K : Nat → Bool) : Nat → List Wr → (Int → Option (List UInt8)) → (Int → Option (List UInt8))
  | _, [], f => f
  | i, x :: r, f => setK K (i + 1) r (if K i then putS f x else f)
def cntR (r : Rg) : Rg := if r.left = 0 then { r with down := true } else if 0 < r.left then { r with left := r.left - 1 } else r
def wrR (r : Rg) (p : Int) (b : List UInt8) : Rg := { r with loose := r.loose ++ [(p, b)] }
def setR (K : Nat → Bool) (r : Rg) : Rg := { r with syn := setK K 0 r.loose r.syn, loose := [] }
def stR (r : Rg) (a : Int) : Rg := { r with left := max a (-1) }
def upR (r : Rg) : Rg := { r with left := -1, down := false }
def bitS (s : List UInt8) (i : Nat) : Bool := (s.getD (i / 8) 0).toNat / 2 ^ (i % 8) % 2 == 1
structure Rok (r : Rg) : Prop where
  pos : 1 ≤ r.size
  most : r.size ≤ 1000
  loose : ∀ x ∈ r.loose, 0 ≤ x.1 ∧ x.1 < (r.size : Int) ∧ x.2.length = 128
  syn : ∀ k l, r.syn k = some l → l.length = 128
  left0 : -1 ≤ r.left
  left1 : r.left ≤ 9223372036854775807
theorem fresh6_ok {n : Nat} (h1 : 1 ≤ n) (h2 : n ≤ 1000) : Rok (fresh6 n) := ⟨h1, h2, by simp [fresh6], by simp [fresh6], by simp [fresh6], by simp [fresh6]⟩
theorem rdP_len {r : Rg} (h : Rok r) (p : Int) : (rdP r p).length = 128 := by
  unfold rdP
  split
  · rename_i i hi
    obtain ⟨_, x, hx, _⟩ := lastFrom_some p r.loose 0 i hi
    rw [Nat.sub_zero] at hx
    have : r.loose.getD i (0, []) = x := by simp [List.getD, hx]
    rw [this]
    exact (h.loose x (List.mem_of_getElem? hx)).2.2
  · cases hs : r.syn p with
    | none => simp [zeros]
    | some l => exact h.syn p l hs
theorem wrR_ok {r : Rg} (h : Rok r) {p : Int} {b : List UInt8} (h0 : 0 ≤ p) (h1 : p < r.size) (hb : b.length = 128) : Rok (wrR r p b) :=
  ⟨h.pos, h.most, fun x hx => by
    simp only [wrR, List.mem_append, List.mem_singleton] at hx
    rcases hx with hx | rfl
    · exact h.loose x hx
    · exact ⟨h0, h1, hb⟩, h.syn, h.left0, h.left1⟩
theorem cntR_ok {r : Rg} (h : Rok r) : Rok (cntR r) := by
  unfold cntR
  split
  · exact ⟨h.pos, h.most, h.loose, h.syn, h.left0, h.left1⟩
  · split
    · exact ⟨h.pos, h.most, h.loose, h.syn, by show -1 ≤ r.left - 1; omega, by show r.left - 1 ≤ _; have := h.left1; omega⟩
    · exact h
/-! ### Memory -/
def pageV (l : List UInt8) : Value := .agg (l.map byteV).toArray
def cellsW (x : Wr) : List Value := .int .i64 x.1 :: x.2.map byteV
def cellsL (l : List Wr) : List Value := l.flatMap cellsW
theorem cellsL_snoc (l : List Wr) (x : Wr) : cellsL (l ++ [x]) = cellsL l ++ cellsW x := by simp [cellsL]
theorem cellsW_len {x : Wr} (h : x.2.length = 128) : (cellsW x).length = 129 := by simp [cellsW, h]
theorem cellsL_at : ∀ (l : List Wr) (k : Nat) (x : Wr), (∀ y ∈ l, y.2.length = 128) → l[k]? = some x → ∀ j u, (cellsW x)[j]? = some u → (cellsL l)[k * 129 + j]? = some u
  | [], k, x, _, h, j, u, _ => by simp at h
  | y :: l, 0, x, hl, h, j, u, hj => by
    simp at h
    subst h
    have hjl := (List.getElem?_eq_some_iff.1 hj).1
    simp only [cellsL, List.flatMap_cons, Nat.zero_mul, Nat.zero_add]
    rw [List.getElem?_append_left hjl]
    exact hj
  | y :: l, k + 1, x, hl, h, j, u, hj => by
    have hy := cellsW_len (hl y (.head _))
    simp only [cellsL, List.flatMap_cons]
    rw [List.getElem?_append_right (by omega), hy, show (k + 1) * 129 + j - 129 = k * 129 + j by omega]
    exact cellsL_at l k x (fun z hz => hl z (.tail _ hz)) (by simpa using h) j u hj

abbrev Tg := Nat → Option (Nat × Nat)
structure Ar (w : World) (T : Tg) (d A i m1 m2 : Nat) (v : Value) (r : Rg) : Prop where
  c0 : w.cell? ⟨A, i * 6, none⟩ = some (.int .i64 r.size)
  c1 : w.cell? ⟨A, i * 6 + 1, none⟩ = some (.map (some m1))
  c2 : w.cell? ⟨A, i * 6 + 2, none⟩ = some v
  c3 : w.cell? ⟨A, i * 6 + 3, none⟩ = some (.map (some m2))
  c4 : w.cell? ⟨A, i * 6 + 4, none⟩ = some (.int .i64 r.left)
  c5 : w.cell? ⟨A, i * 6 + 5, none⟩ = some (.bool r.down)
  ta : T A = some (d, 1)
  t1 : T m1 = some (d, 3 * i + 2)
  t2 : T m2 = some (d, 3 * i + 3)
  t3 : ∀ g, v.ownBlock = some g → T g = some (d, 3 * i + 4)
  p1 : MapAt w m1 (fun k => (r.syn k).map pageV)
  p2 : MapAt w m2 (fun k => (lastFrom 0 r.loose k).map (fun (j : Nat) => Value.int .i64 (j : Int)))
  row : w.ownsRow 0 109 129 v r.loose.length (cellsL r.loose)
  ok : Rok r
structure Dk (w : World) (T : Tg) (d D A : Nat) (rs : List Rg) : Prop where
  hd : Has w D 68 #[.slice (some ⟨A, 0, none⟩) rs.length rs.length]
  td : T D = some (d, 0)
  ta : T A = some (d, 1)
  blk : ∃ cs, Has w A 73 cs ∧ cs.size = rs.length * 6
  at_ : ∀ i r, rs[i]? = some r → ∃ m1 m2 v, Ar w T d A i m1 m2 v r
structure Nx (T : Tg) (d A i : Nat) (w : World) (T' : Tg) (w' : World) : Prop where
  os : w'.os = w.os
  tape : w'.tape = w.tape
  output : w'.output = w.output
  size : w.heap.size ≤ w'.heap.size
  block : ∀ x, x < w.heap.size → x ≠ A → (∀ j, j < 3 → T x ≠ some (d, 3 * i + 2 + j)) → w'.heap[x]? = w.heap[x]?
  row : ∀ cs, Has w A 73 cs → ∃ cs', Has w' A 73 cs' ∧ cs'.size = cs.size ∧ ∀ j, (j < i * 6 ∨ i * 6 + 6 ≤ j) → cs'[j]? = cs[j]?
  old : ∀ x, x < w.heap.size → T' x = T x
  new : ∀ x t, w.heap.size ≤ x → T' x = some t → t = (d, 3 * i + 4) ∧ x < w'.heap.size
structure Tn (T : Tg) (d : Nat) (w : World) (T' : Tg) (w' : World) : Prop where
  os : w'.os = w.os
  tape : w'.tape = w.tape
  output : w'.output = w.output
  size : w.heap.size ≤ w'.heap.size
  block : ∀ x, x < w.heap.size → (∀ k, T x ≠ some (d, k)) → w'.heap[x]? = w.heap[x]?
  old : ∀ x, x < w.heap.size → T' x = T x
  new : ∀ x t, w.heap.size ≤ x → T' x = some t → t.1 = d ∧ x < w'.heap.size
def Lo (W0 : Nat) (T : Tg) (w : World) : Prop := ∀ x t, T x = some t → W0 ≤ x ∧ x < w.heap.size

section
variable {w w1 w' : World} {T T1 T' : Tg} {d D A i : Nat} {rs : List Rg} {r : Rg}
theorem Nx.refl (T : Tg) (d A i : Nat) (w : World) (hlo : ∀ x t, T x = some t → x < w.heap.size) : Nx T d A i w T w :=
  ⟨rfl, rfl, rfl, Nat.le_refl _, fun _ _ _ _ => rfl, fun cs h => ⟨cs, h, rfl, fun _ _ => rfl⟩, fun _ _ => rfl, fun x t hx ht => absurd (hlo x t ht) (by omega)⟩
theorem Nx.trans (h : Nx T d A i w T1 w1) (k : Nx T1 d A i w1 T' w') : Nx T d A i w T' w' where
  os := k.os.trans h.os
  tape := k.tape.trans h.tape
  output := k.output.trans h.output
  size := Nat.le_trans h.size k.size
  block := fun x hx hA hT => (k.block x (Nat.lt_of_lt_of_le hx h.size) hA (fun j hj => by rw [h.old x hx]; exact hT j hj)).trans (h.block x hx hA hT)
  row := fun cs hc => by
    obtain ⟨c1, h1, s1, e1⟩ := h.row cs hc
    obtain ⟨c2, h2, s2, e2⟩ := k.row c1 h1
    exact ⟨c2, h2, s2.trans s1, fun j hj => (e2 j hj).trans (e1 j hj)⟩
  old := fun x hx => (k.old x (Nat.lt_of_lt_of_le hx h.size)).trans (h.old x hx)
  new := fun x t hx ht => by
    by_cases hx1 : x < w1.heap.size
    · rw [k.old x hx1] at ht
      have := h.new x t hx ht
      exact ⟨this.1, Nat.lt_of_lt_of_le this.2 k.size⟩
    · exact k.new x t (by omega) ht
theorem Nx.lo (h : Nx T d A i w T' w') (hlo : ∀ x t, T x = some t → x < w.heap.size) : ∀ x t, T' x = some t → x < w'.heap.size := fun x t ht => by
  by_cases hx : x < w.heap.size
  · exact Nat.lt_of_lt_of_le hx h.size
  · exact (h.new x t (by omega) ht).2
theorem Nx.below (hb : Below w.heap.size w w') (hlo : ∀ x t, T x = some t → x < w.heap.size) : Nx T d A i w T w' :=
  ⟨hb.os, hb.tape, hb.output, hb.size, fun x hx _ _ => hb.block x hx, fun cs h => ⟨cs, h.below hb h.lt, rfl, fun _ _ => rfl⟩, fun _ _ => rfl, fun x t hx ht => absurd (hlo x t ht) (by omega)⟩
theorem Nx.grown {g j : Nat} (hg : w.grownBy w' (some g)) (hj : j < 3) (hT : T g = some (d, 3 * i + 2 + j)) (hA : T A = some (d, 1)) (hlo : ∀ x t, T x = some t → x < w.heap.size) : Nx T d A i w T w' :=
  ⟨hg.os, hg.tape, hg.output, hg.size, fun x hx _ hx2 => hg.block x hx (fun e => by injection e with e; subst e; exact hx2 j hj hT),
    fun cs h => ⟨cs, h.grown hg (fun e => by
      injection e with e
      subst e
      rw [hA] at hT
      injection hT with hT
      injection hT with _ hT
      omega), rfl, fun _ _ => rfl⟩, fun _ _ => rfl, fun x t hx ht => absurd (hlo x t ht) (by omega)⟩
theorem setCell_heap_other (w : World) (p : Addr) (u : Value) (x : Nat) (h : x ≠ p.block) : (w.setCell p u).heap[x]? = w.heap[x]? := Below.heap_setCell w p u x h
theorem setCell_hsize (w : World) (p : Addr) (u : Value) : (w.setCell p u).heap.size = w.heap.size := by simp [World.setCell]
theorem Nx.set {j : Nat} (hj : j < 6) (u : Value) (hlo : ∀ x t, T x = some t → x < w.heap.size) : Nx T d A i w T (w.setCell ⟨A, i * 6 + j, none⟩ u) :=
  ⟨rfl, rfl, rfl, by rw [setCell_hsize]; exact Nat.le_refl _, fun x hx hA _ => setCell_heap_other w ⟨A, i * 6 + j, none⟩ u x hA,
    fun cs h => ⟨_, h.store (i * 6 + j) u, by simp, fun k hk => by
      rw [Array.getElem?_setIfInBounds]
      rw [if_neg (by omega)]⟩, fun _ _ => rfl, fun x t hx ht => absurd (hlo x t ht) (by omega)⟩
theorem Nx.tn (h : Nx T d A i w T' w') (hA : T A = some (d, 1)) : Tn T d w T' w' :=
  ⟨h.os, h.tape, h.output, h.size, fun x hx hT => h.block x hx (fun e => by subst e; exact hT 1 hA) (fun j _ => hT _), h.old, fun x t hx ht => by
    have := h.new x t hx ht
    exact ⟨by rw [this.1], this.2⟩⟩
theorem Tn.refl (T : Tg) (d : Nat) (w : World) (hlo : ∀ x t, T x = some t → x < w.heap.size) : Tn T d w T w :=
  ⟨rfl, rfl, rfl, Nat.le_refl _, fun _ _ _ => rfl, fun _ _ => rfl, fun x t hx ht => absurd (hlo x t ht) (by omega)⟩
theorem Tn.below (hb : Below w.heap.size w w') (hlo : ∀ x t, T x = some t → x < w.heap.size) : Tn T d w T w' :=
  ⟨hb.os, hb.tape, hb.output, hb.size, fun x hx _ => hb.block x hx, fun _ _ => rfl, fun x t hx ht => absurd (hlo x t ht) (by omega)⟩
theorem Tn.trans (h : Tn T d w T1 w1) (k : Tn T1 d w1 T' w') : Tn T d w T' w' where
  os := k.os.trans h.os
  tape := k.tape.trans h.tape
  output := k.output.trans h.output
  size := Nat.le_trans h.size k.size
  block := fun x hx hT => (k.block x (Nat.lt_of_lt_of_le hx h.size) (fun j => by rw [h.old x hx]; exact hT j)).trans (h.block x hx hT)
  old := fun x hx => (k.old x (Nat.lt_of_lt_of_le hx h.size)).trans (h.old x hx)
  new := fun x t hx ht => by
    by_cases hx1 : x < w1.heap.size
    · rw [k.old x hx1] at ht
      have := h.new x t hx ht
      exact ⟨this.1, Nat.lt_of_lt_of_le this.2 k.size⟩
    · exact k.new x t (by omega) ht
theorem Tn.lo {W0 : Nat} (h : Tn T d w T' w') (hlo : Lo W0 T w) (h0 : W0 ≤ w.heap.size) : Lo W0 T' w' := fun x t ht => by
  by_cases hx : x < w.heap.size
  · rw [h.old x hx] at ht
    exact ⟨(hlo x t ht).1, Nat.lt_of_lt_of_le hx h.size⟩
  · exact ⟨by omega, (h.new x t (by omega) ht).2⟩
theorem Tn.low {W0 : Nat} (h : Tn T d w T' w') (hlo : Lo W0 T w) (h0 : W0 ≤ w.heap.size) : Below W0 w w' :=
  ⟨h.os, h.tape, h.output, h.size, fun x hx => h.block x (by omega) (fun k hk => absurd (hlo x _ hk).1 (by omega))⟩
theorem Lo.lt {W0 : Nat} (h : Lo W0 T w) : ∀ x t, T x = some t → x < w.heap.size := fun x t ht => (h x t ht).2
theorem Lo.below {W0 : Nat} (h : Lo W0 T w) (hb : w.heap.size ≤ w'.heap.size) : Lo W0 T w' := fun x t ht => ⟨(h x t ht).1, Nat.lt_of_lt_of_le (h x t ht).2 hb⟩

theorem own_lt {b : Nat} {v : Value} {n : Nat} {xs : List Value} {g : Nat} (h : w.ownsRow b 109 129 v n xs) (hg : v.ownBlock = some g) : g < w.heap.size := by
  rcases h.2 with ⟨rfl, _⟩ | ⟨g', cap, cur, rfl, _, hh, _⟩
  · cases hg
  · injection hg with hg
    subst hg
    exact (Array.getElem?_eq_some_iff.1 hh).1
theorem own_keep {b : Nat} {v : Value} {n : Nat} {xs : List Value} (h : w.ownsRow b 109 129 v n xs) (hk : ∀ g, v.ownBlock = some g → w'.heap[g]? = w.heap[g]?) : w'.ownsRow b 109 129 v n xs := by
  refine ⟨h.1, ?_⟩
  rcases h.2 with h | ⟨g, cap, cur, rfl, h1, hh, h2⟩
  · exact .inl h
  · exact .inr ⟨g, cap, cur, rfl, h1, (hk g rfl).trans hh, h2⟩
theorem Ar.keep {m1 m2 : Nat} {v : Value} (h : Ar w T d A i m1 m2 v r) (hc : ∀ j, j < 6 → w'.cell? ⟨A, i * 6 + j, none⟩ = w.cell? ⟨A, i * 6 + j, none⟩) (hb : ∀ x j, j < 3 → T x = some (d, 3 * i + 2 + j) → x < w.heap.size → w'.heap[x]? = w.heap[x]? ∧ T' x = T x) (hA : T' A = T A) : Ar w' T' d A i m1 m2 v r :=
  ⟨(hc 0 (by omega)).trans h.c0, (hc 1 (by omega)).trans h.c1, (hc 2 (by omega)).trans h.c2, (hc 3 (by omega)).trans h.c3, (hc 4 (by omega)).trans h.c4, (hc 5 (by omega)).trans h.c5, hA.trans h.ta,
    (hb m1 0 (by omega) h.t1 h.p1.lt).2.trans h.t1, (hb m2 1 (by omega) h.t2 h.p2.lt).2.trans h.t2, fun g hg => (hb g 2 (by omega) (h.t3 g hg) (own_lt h.row hg)).2.trans (h.t3 g hg),
    h.p1.keep (hb m1 0 (by omega) h.t1 h.p1.lt).1, h.p2.keep (hb m2 1 (by omega) h.t2 h.p2.lt).1, own_keep h.row (fun g hg => (hb g 2 (by omega) (h.t3 g hg) (own_lt h.row hg)).1), h.ok⟩
theorem cell_heap {p : Addr} (h : w'.heap[p.block]? = w.heap[p.block]?) : w'.cell? p = w.cell? p := by unfold World.cell?; rw [h]
theorem Dk.below (h : Dk w T d D A rs) (hb : Below w.heap.size w w') : Dk w' T d D A rs := by
  obtain ⟨cs, hA, hs⟩ := h.blk
  refine ⟨h.hd.below hb h.hd.lt, h.td, h.ta, ⟨cs, hA.below hb hA.lt, hs⟩, fun i r hr => ?_⟩
  obtain ⟨m1, m2, v, ha⟩ := h.at_ i r hr
  exact ⟨m1, m2, v, ha.keep (fun j _ => cell_heap (hb.block A hA.lt)) (fun x j _ _ hlt => ⟨hb.block x hlt, rfl⟩) rfl⟩
theorem Dk.put {m1 m2 : Nat} {v : Value} {r' : Rg} (h : Dk w T d D A rs) (k : Nx T d A i w T' w') (hn : Ar w' T' d A i m1 m2 v r') : Dk w' T' d D A (rs.set i r') := by
  obtain ⟨cs, hA, hs⟩ := h.blk
  obtain ⟨cs', hA', hs', he⟩ := k.row cs hA
  have hDA : D ≠ A := h.hd.apart hA (by decide)
  refine ⟨?_, (k.old D h.hd.lt).trans h.td, (k.old A hA.lt).trans h.ta, ⟨cs', hA', by rw [List.length_set, hs', hs]⟩, fun j q hq => ?_⟩
  · rw [List.length_set]
    exact (k.block D h.hd.lt hDA (fun j _ hj => by
      rw [h.td] at hj
      injection hj with hj
      injection hj with _ hj
      omega)).trans h.hd
  · by_cases e : i = j
    · subst e
      rw [List.getElem?_set] at hq
      simp at hq
      obtain ⟨_, rfl⟩ := hq
      exact ⟨m1, m2, v, hn⟩
    · rw [List.getElem?_set, if_neg e] at hq
      obtain ⟨n1, n2, u, ha⟩ := h.at_ j q hq
      refine ⟨n1, n2, u, ha.keep (fun c hc => ?_) (fun x c hc hT hlt => ⟨k.block x hlt ?_ ?_, k.old x hlt⟩) (k.old A hA.lt)⟩
      · rw [hA'.cell, hA.cell]
        exact he _ (by omega)
      · rintro rfl
        rw [h.ta] at hT
        injection hT with hT
        injection hT with _ hT
        omega
      · intro c' hc' hT'
        rw [hT] at hT'
        injection hT' with hT'
        injection hT' with _ hT'
        omega
theorem Dk.lt (h : Dk w T d D A rs) {i : Nat} {r : Rg} (hr : rs[i]? = some r) : i < rs.length := (List.getElem?_eq_some_iff.1 hr).1
theorem Dk.ok (h : Dk w T d D A rs) {i : Nat} {r : Rg} (hr : rs[i]? = some r) : Rok r := by
  obtain ⟨_, _, _, ha⟩ := h.at_ i r hr
  exact ha.ok
theorem Dk.free (h : Dk w T d D A rs) (p : Nat) : w.frozen? ⟨A, p, none⟩ = false := by
  obtain ⟨cs, hA, _⟩ := h.blk
  exact hA.free p
end

end Go.Proofs.YthcjledpjlpfaaaDoor
end

section
namespace Go.Proofs.YthcjledpjlpfaaaDoor
open Go.RowKit
set_option linter.unusedVariables false

theorem retb {a b : Bool} (h : a = b) : Ending.returned (.bool a) = .returned (.bool b) := by rw [h]
theorem wrap_in (n : Int) (h : -9223372036854775808 ≤ n ∧ n ≤ 9223372036854775807) : IntKind.i64.wrap n = n := (IntWalk.i64_left n).trans (IntWalk.wrap64_in n h)
def hasB (r : Rg) (p : Int) : Bool := decide (0 ≤ p) && decide (p < (r.size : Int))
section
variable {T : Tg} {d A i m1 m2 : Nat} {v : Value} {r : Rg}
theorem has_any (p : Int) (w : World) (h : Ar w T d A i m1 m2 v r) : Calls Tryd.prog 34 #[.pointer (some ⟨A, i * 6, none⟩), .int .i64 p] w fun e w' => e = .returned (.bool (hasB r p)) ∧ w = w' := by
  have c0 := h.c0
  clear h
  unfold hasB
  by_cases h0 : 0 ≤ p
  · by_cases h1 : p < (r.size : Int)
    · go_enter Tryd.func34, Tryd.ntmps34
      go_wp2
      go_ret
      exact ⟨retb (by simp [h0, h1]), rfl⟩
    · go_enter Tryd.func34, Tryd.ntmps34
      go_wp2
      go_ret
      exact ⟨retb (by simp [h1]), rfl⟩
  · go_enter Tryd.func34, Tryd.ntmps34
    go_wp2
    go_ret
    exact ⟨retb (by simp; omega), rfl⟩
theorem Ar.setLeft {w : World} (h : Ar w T d A i m1 m2 v r) (x : Int) (hA : ∃ cs, Has w A 73 cs) (h0 : -1 ≤ x) (h1 : x ≤ 9223372036854775807) : Ar (w.setCell ⟨A, i * 6 + 4, none⟩ (.int .i64 x)) T d A i m1 m2 v { r with left := x } := by
  obtain ⟨cs, hA⟩ := hA
  have hk : ∀ j, j ≠ 4 → (w.setCell ⟨A, i * 6 + 4, none⟩ (.int .i64 x)).cell? ⟨A, i * 6 + j, none⟩ = w.cell? ⟨A, i * 6 + j, none⟩ := fun j hj => by
    rw [(hA.store (i * 6 + 4) (.int .i64 x)).cell, hA.cell, Array.getElem?_setIfInBounds, if_neg (by omega)]
  have h4 : (w.setCell ⟨A, i * 6 + 4, none⟩ (.int .i64 x)).cell? ⟨A, i * 6 + 4, none⟩ = some (.int .i64 x) := by
    have := h.c4
    rw [hA.cell] at this
    rw [(hA.store (i * 6 + 4) (.int .i64 x)).cell, Array.getElem?_setIfInBounds, if_pos rfl, if_pos (Array.getElem?_eq_some_iff.1 this).1]
  have hb : ∀ x', x' ≠ A → (w.setCell ⟨A, i * 6 + 4, none⟩ (.int .i64 x)).heap[x']? = w.heap[x']? := fun x' hx => setCell_heap_other w _ _ x' hx
  have n1 : m1 ≠ A := h.p1.apart hA
  have n2 : m2 ≠ A := h.p2.apart hA
  have n3 : ∀ g, v.ownBlock = some g → g ≠ A := fun g hg e => by
    have t3 := h.t3 g hg
    rw [e, h.ta] at t3
    injection t3 with t3
    injection t3 with _ t3
    omega
  exact ⟨(hk 0 (by omega)).trans h.c0, (hk 1 (by omega)).trans h.c1, (hk 2 (by omega)).trans h.c2, (hk 3 (by omega)).trans h.c3, h4, (hk 5 (by omega)).trans h.c5, h.ta, h.t1, h.t2, h.t3, h.p1.keep (hb m1 n1), h.p2.keep (hb m2 n2), own_keep h.row (fun g hg => hb g (n3 g hg)), ⟨h.ok.pos, h.ok.most, h.ok.loose, h.ok.syn, h0, h1⟩⟩
theorem Ar.setDown {w : World} (h : Ar w T d A i m1 m2 v r) (x : Bool) (hA : ∃ cs, Has w A 73 cs) : Ar (w.setCell ⟨A, i * 6 + 5, none⟩ (.bool x)) T d A i m1 m2 v { r with down := x } := by
  obtain ⟨cs, hA⟩ := hA
  have hk : ∀ j, j ≠ 5 → (w.setCell ⟨A, i * 6 + 5, none⟩ (.bool x)).cell? ⟨A, i * 6 + j, none⟩ = w.cell? ⟨A, i * 6 + j, none⟩ := fun j hj => by
    rw [(hA.store (i * 6 + 5) (.bool x)).cell, hA.cell, Array.getElem?_setIfInBounds, if_neg (by omega)]
  have h4 : (w.setCell ⟨A, i * 6 + 5, none⟩ (.bool x)).cell? ⟨A, i * 6 + 5, none⟩ = some (.bool x) := by
    have := h.c5
    rw [hA.cell] at this
    rw [(hA.store (i * 6 + 5) (.bool x)).cell, Array.getElem?_setIfInBounds, if_pos rfl, if_pos (Array.getElem?_eq_some_iff.1 this).1]
  have hb : ∀ x', x' ≠ A → (w.setCell ⟨A, i * 6 + 5, none⟩ (.bool x)).heap[x']? = w.heap[x']? := fun x' hx => setCell_heap_other w _ _ x' hx
  have n1 : m1 ≠ A := h.p1.apart hA
  have n2 : m2 ≠ A := h.p2.apart hA
  have n3 : ∀ g, v.ownBlock = some g → g ≠ A := fun g hg e => by
    have t3 := h.t3 g hg
    rw [e, h.ta] at t3
    injection t3 with t3
    injection t3 with _ t3
    omega
  exact ⟨(hk 0 (by omega)).trans h.c0, (hk 1 (by omega)).trans h.c1, (hk 2 (by omega)).trans h.c2, (hk 3 (by omega)).trans h.c3, (hk 4 (by omega)).trans h.c4, h4, h.ta, h.t1, h.t2, h.t3, h.p1.keep (hb m1 n1), h.p2.keep (hb m2 n2), own_keep h.row (fun g hg => hb g (n3 g hg)), ⟨h.ok.pos, h.ok.most, h.ok.loose, h.ok.syn, h.ok.left0, h.ok.left1⟩⟩
def ArEnd (res : Value) (T : Tg) (d A i m1 m2 : Nat) (v : Value) (r : Rg) (w : World) (e : Ending) (w' : World) : Prop := e = .returned res ∧ Ar w' T d A i m1 m2 v r ∧ Nx T d A i w T w'
theorem stops_any (w : World) (h : Ar w T d A i m1 m2 v r) (hA : ∃ cs, Has w A 73 cs) (hlo : ∀ x t, T x = some t → x < w.heap.size) (hd : r.down = false) :
    Calls Tryd.prog 35 #[.pointer (some ⟨A, i * 6, none⟩)] w (ArEnd (.bool (cntR r).down) T d A i m1 m2 v (cntR r) w) := by
  have c4 := h.c4
  have c5 := h.c5
  obtain ⟨cs, hA'⟩ := hA
  have f4 := hA'.free (i * 6 + 4)
  have f5 := hA'.free (i * 6 + 5)
  have HS := Lib.hid (fun x => h.setLeft x ⟨cs, hA'⟩)
  have HD := Lib.hid (h.setDown true ⟨cs, hA'⟩)
  have HL := Lib.hid hlo
  have HK := Lib.hid h
  rw [hd] at c5
  have HDn := Lib.hid hd
  have c5' : ∀ x, (w.setCell ⟨A, i * 6 + 4, none⟩ (.int .i64 x)).cell? ⟨A, i * 6 + 5, none⟩ = some (.bool false) := fun x => by
    rw [(hA'.store (i * 6 + 4) (.int .i64 x)).cell, Array.getElem?_setIfInBounds, if_neg (by omega), ← hA'.cell]
    exact c5
  have b0 := h.ok.left0
  have b1 := h.ok.left1
  clear h hlo hA' hd
  unfold cntR
  by_cases h0 : r.left = 0
  · simp only [h0, if_true] at c4 ⊢
    have d5 := HD.out.c5
    go_enter Tryd.func35, Tryd.ntmps35
    go_wp2
    go_ret
    exact ⟨rfl, by simpa only [h0] using HD.out, Nx.set (by omega) _ HL.out⟩
  · simp only [h0, if_false]
    have e0 : (r.left == 0) = false := by simpa using h0
    by_cases h1 : 0 < r.left
    · simp only [h1, if_true]
      have e2 : IntKind.i64.wrap (r.left - 1) = r.left - 1 := wrap_in _ (by omega)
      have HS2 := Lib.hid (HS.out (r.left - 1) (by omega) (by omega))
      have c6 := c5' (r.left - 1)
      clear c5'
      go_enter Tryd.func35, Tryd.ntmps35
      go_wp2
      go_ret
      exact ⟨retb HDn.out.symm, HS2.out, Nx.set (by omega) _ HL.out⟩
    · simp only [h1, if_false]
      clear c5'
      go_enter Tryd.func35, Tryd.ntmps35
      go_wp2
      go_ret
      exact ⟨retb HDn.out.symm, HK.out, Nx.refl _ _ _ _ _ HL.out⟩
end

end Go.Proofs.YthcjledpjlpfaaaDoor
end

section
namespace Go.Proofs.YthcjledpjlpfaaaDoor
open Go.RowKit
set_option linter.unusedVariables false

theorem info_content : (Tryd.prog.info? 107).map (fun i => (i.zero, i.size)) = some (some (pageV zeros), 128) := by kernel_rfl
theorem size_content : (Tryd.prog.info? 107).map (·.size) = some 128 := (zero_of_info info_content).2
theorem cellB {w w' : World} {p : Addr} {v : Value} (h : w.cell? p = some v) (hb : Below w.heap.size w w') : w'.cell? p = some v := (hb.cell (World.block_lt_of_cell? w p h)).trans h
theorem sizeB {l : List UInt8} (h : l.length = 128) : (Tryd.prog.info? 107).map (·.size) = some (l.map byteV).toArray.size := by
  rw [show (l.map byteV).toArray.size = 128 by simp [h]]
  exact size_content
theorem one_bytes (l : List UInt8) : (l.map byteV).toArray.all (·.oneCell') = true := all_oneCell_toArray (one_byteV l)
theorem load_content {w : World} {b o : Nat} {l : List UInt8} (hl : l.length = 128) (h : w.rangeAt b o (l.map byteV)) : (Instr.loadAt 107 (.pointer (some ⟨b, o, none⟩))).run Tryd.prog w = .ok (pageV l) w := by
  exact run_loadAt_mid w b o 107 (l.map byteV) _ h Tryd.underlying107 rfl (by rw [List.length_map, hl]; exact size_content)
theorem store_content (w : World) {l l' : List UInt8} (hl : l.length = 128) (hl' : l'.length = 128) :
    (Instr.storeAt 107 (.pointer (some ⟨w.heap.size, 0, none⟩)) (pageV l')).run Tryd.prog (w.alloc (.cells (l.map byteV).toArray 107)) = .ok () (w.alloc (.cells (l'.map byteV).toArray 107)) :=
  run_storeAt_new w 107 _ _ (sizeB hl') (by simp [hl, hl']) (one_bytes l')
theorem row_range {w : World} {v : Value} {l : List Wr} (h : w.ownsRow 0 109 129 v l.length (cellsL l)) (hl : ∀ x ∈ l, x.2.length = 128) {k : Nat} {x : Wr} (hk : l[k]? = some x) :
    ∃ g cap, v = .slice (some ⟨g, 0, none⟩) l.length cap ∧ w.rangeAt g (k * 129) (cellsW x) := by
  have hkl := (List.getElem?_eq_some_iff.1 hk).1
  rcases h.2 with ⟨_, h0⟩ | ⟨g, cap, cur, rfl, _, hg, h1, _, h3, h4⟩
  · omega
  · refine ⟨g, cap, rfl, fun j u hj => ?_⟩
    have h5 := cellsL_at l k x hl hk j u hj
    rw [← h4, List.getElem?_take] at h5
    split at h5
    · rw [cell_of_row w g _ cur 109 (0, 0) hg]
      rw [← Array.getElem?_toList]
      exact h5
    · cases h5
theorem range_tail {w : World} {b o : Nat} {x : Wr} (h : w.rangeAt b o (cellsW x)) : w.rangeAt b (o + 1) (x.2.map byteV) := fun j u hj => by
  have := h (j + 1) u (by simpa [cellsW] using hj)
  rw [show o + (j + 1) = o + 1 + j by omega] at this
  exact this
theorem rangeAt_below {w w' : World} {b o : Nat} {cs : List Value} (h : w.rangeAt b o cs) (hb : Below w.heap.size w w') : w'.rangeAt b o cs := fun j u hj => by
  have := h j u hj
  exact (hb.cell (p := ⟨b, o + j, none⟩) (World.block_lt_of_cell? w _ this)).trans this
theorem results_content {fn : Func} {p : Tmp} (hfn : fn.results = #[.cell p 107]) (tmps : Array Value) (w : World) {l : List UInt8} (hl : l.length = 128) {g : Nat} (hg : w.heap[g]? = some (.cells (l.map byteV).toArray 107 (0, 0))) (hp : tmps.getD p undef = .pointer (some ⟨g, 0, none⟩)) :
    (results fn tmps).run Tryd.prog w = .ok (pageV l) w := by
  exact results_cell_row hfn tmps w g 107 _ (0, 0) _ hp hg Tryd.underlying107 rfl (sizeB hl)
theorem wpL_load {P : Program} {ops : Array Oper} {rest : List Oper} {o : Oper} {a : Act} {w : World} {Q : Exit → Act → World → Prop} (hgd : o.guard = none) (t : TypeId) (x : Operand) (ho : o.op = .load t x) (p : Value) (hx : a.eval x = p) (u : Value)
    (hrun : (Instr.loadAt t p).run P w = .ok u w) (h : wpList P ops Q rest (a.put o.dst u) w) : wpList P ops Q (o :: rest) a w :=
  wpList_plain hgd fun K hK => by
    unfold Oper.wp execOp
    simp only [ho, hx, Sem.run_bind, hrun, Result.andThen_ok, Sem.run_pure]
    exact hK _ _ h
theorem wpL_store {P : Program} {ops : Array Oper} {rest : List Oper} {o : Oper} {a : Act} {w : World} {Q : Exit → Act → World → Prop} (hgd : o.guard = none) (t : TypeId) (x y : Operand) (ho : o.op = .store t x y) (p u : Value) (hx : a.eval x = p) (hy : a.eval y = u) (w' : World)
    (hrun : (Instr.storeAt t p u).run P w = .ok () w') (h : wpList P ops Q rest (a.put o.dst undef) w') : wpList P ops Q (o :: rest) a w :=
  wpList_plain hgd fun K hK => by
    unfold Oper.wp execOp
    simp only [ho, hx, hy, Sem.run_bind, hrun, Result.andThen_ok, Sem.run_pure]
    exact hK _ _ h
section
variable {T : Tg} {d A i m1 m2 : Nat} {v : Value} {r : Rg}
theorem rdP_some {j : Nat} {x : Wr} {p : Int} (h : lastFrom 0 r.loose p = some j) (hx : r.loose[j]? = some x) : rdP r p = x.2 := by
  unfold rdP
  simp only [h]
  simp [List.getD, hx]
theorem rdP_none {p : Int} (h : lastFrom 0 r.loose p = none) : rdP r p = (r.syn p).getD zeros := by
  unfold rdP
  simp only [h]
set_option maxRecDepth 100000 in
set_option maxHeartbeats 2000000 in
theorem read_any (p : Int) (w : World) (h : Ar w T d A i m1 m2 v r) : Calls Tryd.prog 63 #[.pointer (some ⟨A, i * 6, none⟩), .int .i64 p] w fun e w' => e = .returned (pageV (rdP r p)) ∧ Below w.heap.size w w' := by
  obtain ⟨W, hW⟩ : ∃ W, w.alloc (.cells (zeros.map byteV).toArray 107) = W := ⟨_, rfl⟩
  have hB : Below w.heap.size w W := hW ▸ (Below.refl _ w).alloc (Nat.le_refl _) _
  have hz := (zero_of_info info_content).1
  have hsz : zeros.length = 128 := by simp [zeros]
  have hst := fun l (hl : l.length = 128) => store_content w (l' := l) hsz hl
  rw [hW] at hst
  have hal : ∀ l : List UInt8, Below w.heap.size w (w.alloc (.cells (l.map byteV).toArray 107)) := fun l => (Below.refl _ w).alloc (Nat.le_refl _) _
  have hnew : ∀ l : List UInt8, (w.alloc (.cells (l.map byteV).toArray 107)).heap[w.heap.size]? = some (.cells (l.map byteV).toArray 107 (0, 0)) := fun l => heap_alloc_last w _
  have c1 := cellB h.c1 hB
  have c2 := cellB h.c2 hB
  have c3 := cellB h.c3 hB
  have p1 := h.p1.keep (hB.block m1 h.p1.lt)
  have p2 := h.p2.keep (hB.block m2 h.p2.lt)
  have hlen := rdP_len h.ok p
  obtain ⟨zc, hzc⟩ : ∃ zc, (zeros.map byteV).toArray = zc := ⟨_, rfl⟩
  have hz1 : (zeroValue 107).run Tryd.prog w = .ok (.agg zc) w := by rw [← hzc]; exact hz w
  rw [hzc] at hW
  clear hzc
  cases hj : lastFrom 0 r.loose p with
  | some j =>
    obtain ⟨_, x, hx, hxp⟩ := lastFrom_some p r.loose 0 j hj
    rw [Nat.sub_zero] at hx
    have e := rdP_some hj hx
    obtain ⟨g, cap, hv, hr⟩ := row_range h.row (fun y hy => (h.ok.loose y hy).2.2) hx
    have hld := load_content (h.ok.loose x (List.mem_of_getElem? hx)).2.2 (rangeAt_below (range_tail hr) hB)
    have hlk := run_look_some Tryd.underlying70 Tryd.underlying3 p2 (k := p) (v := .int .i64 (j : Int)) (by simp [hj]) true
    have hjl : j < r.loose.length := (List.getElem?_eq_some_iff.1 hx).1
    have hst2 := hst (rdP r p) hlen
    rw [e] at hst2 hlen ⊢
    subst hv
    simp only [if_true] at hlk
    have i0 : (0 : Int) ≤ (j : Int) := by omega
    have i1 : (j : Int) < (r.loose.length : Int) := by omega
    have HA := Lib.hid (hal x.2)
    have HN := Lib.hid (hnew x.2)
    have HL := Lib.hid hlen
    clear hst hz hsz hal hnew h hr hx hxp e hj p1 p2 hB hlen c1 hjl
    generalize r.loose.length = n at c2 i1
    generalize hpv : pageV x.2 = pv at hld hst2 ⊢
    have HPV := Lib.hid hpv
    clear hpv
    go_enter Tryd.func63, Tryd.ntmps63
    go_wp2_with (first
      | (refine wpL_load rfl 107 (.tmp 23) rfl _ rfl _ hld ?_)
      | (refine wpL_store rfl 107 (.tmp 4) (.tmp 24) rfl _ _ rfl rfl _ hst2 ?_))
    refine bodyPost_ret (v := pv) ?_ rfl ⟨rfl, HA.out⟩
    rw [← HPV.out]
    exact results_content rfl _ _ HL.out HN.out rfl
  | none =>
    have e := rdP_none hj
    have hzi : ∀ w, (zeroValue 3).run Tryd.prog w = .ok (.int .i64 0) w := fun w => by kernel_rfl
    have hlk := run_look_none Tryd.underlying70 Tryd.underlying3 hzi p2 (k := p) (by simp [hj]) true
    have hlk1 : (Instr.lookup 69 (.map (some m1)) (.int .i64 p) false).run Tryd.prog W = .ok (pageV (rdP r p)) W := by
      rw [e]
      cases hs : r.syn p with
      | none => simpa using run_look_none Tryd.underlying69 Tryd.underlying3 hz p1 (k := p) (by simp [hs]) false
      | some l => simpa using run_look_some Tryd.underlying69 Tryd.underlying3 p1 (k := p) (v := pageV l) (by simp [hs]) false
    have hst2 := hst (rdP r p) hlen
    simp only [if_true] at hlk
    clear e
    generalize rdP r p = l at hlen hlk1 hst2 ⊢
    have HA := Lib.hid (hal l)
    have HN := Lib.hid (hnew l)
    have HL := Lib.hid hlen
    clear hst hz hsz hal hnew h hj p1 p2 hB hlen c2 hzi
    generalize hpv : pageV l = pv at hlk1 hst2 ⊢
    have HPV := Lib.hid hpv
    clear hpv
    go_enter Tryd.func63, Tryd.ntmps63
    go_wp2_with (refine wpL_store rfl 107 (.tmp 4) (.tmp 30) rfl _ _ rfl rfl _ hst2 ?_)
    refine bodyPost_ret (v := pv) ?_ rfl ⟨rfl, HA.out⟩
    rw [← HPV.out]
    exact results_content rfl _ _ HL.out HN.out rfl
end

end Go.Proofs.YthcjledpjlpfaaaDoor
end
