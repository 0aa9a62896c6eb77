/- Words of my own for maps whose keys are ints: no statement is proved here; nothing here speaks of any one program. -/
import Derived.Test.YthbchloghbfnmaaKit
import Derived.MapKept
namespace Go.Proofs.Ythbchloghbfnmaa
open Go.RowKit Go.MapKept
set_option linter.unusedVariables false

/-- Block b is a map that holds f: its keys are ints. -/
def MapAt (w : World) (b : Nat) (f : Int → Option Value) : Prop :=
  ∃ es clock, w.heap[b]? = some (.map es clock) ∧ (∀ x ∈ es.toList, ∃ k, x.key = .int .i64 k) ∧ es.toList.Pairwise (fun x y => x.key ≠ y.key) ∧ ∀ k v, f k = some v ↔ ∃ x ∈ es.toList, x.key = .int .i64 k ∧ x.val = v
def noMap : Int → Option Value := fun _ => none
def putM (f : Int → Option Value) (k : Int) (v : Value) : Int → Option Value := fun j => if j = k then some v else f j
theorem MapAt.lt {w : World} {b : Nat} {f : Int → Option Value} (h : MapAt w b f) : b < w.heap.size := by
  obtain ⟨es, c, hb, _⟩ := h
  exact (Array.getElem?_eq_some_iff.1 hb).1
theorem MapAt.keep {w w' : World} {b : Nat} {f : Int → Option Value} (h : MapAt w b f) (e : w'.heap[b]? = w.heap[b]?) : MapAt w' b f := by
  obtain ⟨es, c, hb, h⟩ := h
  exact ⟨es, c, e.trans hb, h⟩
theorem MapAt.made (w : World) : MapAt (w.alloc (.map #[] 0)) w.heap.size noMap :=
  ⟨#[], 0, (heap_alloc w _).1, by simp, by simp, by simp [noMap]⟩
theorem MapAt.apart {w : World} {b g : Nat} {f : Int → Option Value} {t : TypeId} {cs : Array Value} (h : MapAt w b f) (h' : Has w g t cs) : b ≠ g := by
  rintro rfl
  obtain ⟨es, c, hb, _⟩ := h
  unfold Has at h'
  rw [hb] at h'
  cases h'
theorem isKey_int (k : Int) : IsKey (.int .i64) (.int .i64 k) := rfl
theorem keys_int {l : List MapEntry} (h : ∀ x ∈ l, ∃ k, x.key = .int .i64 k) : ∀ x ∈ l, IsKey (.int .i64) x.key := fun x hx => by
  obtain ⟨k, hk⟩ := h x hx
  rw [hk]
  rfl
section
variable {P : Program} {w : World} {mty kt et : TypeId} {b : Nat} {f : Int → Option Value}
/-- 'm[k]', 'v, ok := m[k]' of a key that is there. -/
theorem run_look_some (hm : P.underlying mty = some (.map kt et)) (hd : P.underlying kt = some (.int .i64)) (h : MapAt w b f) {k : Int} {v : Value} (hv : f k = some v) (c : Bool) :
    (Instr.lookup mty (.map (some b)) (.int .i64 k) c).run P w = .ok (if c then .tuple #[v, .bool true] else v) w := by
  obtain ⟨es, cl, hb, hk, hp, hf⟩ := h
  obtain ⟨x, hx, hxk, hxv⟩ := (hf k v).1 hv
  rcases findNow_spec (isKey_int k) es.toList 0 (keys_int hk) with ⟨h1, h2⟩ | ⟨j, e, h1, h2, h3⟩
  · exact absurd hxk (h2 x hx)
  · have he : e.val = v := by
      have := (hf k e.val).2 ⟨e, List.mem_of_getElem? h2, h3, rfl⟩
      rw [hv] at this
      injection this with this
      exact this.symm
    simp [Instr.lookup, run_underlying hm, MapKept.run_getObj_map hb, MapKept.run_checkKey hd (isKey_int k), MapKept.run_findKey hd h1, Result.andThen, he]
theorem run_look_none (hm : P.underlying mty = some (.map kt et)) (hd : P.underlying kt = some (.int .i64)) {z : Value} (hz : ∀ w, (zeroValue et).run P w = .ok z w) (h : MapAt w b f) {k : Int} (hv : f k = none) (c : Bool) :
    (Instr.lookup mty (.map (some b)) (.int .i64 k) c).run P w = .ok (if c then .tuple #[z, .bool false] else z) w := by
  obtain ⟨es, cl, hb, hk, hp, hf⟩ := h
  rcases findNow_spec (isKey_int k) es.toList 0 (keys_int hk) with ⟨h1, h2⟩ | ⟨j, e, h1, h2, h3⟩
  · simp [Instr.lookup, run_underlying hm, MapKept.run_getObj_map hb, MapKept.run_checkKey hd (isKey_int k), MapKept.run_findKey hd h1, hz, Result.andThen]
  · have := (hf k e.val).2 ⟨e, List.mem_of_getElem? h2, h3, rfl⟩
    rw [hv] at this
    cases this
theorem grown_set {o o' : Obj} (hb : w.heap[b]? = some o) : w.grownBy { w with heap := w.heap.setIfInBounds b o' } (some b) :=
  ⟨rfl, rfl, rfl, by simp, fun i _ hi => (heap_set (w := w) hb).2 i (fun e => hi (by rw [e]))⟩
/-- 'm[k] = v'. -/
theorem run_put (hm : P.underlying mty = some (.map kt et)) (hd : P.underlying kt = some (.int .i64)) (h : MapAt w b f) (k : Int) (v : Value) :
    ∃ w', (Instr.mapUpdate mty (.map (some b)) (.int .i64 k) v).run P w = .ok () w' ∧ MapAt w' b (putM f k v) ∧ w.grownBy w' (some b) ∧ w'.heap.size = w.heap.size := by
  obtain ⟨es, cl, hb, hk, hp, hf⟩ := h
  rcases findNow_spec (isKey_int k) es.toList 0 (keys_int hk) with ⟨h1, h2⟩ | ⟨j, e, h1, h2, h3⟩
  · refine ⟨_, by simp [Instr.mapUpdate, run_underlying hm, MapKept.run_getObj_map hb, MapKept.run_checkKey hd (isKey_int k), MapKept.run_findKey hd h1, MapKept.run_setObj_map _ hb, Result.andThen]; rfl, ⟨_, _, (heap_set hb).1, ?_, ?_, ?_⟩, grown_set hb, by simp⟩
    · intro x hx
      simp only [Array.toList_push, List.mem_append, List.mem_singleton] at hx
      rcases hx with hx | rfl
      · exact hk x hx
      · exact ⟨k, rfl⟩
    · simp only [Array.toList_push]
      rw [List.pairwise_append]
      refine ⟨hp, by simp, ?_⟩
      intro x hx y hy
      simp only [List.mem_singleton] at hy
      subst hy
      exact h2 x hx
    · intro a u
      simp only [Array.toList_push, List.mem_append, List.mem_singleton]
      unfold putM
      by_cases e : a = k
      · subst e
        simp only [if_true]
        constructor
        · intro h
          injection h with h
          exact ⟨_, .inr rfl, rfl, h⟩
        · rintro ⟨x, hx | rfl, hxk, rfl⟩
          · exact absurd hxk (h2 x hx)
          · rfl
      · rw [if_neg e, hf a u]
        constructor
        · rintro ⟨x, hx, hxk⟩
          exact ⟨x, .inl hx, hxk⟩
        · rintro ⟨x, hx | rfl, hxk, hv⟩
          · exact ⟨x, hx, hxk, hv⟩
          · injection hxk with _ hxk
            exact absurd hxk.symm e
  · have hj : j < es.toList.length := (List.getElem?_eq_some_iff.1 h2).1
    have hje : es.toList[j] = e := (List.getElem?_eq_some_iff.1 h2).2
    have hes : es[j]? = some e := by rw [← Array.getElem?_toList]; exact h2
    have hcur : ((es[j]?).map (·.key)).getD (.int .i64 k) = .int .i64 k := by rw [hes]; exact h3
    have hml : (es.modify j fun e => { e with key := .int .i64 k, val := v }).toList = es.toList.set j { e with key := .int .i64 k, val := v } := by
      apply List.ext_getElem?
      intro i
      rw [Array.getElem?_toList, Array.getElem?_modify, List.getElem?_set]
      by_cases hij : j = i
      · subst hij
        simp [hes]
        simpa using hj
      · simp [hij]
    refine ⟨_, by simp [Instr.mapUpdate, run_underlying hm, MapKept.run_getObj_map hb, MapKept.run_checkKey hd (isKey_int k), MapKept.run_findKey hd h1, hcur, run_keyThatStays (d := .int .i64) (isKey_int k), MapKept.run_setObj_map _ hb, Result.andThen]; rfl, ⟨_, _, (heap_set hb).1, ?_, ?_, ?_⟩, grown_set hb, by simp⟩
    · intro x hx
      rw [hml] at hx
      rcases List.mem_or_eq_of_mem_set hx with hx | rfl
      · exact hk x hx
      · exact ⟨k, rfl⟩
    · have hkeys : (es.modify j fun e => { e with key := .int .i64 k, val := v }).toList.map (·.key) = es.toList.map (·.key) := modify_keys j _ (fun e' he' => by
        rw [hes] at he'
        injection he' with he'
        subst he'
        exact h3.symm)
      have hp' : (es.toList.map (·.key)).Pairwise (· ≠ ·) := List.pairwise_map.2 hp
      rw [← hkeys] at hp'
      exact List.pairwise_map.1 hp'
    · have huniq : ∀ x ∈ es.toList, x.key = .int .i64 k → x = e := by
        intro x hx hxk
        obtain ⟨i, hi, hix⟩ := List.getElem_of_mem hx
        rw [List.pairwise_iff_getElem] at hp
        rcases Nat.lt_trichotomy i j with h | h | h
        · exact absurd (show es.toList[i].key = es.toList[j].key by rw [hix, hje, hxk, h3]) (hp i j hi hj h)
        · subst h; rw [← hix, hje]
        · exact absurd (show es.toList[j].key = es.toList[i].key by rw [hix, hje, hxk, h3]) (hp j i hj hi h)
      intro a u
      rw [hml]
      unfold putM
      by_cases ea : a = k
      · subst ea
        simp only [if_true]
        constructor
        · intro h
          injection h with h
          exact ⟨_, List.mem_set hj _, rfl, h⟩
        · rintro ⟨x, hx, hxk, rfl⟩
          obtain ⟨i, hi, hix⟩ := List.getElem_of_mem hx
          rw [List.getElem_set] at hix
          by_cases hij : j = i
          · rw [if_pos hij] at hix
            subst hix
            rfl
          · rw [if_neg hij] at hix
            have hi' : i < es.toList.length := by simpa using hi
            have := huniq es.toList[i] (List.getElem_mem hi') (by rw [hix]; exact hxk)
            rw [List.pairwise_iff_getElem] at hp
            rcases Nat.lt_or_gt_of_ne (Ne.symm hij) with h | h
            · exact absurd (show es.toList[i].key = es.toList[j].key by rw [this, hje]) (hp i j hi' hj h)
            · exact absurd (show es.toList[j].key = es.toList[i].key by rw [this, hje]) (hp j i hj hi' h)
      · rw [if_neg ea, hf a u]
        constructor
        · rintro ⟨x, hx, hxk, hv⟩
          obtain ⟨i, hi, hix⟩ := List.getElem_of_mem hx
          have hij : j ≠ i := by
            rintro rfl
            rw [hje] at hix
            subst hix
            rw [h3] at hxk
            injection hxk with _ hxk
            exact ea hxk.symm
          refine ⟨x, ?_, hxk, hv⟩
          have hi2 : i < (es.toList.set j { e with key := .int .i64 k, val := v }).length := by simpa using hi
          have h4 := List.getElem_mem hi2
          rw [List.getElem_set, if_neg hij, hix] at h4
          exact h4
        · rintro ⟨x, hx, hxk, hv⟩
          rcases List.mem_or_eq_of_mem_set hx with hx | rfl
          · exact ⟨x, hx, hxk, hv⟩
          · injection hxk with _ hxk
            exact absurd hxk.symm ea
/-- 'clear(m)'. -/
theorem run_clear (hm : P.underlying mty = some (.map kt et)) (h : MapAt w b f) : ∃ w', (∀ ty, (Builtin.clear_ #[mty] ty #[.map (some b)]).run P w = .ok (.tuple #[]) w') ∧ MapAt w' b noMap ∧ w.grownBy w' (some b) ∧ w'.heap.size = w.heap.size := by
  obtain ⟨es, cl, hb, hk, hp, hf⟩ := h
  refine ⟨_, fun ty => by simp [Builtin.clear_, run_underlying hm, MapKept.run_getObj_map hb, MapKept.run_setObj_map _ hb, Result.andThen], ⟨#[], cl, (heap_set hb).1, by simp, by simp, by simp [noMap]⟩, grown_set hb, by simp⟩
end

end Go.Proofs.Ythbchloghbfnmaa
