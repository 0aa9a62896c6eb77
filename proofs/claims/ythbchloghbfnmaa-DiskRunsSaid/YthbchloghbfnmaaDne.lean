/- Package disk: New: contract, no statement. -/
import Derived.Test.YthbchloghbfnmaaDlo
namespace Go.Proofs.Ythbchloghbfnmaa
open Go.RowKit
set_option linter.unusedVariables false

def szB (x : Int) : Bool := decide (1 ≤ x) && decide (x ≤ 1000)
/-- A slice of ints that reads. -/
structure Ints6 (w : World) (A : Option Addr) (n : Nat) (l : List Int) : Prop where
  len : n = l.length
  reads : Reads w A (l.map (Value.int .i64))
theorem Ints6.at_ {w : World} {A : Option Addr} {n : Nat} {l : List Int} (h : Ints6 w A n l) {k : Nat} {x : Int} (hk : l[k]? = some x) : ∃ g off, A = some ⟨g, off, none⟩ ∧ w.cell? ⟨g, off + k, none⟩ = some (.int .i64 x) := by
  have hkl := (List.getElem?_eq_some_iff.1 hk).1
  obtain ⟨g, off, hA, hc⟩ := h.reads (by simp; omega)
  exact ⟨g, off, hA, hc k _ (by rw [List.getElem?_map, hk]; rfl)⟩
theorem sizes1_any (x : Int) (w : World) : Calls Try.prog 47 #[.int .i64 x] w fun e w' => e = .returned (.bool (!szB x)) ∧ w = w' := by
  unfold szB
  by_cases h0 : x < 1
  · go_enter Try.func47, Try.ntmps47
    go_wp2
    go_ret
    exact ⟨retb (by simp; omega), rfl⟩
  · by_cases h1 : 1000 < x
    · go_enter Try.func47, Try.ntmps47
      go_wp2
      go_ret
      exact ⟨retb (by simp; omega), rfl⟩
    · go_enter Try.func47, Try.ntmps47
      go_wp2
      go_ret
      exact ⟨retb (by simp), rfl⟩
set_option maxRecDepth 100000 in
theorem sizesI_any (A : Option Addr) (n c : Nat) (l : List Int) (w : World) (h : Ints6 w A n l) (hn : n ≤ 1000000) :
    Calls Try.prog 48 #[.slice A n c, .func (.func 47) #[] #[]] w fun e w' => ∃ x : Int, e = .returned (.int .i64 x) ∧ decide (0 ≤ x) = (!l.all szB) ∧ w' = w := by
  have HA := Lib.hid h
  have HN := Lib.hid h.len
  have HQ := Lib.hid (fun n w1 => sizes1_any n w1)
  clear h
  go_enter Try.func48, Try.ntmps48
  go_wp2
  go_loopw [8] (fun i wr => wr = w ∧ ∃ k : Nat, k ≤ n ∧ i = .int .i64 k ∧ ∀ j (h : j < l.length), j < k → szB l[j] = true) (fun i _ => n - (intOf i).toNat)
  case atStart => exact ⟨rfl, 0, Nat.zero_le _, rfl, fun j _ hj => absurd hj (by omega)⟩
  case round =>
    obtain ⟨rfl, k, hk, rfl, hj⟩ := hrel
    have HJ := Lib.hid hj
    clear hj
    by_cases hlt : k < n
    · have hkl : k < l.length := by have := HN.out; omega
      obtain ⟨g, off, rfl, ck⟩ := HA.out.at_ (List.getElem?_eq_getElem hkl)
      have i0 : (0 : Int) ≤ (k : Int) := by omega
      have i1 : (k : Int) < (n : Int) := by omega
      cases hq : szB l[k]
      · have HF : Hid (decide (0 ≤ (k : Int)) = !l.all szB) := Lib.hid (by
          have : l.all szB = false := by
            cases e : l.all szB
            · rfl
            · rw [List.all_eq_true] at e
              rw [e _ (List.getElem_mem hkl)] at hq
              cases hq
          rw [this]
          simp)
        have HQ1 := Lib.hid (HQ.out l[k])
        rw [hq] at HQ1
        generalize l[k] = u at ck HQ1
        clear hq hkl
        go_wp2_with (go_at_call 47; (with_reducible refine (HQ1.out _).mono ?_); rintro e w2 ⟨rfl, rfl⟩)
        go_ret
        exact ⟨_, rfl, HF.out, rfl⟩
      · have HX : Hid (∀ j (h : j < l.length), j < k + 1 → szB l[j] = true) := Lib.hid (fun j h hj => by
          by_cases e : j = k
          · subst e; exact hq
          · exact HJ.out j h (by omega))
        have HQ1 := Lib.hid (HQ.out l[k])
        rw [hq] at HQ1
        generalize l[k] = u at ck HQ1
        clear hq hkl
        go_wp2_with (go_at_call 47; (with_reducible refine (HQ1.out _).mono ?_); rintro e w2 ⟨rfl, rfl⟩)
        go_roundw
        case rel => exact ⟨by first | rfl | trivial, k + 1, by omega, by go_num, HX.out⟩
        case measure => simp [intOf]; omega
    · obtain rfl : k = n := by omega
      have HF : Hid (decide (0 ≤ (-1 : Int)) = !l.all szB) := Lib.hid (by
        have : l.all szB = true := by
          rw [List.all_eq_true]
          intro x hx
          obtain ⟨j, hj, rfl⟩ := List.getElem_of_mem hx
          exact HJ.out j hj (by have := HN.out; omega)
        rw [this]
        rfl)
      go_wp2
      go_ret
      exact ⟨_, rfl, HF.out, rfl⟩
theorem areSizes_any (A : Option Addr) (n c : Nat) (l : List Int) (w : World) (h : Ints6 w A n l) (hn : n ≤ 1000000) :
    Calls Try.prog 30 #[.slice A n c] w fun e w' => e = .returned (.bool (l.all szB)) ∧ w = w' := by
  have HI := Lib.hid (fun w1 (hb : w1 = w) => sizesI_any A n c l w1 (hb ▸ h) hn)
  have HC : Hid (Calls Try.prog 46 #[.slice A n c, .func (.func 47) #[] #[]] w fun e w' => e = .returned (.bool (!l.all szB)) ∧ w = w') := Lib.hid (by
    generalize (!l.all szB) = b at HI ⊢
    clear h
    go_enter Try.func46, Try.ntmps46
    go_wp2_with (go_at_call 48; (with_reducible refine (HI.out _ rfl).mono ?_); rintro e w2 ⟨x, rfl, hx, rfl⟩)
    go_ret
    exact ⟨by rw [← hx]; rfl, rfl⟩)
  clear h HI
  generalize l.all szB = b at HC ⊢
  go_enter Try.func30, Try.ntmps30
  go_wp2_with (go_at_call 46; (with_reducible refine HC.out.mono ?_); rintro e w2 ⟨rfl, rfl⟩)
  go_ret
  exact ⟨retb (by simp), rfl⟩
/-- Several cells of a block that is known whole. -/
theorem Has.sets {w : World} {g : Nat} {t : TypeId} : ∀ (vs : List Value) (o : Nat) (w : World) (cs : Array Value), Has w g t cs → ∃ cs', Has (w.setCells g o vs) g t cs' ∧ cs'.size = cs.size ∧ (∀ j, (j < o ∨ o + vs.length ≤ j) → cs'[j]? = cs[j]?) ∧ ∀ x, x ≠ g → (w.setCells g o vs).heap[x]? = w.heap[x]?
  | [], o, w, cs, h => ⟨cs, h, rfl, fun _ _ => rfl, fun _ _ => rfl⟩
  | v :: r, o, w, cs, h => by
    obtain ⟨cs', h1, h2, h3, h4⟩ := Has.sets (w := w) (g := g) (t := t) r (o + 1) (w.setCell ⟨g, o, none⟩ v) _ (h.store o v)
    refine ⟨cs', h1, h2.trans (by simp), fun j hj => ?_, fun x hx => (h4 x hx).trans (setCell_heap_other w ⟨g, o, none⟩ v x hx)⟩
    simp only [List.length_cons] at hj
    rw [h3 j (by omega), Array.getElem?_setIfInBounds, if_neg (by omega)]
theorem setCells_hsize (g : Nat) : ∀ (vs : List Value) (o : Nat) (w : World), (w.setCells g o vs).heap.size = w.heap.size
  | [], _, _ => rfl
  | v :: r, o, w => by
    show ((w.setCell ⟨g, o, none⟩ v).setCells g (o + 1) r).heap.size = _
    rw [setCells_hsize g r (o + 1), setCell_hsize]
theorem setCells_rest (g : Nat) : ∀ (vs : List Value) (o : Nat) (w : World), (w.setCells g o vs).os = w.os ∧ (w.setCells g o vs).tape = w.tape ∧ (w.setCells g o vs).output = w.output
  | [], _, _ => ⟨rfl, rfl, rfl⟩
  | v :: r, o, w => setCells_rest g r (o + 1) (w.setCell ⟨g, o, none⟩ v)
def newCells (m1 m2 : Nat) (x : Int) : List Value := [.int .i64 x, .map (some m1), .slice none 0 0, .map (some m2), .int .i64 (-1), .bool false]
/-- What New has laid, the first k regions of it. -/
structure NewRel (T : Tg) (d : Nat) (w : World) (A D n : Nat) (ls : List Int) (k : Nat) (T' : Tg) (wr : World) : Prop where
  tn : Tn T d w T' wr
  bel : Below w.heap.size w wr
  lo : ∀ x t, T' x = some t → x < wr.heap.size
  hd : Has wr D 67 #[.slice (some ⟨A, 0, none⟩) n n]
  td : T' D = some (d, 0)
  ta : T' A = some (d, 1)
  gA : w.heap.size ≤ A
  blk : ∃ cs, Has wr A 72 cs ∧ cs.size = n * 6
  at_ : ∀ i x, i < k → ls[i]? = some x → ∃ m1 m2 v, Ar wr T' d A i m1 m2 v (fresh6 x.toNat)
section
variable {T T' : Tg} {d A D n k : Nat} {ls : List Int} {w wr : World}
theorem NewRel.there (h : NewRel T d w A D n ls k T' wr) (hk : k < n) {W : World} (hb : Below wr.heap.size wr W) : W.there A (k * 6) 6 := fun j hj => by
  obtain ⟨cs, hA, hs⟩ := h.blk
  have hA2 := hA.below hb hA.lt
  rw [hA2.cell]
  refine ⟨?_, hA2.free _⟩
  rw [Array.getElem?_eq_getElem (by omega)]
  rfl
theorem NewRel.step (h : NewRel T d w A D n ls k T' wr) (hk : k < n) {x : Int} (hx : ls[k]? = some x) (h1 : szB x = true) :
    NewRel T d w A D n ls (k + 1) (mark (mark T' wr.heap.size (d, 3 * k + 2)) (wr.heap.size + 1) (d, 3 * k + 3)) (((wr.alloc (.map #[] 0)).alloc (.map #[] 0)).setCells A (k * 6) (newCells wr.heap.size (wr.heap.size + 1) x)) := by
  have hx1 : 1 ≤ x ∧ x ≤ 1000 := by simpa [szB] using h1
  obtain ⟨W, hW⟩ : ∃ W, (wr.alloc (.map #[] 0)).alloc (.map #[] 0) = W := ⟨_, rfl⟩
  have hb : Below wr.heap.size wr W := hW ▸ ((Below.refl _ wr).alloc (Nat.le_refl _) _).alloc (by simp) _
  have hws : W.heap.size = wr.heap.size + 2 := by rw [← hW]; simp
  have q1 : MapAt W wr.heap.size noMap := by
    rw [← hW]
    exact (MapAt.made wr).keep (Below.heap_alloc (wr.alloc (.map #[] 0)) (.map #[] 0) wr.heap.size (by simp))
  have q2 : MapAt W (wr.heap.size + 1) noMap := by
    have := MapAt.made (wr.alloc (.map #[] 0))
    rw [show (wr.alloc (.map #[] 0)).heap.size = wr.heap.size + 1 by simp, hW] at this
    exact this
  rw [hW]
  have ht := h.there hk hb
  obtain ⟨cs, hA, hs⟩ := h.blk
  have hAW := hA.below hb hA.lt
  obtain ⟨cs', hA3, hs3, he3, ho3⟩ := Has.sets (w := W) (g := A) (t := 72) (newCells wr.heap.size (wr.heap.size + 1) x) (k * 6) W cs hAW
  have hrg := World.rangeAt_setCells_same W A (k * 6) (newCells wr.heap.size (wr.heap.size + 1) x) ht
  have hsz3 := setCells_hsize A (newCells wr.heap.size (wr.heap.size + 1) x) (k * 6) W
  obtain ⟨r1, r2, r3⟩ := setCells_rest A (newCells wr.heap.size (wr.heap.size + 1) x) (k * 6) W
  generalize hw3 : W.setCells A (k * 6) (newCells wr.heap.size (wr.heap.size + 1) x) = w3 at hA3 ho3 hrg hsz3 r1 r2 r3 ⊢
  have hll : (newCells wr.heap.size (wr.heap.size + 1) x).length = 6 := rfl
  have hT : ∀ y, y < wr.heap.size → mark (mark T' wr.heap.size (d, 3 * k + 2)) (wr.heap.size + 1) (d, 3 * k + 3) y = T' y := fun y hy => by
    unfold mark
    rw [if_neg (by omega), if_neg (by omega)]
  have hA0 := hA.lt
  have hB3 : ∀ y, y < wr.heap.size → y ≠ A → w3.heap[y]? = wr.heap[y]? := fun y hy hyA => (ho3 y hyA).trans (hb.block y hy)
  have hDA : D ≠ A := h.hd.apart hA (by decide)
  have mA1 : wr.heap.size ≠ A := by omega
  have mA2 : wr.heap.size + 1 ≠ A := by omega
  refine ⟨?_, ?_, ?_, (hB3 D h.hd.lt hDA).trans h.hd, (hT D h.hd.lt).trans h.td, (hT A hA.lt).trans h.ta, h.gA, ⟨cs', hA3, hs3.trans hs⟩, fun i y hi hy => ?_⟩
  · refine ⟨r1.trans (hb.os.trans h.tn.os), r2.trans (hb.tape.trans h.tn.tape), r3.trans (hb.output.trans h.tn.output), by rw [hsz3]; exact Nat.le_trans h.tn.size hb.size, fun y hy hTy => ?_, fun y hy => ?_, fun y t hy ht => ?_⟩
    · have := h.gA
      exact (hB3 y (Nat.lt_of_lt_of_le hy h.tn.size) (by omega)).trans (h.tn.block y hy hTy)
    · exact (hT y (Nat.lt_of_lt_of_le hy h.tn.size)).trans (h.tn.old y hy)
    · unfold mark at ht
      split at ht
      · injection ht with ht
        subst ht
        exact ⟨rfl, by rw [hsz3]; omega⟩
      · split at ht
        · injection ht with ht
          subst ht
          exact ⟨rfl, by rw [hsz3]; omega⟩
        · have h5 := h.tn.new y t hy ht
          exact ⟨h5.1, by rw [hsz3]; have := h5.2; omega⟩
  · have hg := h.gA
    exact ⟨r1.trans (hb.os.trans h.bel.os), r2.trans (hb.tape.trans h.bel.tape), r3.trans (hb.output.trans h.bel.output), by rw [hsz3]; exact Nat.le_trans h.bel.size hb.size, fun y hy => (hB3 y (Nat.lt_of_lt_of_le hy h.bel.size) (by omega)).trans (h.bel.block y hy)⟩
  · intro y t ht
    unfold mark at ht
    split at ht
    · rw [hsz3]; omega
    · split at ht
      · rw [hsz3]; omega
      · have := h.lo y t ht
        rw [hsz3]; omega
  · by_cases e : i = k
    · subst e
      rw [hx] at hy
      injection hy with hy
      subst hy
      have hc : ∀ j u, (newCells wr.heap.size (wr.heap.size + 1) x)[j]? = some u → w3.cell? ⟨A, i * 6 + j, none⟩ = some u := hrg
      have hxn : (x.toNat : Int) = x := by omega
      refine ⟨wr.heap.size, wr.heap.size + 1, .slice none 0 0, by rw [show (fresh6 x.toNat).size = x.toNat from rfl, hxn]; exact hc 0 _ rfl, hc 1 _ rfl, hc 2 _ rfl, hc 3 _ rfl, hc 4 _ rfl, hc 5 _ rfl, (hT A hA.lt).trans h.ta, ?_, ?_, fun g hg => (by cases hg), ?_, ?_, World.ownsRow_nil _ _ _ _, fresh6_ok (by omega) (by omega)⟩
      · unfold mark
        rw [if_neg (by omega), if_pos rfl]
      · unfold mark
        rw [if_pos rfl]
      · exact q1.keep (ho3 _ mA1)
      · exact q2.keep (ho3 _ mA2)
    · obtain ⟨m1, m2, v, ha⟩ := h.at_ i y (by omega) hy
      refine ⟨m1, m2, v, ha.keep (fun j hj => ?_) (fun z j hj hz hlt => ⟨hB3 z hlt ?_, hT z hlt⟩) (hT A hA.lt)⟩
      · rw [hA3.cell, hA.cell]
        exact he3 _ (by rw [hll]; omega)
      · rintro rfl
        rw [h.ta] at hz
        injection hz with hz
        injection hz with _ hz
        omega
theorem NewRel.dk (h : NewRel T d w A D n ls n T' wr) (hn : n = ls.length) : Dk wr T' d D A (ls.map fun x => fresh6 x.toNat) := by
  refine ⟨?_, h.td, h.ta, ?_, fun i r hr => ?_⟩
  · rw [List.length_map, ← hn]
    exact h.hd
  · obtain ⟨cs, hA, hs⟩ := h.blk
    exact ⟨cs, hA, by rw [List.length_map, ← hn]; exact hs⟩
  · rw [List.getElem?_map] at hr
    cases hx : ls[i]? with
    | none => simp [hx] at hr
    | some x =>
      simp only [hx, Option.map_some, Option.some.injEq] at hr
      subst hr
      exact h.at_ i x (by rw [hn]; exact (List.getElem?_eq_some_iff.1 hx).1) hx
/-- At the start: the two blocks of its own. -/
theorem NewRel.start (hlo : ∀ x t, T x = some t → x < w.heap.size) (z : Array Value) (hz : z.size = n * 6) (D : Nat) (hD : D = w.heap.size + 1) :
    NewRel T d w w.heap.size D n ls 0 (mark (mark T w.heap.size (d, 1)) D (d, 0)) ((w.alloc (.cells z 72)).alloc (.cells #[.slice (some ⟨w.heap.size, 0, none⟩) n n] 67)) := by
  obtain ⟨W, hW⟩ : ∃ W, (w.alloc (.cells z 72)).alloc (.cells #[.slice (some ⟨w.heap.size, 0, none⟩) n n] 67) = W := ⟨_, rfl⟩
  have hb : Below w.heap.size w W := hW ▸ ((Below.refl _ w).alloc (Nat.le_refl _) _).alloc (by simp) _
  have hws : W.heap.size = w.heap.size + 2 := by rw [← hW]; simp
  have h1 : Has W D 67 #[.slice (some ⟨w.heap.size, 0, none⟩) n n] := by
    have := Has.made (w.alloc (.cells z 72)) 67 #[.slice (some ⟨w.heap.size, 0, none⟩) n n]
    rw [hW, show (w.alloc (.cells z 72)).heap.size = D by rw [hD]; simp] at this
    exact this
  have h2 : Has W w.heap.size 72 z := hW ▸ (Has.made w 72 z).alloc _
  rw [hW]
  have hT : ∀ y, y < w.heap.size → mark (mark T w.heap.size (d, 1)) D (d, 0) y = T y := fun y hy => by
    unfold mark
    rw [if_neg (by omega), if_neg (by omega)]
  have hnew : ∀ y t, w.heap.size ≤ y → mark (mark T w.heap.size (d, 1)) D (d, 0) y = some t → t.1 = d ∧ y < W.heap.size := fun y t hy ht => by
    unfold mark at ht
    split at ht
    · injection ht with ht
      subst ht
      exact ⟨rfl, by omega⟩
    · split at ht
      · injection ht with ht
        subst ht
        exact ⟨rfl, by omega⟩
      · exact absurd (hlo y t ht) (by omega)
  refine ⟨⟨hb.os, hb.tape, hb.output, hb.size, fun y hy _ => hb.block y hy, hT, hnew⟩, hb, fun y t ht => ?_, h1, ?_, ?_, Nat.le_refl _, ⟨z, h2, hz⟩, fun i x hi _ => absurd hi (by omega)⟩
  · by_cases hy : y < w.heap.size
    · omega
    · exact (hnew y t (by omega) ht).2
  · unfold mark
    rw [if_pos rfl]
  · unfold mark
    rw [if_neg (by omega), if_pos rfl]
end

end Go.Proofs.Ythbchloghbfnmaa
