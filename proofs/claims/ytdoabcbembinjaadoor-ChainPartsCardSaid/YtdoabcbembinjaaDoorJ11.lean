import Derived.Test.YtdoabcbembinjaaDoorJ10
import Derived.Shelf.Abstract
import Derived.Test.YtdoabcbembinjaaDoorJ09
import Derived.Test.YtdoabcbembinjaaDoorJ06
/- Of a claim's texts, joined: Chr Cht. No statement but in the last. -/
section
namespace Go.Proofs.YtdoabcbembinjaaDoor
open Go.RowKit Go.Shelf
set_option linter.unusedVariables false
attribute [local go_sem] Oper.semAt_some

theorem concat2_any (A1 : Option Addr) (n1 c1 : Nat) (l : List Int) (x : Int) (g G : Nat) (w : World) (h1 : Ints6 w A1 n1 l) (hA : A1 = none → c1 = 0) (hc : n1 ≤ c1) (hl : l.length ≤ 1000) (hg : Has w g 3 #[.int .i64 x]) (hG : Has w G 22 #[.slice A1 n1 c1, .slice (some ⟨g, 0, none⟩) 1 1]) :
    Calls Tryd.prog 25 #[.slice (some ⟨G, 0, none⟩) 2 2] w (FreshI w.heap.size (l ++ [x]) w) := by
  have h := concatI_any (some ⟨G, 0, none⟩) 2 2 [⟨A1, n1, c1, l⟩, ⟨some ⟨g, 0, none⟩, 1, 1, [x]⟩] w ⟨rfl, fun _ => ⟨G, 0, rfl, fun j u hj => by rw [hG.cell, Nat.zero_add]; simpa [Hi.v] using hj⟩, by
    intro y hy
    simp only [List.mem_cons, List.mem_nil_iff, or_false] at hy
    rcases hy with rfl | rfl
    · exact ⟨h1, hA, hc⟩
    · exact ⟨⟨rfl, fun _ => ⟨g, 0, rfl, fun j u hj => by rw [hg.cell, Nat.zero_add]; simpa using hj⟩⟩, (fun h => by cases h), Nat.le_refl _⟩⟩ (by simp [flatI]; omega) (by decide)
  have e : flatI [⟨A1, n1, c1, l⟩, ⟨some ⟨g, 0, none⟩, 1, 1, [x]⟩] = l ++ [x] := by simp [flatI]
  rw [e] at h
  exact h
theorem Ints6.drop1 {w : World} {g off n c : Nat} {l : List Int} (h : Ints6 w (some ⟨g, off, none⟩) n l) (hc : n ≤ c) : Ints6 w (if c = 1 then some ⟨g, off, none⟩ else some ⟨g, off + 1, none⟩) (n - 1) (l.drop 1) := by
  refine ⟨by rw [List.length_drop, ← h.len], fun hx => ?_⟩
  have hl : 1 < l.length := by
    rw [List.length_map, List.length_drop] at hx
    omega
  rw [if_neg (by have := h.len; omega)]
  obtain ⟨g', off', hA, hr⟩ := h.reads (by rw [List.length_map]; omega)
  injection hA with hA
  injection hA with e1 e2 _
  subst e1 e2
  refine ⟨g, off + 1, rfl, fun j u hj => ?_⟩
  have := hr (1 + j) u (by rw [← hj, List.map_drop, List.getElem?_drop])
  rw [← Nat.add_assoc] at this
  exact this
def PutSt (s : List UInt8) (l : List Int) (W5 : World) (P7 : Nat) (pre : List Nat) (W : World) : Prop :=
  W5.grownBy W (some P7) ∧ ∃ v q, Boxed W P7 24 v ∧ W.ownsRow W5.heap.size 31 1 v pre.length (q.map Hd.v) ∧ (∀ x ∈ q, RowH W5.heap.size W x) ∧ lq q = pgsN s l pre
theorem Has.walk {X Y : World} {g : Nat} {t : TypeId} {cs : Array Value} {row : Option Nat} (h : Has X g t cs) (hg : X.grownBy Y row) (hr : ∀ r, row = some r → ∃ o : Obj, X.heap[r]? = some o ∧ o.isCells = false) : Has Y g t cs :=
  h.grown hg (fun e => by
    obtain ⟨o, ho, hc⟩ := hr g e.symm
    rw [show X.heap[g]? = _ from h] at ho
    cases ho
    cases hc)
theorem PutSt.own (s : List UInt8) (l : List Int) (W5 : World) (P7 : Nat) : OwnFrom W5.heap.size (PutSt s l W5 P7) := by
  rintro pre X Y row ⟨hg, v, q, hv, ho, hr, hq⟩ hXY hrow
  refine ⟨only_fresh hg hXY (fun g e => (hrow g e).1), v, q, ?_, ?_, ?_, hq⟩
  · exact Has.walk (show Has X P7 24 #[v] from hv) hXY (fun r e => (hrow r e).2)
  · refine ho.kept hXY ?_
    rcases ho.2 with ⟨rfl, _⟩ | ⟨g, cap, cur, rfl, _, hgb, _⟩
    · exact .inl rfl
    · refine .inr (fun e => ?_)
      obtain ⟨_, o, ho', hc⟩ := hrow g e.symm
      rw [hgb] at ho'
      cases ho'
      cases hc
  · intro x hx
    have h := hr x hx
    exact ⟨h.len, h.pos, h.row.keep_ fun g cs _ hh => hh.walk hXY (fun r e => (hrow r e).2), h.room, h.most⟩
theorem Arg.part {w : World} {B L c : Nat} {s : List UInt8} (h : Arg w (some ⟨B, 0, none⟩) L c s) (k : Nat) : Arg w (some ⟨B, 119 * k, none⟩) (partZ L k) (partZ L k) (partL s k) := by
  have hl := h.len
  refine ⟨by rw [partL_len, ← hl], fun hx => ⟨B, 119 * k, rfl, fun j u hj => ?_⟩, fun hn a ha => ?_, Nat.le_refl _, ?_, fun h => by cases h⟩
  · have hp : 0 < s.length := by
      rw [List.length_map, partL_len] at hx
      unfold partZ at hx
      omega
    obtain ⟨g, off, hA, hc⟩ := h.reads (by rw [List.length_map]; exact hp)
    injection hA with hA
    injection hA with e1 e2 _
    subst e1 e2
    have := hc (119 * k + j) u (by
      rw [← hj]
      unfold partL
      rw [List.map_take, List.map_drop, List.getElem?_take, List.getElem?_drop, if_pos]
      have := (List.getElem?_eq_some_iff.1 hj).1
      rw [List.length_map, partL_len] at this
      unfold partZ at this
      omega)
    rw [Nat.zero_add] at this
    exact this
  · injection ha with ha
    subst ha
    have := h.old (by unfold partZ at hn; omega) ⟨B, 0, none⟩ rfl
    exact this
  · have : partZ L k ≤ 119 := Nat.min_le_right _ _
    unfold maxLen
    omega
theorem Arg.grown9 {w w' : World} {B L c P : Nat} {s : List UInt8} (h : Arg w (some ⟨B, 0, none⟩) L c s) (hL : 0 < L) (hg : w.grownBy w' (some P)) (hB : B ≠ P) : Arg w' (some ⟨B, 0, none⟩) L c s := by
  have hlt := h.old hL _ rfl
  have e := hg.block B hlt (fun e => hB (by injection e))
  refine ⟨h.len, fun hx => ?_, fun _ a ha => ?_, h.room, h.most, h.none_⟩
  · obtain ⟨g, off, hA, hc⟩ := h.reads hx
    injection hA with hA
    injection hA with e1 e2 _
    subst e1 e2
    exact ⟨B, 0, rfl, fun j u hj => (cell_heap (p := ⟨B, 0 + j, none⟩) e).trans (hc j u hj)⟩
  · injection ha with ha
    subst ha
    exact Nat.lt_of_lt_of_le hlt hg.size
theorem Tab.grown9 {w w' : World} {P : Nat} (h : Tab w) (hg : w.grownBy w' (some P)) (hP : P ≠ 0) : Tab w' := fun i hi => by
  have h0 : (0 : Nat) < w.heap.size := World.block_lt_of_cell? w (a := ⟨0, i, none⟩) (h i hi)
  exact (cell_heap (p := ⟨0, i, none⟩) (hg.block 0 h0 (fun e => hP (by injection e with e; exact e.symm)))).trans (h i hi)
theorem Boxed.grown9 {w w' : World} {B P : Nat} {t : TypeId} {v : Value} (h : Boxed w B t v) (hg : w.grownBy w' (some P)) (hP : B ≠ P) : Boxed w' B t v := h.kept hg (fun e => hP (by injection e))
theorem next_small {l : List Int} (h : okP l) (k : Nat) : ∃ y : Nat, l.getD k 0 = (y : Int) ∧ y ≤ 999 := by
  by_cases hk : k < l.length
  · have h1 := okP_pg h (k := k) (x := l.getD k 0) (by rw [List.getD_eq_getElem?_getD, List.getElem?_eq_getElem hk]; rfl)
    exact ⟨(l.getD k 0).toNat, by omega, by omega⟩
  · rw [List.getD_eq_getElem?_getD, List.getElem?_eq_none (by omega)]
    exact ⟨0, rfl, by omega⟩
theorem PutSt.step {s : List UInt8} {l : List Int} {W5 X w6 w7 : World} {P7 m Bs Bn c6 k : Nat} {pre : List Nat} {v v' : Value} {q : List Hd} {A6 : Option Addr} {page : List UInt8} {tmp : Obj}
    (hg : W5.grownBy X (some P7)) (hv : Boxed X P7 24 v) (ho : X.ownsRow W5.heap.size 31 1 v m (q.map Hd.v)) (hrq : ∀ x ∈ q, RowH W5.heap.size X x) (hq : lq q = pgsN s l pre) (hm : pre.length = m)
    (hp : pgsN s l (pre ++ [k]) = pgsN s l pre ++ [page]) (hpl : page.length = 128) (b6 : Below X.heap.size X w6) (r6 : Row w6 5 X.heap.size A6 (page.map byteV)) (g3 : 128 ≤ c6) (g4 : c6 ≤ maxLen)
    (hgrow : (w6.alloc tmp).grownBy w7 v.ownBlock) (hown' : w7.ownsRow W5.heap.size 31 1 v' (m + 1) (q.map Hd.v ++ [.slice A6 128 c6])) (hs : Bs < W5.heap.size) (hn : Bn < W5.heap.size) (h7s : P7 ≠ Bs) (h7n : P7 ≠ Bn) (h7 : P7 < W5.heap.size) :
    KeepsFrom W5.heap.size X (w7.setCell ⟨P7, 0, none⟩ v') ∧ KpC Bs Bn X (w7.setCell ⟨P7, 0, none⟩ v') ∧ PutSt s l W5 P7 (pre ++ [k]) (w7.setCell ⟨P7, 0, none⟩ v') := by
  have hv6 : Boxed w6 P7 24 v := (b6.block _ hv.lt).trans hv
  have ho6 := ceOwnBelow ho b6
  have hbase : W5.heap.size ≤ w6.heap.size := Nat.le_trans hg.size b6.size
  obtain ⟨hv1, hv2, hr2, hk2, _⟩ := hv6.appended (n₀ := 0) (by decide) (own_low ho6 (Nat.zero_le _)) (Nat.zero_le _) (Nat.zero_le _) (own_low hown' (Nat.zero_le _)) hgrow
  have hG6 : W5.grownBy w6 (some P7) := only_below hg b6
  have hG6a : W5.grownBy (w6.alloc tmp) (some P7) := only_below hG6 ((Below.refl _ w6).alloc (Nat.le_refl _) _)
  have hG7 : W5.grownBy w7 (some P7) := only_fresh hG6a hgrow (fun g e => (ho6.lt g e).1)
  have hG8 : W5.grownBy (w7.setCell ⟨P7, 0, none⟩ v') (some P7) := only_store hG7 0 v'
  have hK6 : KeepsFrom W5.heap.size X w6 := ⟨b6.size, fun k o _ hk _ => (b6.block k (Array.getElem?_eq_some_iff.1 hk).1).trans hk⟩
  have hst : ∀ x, RowH W5.heap.size w6 x → RowH W5.heap.size (w7.setCell ⟨P7, 0, none⟩ v') x := fun x h =>
    ⟨h.len, h.pos, ((h.row.alloc tmp).kept_own (ho6.alloc tmp) (by decide) hgrow).store (show Has w7 P7 24 #[v] from hv1) (by decide) 0 v', h.room, h.most⟩
  refine ⟨hK6.trans (hk2.from _), ⟨?_, ?_⟩, hG8, v', q ++ [⟨A6, 128, c6, page⟩], hv2, ?_, ?_, ?_⟩
  · rw [hG8.block Bs hs (fun e => h7s (by injection e with e; exact e.symm)), hg.block Bs hs (fun e => h7s (by injection e with e; exact e.symm))]
  · rw [hG8.block Bn hn (fun e => h7n (by injection e with e; exact e.symm)), hg.block Bn hn (fun e => h7n (by injection e with e; exact e.symm))]
  · rw [hd_snoc, List.length_append, hm]
    exact hown'.kept (grownBy_setCell' w7 P7 v') (.inr (hv1.not_row (by decide) hown').symm)
  · intro x hx
    rcases List.mem_append.1 hx with hx | hx
    · exact hst x ((hrq x hx).below b6)
    · obtain rfl := List.mem_singleton.1 hx
      exact hst _ ⟨hpl.symm, by show 0 < 128; decide, r6.low hg.size, g3, g4⟩
  · rw [lq_snoc, hq, hp]
theorem below_put9 {B : Nat} {a w : World} (h : Below B a w) {l : Nat} (hl : B ≤ l) (o : Obj) : Below B a (w.putObj l o) :=
  h.trans ⟨rfl, rfl, rfl, by simp, fun k hk => World.putObj_heap_other (by omega)⟩
theorem PutSt.fin {s : List UInt8} {l : List Int} {w W5 X : World} {P4 P5 P7 n D cv : Nat} {Av : Option Addr} {q : List Hd} (hgood : goodP s l) (hn : n = l.length)
    (hg : W5.grownBy X (some P7)) (ho : X.ownsRow W5.heap.size 31 1 (.slice Av n cv) n (q.map Hd.v)) (hrq : ∀ x ∈ q, RowH W5.heap.size X x) (hq : lq q = pgsN s l (List.range n))
    (x4 : Boxed W5 P4 24 (.slice none 0 0)) (x5 : Boxed W5 P5 25 (.int .i64 0)) (b5 : Below w.heap.size w W5) (h4 : w.heap.size ≤ P4) (h5 : w.heap.size ≤ P5) (h7 : w.heap.size ≤ P7) (h47 : P4 ≠ P7) (h57 : P5 ≠ P7) (h45 : P4 ≠ P5) (hw5 : w.heap.size ≤ W5.heap.size)
    (hD : W5.heap.size ≤ D) (hK : X.heap[D]? = some (.deferred (some []))) :
    ((X.setCell ⟨P4, 0, none⟩ (.slice Av n cv)).setCell ⟨P5, 0, none⟩ (.int .i64 0)).heap[D]? = some (.deferred (some [])) ∧
    (((X.setCell ⟨P4, 0, none⟩ (.slice Av n cv)).setCell ⟨P5, 0, none⟩ (.int .i64 0)).putObj D (.deferred none)).cell? ⟨P4, 0, none⟩ = some (.slice Av n cv) ∧
    (((X.setCell ⟨P4, 0, none⟩ (.slice Av n cv)).setCell ⟨P5, 0, none⟩ (.int .i64 0)).putObj D (.deferred none)).cell? ⟨P5, 0, none⟩ = some (.int .i64 0) ∧
    PutEnd s l w (.returned (.tuple #[.slice Av n cv, .int .i64 0])) (((X.setCell ⟨P4, 0, none⟩ (.slice Av n cv)).setCell ⟨P5, 0, none⟩ (.int .i64 0)).putObj D (.deferred none)) := by
  have y4 : Boxed X P4 24 (.slice none 0 0) := Boxed.grown9 x4 hg h47
  have y5 : Boxed X P5 25 (.int .i64 0) := Boxed.grown9 x5 hg h57
  have z4 : Boxed (X.setCell ⟨P4, 0, none⟩ (.slice Av n cv)) P4 24 (.slice Av n cv) := y4.set _
  have z5 : Boxed (X.setCell ⟨P4, 0, none⟩ (.slice Av n cv)) P5 25 (.int .i64 0) := y5.other h45.symm _
  have u4 : Boxed ((X.setCell ⟨P4, 0, none⟩ (.slice Av n cv)).setCell ⟨P5, 0, none⟩ (.int .i64 0)) P4 24 (.slice Av n cv) := z4.other h45 _
  have u5 : Boxed ((X.setCell ⟨P4, 0, none⟩ (.slice Av n cv)).setCell ⟨P5, 0, none⟩ (.int .i64 0)) P5 25 (.int .i64 0) := z5.set _
  have d4 : P4 < D := Nat.lt_of_lt_of_le x4.lt hD
  have d5 : P5 < D := Nat.lt_of_lt_of_le x5.lt hD
  have hK2 : ((X.setCell ⟨P4, 0, none⟩ (.slice Av n cv)).setCell ⟨P5, 0, none⟩ (.int .i64 0)).heap[D]? = some (.deferred (some [])) :=
    (Below.heap_setCell _ ⟨P5, 0, none⟩ _ D (show D ≠ P5 by omega)).trans ((Below.heap_setCell X ⟨P4, 0, none⟩ _ D (show D ≠ P4 by omega)).trans hK)
  have hBX : Below w.heap.size w X := ⟨hg.os.trans b5.os, hg.tape.trans b5.tape, hg.output.trans b5.output, Nat.le_trans b5.size hg.size, fun i hi => (hg.block i (by omega) (fun e => by injection e; omega)).trans (b5.block i hi)⟩
  have ho2 := (ho.kept (grownBy_setCell' X P4 (.slice Av n cv)) (.inr (y4.not_row (by decide) ho).symm))
  have ho3 := (ho2.kept (grownBy_setCell' _ P5 (.int .i64 0)) (.inr (z5.not_row (by decide) ho2).symm))
  have ho4 := ownsRow_putObj ho3 (.deferred none) hK2 rfl
  have hr4 : ∀ x ∈ q, RowH W5.heap.size (((X.setCell ⟨P4, 0, none⟩ (.slice Av n cv)).setCell ⟨P5, 0, none⟩ (.int .i64 0)).putObj D (.deferred none)) x := fun x hx => by
    have h := hrq x hx
    have r1 := h.row.store (show Has X P4 24 #[.slice none 0 0] from y4) (by decide) 0 (.slice Av n cv)
    have r2 := r1.store (show Has _ P5 25 #[.int .i64 0] from z5) (by decide) 0 (.int .i64 0)
    exact ⟨h.len, h.pos, r2.keep_ fun g cs _ hh => hh.walk (grownBy_putObj' _ D _) (fun r e => by injection e with e; subst e; exact ⟨_, hK2, rfl⟩), h.room, h.most⟩
  refine ⟨hK2, ?_, ?_, ?_⟩
  · exact Boxed.cell ((World.putObj_heap_other (by omega)).trans u4)
  · exact Boxed.cell ((World.putObj_heap_other (by omega)).trans u5)
  · obtain ⟨A', c', e, hC⟩ := CellsA.of_own ho4 (fun x hx => (hr4 x hx).arg)
    injection e with e1 e2 e3
    subst e1 e3
    have hp : putN s l = (pagesN s l, 0) := by unfold putN; rw [if_pos hgood]
    refine ⟨Av, n, cv, q, by rw [hp], hC, by rw [hp, hq, pgsN_all s l n hn], fun x hx => ?_, ?_, ?_⟩
    · have h := hr4 x hx
      exact ⟨h.len, h.pos, h.row.low hw5, h.room, h.most⟩
    · exact below_put9 ((hBX.setCell (p := ⟨P4, 0, none⟩) h4 _).setCell (p := ⟨P5, 0, none⟩) h5 _) (by omega) _
    · exact (Row.of_own ho4).low hw5
set_option maxRecDepth 100000 in
set_option maxHeartbeats 4000000 in
theorem hPut_yes (s : List UInt8) (g0 off0 : Nat) (n c : Nat) (l : List Int) (w : World) (ht : Tab w) (h : Ints6 w (some ⟨g0, off0, none⟩) n l) (hc : n ≤ c) (hcm : c ≤ maxLen) (hg : goodP s l) :
    Calls Tryd.prog 9 #[.string ⟨s.toArray⟩, .slice (some ⟨g0, off0, none⟩) n c] w (PutEnd s l w) := by
  obtain ⟨hl, hln, hok⟩ := id hg
  obtain ⟨hne, hs1, hs2⟩ := need_pos hl
  rw [Int.toNat_natCast] at hne
  have hn1 : n = needN s.length := h.len.trans hln
  have hn2 : 1 ≤ n := by omega
  have hn3 : n ≤ 4 := by omega
  obtain ⟨W, hW⟩ : ∃ W, (w.alloc (.cells #[.slice none 0 0] 24)).alloc (.cells #[.int .i64 0] 25) = W := ⟨_, rfl⟩
  have hBW : Below w.heap.size w W := hW ▸ (((Below.refl _ w).alloc (Nat.le_refl _) _).alloc (by simp) _)
  have hWs : W.heap.size = w.heap.size + 2 := by rw [← hW]; simp
  have HBW := Lib.hid hBW
  have HL := Lib.hid (isLong_any (s.length : Int) W)
  have HN := Lib.hid (hNeed_any (s.length : Int) W)
  rw [hl] at HL
  rw [← hn1] at HN
  have hA := h.below9 hBW
  have HD := Lib.hid (hDist_any _ n c l W hA (by omega) hc hcm)
  rw [decide_eq_true hok] at HD
  have hz : (⟨s.toArray⟩ : ByteArray).size = s.length := size_list s
  -- the numbers of the next pages
  obtain ⟨A1, hA1⟩ : ∃ A1, (if c = 1 then some (⟨g0, off0, none⟩ : Addr) else some ⟨g0, off0 + 1, none⟩) = A1 := ⟨_, rfl⟩
  obtain ⟨W1, hW1⟩ : ∃ W1, (W.alloc (.cells #[.int .i64 0] 3)).alloc (.cells #[.slice A1 (n - 1) (c - 1), .slice (some ⟨W.heap.size, 0, none⟩) 1 1] 22) = W1 := ⟨_, rfl⟩
  have B1 : Below W.heap.size W W1 := hW1 ▸ (((Below.refl _ W).alloc (Nat.le_refl _) _).alloc (by simp) _)
  have HB1 := Lib.hid (below_step hBW B1)
  have hlen2 : (l.drop 1 ++ [(0 : Int)]).length = n := by
    rw [List.length_append, List.length_drop, ← h.len]
    simp only [List.length_cons, List.length_nil]
    omega
  have hcc := concat2_any A1 (n - 1) (c - 1) (l.drop 1) 0 W.heap.size (W.heap.size + 1) W1 ((hA1 ▸ hA.drop1 hc).below9 B1) (fun e => by rw [← hA1] at e; split at e <;> cases e) (by omega) (by rw [List.length_drop, ← h.len]; omega) (hW1 ▸ (Has.made W 3 #[.int .i64 0]).alloc _) (hW1 ▸ (by have := Has.made (W.alloc (.cells #[.int .i64 0] 3)) 22 #[.slice A1 (n - 1) (c - 1), .slice (some ⟨W.heap.size, 0, none⟩) 1 1]; simpa using this))
  have HNX : Hid (∀ k, k < n → (l.drop 1 ++ [(0 : Int)])[k]? = some (l.getD (k + 1) 0)) := Lib.hid (fun k hk => by
    by_cases hk1 : k + 1 < l.length
    · rw [List.getElem?_append_left (by rw [List.length_drop]; omega), List.getElem?_drop, List.getD_eq_getElem?_getD, show 1 + k = k + 1 by omega, List.getElem?_eq_getElem hk1]
      rfl
    · have e1 : k = l.length - 1 := by have := h.len; omega
      rw [List.getElem?_append_right (by rw [List.length_drop]; omega), List.length_drop, List.getD_eq_getElem?_getD, List.getElem?_eq_none (by omega : l.length ≤ k + 1), show k - (l.length - 1) = 0 by omega]
      rfl)
  unfold FreshI at hcc
  rw [hlen2] at hcc
  generalize l.drop 1 ++ [(0 : Int)] = nx at hcc HNX hlen2
  have HCC := Lib.hid hcc
  have HW1 := Lib.hid hW1
  have HNL := Lib.hid hlen2
  have HB1S := Lib.hid B1
  clear hcc hW1 hlen2 B1 hBW
  have HW := Lib.hid hW
  have HWS := Lib.hid hWs
  have HN1 := Lib.hid hn1
  have HGD := Lib.hid hg
  have HLN := Lib.hid h.len
  have HA := Lib.hid hA
  clear hW hWs hg hne hln hn1 h hA
  obtain ⟨sb, hsb⟩ : ∃ sb : ByteArray, (⟨s.toArray⟩ : ByteArray) = sb := ⟨_, rfl⟩
  rw [hsb] at hz ⊢
  have HCV : Hid (∀ w1 : World, ∃ c W, (convert 9 31 (.string sb)).run Tryd.prog w1 = .ok (.slice (some ⟨w1.heap.size, 0, none⟩) s.length c) W ∧ Arg W (some ⟨w1.heap.size, 0, none⟩) s.length c s ∧ Below w1.heap.size w1 W) := Lib.hid (fun w1 => by rw [← hsb]; exact conv_arg9 w1 s (by omega))
  have HCH := Lib.hid (fun A n c w1 => chunk_any A n c w1)
  clear hsb
  refine (callsIn_wide (n := 5)).1 ?_
  refine callsIn_of_wp_marks Tryd.func9 rfl trivial ?_ rfl
  simp only [Tryd.ntmps9, List.size_toArray, List.length_cons, List.length_nil, Nat.reduceAdd, Nat.reduceSub, Array.replicate_succ, Array.replicate_zero, List.push_toArray, List.append_toArray, List.nil_append, List.cons_append]
  gi_wp2_with (first
    | (refine ⟨trivial, ?_⟩; gi_at_call 23; go_loud ((try rw [HW.out]); refine (callsIn_wide.2 HL.out).mono ?_; rintro e w1 ⟨rfl, rfl⟩))
    | (refine ⟨trivial, ?_⟩; gi_at_call 11; go_loud (refine (callsIn_wide.2 HN.out).mono ?_; rintro e w1 ⟨rfl, rfl⟩))
    | (refine ⟨trivial, ?_⟩; gi_at_call 24; go_loud (refine (callsIn_wide.2 HD.out).mono ?_; rintro e w1 ⟨rfl, rfl⟩))
    | (refine ⟨trivial, ?_⟩; gi_at_call 25; go_loud ((try rw [HW1.out]); refine (callsIn_wide.2 HCC.out).mono ?_; rintro e w2 ⟨A2, c2, rfl, g1, g2, r2, b2⟩; have R2 := Lib.hid r2; have B2 := Lib.hid (below_step HB1.out b2); have BW2 := Lib.hid (below_step HB1S.out b2); obtain ⟨W3, hW3⟩ : ∃ W3, (w2.alloc (.cells #[.slice A2 n c2] 22)).alloc (.cells #[.slice none 0 0] 24) = W3 := ⟨_, rfl⟩; have hs3 : W3.heap.size = w2.heap.size + 2 := (by rw [← hW3]; simp); obtain ⟨cB, W4, hcv, hca, hcb⟩ := HCV.out W3; have CA := Lib.hid hca; have CB := Lib.hid hcb; rw [hs3, ← hW3] at hcv; have HW3 := Lib.hid hW3; have HS3 := Lib.hid hs3; clear r2 b2 hca hcb hW3 hs3))
    | (refine ⟨trivial, ?_⟩; gi_at_call 26; go_loud (refine (callsIn_wide.2 (HCH.out _ _ _ _)).mono ?_; rintro e w5 ⟨rfl, rfl⟩)))
  obtain ⟨W5, hW5⟩ : ∃ W5, (W4.alloc (.cells #[.slice (some ⟨w2.heap.size + 2, 0, none⟩) s.length cB] 31)).alloc (.cells #[.int .i64 119] 3) = W5 := ⟨_, rfl⟩
  rw [hW5]
  have b45 : Below W4.heap.size W4 W5 := hW5 ▸ (((Below.refl _ W4).alloc (Nat.le_refl _) _).alloc (by simp) _)
  have b23 : Below w2.heap.size w2 W3 := HW3.out ▸ (((Below.refl _ w2).alloc (Nat.le_refl _) _).alloc (by simp) _)
  have b35 : Below W3.heap.size W3 W5 := below_step CB.out b45
  have b25 : Below w2.heap.size w2 W5 := below_step b23 b35
  have b5 : Below w.heap.size w W5 := below_step B2.out b25
  have s5 : W5.heap.size = W4.heap.size + 2 := by rw [← hW5]; simp
  have s3 := HS3.out
  have s34 := CB.out.size
  have sw := HWS.out
  have sw1 := HB1S.out.size
  have sw2 := B2.out.size
  have bs : Boxed W5 W4.heap.size 31 (.slice (some ⟨w2.heap.size + 2, 0, none⟩) s.length cB) := hW5 ▸ (Boxed.new W4 31 _).alloc _
  have bn : Boxed W5 (W4.heap.size + 1) 3 (.int .i64 119) := hW5 ▸ (by have := Boxed.new (W4.alloc (.cells #[.slice (some ⟨w2.heap.size + 2, 0, none⟩) s.length cB] 31)) 3 (.int .i64 119); simpa using this)
  have x6 : Boxed W5 w2.heap.size 22 (.slice A2 n c2) := (b35.block _ (by omega)).trans (show Boxed W3 w2.heap.size 22 (.slice A2 n c2) from HW3.out ▸ (Boxed.new w2 22 _).alloc _)
  have x7 : Boxed W5 (w2.heap.size + 1) 24 (.slice none 0 0) := (b35.block _ (by omega)).trans (show Boxed W3 (w2.heap.size + 1) 24 (.slice none 0 0) from HW3.out ▸ (by have := Boxed.new (w2.alloc (.cells #[.slice A2 n c2] 22)) 24 (.slice none 0 0); simpa using this))
  have bw5 : Below W.heap.size W W5 := below_step BW2.out b25
  have x4 : Boxed W5 w.heap.size 24 (.slice none 0 0) := (bw5.block _ (by omega)).trans (show Boxed W w.heap.size 24 (.slice none 0 0) from HW.out ▸ (Boxed.new w 24 _).alloc _)
  have x5 : Boxed W5 (w.heap.size + 1) 25 (.int .i64 0) := (bw5.block _ (by omega)).trans (show Boxed W (w.heap.size + 1) 25 (.int .i64 0) from HW.out ▸ (by have := Boxed.new (w.alloc (.cells #[.slice none 0 0] 24)) 25 (.int .i64 0); simpa using this))
  have rN : Row W5 3 w.heap.size A2 (nx.map (Value.int .i64)) := (R2.out.below b25).low (by omega)
  have aB : Arg W5 (some ⟨w2.heap.size + 2, 0, none⟩) s.length cB s := by have := CA.out.below b45; rw [s3] at this; exact this
  have hcB := aB.room
  have hcBm := aB.most
  have h1 : 1 ≤ 5 := by omega
  have hmn : (s.length + 118) / 119 = n := by
    have := HN1.out
    unfold needN at this
    rw [if_pos ⟨hs1, hs2⟩, Int.toNat_natCast] at this
    exact this.symm
  have hseq := chunk_stops 4 (by omega) W4.heap.size (W4.heap.size + 1) (w2.heap.size + 2) s.length cB (by omega) (by omega) hcB hcBm W5 bs.cell bn.cell
  rw [hmn] at hseq
  have hT5 := ht.below b5
  have sw3 := BW2.out.size
  have sB : W3.heap.size < W4.heap.size := CA.out.old (by omega) _ rfl
  have ks : W4.heap.size < W5.heap.size := bs.lt
  have kn : W4.heap.size + 1 < W5.heap.size := by omega
  have kfacts : w.heap.size < w2.heap.size ∧ w.heap.size + 1 < w2.heap.size ∧ w.heap.size ≠ w.heap.size + 1 ∧ w2.heap.size + 1 < w2.heap.size + 2 ∧ w2.heap.size + 2 < W4.heap.size ∧ w2.heap.size + 1 ≠ W4.heap.size ∧ w2.heap.size + 1 ≠ W4.heap.size + 1 ∧ w2.heap.size ≠ w2.heap.size + 1 ∧ w2.heap.size < w2.heap.size + 1 := by omega
  obtain ⟨k4, k5, k45, k7, kB, k7s, k7n, k67, k6⟩ := kfacts
  have HL5 : Hid (w.heap.size ≤ W5.heap.size) := Lib.hid (by omega)
  have HP7 : Hid (w.heap.size ≤ w2.heap.size + 1) := Lib.hid (by omega)
  have HS := Lib.hid (show w.heap.size + 1 < w2.heap.size from by omega)
  clear s5 s3 s34 sw sw1 sw2 sw3 sB HW3 HS3 hW5 HWS
  generalize w2.heap.size + 2 = B at *
  generalize w2.heap.size + 1 = P7 at *
  generalize w2.heap.size = P6 at *
  generalize W4.heap.size + 1 = Bn at *
  generalize W4.heap.size = Bs at *
  obtain ⟨P5, hP5⟩ : ∃ P5, w.heap.size + 1 = P5 := ⟨_, rfl⟩
  obtain ⟨P4, hP4⟩ : ∃ P4, w.heap.size = P4 := ⟨_, rfl⟩
  rw [hP5] at x5 k5 k45 ⊢
  rw [hP4] at x4 k4 k45 ⊢
  have hP70 : P7 ≠ 0 := by
    have h0 := World.block_lt_of_cell? w (a := ⟨0, 0, none⟩) (ht 0 (by omega))
    have := HP7.out
    simp only at h0
    omega
  have HPP := Lib.hid (fun A n c lb x w1 ht h hl hx => hPutPart_any A n c lb x w1 ht h hl hx)
  obtain ⟨j0, hj, jz0, jz1, jz2⟩ := info_parts (show (Tryd.prog.info? 31).map (fun i => (i.zero, i.size, i.bytes)) = some (some (.slice none 0 0), 1, 24) by kernel_rfl)
  refine wpIn_rangeFunc_ownG rfl h1 (gf := 48) (lb := #[.pointer (some ⟨Bs, 0, none⟩), .pointer (some ⟨Bn, 0, none⟩)]) rfl trivial (enters_of Tryd.func48 (by kernel_rfl) rfl)
    hseq (fun {A B C} (h : KpC Bs Bn A B) (k : KpC Bs Bn B C) => ⟨k.1.trans h.1, k.2.trans h.2⟩)
    (fun W lp o o' hlp _ _ _ => ⟨World.putObj_heap_other (by omega), World.putObj_heap_other (by omega)⟩) (Below.refl _ _) (fun _ => rfl)
    (PutSt s l W5 P7) (fun _ _ _ => False) (PutSt.own s l W5 P7) (fun _ _ _ _ _ hs _ _ => hs)
    ⟨only_refl _ _, _, [], x7, World.ownsRow_nil _ _ _ _, (by intro x hx; cases hx), rfl⟩
    (fun (k : Nat) => { tmps := #[Value.string sb, Value.slice (some ⟨g0, off0, none⟩) n c, undef, undef, Value.pointer (some ⟨P4, 0, none⟩), Value.pointer (some ⟨P5, 0, none⟩), Value.pointer (some ⟨P6, 0, none⟩), Value.pointer (some ⟨P7, 0, none⟩), Value.slice (some ⟨B, 119 * k, none⟩) (partZ s.length k) (partZ s.length k), undef, undef, Value.string sb, Value.int IntKind.i64 (s.length : Int), Value.bool true, Value.bool false, Value.bool false, Value.slice (some ⟨g0, off0, none⟩) n c, Value.int IntKind.i64 (n : Int), Value.string sb, Value.int IntKind.i64 (s.length : Int), Value.int IntKind.i64 (n : Int), Value.bool false, Value.bool false, Value.bool false, Value.slice (some ⟨g0, off0, none⟩) n c, Value.bool true, Value.bool false, Value.bool false, Value.slice (some ⟨g0, off0, none⟩) n c, Value.slice A1 (n - 1) (c - 1), Value.slice (some ⟨W.heap.size, 0, none⟩) 1 1, Value.slice (some ⟨W.heap.size + 1, 0, none⟩) 2 2, Value.slice A2 n c2, Value.string sb, Value.slice (some ⟨B, 0, none⟩) s.length cB, Value.func (Fn.func 48) #[] #[Value.pointer (some ⟨Bs, 0, none⟩), Value.pointer (some ⟨Bn, 0, none⟩)], Value.slice (some ⟨B, 119 * k, none⟩) (partZ s.length k) (partZ s.length k), undef, undef, undef, undef, undef, undef, undef, undef, undef, undef, undef, undef, undef, undef, undef, undef, undef, undef], defers := [] }) ?assign ?body ?done ?stop
  case assign =>
    intro lp k Wx K hK
    unfold encC
    gi_wp2
    exact hK
  case body =>
    rintro lp pre k X ⟨hg, v, q, hv, ho, hrq, hq⟩ hlt
    obtain ⟨Av, cv, rfl, hvc, hvm⟩ := own_by9 ho
    have hb6 := Boxed.grown9 x6 hg k67
    have aX := (aB.grown9 (by omega) hg (by omega)).part k
    have tX := hT5.grown9 hg hP70
    obtain ⟨y, hy, hy2⟩ := next_small hok (pre.length + 1)
    have hnx := HNX.out pre.length hlt
    have hc6 := hb6.cell
    have hc7 := hv.cell
    obtain ⟨gN, oN, csN, rfl, _, hgN, hcN⟩ := rN (by rw [List.length_map, HNL.out]; omega)
    have hgNX : Has X gN 3 csN := (hg.block gN hgN.lt (fun e => by
      injection e with e
      subst e
      exact Has.apart hgN (show Has W5 gN 24 #[.slice none 0 0] from x7) (by decide) rfl)).trans hgN
    have hcn : X.cell? ⟨gN, oN + pre.length, none⟩ = some (.int .i64 (y : Int)) := by
      rw [hgNX.cell]
      exact hcN _ _ (by rw [List.getElem?_map, hnx, Option.map_some, hy])
    obtain ⟨pz, hpz⟩ : ∃ pz, partZ s.length k = pz := ⟨_, rfl⟩
    rw [hpz] at aX ⊢
    have hpz2 : pz ≤ 119 := by rw [← hpz]; exact Nat.min_le_right _ _
    obtain ⟨off, hoff⟩ : ∃ off, 119 * k = off := ⟨_, rfl⟩
    rw [hoff] at aX ⊢
    obtain ⟨m, hm⟩ : ∃ m, pre.length = m := ⟨_, rfl⟩
    rw [hm] at ho hv hc7 hcn hlt
    have HPK := Lib.hid (HPP.out _ pz pz (partL s k) y X tX aX hpz2 hy2)
    have HO := Lib.hid ho
    have HV := Lib.hid hv
    have HG := Lib.hid hg
    have HRQ := Lib.hid hrq
    have HQ := Lib.hid hq
    have HM := Lib.hid hm
    have HY := Lib.hid hy
    have hmn4 : m ≤ 4 := by omega
    have hmI : (m : Int) < (n : Int) := by omega
    have m0 : (0 : Int) ≤ (m : Int) := by omega
    obtain ⟨page, hpage⟩ : ∃ page, cPage 3 [numB y 2 ++ partL s k] = page := ⟨_, rfl⟩
    have HPL : Hid (page.length = 128) := Lib.hid (by
      rw [← hpage]
      refine cPage_len _ _ ?_
      have := partL_len s k
      simp only [cSz, List.length_append, numB_len]
      omega)
    have HPG : Hid (pgsN s l (pre ++ [k]) = pgsN s l pre ++ [page]) := Lib.hid (by
      rw [pgsN_snoc, ← hpage, hm, show l.getD (m + 1) 0 = (y : Int) by rw [← hm]; exact hy, Int.toNat_natCast])
    unfold PackOk at HPK
    rw [hpage] at HPK
    clear hpz hoff hm ho hv hg hrq hq hy hpage aX tX hb6 hnx hgNX hcN hgN
    gi_wp2_with (first
      | (refine ⟨trivial, ?_⟩; gi_at_call 27; go_loud (refine (CallsIn.inRound lp (callsIn_wide.2 HPK.out)).mono ?_; rintro e w6 ⟨A6, c6, rfl, g3, g4, r6, b6⟩; have R6 := Lib.hid r6; have B6 := Lib.hid b6; have hv6 := Lib.hid (show Boxed w6 P7 24 (.slice Av m cv) from (b6.block _ HV.out.lt).trans HV.out); have hc76 := hv6.out.cell; have O6 := Lib.hid (ceOwnBelow HO.out b6); clear r6 b6))
      | (gi_at_builtin; go_loud (refine wpListIn_append_own _ rfl _ _ 24 rfl W5.heap.size 31 j0 (.slice none 0 0) 1 24 Tryd.underlying24 hj jz0 jz1 jz2 rfl (by decide) _ _ _ rfl (O6.out.alloc _) ⟨w6.heap.size, 0, none⟩ 1 1 [.slice A6 128 c6] rfl rfl (lies_one9 _ _ _) (by simp [Value.oneCell']) (by unfold maxLen; omega) (by omega) (Nat.le_trans (Nat.le_trans HG.out.size B6.out.size) (by simp)) ?_; intro v' w7 hown' hgrow _; obtain ⟨g', cap', rfl⟩ := ownsRow_succ hown'; have hfin := PutSt.step (Bs := Bs) (Bn := Bn) (k := k) HG.out HV.out HO.out HRQ.out HQ.out HM.out HPG.out HPL.out B6.out R6.out g3 g4 hgrow hown' ks kn k7s k7n x7.lt; have hv1 := (hv6.out.appended (n₀ := 0) (by decide) (own_low O6.out (Nat.zero_le _)) (Nat.zero_le _) (Nat.zero_le _) (own_low hown' (Nat.zero_le _)) hgrow).1; have hc1 := hv1.cell; have hf1 := hv1.frozen; have HFIN := Lib.hid hfin; clear hfin hv1 hown' hgrow)))
    exact HFIN.out
  case done =>
    rintro D ys X hD rfl ⟨hg, v, q, hv, ho, hrq, hq⟩ hK
    rw [List.length_range] at ho
    obtain ⟨Av, cv, rfl, hvc, hvm⟩ := own_by9 ho
    obtain ⟨f1, f2, f3, f4⟩ := PutSt.fin HGD.out HLN.out hg ho hrq hq x4 x5 b5 (Nat.le_of_eq hP4) (by rw [← hP5]; exact Nat.le_succ _) HP7.out (by omega) (by omega) k45 HL5.out hD hK
    have y4 : Boxed X P4 24 (.slice none 0 0) := Boxed.grown9 x4 hg (by omega)
    have y5 : Boxed X P5 25 (.int .i64 0) := Boxed.grown9 x5 hg (by omega)
    have z5 : Boxed (X.setCell ⟨P4, 0, none⟩ (.slice Av n cv)) P5 25 (.int .i64 0) := y5.other k45.symm _
    have c4 := y4.cell
    have c7 := hv.cell
    have fr4 := y4.frozen
    have c5 := z5.cell
    have fr5 := z5.frozen
    have F1 := Lib.hid f1
    have F2 := Lib.hid f2
    have F3 := Lib.hid f3
    have F4 := Lib.hid f4
    clear f1 f2 f3 f4 hg ho hrq hq y4 y5 z5 hv
    gi_wp2
    refine ⟨by simp, .inl ⟨_, _, rfl, run_takeDeferred F1.out, ?_⟩⟩
    refine ⟨.tuple #[.slice Av n cv, .int .i64 0], ?_, F4.out⟩
    simp [results, Tryd.f9, go_sem, F2.out, F3.out]
  case stop =>
    rintro D c pre W _ _ h _
    exact h.elim
theorem hPut_any (s : List UInt8) (A : Option Addr) (n c : Nat) (l : List Int) (w : World) (ht : Tab w) (hs : s.length ≤ 1000000) (h : Ints6 w A n l) (hn : n ≤ 1000000) (hc : n ≤ c) (hcm : c ≤ maxLen) :
    Calls Tryd.prog 9 #[.string ⟨s.toArray⟩, .slice A n c] w (PutEnd s l w) := by
  by_cases hg : goodP s l
  · obtain ⟨g, off, rfl⟩ : ∃ g off, A = some ⟨g, off, none⟩ := by
      obtain ⟨g, off, e, _⟩ := h.reads (by
        rw [List.length_map, hg.2.1]
        have := (lg_need s.length).1 hg.1
        omega)
      exact ⟨g, off, e⟩
    exact hPut_yes s g off n c l w ht h hc hcm hg
  · exact hPut_no s A n c l w hs h hn hc hcm hg
end Go.Proofs.YtdoabcbembinjaaDoor
end

section
namespace Go.Proofs.YtdoabcbembinjaaDoor
open Go.RowKit
set_option linter.unusedVariables false

def gpN (b : List UInt8) (er : Int) (z : Nat) : List UInt8 × Int × Int :=
  if er ≠ 0 then ([], 0, er) else if (unpN b).2.2 ≠ 0 then ([], 0, (unpN b).2.2) else if (unpN b).1 ≠ 3 ∨ (unpN b).2.1.length ≠ 1 ∨ ((unpN b).2.1.headD []).length ≠ 2 + z then ([], 0, 11) else (restN b, nextN b, 0)
def GpEnd (r : List UInt8 × Int × Int) (w : World) (e : Ending) (w' : World) : Prop := e = .returned (.tuple #[.string ⟨r.1.toArray⟩, .int .i64 r.2.1, .int .i64 r.2.2]) ∧ Below w.heap.size w w'
theorem arg_content {w : World} {g : Nat} {l : List UInt8} (h : Has w g 114 (l.map byteV).toArray) (hl : l.length = 128) : Arg w (some ⟨g, 0, none⟩) 128 128 l :=
  ⟨hl.symm, fun _ => ⟨g, 0, rfl, fun j u hj => by rw [h.cell, Nat.zero_add]; simpa using hj⟩, fun _ a ha => by injection ha with ha; subst ha; exact h.lt, Nat.le_refl _, by unfold maxLen; omega, fun h => by cases h⟩
theorem numOf2_lt (l : List UInt8) : numOf (l.take 2) < 65536 := by
  have := numOf_take_lt l 2 2 (Nat.le_refl _)
  simpa using this
theorem lq_one {q : List Hd} {c : List UInt8} (h : lq q = [c]) : ∃ hd, q = [hd] ∧ hd.l = c := by
  rcases q with _ | ⟨hd, _ | ⟨x, r⟩⟩
  · cases h
  · exact ⟨hd, rfl, by simpa [lq] using h⟩
  · simp [lq] at h
section
variable {w : World} {T : Tg} {d D A : Nat} {rs : List Rg}
set_option maxRecDepth 100000 in
set_option maxHeartbeats 2000000 in
theorem hGetPart_any (x p : Int) (z : Nat) (ht : Tab w) (h : Dk w T d D A rs) (hz1 : z ≤ 119) :
    Calls Tryd.prog 40 #[.pointer (some ⟨D, 0, none⟩), .int .i64 x, .int .i64 p, .int .i64 z] w (GpEnd (gpN (rdL rs x p) (rdE rs x p) z) w) := by
  have HRD := Lib.hid (Read_any x p h)
  have HT := Lib.hid ht
  generalize rdL rs x p = b at HRD ⊢
  generalize rdE rs x p = er at HRD ⊢
  clear h ht
  by_cases he : er = 0
  · subst he
    have HUN : Hid (∀ w1 A1, Tab w1 → Arg w1 A1 128 128 b → Calls Tryd.prog 57 #[.slice A1 128 128] w1 (UnpEnd (unpN b) w1)) := Lib.hid (fun w1 A1 ht h => ceUnpack_any A1 128 128 b w1 ht h)
    obtain ⟨⟨kd, cs, e2⟩, hu⟩ : ∃ u, unpN b = u := ⟨_, rfl⟩
    have hkb : (0 : Int) ≤ (kd.toNat : Int) := by omega
    rw [hu] at HUN
    by_cases he2 : e2 = 0
    · subst he2
      by_cases hk : kd = 3
      · subst hk
        by_cases hc1 : cs.length = 1
        · obtain ⟨c, rfl⟩ : ∃ c, cs = [c] := by
            rcases cs with _ | ⟨c, _ | ⟨d, r⟩⟩
            · cases hc1
            · exact ⟨c, rfl⟩
            · simp at hc1
          by_cases hc2 : c.length = 2 + z
          · have HG : Hid (gpN b 0 z = (c.drop 2, ((numOf (c.take 2) : Nat) : Int), 0)) := Lib.hid (by
              unfold gpN
              rw [if_neg (by simp), hu, if_neg (by simp), if_neg (by simp [hc2]), restN_eq hu, nextN_eq hu])
            rw [HG.out]
            have hnl := numOf2_lt c
            have HTK : Hid (∀ A n c2 w1, n = c.length → Reads w1 A (c.map byteV) → Calls Tryd.prog 58 #[.slice A n c2] w1 (Made w1.heap.size c w1)) := Lib.hid (fun A n c2 w1 e h => by subst e; exact Take_any A c2 c w1 (by omega) h)
            have HTN : Hid (∀ base P w1, Tk w1 base P c 0 → Calls Tryd.prog 59 #[.pointer (some ⟨P, 0, none⟩), .int .i64 2] w1 (NumEnd base P w1 (numOf (c.take 2)) (c.drop 2) 0)) := Lib.hid (fun base P w1 h => by
              have := tNum_any base P c 0 2 w1 h
              have e : stN c 0 2 = (numOf (c.take 2), c.drop 2, 0) := by
                unfold stN
                rw [if_neg (by simp), if_neg (by decide), if_neg (by omega)]
                rfl
              rw [e] at this
              exact this)
            have HTR : Hid (∀ base P w1, Tk w1 base P (c.drop 2) 0 → Calls Tryd.prog 60 #[.pointer (some ⟨P, 0, none⟩)] w1 (BytEnd base P w1 (c.drop 2) [] 0)) := Lib.hid (fun base P w1 h => by
              have := tRest_any base P (c.drop 2) 0 w1 h (by rw [List.length_drop]; omega)
              have e : stS (c.drop 2) 0 (c.drop 2).length = (c.drop 2, [], 0) := by
                unfold stS
                rw [if_neg (by simp), if_neg (by omega), List.take_length, List.drop_length]
              rw [e] at this
              exact this)
            generalize numOf (c.take 2) = nx at *
            have hnx : nx < 65536 := hnl
            have hnw : (nx : Int) ≤ 9223372036854775807 := by omega
            have HC2 := Lib.hid hc2
            generalize c.drop 2 = rs2 at *
            clear hu hc2 hc1
            go_enter Tryd.func40, Tryd.ntmps40
            go_wp2_with (first
              | (go_at_call 56; go_loud ((with_reducible refine HRD.out.mono ?_); rintro e w1 ⟨b1, h1 | h1⟩; exact absurd rfl h1.1; obtain ⟨_, g, rfl, hg1, hg2, hg3⟩ := h1; have R1 := Lib.hid (arg_content hg2 hg3); have B1 := Lib.hid b1; clear b1 hg2 hg3))
              | (go_at_call 57; go_loud ((with_reducible refine (HUN.out _ _ (HT.out.below B1.out) R1.out).mono ?_); rintro e w2 ⟨A2, n2, c2, q2, rfl, hq1, hq2, b2⟩; have B2 := Lib.hid (below_step B1.out b2); change lq q2 = [c] at hq2; obtain ⟨hd, rfl, rfl⟩ := lq_one hq2; obtain ⟨gq, oq, rfl, cq⟩ := hq1.at (k := 0) (by simp); have hql := hq1.len; simp only [List.length_cons, List.length_nil, Nat.zero_add, Nat.add_zero, List.getElem_cons_zero] at hql cq; subst hql; have A3 := Lib.hid (hq1.hdr (k := 0) (by simp)); have hdl := A3.out.len; simp only [List.getElem_cons_zero] at hdl A3; have HDL := Lib.hid hdl; have hne : ((hd.n : Int) != 2 + (z : Int)) = false := (by have := HC2.out; simp only [bne_eq_false_iff_eq]; omega); clear hdl b2))
              | (go_at_call 58; go_loud ((with_reducible refine (HTK.out _ _ _ _ HDL.out A3.out.reads).mono ?_); rintro e w3 ⟨P, rfl, t1, b3⟩; have T1 := Lib.hid t1; have B3 := Lib.hid (below_step B2.out b3); have HPb := Lib.hid (tk_base t1); clear t1 b3))
              | (go_at_call 59; go_loud ((with_reducible refine (HTN.out _ _ _ T1.out).mono ?_); rintro e w4 ⟨rfl, t2, g4⟩; have T2 := Lib.hid t2; have B4 := Lib.hid (B3.out.trans (below_only g4 (Nat.le_trans B2.out.size HPb.out) B3.out.size)); clear t2 g4))
              | (go_at_call 60; go_loud ((with_reducible refine (HTR.out _ _ _ T2.out).mono ?_); rintro e w5 ⟨⟨A5, c5, rfl, _, _, r5⟩, _, g5⟩; have hst := str_row (c := c5) rfl r5; have B5 := Lib.hid (B4.out.trans (below_only g5 (Nat.le_trans B2.out.size HPb.out) B4.out.size)); clear r5 g5)))
            go_ret3
            exact ⟨rfl, B5.out⟩
          · have HG : Hid (gpN b 0 z = ([], 0, 11)) := Lib.hid (by
              unfold gpN
              rw [if_neg (by simp), hu, if_neg (by simp), if_pos (by right; right; exact hc2)])
            rw [HG.out]
            clear hu hc1
            go_enter Tryd.func40, Tryd.ntmps40
            go_wp2_with (first
              | (go_at_call 56; go_loud ((with_reducible refine HRD.out.mono ?_); rintro e w1 ⟨b1, h1 | h1⟩; exact absurd rfl h1.1; obtain ⟨_, g, rfl, hg1, hg2, hg3⟩ := h1; have R1 := Lib.hid (arg_content hg2 hg3); have B1 := Lib.hid b1; clear b1 hg2 hg3))
              | (go_at_call 57; go_loud ((with_reducible refine (HUN.out _ _ (HT.out.below B1.out) R1.out).mono ?_); rintro e w2 ⟨A2, n2, c2, q2, rfl, hq1, hq2, b2⟩; have B2 := Lib.hid (below_step B1.out b2); change lq q2 = [c] at hq2; obtain ⟨hd, rfl, rfl⟩ := lq_one hq2; obtain ⟨gq, oq, rfl, cq⟩ := hq1.at (k := 0) (by simp); have hql := hq1.len; simp only [List.length_cons, List.length_nil, Nat.zero_add, Nat.add_zero, List.getElem_cons_zero] at hql cq; subst hql; have A3 := Lib.hid (hq1.hdr (k := 0) (by simp)); have hdl := A3.out.len; simp only [List.getElem_cons_zero] at hdl A3; have hne : ((hd.n : Int) != 2 + (z : Int)) = true := (by simp only [bne_iff_ne, ne_eq]; omega); clear hdl A3; clear b2)))
            go_ret3
            exact ⟨rfl, B2.out⟩
        · have HG : Hid (gpN b 0 z = ([], 0, 11)) := Lib.hid (by
            unfold gpN
            rw [if_neg (by simp), hu, if_neg (by simp), if_pos (Or.inr (Or.inl hc1))])
          rw [HG.out]
          clear hu
          go_enter Tryd.func40, Tryd.ntmps40
          go_wp2_with (first
            | (go_at_call 56; go_loud ((with_reducible refine HRD.out.mono ?_); rintro e w1 ⟨b1, h1 | h1⟩; exact absurd rfl h1.1; obtain ⟨_, g, rfl, hg1, hg2, hg3⟩ := h1; have R1 := Lib.hid (arg_content hg2 hg3); have B1 := Lib.hid b1; clear b1 hg2 hg3))
            | (go_at_call 57; go_loud ((with_reducible refine (HUN.out _ _ (HT.out.below B1.out) R1.out).mono ?_); rintro e w2 ⟨A2, n2, c2, q2, rfl, hq1, hq2, b2⟩; have B2 := Lib.hid (below_step B1.out b2); change lq q2 = cs at hq2; have hne : ((n2 : Int) != 1) = true := (by have := congrArg List.length hq2; rw [lq_len, ← hq1.len] at this; simp only [bne_iff_ne, ne_eq]; omega); clear hq1 hq2; clear b2)))
          go_ret3
          exact ⟨rfl, B2.out⟩
      · have HG : Hid (gpN b 0 z = ([], 0, 11)) := Lib.hid (by
          unfold gpN
          rw [if_neg (by simp), hu, if_neg (by simp), if_pos (Or.inl hk)])
        rw [HG.out]
        have hne : ((kd.toNat : Int) != 3) = true := by
          simp only [bne_iff_ne, ne_eq]
          exact fun e => hk (UInt8.toNat_inj.1 (by rw [show kd.toNat = 3 by omega]; rfl))
        clear hk hu
        go_enter Tryd.func40, Tryd.ntmps40
        go_wp2_with (first
          | (go_at_call 56; go_loud ((with_reducible refine HRD.out.mono ?_); rintro e w1 ⟨b1, h1 | h1⟩; exact absurd rfl h1.1; obtain ⟨_, g, rfl, hg1, hg2, hg3⟩ := h1; have R1 := Lib.hid (arg_content hg2 hg3); have B1 := Lib.hid b1; clear b1 hg2 hg3))
          | (go_at_call 57; go_loud ((with_reducible refine (HUN.out _ _ (HT.out.below B1.out) R1.out).mono ?_); rintro e w2 ⟨A2, n2, c2, q2, rfl, hq1, hq2, b2⟩; have B2 := Lib.hid (below_step B1.out b2); clear hq1 hq2; clear b2)))
        go_ret3
        exact ⟨rfl, B2.out⟩
    · have HG : Hid (gpN b 0 z = ([], 0, e2)) := Lib.hid (by
        unfold gpN
        rw [if_neg (by simp), hu, if_pos he2])
      rw [HG.out]
      have hne : (e2 != 0) = true := by simpa using he2
      clear he2 hu
      go_enter Tryd.func40, Tryd.ntmps40
      go_wp2_with (first
        | (go_at_call 56; go_loud ((with_reducible refine HRD.out.mono ?_); rintro e w1 ⟨b1, h1 | h1⟩; exact absurd rfl h1.1; obtain ⟨_, g, rfl, hg1, hg2, hg3⟩ := h1; have R1 := Lib.hid (arg_content hg2 hg3); have B1 := Lib.hid b1; clear b1 hg2 hg3))
        | (go_at_call 57; go_loud ((with_reducible refine (HUN.out _ _ (HT.out.below B1.out) R1.out).mono ?_); rintro e w2 ⟨A2, n2, c2, q2, rfl, _, _, b2⟩; have B2 := Lib.hid (below_step B1.out b2); clear b2)))
      go_ret3
      exact ⟨rfl, B2.out⟩
  · have HG : Hid (gpN b er z = ([], 0, er)) := Lib.hid (by unfold gpN; rw [if_pos he])
    rw [HG.out]
    have hne : (er != 0) = true := by simpa using he
    go_enter Tryd.func40, Tryd.ntmps40
    go_wp2_with (go_at_call 56; go_loud ((with_reducible refine HRD.out.mono ?_); rintro e w1 ⟨b1, h1 | h1⟩; obtain ⟨_, _, rfl⟩ := h1; have B1 := Lib.hid b1; clear b1; rotate_left; exact absurd h1.1 he))
    go_ret3
    exact ⟨rfl, B1.out⟩
end

end Go.Proofs.YtdoabcbembinjaaDoor
end
