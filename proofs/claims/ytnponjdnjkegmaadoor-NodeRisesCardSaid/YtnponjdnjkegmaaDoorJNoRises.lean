/- The walk of the law NodeRises; written by gen/norises.py. -/
import Derived.Test.YtnponjdnjkegmaaDoorJNoBack
import Derived.Deep.Cut
namespace Go.Proofs.YtnponjdnjkegmaaDoor
open Go.RowKit
set_option linter.unusedVariables false

theorem less_total (a b : List UInt8) : Op.bytesLess a b = false → Op.bytesLess b a = false → a = b := by
  induction a generalizing b with
  | nil =>
    intro h1 h2
    cases b with
    | nil => rfl
    | cons y b => simp [Op.bytesLess] at h1
  | cons x a ih =>
    intro h1 h2
    cases b with
    | nil => simp [Op.bytesLess] at h2
    | cons y b =>
      simp only [Op.bytesLess, Bool.or_eq_false_iff, decide_eq_false_iff_not] at h1 h2
      have hxy : x = y := UInt8.le_antisymm (UInt8.not_lt.1 h2.1) (UInt8.not_lt.1 h1.1)
      subst hxy
      simp only [BEq.rfl, Bool.true_and] at h1 h2
      rw [ih b h1.2 h2.2]
theorem leK_self (a : List UInt8) : leK a a = true := by simp [leK]
theorem leK_both {a b : List UInt8} (h : leK a b = false) (h' : leK b a = false) : False := by
  unfold leK at h h'
  simp only [Bool.or_eq_false_iff, beq_eq_false_iff_ne] at h h'
  exact h.2 (less_total a b h.1 h'.1)
theorem keyAt_pos {leaf : Bool} {l : List En} {i : Nat} (h : keyAt leaf l (i + 1)) : leK (l.getD (i + 1) en0).k (l.getD i en0).k = false := by
  unfold keyAt at h
  rw [if_neg (by omega)] at h
  have := h.1
  unfold aheadK at this
  rwa [if_neg (by omega), Nat.add_sub_cancel] at this
theorem checkN_swap {leaf : Bool} {l : List En} (h : checkN leaf l) (k : Nat) (hk : k + 1 < l.length) (leaf' : Bool) : ¬ checkN leaf' (swapE l k) := by
  intro h'
  have h1 := keyAt_pos (h.1.2.1 (k + 1) hk)
  have h2 := keyAt_pos (h'.1.2.1 (k + 1) (by simp [swapE]; omega))
  have e1 : (swapE l k).getD k en0 = l.getD (k + 1) en0 := by
    unfold swapE
    rw [List.getD_eq_getElem?_getD, List.getElem?_set_ne (by omega), List.getElem?_set_self (by omega)]
    rfl
  have e2 : (swapE l k).getD (k + 1) en0 = l.getD k en0 := by
    unfold swapE
    rw [List.getD_eq_getElem?_getD, List.getElem?_set_self (by simp; omega)]
    rfl
  rw [e1, e2] at h2
  exact leK_both h1 h2
theorem checkN_twice {leaf : Bool} {l : List En} (k : Nat) (hk : k + 1 < l.length) : ¬ checkN leaf (twiceE l k) := by
  intro h'
  have h2 := keyAt_pos (h'.1.2.1 (k + 1) (by simp [twiceE]; omega))
  have e1 : (twiceE l k).getD k en0 = l.getD k en0 := by
    unfold twiceE
    rw [List.getD_eq_getElem?_getD, List.getElem?_append_left (by simp; omega), List.getElem?_take, if_pos (by omega), ← List.getD_eq_getElem?_getD]
  have e2 : (twiceE l k).getD (k + 1) en0 = l.getD k en0 := by
    unfold twiceE
    rw [List.getD_eq_getElem?_getD, List.getElem?_append_right (by simp; omega), List.length_take, Nat.min_eq_left (by omega), List.getElem?_drop, show k + (k + 1 - (k + 1)) = k by omega, ← List.getD_eq_getElem?_getD]
  rw [e1, e2, leK_self] at h2
  cases h2
theorem checkN_other {leaf : Bool} {l : List En} (h : checkN leaf l) : ¬ checkN (!leaf) l := by
  intro h'
  have hl : 0 < l.length := by
    have := h.1.1
    unfold leastN at this
    split at this <;> omega
  have h1 := h.1.2.1 0 hl
  have h2 := h'.1.2.1 0 hl
  cases leaf
  · have e1 : (l.getD 0 en0).k = [] := by simpa [keyAt] using h1
    have e2 : riseAt l 0 := by simpa [keyAt] using h2
    have := e2.1
    rw [e1, leK_nil] at this
    cases this
  · have e1 : (l.getD 0 en0).k = [] := by simpa [keyAt] using h2
    have e2 : riseAt l 0 := by simpa [keyAt] using h1
    have := e2.1
    rw [e1, leK_nil] at this
    cases this

theorem set_app5 (a b : List Value) (ha : a.length = 5) (i : Nat) (x : Value) : (a ++ b).set (i + 5) x = a ++ b.set i x := by
  rw [List.set_append_right _ _ (by omega), ha, Nat.add_sub_cancel]
theorem cellsN_set (l : List En) (k : Nat) (h : k < l.length) (e : En) : cellsN (l.set k e) = (((((cellsN l).set (k * 5) (cstV e.k)).set (k * 5 + 1) (cstV e.d)).set (k * 5 + 2) (.bool e.far)).set (k * 5 + 3) (.int .i64 e.sz)).set (k * 5 + 4) (.int .i64 e.pg) := by
  induction l generalizing k with
  | nil => simp at h
  | cons g l ih =>
    have hc : ∀ (x : En) (m : List En), cellsN (x :: m) = enC x ++ cellsN m := fun x m => by simp [cellsN]
    have hl : (enC g).length = 5 := rfl
    cases k with
    | zero => simp [cellsN, enC]
    | succ k =>
      rw [List.set_cons_succ, hc, ih k (by simpa using h), hc]
      rw [show (k + 1) * 5 = k * 5 + 5 by omega, show k * 5 + 5 + 1 = k * 5 + 1 + 5 by omega, show k * 5 + 5 + 2 = k * 5 + 2 + 5 by omega, show k * 5 + 5 + 3 = k * 5 + 3 + 5 by omega, show k * 5 + 5 + 4 = k * 5 + 4 + 5 by omega]
      rw [set_app5 _ _ hl, set_app5 _ _ hl, set_app5 _ _ hl, set_app5 _ _ hl, set_app5 _ _ hl]
def st5 (w : World) (g o : Nat) (v0 v1 v2 v3 v4 : Value) : World := ((((w.setCell ⟨g, o, none⟩ v0).setCell ⟨g, o + 1, none⟩ v1).setCell ⟨g, o + 2, none⟩ v2).setCell ⟨g, o + 3, none⟩ v3).setCell ⟨g, o + 4, none⟩ v4
theorem own_st5 {w : World} {base g n cap o : Nat} {t : TypeId} {xs : List Value} (h : w.ownsRow base t 5 (.slice (some ⟨g, 0, none⟩) n cap) n xs) (v0 v1 v2 v3 v4 : Value) :
    (st5 w g o v0 v1 v2 v3 v4).ownsRow base t 5 (.slice (some ⟨g, 0, none⟩) n cap) n (((((xs.set o v0).set (o + 1) v1).set (o + 2) v2).set (o + 3) v3).set (o + 4) v4) ∧ w.grownBy (st5 w g o v0 v1 v2 v3 v4) (some g) := by
  have h1 := h.stored o v0
  have h2 := h1.1.stored (o + 1) v1
  have h3 := h2.1.stored (o + 2) v2
  have h4 := h3.1.stored (o + 3) v3
  have h5 := h4.1.stored (o + 4) v4
  exact ⟨h5.1, only_trans (only_trans (only_trans (only_trans h1.2 h2.2) h3.2) h4.2) h5.2⟩
theorem own_some {w : World} {base n : Nat} {t : TypeId} {v : Value} {xs : List Value} (h : w.ownsRow base t 5 v n xs) (hn : 0 < n) :
    ∃ g cap, v = .slice (some ⟨g, 0, none⟩) n cap ∧ n ≤ cap ∧ cap ≤ maxLen ∧ base ≤ g ∧ g < w.heap.size ∧ (∀ j u, xs[j]? = some u → w.cell? ⟨g, j, none⟩ = some u) ∧ ∀ i, w.frozen? ⟨g, i, none⟩ = false := by
  rcases h.2 with ⟨_, h0⟩ | ⟨g, cap, cur, rfl, h1, h2, h3, h4, h5, h6⟩
  · omega
  · have hh : Has w g t cur := h2
    refine ⟨g, cap, rfl, h3, h4, h1, hh.lt, fun j u hj => ?_, fun i => hh.free i⟩
    rw [hh.cell, ← hj, ← h6, List.getElem?_take, if_pos (by
      have := (List.getElem?_eq_some_iff.1 hj).1
      have := h.1
      omega)]
    simp
theorem one_cellsN (l : List En) : ∀ u ∈ cellsN l, u.oneCell' = true := by
  intro u hu
  obtain ⟨e, _, hu⟩ := List.mem_flatMap.1 hu
  simp only [enC, List.mem_cons, List.mem_nil_iff, or_false] at hu
  rcases hu with rfl | rfl | rfl | rfl | rfl <;> rfl
theorem NodA.lies {w : World} {g off n c : Nat} {l : List En} (h : NodA w (some ⟨g, off, none⟩) n c l) : ∀ j u, (cellsN l)[j]? = some u → w.cell? ((⟨g, off, none⟩ : Addr).add j) = some u := fun j u hj => by
  obtain ⟨g', off', hA, hc⟩ := h.reads (by have := (List.getElem?_eq_some_iff.1 hj).1; omega)
  injection hA with hA
  injection hA with e1 e2 _
  subst e1 e2
  rw [add_plain]
  exact hc j u hj
theorem NodA.drop {w : World} {g off n c : Nat} {l : List En} (h : NodA w (some ⟨g, off, none⟩) n c l) {k : Nat} (hk : k < n) : NodA w (some ⟨g, off + k * 5, none⟩) (n - k) (c - k) (l.drop k) := by
  refine ⟨by rw [List.length_drop, h.len], fun hx => ⟨g, off + k * 5, rfl, fun j u hj => ?_⟩, by have := h.room; omega, by have := h.most; omega, fun e he => h.strs e (List.mem_of_mem_drop he)⟩
  rw [cellsN_drop, List.getElem?_drop] at hj
  have := h.lies _ u hj
  rw [add_plain, show off + (5 * k + j) = off + k * 5 + j by omega] at this
  exact this
theorem few_sub {l m : List En} (h : FewN l) (hl : m.length ≤ 1000) (hm : ∀ e ∈ m, e ∈ l) : FewN m := ⟨hl, fun e he => h.2 e (hm e he)⟩
theorem getD_mem {l : List En} {k : Nat} (h : k < l.length) : l.getD k en0 ∈ l := by rw [getD_at h]; exact List.getElem_mem h
theorem swap_mem {l : List En} {k : Nat} (h : k + 1 < l.length) : ∀ e ∈ swapE l k, e ∈ l := fun e he => by
  unfold swapE at he
  rcases List.mem_or_eq_of_mem_set he with h1 | rfl
  · rcases List.mem_or_eq_of_mem_set h1 with h2 | rfl
    · exact h2
    · exact getD_mem h
  · exact getD_mem (by omega)
theorem twice_mem {l : List En} {k : Nat} : ∀ e ∈ twiceE l k, e ∈ l := fun e he => by
  unfold twiceE at he
  rcases List.mem_append.1 he with h1 | h1
  · exact List.mem_of_mem_take h1
  · exact List.mem_of_mem_drop h1
theorem NodA.of_row {w : World} {t : TypeId} {base n : Nat} {v : Value} {l : List En} {xs : List Value} (h : w.ownsRow base t 5 v n xs) (hx : xs = cellsN l) (hs : ∀ e ∈ l, e.k.length ≤ maxLen ∧ e.d.length ≤ maxLen) : ∃ A c, v = .slice A n c ∧ NodA w A n c l := by
  subst hx
  exact NodA.of_ownT h hs

theorem walkNoRises_no (leaf : Bool) (A : Option Addr) (n c : Nat) (l : List En) (y : UInt8) (w : World) (ht : Tab w) (h : NodA w A n c l) (hs : smallN l = false) :
    Calls Tryd.prog 7 #[.agg #[.bool leaf, .slice A n c], .int .u8 (y.toNat : Int)] w fun e w' => e = .returned (.bool true) ∧ Below w.heap.size w w' := by
  obtain ⟨W, hW, hb, hx⟩ := box_law w leaf A n c
  have HAW := Lib.hid (awake08_any W (ht.below hb))
  have HSM := Lib.hid (fun w1 (hb1 : Below w.heap.size w w1) => small08_any leaf A n c l w1 (h.below hb1))
  rw [hs] at HSM
  have HB := Lib.hid hb
  have HX := Lib.hid hx
  clear ht h hs hb hx
  go_enter Tryd.func7, Tryd.ntmps7
  go_wp2_with (first
    | (go_at_call 8; (try rw [hW]); (with_reducible refine HAW.out.mono ?_); rintro e w0 ⟨rfl, h0⟩; have X0 := HX.out.below h0 HX.out.lt; have x0 := X0.cell 0; have x1 := X0.cell 1; have B0 := Lib.hid (below_step HB.out h0); clear h0 X0)
    | (go_at_call 9; (with_reducible refine (HSM.out _ B0.out).mono ?_); rintro e w1 ⟨rfl, h1⟩; have B1 := Lib.hid (below_step B0.out h1); clear h1))
  go_ret
  exact ⟨rfl, B1.out⟩

set_option maxRecDepth 100000 in
theorem walkNoRises_few (leaf : Bool) (A : Option Addr) (n c : Nat) (l : List En) (y : UInt8) (w : World) (ht : Tab w) (h : NodA w A n c l) (hs : smallN l = true) (h2 : n < 2) :
    Calls Tryd.prog 7 #[.agg #[.bool leaf, .slice A n c], .int .u8 (y.toNat : Int)] w fun e w' => e = .returned (.bool true) ∧ Below w.heap.size w w' := by
  obtain ⟨W, hW, hb, hx⟩ := box_law w leaf A n c
  have hf := small_fewN hs
  have hl40 := small_le hs
  have hn : n ≤ 40 := by rw [h.len]; exact hl40
  have HAW := Lib.hid (awake08_any W (ht.below hb))
  have HSM := Lib.hid (fun w1 (hb1 : Below w.heap.size w w1) => small08_any leaf A n c l w1 (h.below hb1))
  rw [hs] at HSM
  have e2 : (n : Int) < 2 := by omega
  have HB := Lib.hid hb
  have HX := Lib.hid hx
  clear ht h hs hb hx hf h2
  go_enter Tryd.func7, Tryd.ntmps7
  go_wp2_with (first
    | (go_at_call 8; (try rw [hW]); (with_reducible refine HAW.out.mono ?_); rintro e w0 ⟨rfl, h0⟩; have X0 := HX.out.below h0 HX.out.lt; have x0 := X0.cell 0; have x1 := X0.cell 1; have X0 := Lib.hid X0; have B0 := Lib.hid h0; clear h0)
    | (go_at_call 9; (with_reducible refine (HSM.out _ (below_step HB.out B0.out)).mono ?_); rintro e w1 ⟨rfl, h1⟩; have X1 := X0.out.below h1 X0.out.lt; have y0 := X1.cell 0; have y1 := X1.cell 1; have X1 := Lib.hid X1; have B1 := Lib.hid (below_step B0.out h1); clear h1))
  go_ret
  exact ⟨rfl, below_step HB.out B1.out⟩
set_option maxRecDepth 100000 in
theorem walkNoRises_bad (leaf : Bool) (A : Option Addr) (n c : Nat) (l : List En) (y : UInt8) (w : World) (ht : Tab w) (h : NodA w A n c l) (hs : smallN l = true) (h2 : ¬ n < 2) (hc : ¬ checkN leaf l) :
    Calls Tryd.prog 7 #[.agg #[.bool leaf, .slice A n c], .int .u8 (y.toNat : Int)] w fun e w' => e = .returned (.bool true) ∧ Below w.heap.size w w' := by
  obtain ⟨W, hW, hb, hx⟩ := box_law w leaf A n c
  have hf := small_fewN hs
  have hl40 := small_le hs
  have hn : n ≤ 40 := by rw [h.len]; exact hl40
  have HAW := Lib.hid (awake08_any W (ht.below hb))
  have HSM := Lib.hid (fun w1 (hb1 : Below w.heap.size w w1) => small08_any leaf A n c l w1 (h.below hb1))
  rw [hs] at HSM
  have e2 : ¬ (n : Int) < 2 := by omega
  have e3 : decide ((n : Int) < 2) = false := decide_eq_false e2
  have ylt := y.toNat_lt
  have yI : (y.toNat : Int) ≤ 255 := by omega
  have HCK := Lib.hid (fun w1 (hb1 : Below w.heap.size w w1) => nCheck_any leaf A n c l w1 (h.below hb1) hf)
  rw [decide_eq_false hc] at HCK
  have HB := Lib.hid hb
  have HX := Lib.hid hx
  clear ht h hs hb hx hf h2 hc
  go_enter Tryd.func7, Tryd.ntmps7
  go_wp2_with (first
    | (go_at_call 8; (try rw [hW]); (with_reducible refine HAW.out.mono ?_); rintro e w0 ⟨rfl, h0⟩; have X0 := HX.out.below h0 HX.out.lt; have x0 := X0.cell 0; have x1 := X0.cell 1; have X0 := Lib.hid X0; have B0 := Lib.hid h0; clear h0)
    | (go_at_call 9; (with_reducible refine (HSM.out _ (below_step HB.out B0.out)).mono ?_); rintro e w1 ⟨rfl, h1⟩; have X1 := X0.out.below h1 X0.out.lt; have y0 := X1.cell 0; have y1 := X1.cell 1; have X1 := Lib.hid X1; have B1 := Lib.hid (below_step B0.out h1); clear h1)
    | (go_at_call 17; (with_reducible refine (HCK.out _ (below_step HB.out B1.out)).mono ?_); rintro e w2 ⟨rfl, h2⟩; have X2 := X1.out.below h2 X1.out.lt; have z0 := X2.cell 0; have z1 := X2.cell 1; have X2 := Lib.hid X2; have B2 := Lib.hid (below_step B1.out h2); clear h2))
  go_ret
  exact ⟨rfl, below_step HB.out B2.out⟩

set_option maxRecDepth 100000 in
set_option maxHeartbeats 8000000 in
theorem walkNoRises_yes (leaf : Bool) (A : Option Addr) (n c : Nat) (l : List En) (y : UInt8) (w : World) (ht : Tab w) (h : NodA w A n c l) (hs : smallN l = true) (h2 : ¬ n < 2) (hc : checkN leaf l) :
    Calls Tryd.prog 7 #[.agg #[.bool leaf, .slice A n c], .int .u8 (y.toNat : Int)] w fun e w' => e = .returned (.bool true) ∧ Below w.heap.size w w' := by
  obtain ⟨W, hW, hb, hx⟩ := box_law w leaf A n c
  have hf := small_fewN hs
  have hl40 := small_le hs
  have hn : n ≤ 40 := by rw [h.len]; exact hl40
  have HAW := Lib.hid (awake08_any W (ht.below hb))
  have HSM := Lib.hid (fun w1 (hb1 : Below w.heap.size w w1) => small08_any leaf A n c l w1 (h.below hb1))
  rw [hs] at HSM
  obtain ⟨j0, hj, jz0, jz1, jz2⟩ := info_parts einfo
  have hze := zero_entry
  have hzn := zero_node
  have e2 : ¬ (n : Int) < 2 := by omega
  have e3 : decide ((n : Int) < 2) = false := decide_eq_false e2
  have ylt := y.toNat_lt
  have yI : (y.toNat : Int) ≤ 255 := by omega
  have HCK := Lib.hid (fun w1 (hb1 : Below w.heap.size w w1) => nCheck_any leaf A n c l w1 (h.below hb1) hf)
  rw [decide_eq_true hc] at HCK
  have HCO := Lib.hid (fun w1 (hb1 : Below w.heap.size w w1) => nCheck_any (!leaf) A n c l w1 (h.below hb1) hf)
  rw [decide_eq_false (checkN_other hc)] at HCO
  have hln := h.len
  obtain ⟨p, hp⟩ : ∃ p, n = p + 1 := ⟨n - 1, by omega⟩
  have hp1 : (n : Int) - 1 = (p : Int) := by omega
  have hpz : ((p : Int) == 0) = false := beq_false_of_ne (by omega)
  obtain ⟨k, hkd⟩ : ∃ k, y.toNat % p = k := ⟨_, rfl⟩
  have hkp : k < p := by rw [← hkd]; exact Nat.mod_lt _ (by omega)
  have hrem : ((y.toNat : Nat) : Int).tmod (p : Int) = (k : Int) := by
    rw [Int.tmod_eq_emod_of_nonneg (by omega), ← hkd]
    rfl
  obtain ⟨j, hjk⟩ : ∃ j, k + 1 = j := ⟨_, rfl⟩
  have hjI : (k : Int) + 1 = (j : Int) := by omega
  have hk1 : k + 1 < l.length := by omega
  have HSW : Hid (∀ A c w1, NodA w1 A n c (swapE l k) → Calls Tryd.prog 17 #[.agg #[.bool leaf, .slice A n c]] w1 fun e w' => e = .returned (.bool false) ∧ Below w1.heap.size w1 w') := Lib.hid (fun A c w1 h1 => by
    have := nCheck_any leaf A n c (swapE l k) w1 h1 (few_sub hf (by rw [← h1.len]; omega) (swap_mem hk1))
    rw [decide_eq_false (checkN_swap hc k hk1 leaf)] at this
    exact this)
  have HTW : Hid (∀ A c w1, NodA w1 A (j + (n - k)) c (twiceE l k) → Calls Tryd.prog 17 #[.agg #[.bool leaf, .slice A (j + (n - k)) c]] w1 fun e w' => e = .returned (.bool false) ∧ Below w1.heap.size w1 w') := Lib.hid (fun A c w1 h1 => by
    have := nCheck_any leaf A _ c (twiceE l k) w1 h1 (few_sub hf (by rw [← h1.len]; omega) twice_mem)
    rw [decide_eq_false (checkN_twice k hk1)] at this
    exact this)
  have HSS : Hid (∀ e ∈ swapE l k, e.k.length ≤ maxLen ∧ e.d.length ≤ maxLen) := Lib.hid (fun e he => h.strs e (swap_mem hk1 e he))
  have HTS : Hid (∀ e ∈ twiceE l k, e.k.length ≤ maxLen ∧ e.d.length ≤ maxLen) := Lib.hid (fun e he => h.strs e (twice_mem e he))
  have HCL : Hid (∀ i, i < n → ∃ (_ : (cellsN l)[i * 5]? = some (cstV (l.getD i en0).k)) (_ : (cellsN l)[i * 5 + 1]? = some (cstV (l.getD i en0).d)) (_ : (cellsN l)[i * 5 + 2]? = some (.bool (l.getD i en0).far)) (_ : (cellsN l)[i * 5 + 3]? = some (.int .i64 (l.getD i en0).sz)), (cellsN l)[i * 5 + 4]? = some (.int .i64 (l.getD i en0).pg)) := Lib.hid (fun i hi => by
    have hi2 : i < l.length := by omega
    have := cellsN_at l i hi2
    rw [Nat.mul_comm 5 i, ← getD_at hi2] at this
    exact ⟨this.1, this.2.1, this.2.2.1, this.2.2.2.1, this.2.2.2.2⟩)
  obtain ⟨g, off, hA, _⟩ := h.reads (by rw [cellsN_len]; omega)
  subst hA
  have HA := Lib.hid h
  have HLN := Lib.hid hln
  have hrm := h.room
  have hcm := h.most
  unfold maxLen at hcm
  have hck : ¬ c = k := by omega
  have hnk : (n : Int) - (k : Int) = ((n - k : Nat) : Int) := by omega
  have k0 : (0 : Int) ≤ (k : Int) := by omega
  have k1 : (k : Int) < (n : Int) := by omega
  have jj0 : (0 : Int) ≤ (j : Int) := by omega
  have jj1 : (j : Int) < (n : Int) := by omega
  have jjc : (j : Int) ≤ (c : Int) := by omega
  have hkn : k < n := by omega
  have hjn : j < n := by omega
  have HJK := Lib.hid hjk
  have HB := Lib.hid hb
  have HX := Lib.hid hx
  obtain ⟨yk, hyk⟩ : ∃ yk, l.getD k en0 = yk := ⟨_, rfl⟩
  obtain ⟨yj, hyj⟩ : ∃ yj, l.getD j en0 = yj := ⟨_, rfl⟩
  have HSE : Hid (swapE l k = (l.set k yj).set j yk) := Lib.hid (by unfold swapE; rw [hjk, hyk, hyj])
  obtain ⟨ka, da, fa, sa, pa⟩ := yk
  obtain ⟨kb, db, fb, sb, pb⟩ := yj
  have HYK := Lib.hid hyk
  have HYJ := Lib.hid hyj
  clear ht h hs hb hx hf h2 hc hln hp hkd hkp hjk hk1 hl40 hyk hyj
  go_enter Tryd.func7, Tryd.ntmps7
  go_upto_region 11 with (first
    | (go_at_call 8; (try rw [hW]); (with_reducible refine HAW.out.mono ?_); rintro e w0 ⟨rfl, h0⟩; have X0 := HX.out.below h0 HX.out.lt; have x0 := X0.cell 0; have x1 := X0.cell 1; have X0 := Lib.hid X0; have B0 := Lib.hid h0; clear h0)
    | (go_at_call 9; (with_reducible refine (HSM.out _ (below_step HB.out B0.out)).mono ?_); rintro e w1 ⟨rfl, h1⟩; have X1 := X0.out.below h1 X0.out.lt; have y0 := X1.cell 0; have y1 := X1.cell 1; have X1 := Lib.hid X1; have B1 := Lib.hid (below_step B0.out h1); clear h1)
    | (go_at_call 17; (with_reducible refine (HCK.out _ (below_step HB.out B1.out)).mono ?_); rintro e w2 ⟨rfl, h2⟩; have X2 := X1.out.below h2 X1.out.lt; have z0 := X2.cell 0; have z1 := X2.cell 1; have X2 := Lib.hid X2; have B2 := Lib.hid (below_step B1.out h2); clear h2)
    | (at_builtin; refine wpList_append_own _ rfl _ _ 22 rfl W.heap.size 54 j0 (.agg #[.string ⟨#[]⟩, .string ⟨#[]⟩, .bool false, .int .i64 0, .int .i64 0]) 5 56 Tryd.underlying22 hj jz0 jz1 jz2 rfl (by decide) (.slice none 0 0) 0 [] rfl ⟨rfl, .inl ⟨rfl, rfl⟩⟩ ⟨g, off, none⟩ n c (cellsN l) rfl (by rw [cellsN_len]; have := HLN.out; omega) (HA.out.below (below_step HB.out B2.out)).lies (one_cellsN _) (by unfold maxLen; omega) (by omega) (B2.out.size) ?_; intro v3 w3 h7 h8 h9; have h7 : w3.ownsRow W.heap.size 54 5 v3 n (cellsN l) := (by rw [Nat.zero_add, List.nil_append] at h7; exact h7); obtain ⟨g1, cap1, rfl, hg1, hg2, hg3, hg4, hg5, hg6⟩ := own_some h7 (by omega); obtain ⟨c0, c1, c2, c3, c4⟩ := HCL.out k (by omega); obtain ⟨d0, d1, d2, d3, d4⟩ := HCL.out j (by omega); rw [HYK.out] at c0 c1 c2 c3 c4; rw [HYJ.out] at d0 d1 d2 d3 d4; simp only [cstV] at c0 c1 c2 c3 c4 d0 d1 d2 d3 d4; have c0 := hg5 _ _ c0; have c1 := hg5 _ _ c1; have c2 := hg5 _ _ c2; have c3 := hg5 _ _ c3; have c4 := hg5 _ _ c4; have d0 := hg5 _ _ d0; have d1 := hg5 _ _ d1; have d2 := hg5 _ _ d2; have d3 := hg5 _ _ d3; have d4 := hg5 _ _ d4; have B3 := Lib.hid (below_own8 B2.out h8 (show w2.ownsRow W.heap.size 54 5 (.slice none 0 0) 0 [] from ⟨rfl, .inl ⟨rfl, rfl⟩⟩) B2.out.size); have c00 := hg6 (k * 5); have c01 := hg6 (k * 5 + 1); have c02 := hg6 (k * 5 + 2); have c03 := hg6 (k * 5 + 3); have c04 := hg6 (k * 5 + 4); have O3 := Lib.hid h7; have G5 := Lib.hid hg5; have G6 := Lib.hid hg6; clear h7 h8 h9 hg5 hg6))
  go_upto_region 13 with fail
  have O4 := own_st5 (o := k * 5) O3.out (.string ⟨kb.toArray⟩) (.string ⟨db.toArray⟩) (.bool fb) (.int .i64 sb) (.int .i64 pb)
  have hsz : (st5 w3 g1 (k * 5) (.string ⟨kb.toArray⟩) (.string ⟨db.toArray⟩) (.bool fb) (.int .i64 sb) (.int .i64 pb)).heap.size = w3.heap.size := by simp [st5, World.setCell]
  have A4 : Below (st5 w3 g1 (k * 5) (.string ⟨kb.toArray⟩) (.string ⟨db.toArray⟩) (.bool fb) (.int .i64 sb) (.int .i64 pb)).heap.size (st5 w3 g1 (k * 5) (.string ⟨kb.toArray⟩) (.string ⟨db.toArray⟩) (.bool fb) (.int .i64 sb) (.int .i64 pb)) ((st5 w3 g1 (k * 5) (.string ⟨kb.toArray⟩) (.string ⟨db.toArray⟩) (.bool fb) (.int .i64 sb) (.int .i64 pb)).alloc (.cells #[.string ⟨ka.toArray⟩, .string ⟨da.toArray⟩, .bool fa, .int .i64 sa, .int .i64 pa] 54)) := (Below.refl _ _).alloc (Nat.le_refl _) _
  have E5 : Hid (Has ((st5 w3 g1 (k * 5) (.string ⟨kb.toArray⟩) (.string ⟨db.toArray⟩) (.bool fb) (.int .i64 sb) (.int .i64 pb)).alloc (.cells #[.string ⟨ka.toArray⟩, .string ⟨da.toArray⟩, .bool fa, .int .i64 sa, .int .i64 pa] 54)) w3.heap.size 54 #[.string ⟨ka.toArray⟩, .string ⟨da.toArray⟩, .bool fa, .int .i64 sa, .int .i64 pa]) := Lib.hid (by
    have := Has.made (st5 w3 g1 (k * 5) (.string ⟨kb.toArray⟩) (.string ⟨db.toArray⟩) (.bool fb) (.int .i64 sb) (.int .i64 pb)) 54 #[.string ⟨ka.toArray⟩, .string ⟨da.toArray⟩, .bool fa, .int .i64 sa, .int .i64 pa]
    rw [hsz] at this
    exact this)
  have B4' := B3.out.grown O4.2 B3.out.size (fun i hi => by injection hi with hi; omega)
  have B5 := Lib.hid (B4'.alloc (by rw [hsz]; exact B3.out.size) (.cells #[.string ⟨ka.toArray⟩, .string ⟨da.toArray⟩, .bool fa, .int .i64 sa, .int .i64 pa] 54))
  have O5 : Hid (((st5 w3 g1 (k * 5) (.string ⟨kb.toArray⟩) (.string ⟨db.toArray⟩) (.bool fb) (.int .i64 sb) (.int .i64 pb)).alloc (.cells #[.string ⟨ka.toArray⟩, .string ⟨da.toArray⟩, .bool fa, .int .i64 sa, .int .i64 pa] 54)).ownsRow W.heap.size 54 5 (.slice (some ⟨g1, 0, none⟩) n cap1) n (cellsN (l.set k ⟨kb, db, fb, sb, pb⟩))) := Lib.hid (by
    rw [cellsN_set l k (by have := HLN.out; omega)]
    exact ceOwnBelow O4.1 A4)
  clear A4 B4' O4 hsz
  unfold st5 at O5 B5 E5
  generalize ((((((w3.setCell ⟨g1, k * 5, none⟩ (.string ⟨kb.toArray⟩)).setCell ⟨g1, k * 5 + 1, none⟩ (.string ⟨db.toArray⟩)).setCell ⟨g1, k * 5 + 2, none⟩ (.bool fb)).setCell ⟨g1, k * 5 + 3, none⟩ (.int .i64 sb)).setCell ⟨g1, k * 5 + 4, none⟩ (.int .i64 pb)).alloc (.cells #[.string ⟨ka.toArray⟩, .string ⟨da.toArray⟩, .bool fa, .int .i64 sa, .int .i64 pa] 54)) = w5 at *
  obtain ⟨ga, ca, hga, _, _, _, hg7, hc5, hf5⟩ := own_some O5.out (by omega)
  injection hga with hga _ hca
  subst hca
  injection hga with hga
  injection hga with hga
  subst hga
  obtain ⟨q0, q1, q2, q3, q4⟩ := cellsN_at (l.set k ⟨kb, db, fb, sb, pb⟩) j (by rw [List.length_set]; have := HLN.out; omega)
  rw [Nat.mul_comm 5 j] at q0 q1 q2 q3 q4
  have d0 := hc5 _ _ q0
  have d1 := hc5 _ _ q1
  have d2 := hc5 _ _ q2
  have d3 := hc5 _ _ q3
  have d4 := hc5 _ _ q4
  have d00 := hf5 (j * 5)
  have d01 := hf5 (j * 5 + 1)
  have d02 := hf5 (j * 5 + 2)
  have d03 := hf5 (j * 5 + 3)
  have d04 := hf5 (j * 5 + 4)
  have b0 := E5.out.cell 0
  have b1 := E5.out.cell 1
  have b2 := E5.out.cell 2
  have b3 := E5.out.cell 3
  have b4 := E5.out.cell 4
  have x5 := (X2.out.below (show Below W.heap.size w2 w2 from Below.refl _ _) (by exact HX.out.lt)).cell 0
  clear hc5 hf5 q0 q1 q2 q3 q4 c0 c1 c2 c3 c4 c00 c01 c02 c03 c04 x5
  go_upto_region 14 with fail
  have O6' := own_st5 (o := j * 5) O5.out (.string ⟨ka.toArray⟩) (.string ⟨da.toArray⟩) (.bool fa) (.int .i64 sa) (.int .i64 pa)
  have B6 := Lib.hid (B5.out.grown O6'.2 B5.out.size (fun i hi => by injection hi with hi; omega))
  have O6 : Hid ((st5 w5 g1 (j * 5) (.string ⟨ka.toArray⟩) (.string ⟨da.toArray⟩) (.bool fa) (.int .i64 sa) (.int .i64 pa)).ownsRow W.heap.size 54 5 (.slice (some ⟨g1, 0, none⟩) n cap1) n (cellsN (swapE l k))) := Lib.hid (by
    rw [HSE.out, cellsN_set (l.set k ⟨kb, db, fb, sb, pb⟩) j (by rw [List.length_set]; have := HLN.out; omega)]
    exact O6'.1)
  clear O6' d0 d1 d2 d3 d4 d00 d01 d02 d03 d04 b0 b1 b2 b3 b4
  unfold st5 at O6 B6
  generalize (((((w5.setCell ⟨g1, j * 5, none⟩ (.string ⟨ka.toArray⟩)).setCell ⟨g1, j * 5 + 1, none⟩ (.string ⟨da.toArray⟩)).setCell ⟨g1, j * 5 + 2, none⟩ (.bool fa)).setCell ⟨g1, j * 5 + 3, none⟩ (.int .i64 sa)).setCell ⟨g1, j * 5 + 4, none⟩ (.int .i64 pa)) = w6 at *
  obtain ⟨As, cs, hvs, hDS⟩ := NodA.of_row O6.out rfl HSS.out
  injection hvs with e1 _ e3
  subst e1 e3
  have DS := Lib.hid hDS
  have DA := Lib.hid (HA.out.below (below_step HB.out B6.out))
  have X6 := HX.out.below B6.out HX.out.lt
  have x60 := X6.cell 0
  have x61 := X6.cell 1
  have X6 := Lib.hid X6
  have hnj : n - k ≤ 40 := by omega
  have hje : j = k + 1 := HJK.out.symm
  have HJE := Lib.hid hje
  clear hDS hje
  go_upto_region 15 with (at_builtin; refine wpList_append_own _ rfl _ _ 22 rfl w6.heap.size 54 j0 (.agg #[.string ⟨#[]⟩, .string ⟨#[]⟩, .bool false, .int .i64 0, .int .i64 0]) 5 56 Tryd.underlying22 hj jz0 jz1 jz2 rfl (by decide) (.slice none 0 0) 0 [] rfl ⟨rfl, .inl ⟨rfl, rfl⟩⟩ ⟨g, off, none⟩ j c (cellsN (l.take j)) rfl (by rw [cellsN_len]; rw [List.length_take]; have := HLN.out; omega) (DA.out.take (k := j) (by omega)).lies (one_cellsN _) (by unfold maxLen; omega) (by omega) (Nat.le_refl _) ?_; intro v7 w7 h7 h8 h9; have h7 : w7.ownsRow w6.heap.size 54 5 v7 j (cellsN (l.take j)) := (by rw [Nat.zero_add, List.nil_append] at h7; exact h7); obtain ⟨g2, cap2, rfl, hg21, hg22, hg23, hg24, _, _⟩ := own_some h7 (by omega); have B7 := Lib.hid (below_own8 (Below.refl w6.heap.size w6) h8 (show w6.ownsRow w6.heap.size 54 5 (.slice none 0 0) 0 [] from ⟨rfl, .inl ⟨rfl, rfl⟩⟩) (Nat.le_refl _)); have O7 := Lib.hid h7; have X7 := X6.out.below B7.out X6.out.lt; have x70 := X7.cell 0; have x71 := X7.cell 1; have X7 := Lib.hid X7; have DA7 := Lib.hid (DA.out.below B7.out); clear h7 h8 h9)
  go_upto_region 16 with (at_builtin; refine wpList_append_own _ rfl _ _ 22 rfl w6.heap.size 54 j0 (.agg #[.string ⟨#[]⟩, .string ⟨#[]⟩, .bool false, .int .i64 0, .int .i64 0]) 5 56 Tryd.underlying22 hj jz0 jz1 jz2 rfl (by decide) _ j _ rfl O7.out ⟨g, off + k * 5, none⟩ (n - k) (c - k) (cellsN (l.drop k)) rfl (by rw [cellsN_len]; rw [List.length_drop]; have := HLN.out; omega) (DA7.out.drop (k := k) (by omega)).lies (one_cellsN _) (by unfold maxLen; omega) (by omega) (B7.out.size) ?_; intro v8 w8 h7 h8 h9; obtain ⟨g3, cap3, rfl, hg31, hg32, hg33, hg34, _, _⟩ := own_some h7 (by omega); have B8 := Lib.hid (below_own8 B7.out h8 O7.out B7.out.size); obtain ⟨Am, cm, hvm, hM⟩ := NodA.of_row h7 (show cellsN (l.take j) ++ cellsN (l.drop k) = cellsN (twiceE l k) from by rw [← cellsN_app, HJE.out]; rfl) HTS.out; (injection hvm with m1 _ m3); subst m1 m3; have M8 := Lib.hid hM; have X8 := X6.out.below B8.out X6.out.lt; have x80 := X8.cell 0; have x81 := X8.cell 1; have X8 := Lib.hid X8; clear h7 h8 h9 hM)
  go_wp2_with (first
    | (go_at_call 17; (with_reducible refine (HSW.out _ _ _ (DS.out.below B8.out)).mono ?_); rintro e w9 ⟨rfl, h9⟩; have X9 := X8.out.below h9 X8.out.lt; have a90 := X9.cell 0; have a91 := X9.cell 1; have X9 := Lib.hid X9; have M9 := Lib.hid (M8.out.below h9); have B9 := Lib.hid (B8.out.trans (h9.mono B8.out.size)); clear h9)
    | (go_at_call 17; (with_reducible refine (HTW.out _ _ _ M9.out).mono ?_); rintro e w10 ⟨rfl, h10⟩; have X10 := X9.out.below h10 X9.out.lt; have a100 := X10.cell 0; have a101 := X10.cell 1; have X10 := Lib.hid X10; have B10 := Lib.hid (B9.out.trans (h10.mono B9.out.size)); clear h10)
    | (go_at_call 17; (with_reducible refine (HCO.out _ (below_step HB.out (below_step B6.out B10.out))).mono ?_); rintro e w11 ⟨rfl, h11⟩; have B11 := Lib.hid (B10.out.trans (h11.mono B10.out.size)); clear h11))
  go_ret
  exact ⟨rfl, below_step HB.out (below_step B6.out B11.out)⟩
theorem walkNoRises (leaf : Bool) (A : Option Addr) (n c : Nat) (l : List En) (y : UInt8) (w : World) (ht : Tab w) (h : NodA w A n c l) :
    Calls Tryd.prog 7 #[.agg #[.bool leaf, .slice A n c], .int .u8 (y.toNat : Int)] w fun e w' => e = .returned (.bool true) ∧ Below w.heap.size w w' := by
  cases hs : smallN l
  · exact walkNoRises_no leaf A n c l y w ht h hs
  · by_cases h2 : n < 2
    · exact walkNoRises_few leaf A n c l y w ht h hs h2
    · by_cases hc : checkN leaf l
      · exact walkNoRises_yes leaf A n c l y w ht h hs h2 hc
      · exact walkNoRises_bad leaf A n c l y w ht h hs h2 hc

end Go.Proofs.YtnponjdnjkegmaaDoor
