import Derived.Test.YtpaklhifnndeoaaJ19
import Derived.Test.YtpaklhifnndeoaaJ03
import Derived.Test.YtpaklhifnndeoaaJ16
import Derived.Test.YtpaklhifnndeoaaJ00
import Derived.Test.YtpaklhifnndeoaaJ01
import Derived.Test.YtpaklhifnndeoaaJTqi
import Derived.Test.YtpaklhifnndeoaaJ05
import Derived.Test.YtpaklhifnndeoaaJ09
import Derived.Deep.Cut
/- Of a claim's texts, joined: Tqu Tqv Tqw Tqx Tsa Tpf Tqy. No statement but in the last. -/
section
namespace Go.Proofs.Ytpaklhifnndeoaa
open Go.RowKit
set_option linter.unusedVariables false

theorem sumZ_least {b : Int} : ∀ {l : List Int}, (∀ x ∈ l, b ≤ x) → (l.length : Int) * b ≤ sumZ l
  | [], _ => by simp [sumZ]
  | x :: l, h => by
    have h1 := sumZ_least (l := l) (fun y hy => h y (List.mem_cons_of_mem _ hy))
    have h2 := h x (List.mem_cons_self ..)
    have h3 : sumZ (x :: l) = x + sumZ l := rfl
    rw [h3, List.length_cons, Int.natCast_add, Int.add_mul]
    simp only [Int.natCast_one, Int.one_mul]
    omega
theorem near_bnd {n : Nat} {t : Tr} (h : NearT n t) : BndN 50 t := by
  cases h with
  | leaf p l h h2 =>
    have h3 := sumZ_least (b := 4) (l := l.map sizeL) (fun z hz => by
      obtain ⟨y, hy, rfl⟩ := List.mem_map.1 hz
      exact (okLf_size (h y hy)).1)
    rw [List.length_map] at h3
    rw [sumT_leaf] at h2
    exact ⟨by omega, fun x hx => by have := h x hx; unfold okLf at this; omega⟩
  | branch n p l h0 hk h h2 =>
    have h3 := sumZ_least (b := 4) (l := l.map fun x => 4 + (x.1.length : Int)) (fun z hz => by
      obtain ⟨y, hy, rfl⟩ := List.mem_map.1 hz
      omega)
    rw [List.length_map] at h3
    rw [sumT_branch] at h2
    exact ⟨by omega, fun x hx => by have := hk x hx; omega⟩
theorem RootT.near {n : Nat} {t : Tr} (h : RootT n t) : NearT n t := by
  cases h with
  | leaf p l h h2 => exact .leaf p l h (by omega)
  | branch n p l h0 hk h hl h2 => exact .branch n p l h0 hk h (by omega)
theorem near_bndT : ∀ (t : Tr) (n : Nat), NearT n t → BndT t := by
  intro t
  induction t using Tr.ind with
  | hl p l => exact fun n h => by have := near_bnd h; exact .leaf p l (by have := this.1; omega) this.2
  | hb p l ih =>
    intro n h
    have hb := near_bnd h
    cases h with
    | branch n p l h0 hk h h2 => exact .branch p l (by have := hb.1; omega) hb.2 (fun x hx => ih x hx n (h x hx).near.1)
theorem near_dep : ∀ (t : Tr) (n : Nat), NearT n t → DepT n t := by
  intro t
  induction t using Tr.ind with
  | hl p l =>
    intro n h
    cases h with
    | leaf p l h h2 => exact .leaf 0 p l
  | hb p l ih =>
    intro n h
    cases h with
    | branch n p l h0 hk h h2 => exact .branch n p l (fun x hx => ih x hx n (h x hx).near.1)
theorem near_topB : ∀ (t : Tr) (n : Nat), NearT n t → TopB t := by
  intro t
  induction t using Tr.ind with
  | hl p l => exact fun n h => .leaf p l (near_bnd h)
  | hb p l ih =>
    intro n h
    refine .branch p l (near_bnd h) (fun x hx => ?_)
    cases h with
    | branch n p l h0 hk h h2 => exact ih x (by rw [hx]; exact List.mem_singleton.2 rfl) n (h x (by rw [hx]; exact List.mem_singleton.2 rfl)).near.1
theorem root_putB (c : Lf) (hc : okLf c) : ∀ (t : Tr) (n : Nat), RootT n t → SepT n t → PutB c t := by
  intro t
  induction t using Tr.ind with
  | hl p l => exact fun n h _ => .leaf p l (by have := (near_bnd h.near).1; omega)
  | hb p l ih =>
    intro n h hs
    have hb := near_bnd h.near
    cases h with
    | branch n p l h0 hk h hl h2 =>
      cases hs with
      | branch n p l hsl hsk hne hs0 =>
        have hw := wayT_lt c.k hne
        have hm := kid_mem hw
        have hr := (h _ hm).root
        exact .branch p l hne (by have := hb.1; omega) (fun x hx => ⟨hb.2 x hx, near_bnd (h x hx).near.1⟩) (even_sep hsk) (ih _ hm n hr (hsk _ hm)) (near_bnd (near_put c hc _ n hr (hsk _ hm)))
theorem sep_ris (s : List UInt8) : ∀ (t : Tr) (n : Nat), SepT n t → RisT s t := by
  intro t
  induction t using Tr.ind with
  | hl p l =>
    intro n h
    cases h with
    | leaf p l h => exact .leaf p l (h.imp fun h => h)
  | hb p l ih =>
    intro n h
    cases h with
    | branch n p l hsl hsk hne hs0 => exact .branch p l (ih _ (kid_mem (wayT_lt s hne)) n (hsk _ (kid_mem (wayT_lt s hne))))
theorem fit_high : ∀ (t : Tr) (n : Nat), FitT n t → SepT n t → n ≤ (entT t).length := by
  intro t
  induction t using Tr.ind with
  | hl p l =>
    intro n h _
    cases h with
    | leaf p l h h1 h2 => exact Nat.zero_le _
  | hb p l ih =>
    intro n h hs
    have hr := h.root
    cases hs with
    | branch n p l hsl hsk hne hs0 =>
      cases hr with
      | branch n p l h0 hk hf hl h2 =>
        rcases l with _ | ⟨x, _ | ⟨y, l⟩⟩
        · simp at hl
        · simp at hl
        · have h3 := ih x (List.mem_cons_self ..) n (hf x (List.mem_cons_self ..)) (hsk x (List.mem_cons_self ..))
          have h4 := (hsl.2 y (List.mem_cons_of_mem _ (List.mem_cons_self ..))).1
          have h5 : 0 < (entT y.2).length := List.length_pos_iff.2 h4
          rw [entT_br, entTs_cons, entTs_cons, List.length_append, List.length_append]
          omega
theorem root_high {t : Tr} {n : Nat} (h : RootT n t) (hs : SepT n t) : n ≤ (entT t).length + 1 := by
  cases h with
  | leaf p l h h2 => omega
  | branch n p l h0 hk hf hl h2 =>
    cases hs with
    | branch n p l hsl hsk hne hs0 =>
      rcases l with _ | ⟨x, l⟩
      · exact absurd rfl hne
      · have h3 := fit_high x.2 n (hf x (List.mem_cons_self ..)) (hsk x (List.mem_cons_self ..))
        rw [entT_br, entTs_cons, List.length_append]
        omega
theorem bndT_len : ∀ (t : Tr), BndT t → LenT t := by
  intro t
  induction t using Tr.ind with
  | hl p l =>
    intro h
    cases h with
    | leaf p l h1 h2 => exact .leaf p l (by omega)
  | hb p l ih =>
    intro h
    cases h with
    | branch p l h1 h2 h3 => exact .branch p l (by omega) (fun x hx => ih x hx (h3 x hx))
inductive AllL (Q : Lf → Prop) : Tr → Prop where
  | leaf (p : Int) (l : List Lf) (h : ∀ x ∈ l, Q x) : AllL Q (.leaf p l)
  | branch (p : Int) (l : List (List UInt8 × Tr)) (h : ∀ x ∈ l, AllL Q x.2) : AllL Q (.branch p l)
theorem bndT_sml : ∀ (t : Tr), BndT t → AllL (fun x => x.pg = []) t → SmlT t := by
  intro t
  induction t using Tr.ind with
  | hl p l =>
    intro h ha
    cases h with
    | leaf p l h1 h2 =>
      cases ha with
      | leaf _ _ ha => exact .leaf p l (by omega) (fun y hy => by rw [ha y hy]; simp)
  | hb p l ih =>
    intro h ha
    cases h with
    | branch p l h1 h2 h3 =>
      cases ha with
      | branch _ _ ha => exact .branch p l (by omega) (fun x hx => ih x hx (h3 x hx) (ha x hx))
theorem bndT_chk : ∀ (t : Tr), BndT t → AllL (fun x => x.pg = []) t → ChkT t := by
  intro t
  induction t using Tr.ind with
  | hl p l =>
    intro h ha
    cases h with
    | leaf p l h1 h2 =>
      cases ha with
      | leaf _ _ ha => exact .leaf p l ⟨h1, h2⟩ (fun y hy => by rw [ha y hy]; simp)
  | hb p l ih =>
    intro h ha
    cases h with
    | branch p l h1 h2 h3 =>
      cases ha with
      | branch _ _ ha => exact .branch p l ⟨h1, h2⟩ (fun x hx => ih x hx (h3 x hx) (ha x hx))
section
variable {Q : Lf → Prop}
theorem AllL.kids {p : Int} {l : List (List UInt8 × Tr)} (h : AllL Q (.branch p l)) : ∀ x ∈ l, AllL Q x.2 := by cases h; assumption
theorem AllL.cells {p : Int} {l : List Lf} (h : AllL Q (.leaf p l)) : ∀ x ∈ l, Q x := by cases h; assumption
theorem allL_keyed {s : List UInt8} {l : List (List UInt8 × Tr)} (h : ∀ x ∈ l, AllL Q x.2) : ∀ x ∈ keyed s l, AllL Q x.2 := by
  cases l with
  | nil => exact h
  | cons y l =>
    intro x hx
    rcases List.mem_cons.1 hx with rfl | hx
    · exact h y (List.mem_cons_self ..)
    · exact h x (List.mem_cons_of_mem _ hx)
theorem allL_front {t : Tr} (h : AllL Q t) (n : Nat) : AllL Q (frontT n t) := by
  cases t with
  | leaf p l => exact .leaf 0 _ (fun x hx => h.cells x (List.mem_of_mem_take hx))
  | branch p l => exact .branch 0 _ (fun x hx => h.kids x (List.mem_of_mem_take hx))
theorem allL_back {t : Tr} (h : AllL Q t) (n : Nat) : AllL Q (backT n t) := by
  cases t with
  | leaf p l => exact .leaf 0 _ (fun x hx => h.cells x (List.mem_of_mem_drop hx))
  | branch p l => exact .branch 0 _ (allL_keyed fun x hx => h.kids x (List.mem_of_mem_drop hx))
theorem allL_join {s : List UInt8} {a b : Tr} (ha : AllL Q a) (hb : AllL Q b) : AllL Q (joinT s a b) := by
  cases a with
  | leaf p l =>
    cases b with
    | leaf p' m => exact .leaf 0 _ (fun x hx => (List.mem_append.1 hx).elim (ha.cells x) (hb.cells x))
    | branch p' m => exact ha
  | branch p l =>
    cases b with
    | leaf p' m => exact ha
    | branch p' m => exact .branch 0 _ (fun x hx => (List.mem_append.1 hx).elim (ha.kids x) (allL_keyed hb.kids x))
theorem allL_split {l : List (List UInt8 × Tr)} {k n : Nat} (hk : k < l.length) (h : ∀ x ∈ l, AllL Q x.2) : ∀ x ∈ splitT l k n, AllL Q x.2 := by
  intro x hx
  unfold splitT at hx
  rcases List.mem_append.1 hx with hx | hx
  · rcases List.mem_append.1 hx with hx | hx
    · exact h x (List.mem_of_mem_take hx)
    · simp only [List.mem_cons, List.mem_nil_iff, or_false] at hx
      rcases hx with rfl | rfl
      · exact allL_front (h _ (kid_mem hk)) n
      · exact allL_back (h _ (kid_mem hk)) n
  · exact h x (List.mem_of_mem_drop hx)
theorem allL_merge {l : List (List UInt8 × Tr)} {k : Nat} (hk : k + 1 < l.length) (h : ∀ x ∈ l, AllL Q x.2) : ∀ x ∈ mergeT l k, AllL Q x.2 := by
  intro x hx
  unfold mergeT at hx
  rcases List.mem_append.1 hx with hx | hx
  · rcases List.mem_append.1 hx with hx | hx
    · exact h x (List.mem_of_mem_take hx)
    · rw [List.mem_singleton.1 hx]
      exact allL_join (h _ (kid_mem (by omega))) (h _ (kid_mem hk))
  · exact h x (List.mem_of_mem_drop hx)
theorem allL_mend (p : Int) {l : List (List UInt8 × Tr)} {k : Nat} (hk : k < l.length) (h : ∀ x ∈ l, AllL Q x.2) : AllL Q (mendT p l k) := by
  unfold mendT
  split
  · exact .branch 0 _ (allL_split hk h)
  · split
    · exact .branch p l h
    · rename_i h2
      have hf : firstT l k + 1 < l.length := by unfold firstT; split <;> omega
      refine .branch 0 _ ?_
      unfold partT
      split
      · exact allL_merge hf h
      · exact allL_split (by have := merge_len hf; omega) (allL_merge hf h)
theorem allL_top : ∀ t : Tr, AllL Q t → AllL Q (topT t) := by
  intro t
  induction t using Tr.ind with
  | hl p l =>
    intro h
    rw [top_at (fun q x e => by cases e)]
    split
    · exact h
    · exact allL_mend 0 (by simp) (fun x hx => by simp at hx; subst hx; exact h)
  | hb p l ih =>
    intro h
    by_cases h1 : ∃ x, l = [x]
    · obtain ⟨x, rfl⟩ := h1
      rw [top_one]
      exact ih x (by simp) (h.kids x (by simp))
    · rw [top_at (fun q x e => h1 ⟨x, by injection e⟩)]
      split
      · exact h
      · exact allL_mend 0 (by simp) (fun x hx => by simp at hx; subst hx; exact h)
theorem allL_putL {c : Lf} (hc : Q c) : ∀ l : List Lf, (∀ x ∈ l, Q x) → ∀ x ∈ putL c l, Q x
  | [], _, x, hx => by rw [putL, List.mem_singleton] at hx; rw [hx]; exact hc
  | y :: l, h, x, hx => by
    unfold putL at hx
    split at hx
    · rcases List.mem_cons.1 hx with rfl | hx
      · exact h x (List.mem_cons_self ..)
      · exact allL_putL hc l (fun z hz => h z (List.mem_cons_of_mem _ hz)) x hx
    · split at hx
      · rcases List.mem_cons.1 hx with rfl | hx
        · exact hc
        · exact h x (List.mem_cons_of_mem _ hx)
      · rcases List.mem_cons.1 hx with rfl | hx
        · exact hc
        · exact h x hx
theorem allL_put {c : Lf} (hc : Q c) : ∀ t : Tr, AllL Q t → AllL Q (putT c t) := by
  intro t
  induction t using Tr.ind with
  | hl p l =>
    intro h
    rw [putT]
    exact .leaf 0 _ (allL_putL hc l h.cells)
  | hb p l ih =>
    intro h
    by_cases hl : l = []
    · subst hl
      rw [putT]
      split
      · rename_i h2
        simp at h2
      · exact h
    · rw [putT_branch c p hl]
      have hw := wayT_lt c.k hl
      refine allL_mend 0 (by rw [List.length_set]; exact hw) (fun x hx => ?_)
      rcases List.mem_or_eq_of_mem_set hx with hx | rfl
      · exact h.kids x hx
      · exact ih _ (kid_mem hw) (h.kids _ (kid_mem hw))
end
end Go.Proofs.Ytpaklhifnndeoaa
end

section
namespace Go.Proofs.Ytpaklhifnndeoaa
open Go.RowKit
set_option linter.unusedVariables false

theorem okKs_of : ∀ (K : List (List UInt8)) (a : List UInt8), List.Pairwise bl (a :: K) → (∀ y ∈ K, y.length ≤ 16) → okKs a K = true
  | [], _, _, _ => rfl
  | k :: K, a, h, hl => by
    obtain ⟨h1, h2⟩ := List.pairwise_cons.1 h
    have h3 : Op.bytesLess a k = true := h1 k (List.mem_cons_self ..)
    have h4 := hl k (List.mem_cons_self ..)
    unfold okKs
    rw [h3, okKs_of K k h2 (fun y hy => hl y (List.mem_cons_of_mem _ hy)), decide_eq_true h4]
    rfl
theorem bl_nil15 {k : List UInt8} (h : k ≠ []) : bl [] k := by
  rcases bl_three [] k with h1 | h1 | h1
  · exact h1
  · exact absurd h1.symm h
  · have h2 : Op.bytesLess k [] = true := h1
    cases k with
    | nil => exact absurd rfl h
    | cons a k => simp [Op.bytesLess] at h2
theorem okVs_of {l : List Lf} (h : ∀ x ∈ l, okLf x) : okVs l = true := by
  unfold okVs
  rw [List.any_eq_false.2 (fun x hx => ?_)]
  · rfl
  · obtain ⟨h1, h2, h3, h4⟩ := h x hx
    unfold badV
    rw [decide_eq_false (by omega)]
    by_cases hp : x.pg = []
    · rw [hp]
      simp
    · have h5 := h4 hp
      have h6 : needN (x.d.length : Int) ≠ 0 := (lg_need _).1 (by unfold lgB; simp; omega)
      rw [decide_eq_false h6]
      simp
theorem fold_good {n : Nat} {l : List (List UInt8 × Tr)} (hs : sepL l) (hk : ∀ x ∈ l, ∃ e, measT x.2 = some e ∧ e.h = n ∧ (∃ z ∈ entT x.2, e.lo = z.1) ∧ (∃ z ∈ entT x.2, e.hi = z.1)) (hlow : ∀ x ∈ l, lowT x.2 = false) :
    ∀ (b a : List (List UInt8 × Tr)) (wh : Ext), l = a ++ b → (a = [] → b ≠ []) → (a ≠ [] → wh.h = n + 1 ∧ (∃ z ∈ entTs l, wh.lo = z.1) ∧ (∃ z ∈ entTs l, wh.hi = z.1)) →
      ∃ e, foldM (l.map (·.1)) a.length wh (partsM b) = some e ∧ e.h = n + 1 ∧ (∃ z ∈ entTs l, e.lo = z.1) ∧ (∃ z ∈ entTs l, e.hi = z.1)
  | [], a, wh, hl, h0, hw => by
    have ha : a ≠ [] := fun e => h0 e rfl
    exact ⟨wh, rfl, hw ha⟩
  | y :: b, a, wh, hl, h0, hw => by
    have hy : y ∈ l := by rw [hl]; simp
    obtain ⟨e, he, hh, ⟨z1, hz1, hlo⟩, ⟨z2, hz2, hhi⟩⟩ := hk y hy
    have hin : ∀ z ∈ entT y.2, z ∈ entTs l := fun z hz => by
      rw [hl, entTs_app, entTs_cons]
      exact List.mem_append_right _ (List.mem_append_left _ hz)
    have hK : (l.map (·.1)).getD a.length [] = y.1 := by
      rw [hl, List.map_append, List.getD_eq_getElem?_getD, List.getElem?_append_right (by rw [List.length_map]; omega), List.length_map, Nat.sub_self]
      rfl
    have hbt : betwT e.lo e.hi (l.map (·.1)) a.length = true := by
      unfold betwT
      have h1 : Op.bytesLess e.lo y.1 = false := by
        have := (hs.2 y hy).2 z1 hz1
        rw [hlo]
        simpa [bl] using this
      rw [hK, h1]
      cases b with
      | nil =>
        rw [decide_eq_true (by rw [hl]; simp)]
        rfl
      | cons z b =>
        have h2 : (l.map (·.1)).getD (a.length + 1) [] = z.1 := by
          rw [hl, List.map_append, List.getD_eq_getElem?_getD, List.getElem?_append_right (by rw [List.length_map]; omega), List.length_map, show a.length + 1 - a.length = 1 by omega]
          rfl
        have h3 : Op.bytesLess e.hi z.1 = true := by
          have hp := hs.1
          rw [hl] at hp
          have hp2 := (List.pairwise_append.1 hp).2.1
          rw [hhi]
          exact ((List.pairwise_cons.1 hp2).1 z (List.mem_cons_self ..)).2 z2 hz2
        rw [h2, h3]
        simp
    have hstep : stepM (l.map (·.1)) a.length wh (measT y.2) (lowT y.2) = some ⟨(whM a.length wh e).lo, e.hi, (whM a.length wh e).h⟩ := by
      unfold stepM
      rw [he]
      simp only
      rw [if_neg (by rw [hlow y hy, hbt]; simp)]
      rw [if_pos]
      unfold whM
      split
      · rfl
      · rename_i ha
        have := hw (fun e => ha (by rw [e]; rfl))
        omega
    have hrec := fold_good hs hk hlow b (a ++ [y]) ⟨(whM a.length wh e).lo, e.hi, (whM a.length wh e).h⟩ (by rw [hl]; simp) (fun e => by simp at e) (fun _ => by
      refine ⟨?_, ?_, z2, hin z2 hz2, hhi⟩
      · unfold whM
        split
        · show e.h + 1 = n + 1
          omega
        · rename_i ha
          exact (hw (fun e => ha (by rw [e]; rfl))).1
      · unfold whM
        split
        · exact ⟨z1, hin z1 hz1, hlo⟩
        · rename_i ha
          exact (hw (fun e => ha (by rw [e]; rfl))).2.1)
    rw [List.length_append] at hrec
    show ∃ e', foldM _ _ _ ((measT y.2, lowT y.2) :: partsM b) = some e' ∧ _
    unfold foldM
    rw [hstep]
    exact hrec
theorem root_meas : ∀ (t : Tr) (n : Nat), RootT n t → SepT n t → entT t ≠ [] → ∃ e, measT t = some e ∧ e.h = n ∧ (∃ z ∈ entT t, e.lo = z.1) ∧ (∃ z ∈ entT t, e.hi = z.1) := by
  intro t
  induction t using Tr.ind with
  | hl p l =>
    intro n h hs hne
    cases h with
    | leaf p l h h2 =>
      cases hs with
      | leaf p l hp =>
        rw [entT_leaf] at hne ⊢
        have h0 : 0 < l.length := List.length_pos_iff.2 (fun e => hne (by rw [e]; rfl))
        have hsd : soundT (.leaf p l) = true := by
          show (decide (sumZ (sizesT (Tr.leaf p l)) ≤ 122) && (decide (0 < l.length) && (okKs [] (l.map (·.k)) && okVs l))) = true
          rw [decide_eq_true (show sumZ (sizesT (Tr.leaf p l)) ≤ 122 from h2), decide_eq_true h0, okVs_of h, okKs_of _ [] ?_ ?_]
          · rfl
          · refine List.pairwise_cons.2 ⟨fun k hk => ?_, ?_⟩
            · obtain ⟨y, hy, rfl⟩ := List.mem_map.1 hk
              have := (h y hy).1
              exact bl_nil15 (fun e => by rw [e] at this; simp at this)
            · exact List.pairwise_map.2 hp
          · intro k hk
            obtain ⟨y, hy, rfl⟩ := List.mem_map.1 hk
            exact (h y hy).2.1
        refine ⟨_, by rw [measT_leaf, if_pos hsd], rfl, ?_, ?_⟩
        · refine ⟨_, List.mem_map.2 ⟨l.getD 0 default, ?_, rfl⟩, rfl⟩
          exact List.mem_of_getElem? (last15 h0)
        · refine ⟨_, List.mem_map.2 ⟨l.getD (l.length - 1) default, ?_, rfl⟩, rfl⟩
          exact List.mem_of_getElem? (last15 (by omega))
  | hb p l ih =>
    intro n h hs hne
    cases h with
    | branch n p l h0 hk hf hl h2 =>
      cases hs with
      | branch n p l hsl hsk hlne hs0 =>
        have hsd : soundT (.branch p l) = true := by
          show (decide (sumZ (sizesT (Tr.branch p l)) ≤ 122) && (decide (1 < l.length) && (decide ((kidT l 0).1 = []) && okKs [] ((l.map (·.1)).drop 1)))) = true
          rw [decide_eq_true (show sumZ (sizesT (Tr.branch p l)) ≤ 122 from h2), decide_eq_true (by omega)]
          rcases l with _ | ⟨x, l⟩
          · exact absurd rfl hlne
          · have hx : x.1 = [] := h0 x (by simp)
            have hkx : (kidT (x :: l) 0).1 = [] := hx
            rw [decide_eq_true hkx, okKs_of _ [] ?_ ?_]
            · rfl
            · show List.Pairwise bl ([] :: l.map (·.1))
              obtain ⟨g1, g2⟩ := List.pairwise_cons.1 hsl.1
              refine List.pairwise_cons.2 ⟨fun k hk => ?_, List.pairwise_map.2 (g2.imp fun h => h.1)⟩
              obtain ⟨y, hy, rfl⟩ := List.mem_map.1 hk
              have := (g1 y hy).1
              rw [hx] at this
              exact this
            · intro k hk'
              obtain ⟨y, hy, rfl⟩ := List.mem_map.1 hk'
              exact hk y (List.mem_cons_of_mem _ hy)
        have hkids : ∀ x ∈ l, ∃ e, measT x.2 = some e ∧ e.h = n ∧ (∃ z ∈ entT x.2, e.lo = z.1) ∧ (∃ z ∈ entT x.2, e.hi = z.1) := fun x hx => ih x hx n (hf x hx).root (hsk x hx) (hsl.2 x hx).1
        have hlow : ∀ x ∈ l, lowT x.2 = false := fun x hx => decide_eq_false (by have := (hf x hx).near.2.1; show ¬ sumT x.2 < 30; omega)
        obtain ⟨e, he, hrest⟩ := fold_good hsl hkids hlow l [] ⟨[], [], 0⟩ rfl (fun _ => hlne) (fun h => absurd rfl h)
        refine ⟨e, ?_, ?_⟩
        · rw [measT_branch, if_pos hsd]
          exact he
        · rw [entT_br]
          exact hrest
theorem good_check {t : Tr} (h : GoodT t) (hne : entT t ≠ []) : checkC t = true := by
  obtain ⟨n, h1, h2⟩ := h
  obtain ⟨e, he, _⟩ := root_meas t n h1 h2 hne
  unfold checkC
  rw [he]
  simp
theorem empty_check : checkC (.leaf 0 []) = true := rfl
end Go.Proofs.Ytpaklhifnndeoaa
end

section
namespace Go.Proofs.Ytpaklhifnndeoaa
open Go.RowKit
set_option linter.unusedVariables false

structure GdT (m : Nat) (t : Tr) : Prop where
  good : GoodT t
  bare : AllL (fun x => x.pg = []) t
  few : (entT t).length ≤ m
theorem gd_empty (m : Nat) : GdT m (.leaf 0 []) := ⟨good_empty, .leaf 0 [] (fun x hx => by cases hx), by rw [entT_leaf]; exact Nat.zero_le _⟩
theorem len_putE (k d : List UInt8) : ∀ l : List (List UInt8 × List UInt8), (putE15 k d l).length ≤ l.length + 1
  | [] => by simp [putE15]
  | x :: l => by
    unfold putE15
    split
    · simp only [List.length_cons]
      have := len_putE k d l
      omega
    · split <;> simp
theorem ne_putE (k d : List UInt8) : ∀ l : List (List UInt8 × List UInt8), putE15 k d l ≠ []
  | [] => by simp [putE15]
  | x :: l => by
    unfold putE15
    split
    · simp
    · split <;> simp
theorem gd_put {m : Nat} (c : Lf) (hc : okLf c) (hpg : c.pg = []) {t : Tr} (h : GdT m t) : GdT (m + 1) (putTop c t) ∧ entT (putTop c t) = putE15 c.k c.d (entT t) ∧ entT (putTop c t) ≠ [] := by
  obtain ⟨h1, h2⟩ := good_put c hc h.good
  refine ⟨⟨h1, allL_top _ (allL_put hpg t h.bare), ?_⟩, h2, by rw [h2]; exact ne_putE _ _ _⟩
  rw [h2]
  have := len_putE c.k c.d (entT t)
  have := h.few
  omega
section
variable {m : Nat} {t : Tr}
theorem GdT.bndT (h : GdT m t) : BndT t := by obtain ⟨n, h1, _⟩ := h.good; exact near_bndT t n h1.near
theorem GdT.len (h : GdT m t) : LenT t := bndT_len t h.bndT
theorem GdT.put (h : GdT m t) (c : Lf) (hc : okLf c) (hpg : c.pg = []) (F : Nat → Prop) (x : NDV) (w : World) (hr : RepT F w x t) :
    Calls Try.prog 17 #[ndV x, .string ⟨c.k.toArray⟩, .string ⟨c.d.toArray⟩] w (NodT (fun g => w.heap.size ≤ g) (putTop c t) w) := by
  obtain ⟨n, h1, h2⟩ := h.good
  exact trPut_any c hpg t F x w hr (bndT_sml t h.bndT h.bare) (root_putB c hc t n h1 h2) (sep_ris c.k t n h2) (near_topB _ n (near_put c hc t n h1 h2))
theorem GdT.find (h : GdT m t) (s : List UInt8) (F : Nat → Prop) (x : NDV) (w : World) (hr : RepT F w x t) :
    Calls Try.prog 22 #[ndV x, .string ⟨s.toArray⟩] w fun e w' => e = .returned (tellF (findT t s)) ∧ Below w.heap.size w w' := trFind_any s t F x w hr h.bndT
theorem GdT.check (h : GdT m t) (hm : m ≤ 1000) (F : Nat → Prop) (x : NDV) (w : World) (hr : RepT F w x t) :
    Calls Try.prog 24 #[ndV x] w fun e w' => e = .returned (.bool (checkC t)) ∧ Below w.heap.size w w' := by
  obtain ⟨n, h1, h2⟩ := h.good
  exact trCheck_any F x t w hr (bndT_chk t h.bndT h.bare) n (by have := root_high h1 h2; have := h.few; omega) (near_dep t n h1.near)
theorem GdT.plain (h : GdT m t) (F : Nat → Prop) (x : NDV) (w : World) (hr : RepT F w x t) : Calls Try.prog 21 #[ndV x] w (NodeE F t w) := plain_any t h.len F x w hr
end
set_option maxHeartbeats 1000000 in
theorem ints15_same (l : List Int) (A B : Option Addr) (n c c' : Nat) (w : World) (ha : RowZ w A n c l) (hb : RowZ w B n c' l) (hl : n ≤ 1000000) :
    Calls Try.prog 41 #[.slice A n c, .slice B n c'] w fun e w' => e = .returned (.bool true) ∧ Below w.heap.size w w' := by
  have HN := Lib.hid ha.len
  have HA := Lib.hid ha
  have HB := Lib.hid hb
  clear ha hb
  go_enter Try.func41, Try.ntmps41
  go_wp2
  go_loopw [5] (fun i wr => ∃ k : Nat, k ≤ n ∧ i = .int .i64 k ∧ Below w.heap.size w wr) (fun i _ => n - (intOf i).toNat)
  case atStart => exact ⟨0, Nat.zero_le _, rfl, Below.refl _ _⟩
  case round =>
    obtain ⟨k, hk, rfl, hB⟩ := hrel
    have BW := Lib.hid hB
    clear hB
    by_cases hlt : k < n
    · have hkl : k < l.length := by have := HN.out; omega
      obtain ⟨g1, o1, rfl, c1⟩ := (HA.out.below BW.out).reads.zint14 hkl
      obtain ⟨g2, o2, rfl, c2⟩ := (HB.out.below BW.out).reads.zint14 hkl
      generalize l[k] = x at c1 c2
      clear hkl
      have i0 : (0 : Int) ≤ (k : Int) := by omega
      have i1 : (k : Int) < (n : Int) := by omega
      go_wp2
      go_region
      go_wp2
      go_roundw
      case rel => exact ⟨k + 1, by omega, by go_num, BW.out.drew⟩
      case measure => simp [intOf]; omega
    · obtain ⟨w3, hw3⟩ : ∃ w3 : World, w3 = wr := ⟨_, rfl⟩
      subst hw3
      go_wp2
      go_ret
      exact ⟨rfl, BW.out⟩
/-! The document's example. -/
def cK : Lf := ⟨[107], [118], []⟩
theorem cK_ok : okLf cK := ⟨by decide, by decide, by decide, fun h => absurd rfl h⟩
theorem put_cK : putTop cK (.leaf 0 []) = .leaf 0 [cK] := by
  unfold putTop
  rw [putT, top_at (fun q x e => by cases e), if_pos (atZ_zero (.inr (by decide)))]
  rfl
theorem find_k : findT (.leaf 0 [cK]) [107] = some [118] := by rw [findT]; rfl
theorem find_j : findT (.leaf 0 [cK]) [106] = none := by rw [findT]; rfl
theorem gd_k : GdT 1 (.leaf 0 [cK]) := by
  have h := (gd_put cK cK_ok rfl (gd_empty 0)).1
  rw [put_cK] at h
  exact h
theorem check_k : checkC (.leaf 0 [cK]) = true := good_check gd_k.good (by rw [entT_leaf]; simp)
theorem check_zero : checkC (.branch 0 []) = false := by
  unfold checkC
  rw [measT_branch, if_neg (by decide)]
  rfl
end Go.Proofs.Ytpaklhifnndeoaa
end

section
namespace Go.Proofs.Ytpaklhifnndeoaa
open Go.RowKit
set_option linter.unusedVariables false

theorem empty_node {F : Nat → Prop} {w : World} {z : NDV} (h : RepT F w z (.leaf 0 [])) : z.p = 0 ∧ z.lf = true ∧ z.kn = 0 := by
  obtain ⟨h1, h2, h3, _⟩ := repT_rowL.1 h
  exact ⟨h1, h2, h3.zero (by omega)⟩
theorem leaf_node {F : Nat → Prop} {w : World} {z : NDV} {p : Int} {l : List Lf} (h : RepT F w z (.leaf p l)) : z.lf = true := (repT_rowL.1 h).2.1
theorem put_k (F : Nat → Prop) (x : NDV) (w : World) (h : RepT F w x (.leaf 0 [])) : Calls Try.prog 17 #[ndV x, .string ⟨#[107]⟩, .string ⟨#[118]⟩] w (NodT (fun g => w.heap.size ≤ g) (.leaf 0 [cK]) w) := by
  have := (gd_empty 0).put cK cK_ok rfl F x w h
  rw [put_cK] at this
  exact this
theorem find_kw (F : Nat → Prop) (x : NDV) (w : World) (h : RepT F w x (.leaf 0 [cK])) : Calls Try.prog 22 #[ndV x, .string ⟨#[107]⟩] w fun e w' => e = .returned (.tuple #[.string ⟨#[118]⟩, .bool true]) ∧ Below w.heap.size w w' := by
  have := gd_k.find [107] F x w h
  rw [find_k] at this
  exact this
theorem find_jw (F : Nat → Prop) (x : NDV) (w : World) (h : RepT F w x (.leaf 0 [cK])) : Calls Try.prog 22 #[ndV x, .string ⟨#[106]⟩] w fun e w' => e = .returned (.tuple #[.string ⟨#[]⟩, .bool false]) ∧ Below w.heap.size w w' := by
  have := gd_k.find [106] F x w h
  rw [find_j] at this
  exact this
theorem sizes_k (F : Nat → Prop) (x : NDV) (w : World) (h : RepT F w x (.leaf 0 [cK])) : Calls Try.prog 42 #[ndV x] w fun e w' => ∃ A c, e = .returned (.slice A 1 c) ∧ RowZ w' A 1 c [5] ∧ Below w.heap.size w w' :=
  trSizes_any F x (.leaf 0 [cK]) w h ⟨by simp, fun y hy => by simp at hy; subst hy; exact ⟨by decide, by decide⟩⟩
theorem check_kw (F : Nat → Prop) (x : NDV) (w : World) (h : RepT F w x (.leaf 0 [cK])) : Calls Try.prog 24 #[ndV x] w fun e w' => e = .returned (.bool true) ∧ Below w.heap.size w w' := by
  have := gd_k.check (by omega) F x w h
  rw [check_k] at this
  exact this
theorem check_ew (F : Nat → Prop) (x : NDV) (w : World) (h : RepT F w x (.leaf 0 [])) : Calls Try.prog 24 #[ndV x] w fun e w' => e = .returned (.bool true) ∧ Below w.heap.size w w' := by
  have := (gd_empty 0).check (by omega) F x w h
  rw [empty_check] at this
  exact this
theorem check_zw (w : World) : Calls Try.prog 24 #[.agg #[.int .i64 0, .bool false, .slice none 0 0, .slice none 0 0, .slice none 0 0]] w fun e w' => e = .returned (.bool false) ∧ Below w.heap.size w w' := by
  have := trCheck_any (fun _ => True) ⟨0, false, none, 0, 0, none, 0, 0, none, 0, 0⟩ (.branch 0 []) w (repT_rowB.2 ⟨rfl, rfl, row_zeroB _ _ _ _⟩) (.branch 0 [] ⟨by simp, fun y hy => by cases hy⟩ (fun y hy => by cases hy)) 1 (by omega) (.branch 0 0 [] (fun y hy => by cases hy))
  rw [check_zero] at this
  exact this
theorem lit_z5 (w : World) : RowZ (w.alloc (.cells #[.int .i64 5] 3)) (some ⟨w.heap.size, 0, none⟩) 1 1 [5] :=
  ⟨rfl, fun _ => ⟨w.heap.size, 0, rfl, fun j u hj => by rw [(Has.made w 3 #[.int .i64 5]).cell, Nat.zero_add]; simpa using hj⟩, fun e => (by cases e), Nat.le_refl _, by decide⟩
set_option maxRecDepth 100000 in
set_option maxHeartbeats 8000000 in
theorem awake15_any (w : World) : Calls Try.prog 13 #[] w fun e w' => e = .returned (.bool true) ∧ Below w.heap.size w w' := by
  have HEM := Lib.hid (fun w1 => trEmpty_any w1)
  have HIN := Lib.hid (fun (l : List Int) A B n c c' w1 (ha : RowZ w1 A n c l) (hb : RowZ w1 B n c' l) h => ints15_same l A B n c c' w1 ha hb h)
  have HCZ := Lib.hid (fun w1 => check_zw w1)
  go_enter Try.func13, Try.ntmps13
  go_wp2_with (first
    | (go_at_call 15; (with_reducible refine (HEM.out _).mono ?_); rintro e1 w1 ⟨⟨p1, lf1, kA1, kn1, kc1, vA1, vn1, vc1, dA1, dn1, dc1⟩, rfl, r1, b1⟩; obtain ⟨hp1, hl1, hk1⟩ := empty_node r1; simp only at hp1 hl1 hk1; subst hp1 hl1 hk1; unfold ndV; simp only; obtain ⟨W1, hW1⟩ : ∃ x, w1.alloc (.cells #[.int .i64 0, .bool true, .slice kA1 0 kc1, .slice vA1 vn1 vc1, .slice dA1 dn1 dc1] 29) = x := ⟨_, rfl⟩; have c1 : Below w1.heap.size w1 W1 := hW1 ▸ (Below.refl _ w1).alloc (Nat.le_refl _) _; have X1 : Has W1 w1.heap.size 29 #[.int .i64 0, .bool true, .slice kA1 0 kc1, .slice vA1 vn1 vc1, .slice dA1 dn1 dc1] := hW1 ▸ Has.made w1 29 _; have B1 := Lib.hid (below_step b1 c1); have R1 := Lib.hid (r1.stay c1); have HX1 := Lib.hid X1; have x10 := X1.cell 0; have x11 := X1.cell 1; have x12 := X1.cell 2; have x13 := X1.cell 3; have x14 := X1.cell 4; have HPU := Lib.hid (put_k _ ⟨0, true, kA1, 0, kc1, vA1, vn1, vc1, dA1, dn1, dc1⟩ W1 (r1.stay c1)); unfold ndV at HPU; simp only at HPU; clear r1 b1 c1 X1)
    | (go_at_call 17; (with_reducible refine (HPU.out).mono ?_); rintro e2 w2 ⟨⟨p2, lf2, kA2, kn2, kc2, vA2, vn2, vc2, dA2, dn2, dc2⟩, rfl, r2, b2⟩; have hl2 := leaf_node r2; simp only at hl2; subst hl2; unfold ndV; simp only; obtain ⟨W2, hW2⟩ : ∃ x, w2.alloc (.cells #[.int .i64 p2, .bool true, .slice kA2 kn2 kc2, .slice vA2 vn2 vc2, .slice dA2 dn2 dc2] 29) = x := ⟨_, rfl⟩; have c2 : Below w2.heap.size w2 W2 := hW2 ▸ (Below.refl _ w2).alloc (Nat.le_refl _) _; have X2 : Has W2 w2.heap.size 29 #[.int .i64 p2, .bool true, .slice kA2 kn2 kc2, .slice vA2 vn2 vc2, .slice dA2 dn2 dc2] := hW2 ▸ Has.made w2 29 _; have d2 := below_step b2 c2; have B2 := Lib.hid (below_step B1.out d2); have R2 := Lib.hid (RepT.stay r2 c2); have R12 := Lib.hid (R1.out.stay d2); have HX2 := Lib.hid X2; have HX12 := Lib.hid (HX1.out.below d2 HX1.out.lt); have x20 := X2.cell 0; have x21 := X2.cell 1; have x22 := X2.cell 2; have x23 := X2.cell 3; have x24 := X2.cell 4; have HFK := Lib.hid (fun (w' : World) (hb : Below W2.heap.size W2 w') => find_kw _ ⟨p2, true, kA2, kn2, kc2, vA2, vn2, vc2, dA2, dn2, dc2⟩ w' ((RepT.stay r2 c2).stay hb)); have HFJ := Lib.hid (fun (w' : World) (hb : Below W2.heap.size W2 w') => find_jw _ ⟨p2, true, kA2, kn2, kc2, vA2, vn2, vc2, dA2, dn2, dc2⟩ w' ((RepT.stay r2 c2).stay hb)); have HSI := Lib.hid (fun (w' : World) (hb : Below W2.heap.size W2 w') => sizes_k _ ⟨p2, true, kA2, kn2, kc2, vA2, vn2, vc2, dA2, dn2, dc2⟩ w' ((RepT.stay r2 c2).stay hb)); have HCN := Lib.hid (fun (w' : World) (hb : Below W2.heap.size W2 w') => check_kw _ ⟨p2, true, kA2, kn2, kc2, vA2, vn2, vc2, dA2, dn2, dc2⟩ w' ((RepT.stay r2 c2).stay hb)); have HCE := Lib.hid (fun (w' : World) (hb : Below W2.heap.size W2 w') => check_ew _ ⟨0, true, kA1, 0, kc1, vA1, vn1, vc1, dA1, dn1, dc1⟩ w' ((R1.out.stay d2).stay hb)); unfold ndV at HFK HFJ HSI HCN HCE; simp only at HFK HFJ HSI HCN HCE; clear r2 b2 c2 d2 X2)
    | (go_at_call 22; (with_reducible refine (HFK.out _ (Below.refl _ _)).mono ?_); rintro e3 w3 ⟨rfl, b3⟩; have q3 := b3; have z1 := HX12.out.below q3 HX12.out.lt; have y30 := z1.cell 0; have y31 := z1.cell 1; have y32 := z1.cell 2; have y33 := z1.cell 3; have y34 := z1.cell 4; have z2 := HX2.out.below q3 HX2.out.lt; have u30 := z2.cell 0; have u31 := z2.cell 1; have u32 := z2.cell 2; have u33 := z2.cell 3; have u34 := z2.cell 4; have Q3 := Lib.hid q3; clear z1 z2 q3; clear b3)
    | (go_at_call 22; (with_reducible refine (HFJ.out _ Q3.out).mono ?_); rintro e4 w4 ⟨rfl, b4⟩; have q4 := below_step Q3.out b4; have z1 := HX12.out.below q4 HX12.out.lt; have y40 := z1.cell 0; have y41 := z1.cell 1; have y42 := z1.cell 2; have y43 := z1.cell 3; have y44 := z1.cell 4; have z2 := HX2.out.below q4 HX2.out.lt; have u40 := z2.cell 0; have u41 := z2.cell 1; have u42 := z2.cell 2; have u43 := z2.cell 3; have u44 := z2.cell 4; have Q4 := Lib.hid q4; clear z1 z2 q4; clear b4)
    | (go_at_call 42; (with_reducible refine (HSI.out _ Q4.out).mono ?_); rintro e5 w5 ⟨A5, c5, rfl, r5, b5⟩; obtain ⟨W5, hW5⟩ : ∃ x, w5.alloc (.cells #[.int .i64 5] 3) = x := ⟨_, rfl⟩; have c6 : Below w5.heap.size w5 W5 := hW5 ▸ (Below.refl _ w5).alloc (Nat.le_refl _) _; have R5 := Lib.hid (r5.below c6); have L5 : Hid (RowZ W5 (some ⟨w5.heap.size, 0, none⟩) 1 1 [5]) := Lib.hid (hW5 ▸ lit_z5 w5); have Q5 := Lib.hid (below_step Q4.out (below_step b5 c6)); clear r5 b5 c6)
    | (go_at_call 41; (with_reducible refine (HIN.out _ _ _ _ _ _ _ R5.out L5.out (by omega)).mono ?_); rintro e6 w6 ⟨rfl, b6⟩; have q6 := below_step Q5.out b6; have z1 := HX12.out.below q6 HX12.out.lt; have y60 := z1.cell 0; have y61 := z1.cell 1; have y62 := z1.cell 2; have y63 := z1.cell 3; have y64 := z1.cell 4; have z2 := HX2.out.below q6 HX2.out.lt; have u60 := z2.cell 0; have u61 := z2.cell 1; have u62 := z2.cell 2; have u63 := z2.cell 3; have u64 := z2.cell 4; have Q6 := Lib.hid q6; clear z1 z2 q6; clear b6)
    | (go_at_call 24; (with_reducible refine (HCN.out _ Q6.out).mono ?_); rintro e7 w7 ⟨rfl, b7⟩; have q7 := below_step Q6.out b7; have z1 := HX12.out.below q7 HX12.out.lt; have y70 := z1.cell 0; have y71 := z1.cell 1; have y72 := z1.cell 2; have y73 := z1.cell 3; have y74 := z1.cell 4; have z2 := HX2.out.below q7 HX2.out.lt; have u70 := z2.cell 0; have u71 := z2.cell 1; have u72 := z2.cell 2; have u73 := z2.cell 3; have u74 := z2.cell 4; have Q7 := Lib.hid q7; clear z1 z2 q7; clear b7)
    | (go_at_call 24; (with_reducible refine (HCE.out _ Q7.out).mono ?_); rintro e8 w8 ⟨rfl, b8⟩; have Q8 := Lib.hid (below_step Q7.out b8); clear b8)
    | (go_at_call 24; (with_reducible refine (HCZ.out _).mono ?_); rintro e9 w9 ⟨rfl, b9⟩; have Q9 := Lib.hid (below_step Q8.out b9); clear b9))
  go_ret
  exact ⟨rfl, below_step B2.out Q9.out⟩
end Go.Proofs.Ytpaklhifnndeoaa
end

section
namespace Go.Proofs.Ytpaklhifnndeoaa
open Go.RowKit
set_option linter.unusedVariables false

abbrev EL := List (List UInt8 × List UInt8)
theorem bl_total2 {a b : List UInt8} (h : ¬ bl a b) (hne : a ≠ b) : bl b a := by
  by_cases h2 : bl b a
  · exact h2
  · exact absurd (bl_total a b (Bool.eq_false_iff.2 h) (Bool.eq_false_iff.2 h2)) hne
def RisE (l : EL) : Prop := l.Pairwise (fun x y => bl x.1 y.1)
structure PosE (k d : List UInt8) (l l' : EL) (p : Nat) (ins : Bool) : Prop where
  len : l'.length = l.length + (if ins = true then 1 else 0)
  lt : p < l'.length
  here : l'[p]? = some (k, d)
  own : ∀ (j : Nat) (x : List UInt8 × List UInt8), l'[j]? = some x → (x.1 = k ↔ j = p)
  old : ∀ j, j ≠ p → l[if ins = true ∧ p < j then j - 1 else j]? = l'[j]?
  new : ins = true → ∀ x, l[p]? = some x → x.1 ≠ k
  same : ins = false → ∃ x, l[p]? = some x ∧ x.1 = k
  rise : RisE l'
theorem ne_of_bl {a b : List UInt8} (h : bl a b) : a ≠ b := fun e => by rw [e] at h; exact absurd h (by simp [bl, bl_irrefl])
theorem putE_pos (k d : List UInt8) : ∀ (l : EL), RisE l → ∃ p ins, PosE k d l (putE15 k d l) p ins
  | [], _ => ⟨0, true, by
      rw [show putE15 k d [] = [(k, d)] from rfl]
      exact ⟨rfl, Nat.zero_lt_one, rfl, fun j x hx => by
        cases j with
        | zero => simp at hx; subst hx; simp
        | succ j => simp at hx, fun j hj => by
        cases j with
        | zero => exact absurd rfl hj
        | succ j => simp, fun _ x hx => by simp at hx, fun h => (by cases h), List.pairwise_singleton _ _⟩⟩
  | x :: l, h => by
    have hx := List.pairwise_cons.1 h
    have hmem : ∀ (j : Nat) (y : List UInt8 × List UInt8), l[j]? = some y → bl x.1 y.1 := fun j y hy => hx.1 y (List.mem_of_getElem? hy)
    unfold putE15
    by_cases h1 : bl x.1 k
    · obtain ⟨p, ins, hp⟩ := putE_pos k d l hx.2
      rw [if_pos h1]
      refine ⟨p + 1, ins, ?_, ?_, ?_, ?_, ?_, ?_, ?_, ?_⟩
      · rw [List.length_cons, hp.len, List.length_cons]; omega
      · rw [List.length_cons]; have := hp.lt; omega
      · rw [List.getElem?_cons_succ]; exact hp.here
      · intro j y hy
        cases j with
        | zero =>
          simp at hy
          subst hy
          constructor
          · intro e; exact absurd e (ne_of_bl h1)
          · intro e; cases e
        | succ j =>
          rw [List.getElem?_cons_succ] at hy
          have := hp.own j y hy
          exact this.trans ⟨fun e => by omega, fun e => by omega⟩
      · intro j hj
        cases j with
        | zero => simp
        | succ j =>
          have := hp.old j (by omega)
          rw [List.getElem?_cons_succ, ← this]
          by_cases hc : ins = true ∧ p < j
          · rw [if_pos hc, if_pos ⟨hc.1, by omega⟩]
            obtain ⟨j', rfl⟩ : ∃ j', j = j' + 1 := ⟨j - 1, by omega⟩
            simp
          · rw [if_neg hc, if_neg (fun q => hc ⟨q.1, by omega⟩), List.getElem?_cons_succ]
      · intro hi y hy
        rw [List.getElem?_cons_succ] at hy
        exact hp.new hi y hy
      · intro hi
        obtain ⟨y, hy, hyk⟩ := hp.same hi
        exact ⟨y, by rw [List.getElem?_cons_succ]; exact hy, hyk⟩
      · refine List.pairwise_cons.2 ⟨fun y hy => ?_, hp.rise⟩
        rcases mem_putE hy with rfl | hy
        · exact h1
        · exact hx.1 y hy
    · rw [if_neg h1]
      by_cases h2 : x.1 = k
      · rw [if_pos h2]
        refine ⟨0, false, ?_, ?_, ?_, ?_, ?_, ?_, ?_, ?_⟩
        · simp
        · simp
        · rfl
        · intro j y hy
          cases j with
          | zero => simp at hy; subst hy; simp
          | succ j =>
            rw [List.getElem?_cons_succ] at hy
            have := hmem j y hy
            constructor
            · intro e; exact absurd (e ▸ h2) (ne_of_bl this)
            · intro e; cases e
        · intro j hj
          cases j with
          | zero => exact absurd rfl hj
          | succ j => simp
        · intro hi; cases hi
        · intro _; exact ⟨x, rfl, h2⟩
        · exact List.pairwise_cons.2 ⟨fun y hy => h2 ▸ hx.1 y hy, hx.2⟩
      · rw [if_neg h2]
        have h3 := bl_total2 h1 h2
        have hall : ∀ y ∈ x :: l, bl k y.1 := fun y hy => by
          rcases List.mem_cons.1 hy with rfl | hy
          · exact h3
          · exact bl_trans _ _ _ h3 (hx.1 y hy)
        refine ⟨0, true, ?_, ?_, ?_, ?_, ?_, ?_, ?_, ?_⟩
        · simp
        · simp
        · rfl
        · intro j y hy
          cases j with
          | zero => simp at hy; subst hy; simp
          | succ j =>
            rw [List.getElem?_cons_succ] at hy
            constructor
            · intro e; exact absurd e.symm (ne_of_bl (hall y (List.mem_of_getElem? hy)))
            · intro e; cases e
        · intro j hj
          cases j with
          | zero => exact absurd rfl hj
          | succ j => simp
        · intro _ y hy
          simp at hy
          exact hy ▸ h2
        · intro hi; cases hi
        · exact List.pairwise_cons.2 ⟨hall, h⟩
structure OneI (w W : World) (P : Nat) (m : Nat) (t : Tr) (z : NDV) : Prop where
  b : Has W P 29 #[.int .i64 z.p, .bool z.lf, .slice z.kA z.kn z.kc, .slice z.vA z.vn z.vc, .slice z.dA z.dn z.dc]
  rt : RepT (fun q => q ≠ P) W z t
  gd : GdT m t
  ne : t = .leaf 0 [] ∨ entT t ≠ []
  bl : Below w.heap.size w W
theorem OneI.below {w W W' : World} {P m : Nat} {t : Tr} {z : NDV} (h : OneI w W P m t z) (hb : Below W.heap.size W W') : OneI w W' P m t z :=
  ⟨h.b.below hb h.b.lt, h.rt.stay hb, h.gd, h.ne, below_step h.bl hb⟩
structure PutY (V w : World) (P : Nat) (z : NDV) (t : Tr) : Prop where
  bl : Below V.heap.size V w
  b : Has w P 29 #[.int .i64 z.p, .bool z.lf, .slice z.kA z.kn z.kc, .slice z.vA z.vn z.vc, .slice z.dA z.dn z.dc]
  h : V.heap.size ≤ P
  rep : RepT (fun q => V.heap.size ≤ q ∧ q ≠ P) w z t
theorem PutY.below {V w w' : World} {P : Nat} {z : NDV} {t : Tr} (h : PutY V w P z t) (hb : Below w.heap.size w w') : PutY V w' P z t :=
  ⟨below_step h.bl hb, h.b.below hb h.b.lt, h.h, h.rep.stay hb⟩
theorem r15Ents_row (t : Tr) (F : Nat → Prop) (v : NV) (w : World) (h : RepN F w v t) (hen : (entT t).length ≤ 100000) (m : Nat) (hm : (entT t).length = m) : Calls Try.prog 25 #[nvV v] w (fun e w' => ∃ A c, e = .returned (.slice A m c) ∧ RwF (fun g => w.heap.size ≤ g) w' A m c 4 (flatC ((entT t).map ceE)) ∧ Below w.heap.size w w') := by
  subst hm
  refine (r15Entries_any t F v w h hen).mono ?_
  rintro e w' ⟨v2, rfl, ho, hb⟩
  obtain ⟨A, c, rfl, _, _⟩ := slice15 ho
  exact ⟨A, c, rfl, RwF.ofOwn ho, hb⟩
theorem ents_cell {F : Nat → Prop} {w : World} {A : Option Addr} {n c : Nat} {l : EL} (h : RwF F w A n c 4 (flatC (l.map ceE))) {j : Nat} {x : List UInt8 × List UInt8} (hx : l[j]? = some x) :
    ∃ g off, A = some ⟨g, off, none⟩ ∧ w.cell? ⟨g, off + j * 4, none⟩ = some (.string ⟨x.1.toArray⟩) ∧ w.cell? ⟨g, off + j * 4 + 1, none⟩ = some (.string ⟨x.2.toArray⟩) := by
  obtain ⟨g, off, hA, _, c0, c1, _, _⟩ := h.at4 (i := j) (e := ceE x) (by rw [List.getElem?_map, hx]; rfl)
  exact ⟨g, off, hA, c0, c1⟩
def kofE (ins : Bool) (p j : Nat) : Nat := if ins = true ∧ p < j then j - 1 else j
end Go.Proofs.Ytpaklhifnndeoaa
end

section
namespace Go.Proofs.Ytpaklhifnndeoaa
open Go.RowKit
set_option linter.unusedVariables false

end Go.Proofs.Ytpaklhifnndeoaa
end

section
namespace Go.Proofs.Ytpaklhifnndeoaa
open Go.RowKit
set_option linter.unusedVariables false

def cP (x : PA) : Lf := ⟨x.k, valP x, []⟩
theorem cP_ok {x : PA} (h : okP15 x = true) : okLf (cP x) ∧ 0 ≤ x.z ∧ x.z ≤ 400 := by
  unfold okP15 at h
  simp only [Bool.and_eq_true, decide_eq_true_eq, bne_iff_ne, ne_eq] at h
  obtain ⟨⟨⟨h1, h2⟩, h3⟩, h4⟩ := h
  refine ⟨⟨?_, h2, ?_, fun h => absurd rfl h⟩, h3, h4⟩
  · exact List.length_pos_iff.2 h1
  · show (valP x).length ≤ 400
    unfold valP
    rw [List.length_replicate]
    omega
structure PutsI (w W : World) (P7 P8 : Nat) (m : Nat) (t : Tr) (z : NDV) (v : NV) : Prop where
  b7 : Has W P7 29 #[.int .i64 z.p, .bool z.lf, .slice z.kA z.kn z.kc, .slice z.vA z.vn z.vc, .slice z.dA z.dn z.dc]
  b8 : Has W P8 33 #[.int .i64 v.p, .bool v.lf, .slice v.A v.n v.c]
  rt : RepT (fun q => q ≠ P7 ∧ q ≠ P8) W z t
  rn : RepN (fun q => q ≠ P7 ∧ q ≠ P8) W v t
  gd : GdT m t
  ne : t = .leaf 0 [] ∨ entT t ≠ []
  bl : Below w.heap.size w W
theorem PutsI.below {w W W' : World} {P7 P8 m : Nat} {t : Tr} {z : NDV} {v : NV} (h : PutsI w W P7 P8 m t z v) (hb : Below W.heap.size W W') : PutsI w W' P7 P8 m t z v :=
  ⟨h.b7.below hb h.b7.lt, h.b8.below hb h.b8.lt, h.rt.stay hb, h.rn.stay hb, h.gd, h.ne, below_step h.bl hb⟩
end Go.Proofs.Ytpaklhifnndeoaa
end
