import Derived.Test.YtpaklhifnndeoaaJ00
/- Of a claim's texts, joined: Tro Trp. No statement but in the last. -/
section
namespace Go.Proofs.Ytpaklhifnndeoaa
open Go.RowKit
set_option linter.unusedVariables false

abbrev bl (a b : List UInt8) : Prop := Op.bytesLess a b = true
theorem bl_le_trans {a b c : List UInt8} (h : ¬ bl b a) (h2 : bl b c) : bl a c := by
  by_cases e : bl a b
  · exact bl_trans a b c e h2
  · rw [bl_total a b (by simpa [bl] using e) (by simpa [bl] using h)]
    exact h2
theorem bl_lt_le {a b c : List UInt8} (h : bl a b) (h2 : ¬ bl c b) : bl a c := by
  by_cases e : bl b c
  · exact bl_trans a b c h e
  · rw [← bl_total b c (by simpa [bl] using e) (by simpa [bl] using h2)]
    exact h
theorem bl_asym {a b : List UInt8} (h : bl a b) : ¬ bl b a := fun h2 => by
  have := bl_trans a b a h h2
  rw [bl_irrefl] at this
  cases this
def putE15 (k d : List UInt8) : List (List UInt8 × List UInt8) → List (List UInt8 × List UInt8)
  | [] => [(k, d)]
  | x :: l => if Op.bytesLess x.1 k then x :: putE15 k d l else if x.1 = k then (k, d) :: l else (k, d) :: x :: l
theorem putE_low {k d : List UInt8} {b : List (List UInt8 × List UInt8)} : ∀ {a : List (List UInt8 × List UInt8)}, (∀ e ∈ a, bl e.1 k) → putE15 k d (a ++ b) = a ++ putE15 k d b
  | [], _ => rfl
  | x :: a, h => by
    rw [List.cons_append, putE15, if_pos (h x (List.mem_cons_self)), putE_low (fun e he => h e (List.mem_cons_of_mem _ he)), List.cons_append]
theorem putE_high {k d : List UInt8} {b : List (List UInt8 × List UInt8)} (hb : ∀ e ∈ b, bl k e.1) : ∀ {a : List (List UInt8 × List UInt8)}, putE15 k d (a ++ b) = putE15 k d a ++ b
  | [] => by
    cases b with
    | nil => rfl
    | cons x b =>
      have h := hb x (List.mem_cons_self)
      have h1 : putE15 k d (x :: b) = (k, d) :: x :: b := by
        rw [putE15, if_neg (bl_asym h), if_neg (fun e => by rw [e] at h; exact absurd h (by simp [bl, bl_irrefl]))]
      exact h1
  | x :: a => by
    rw [List.cons_append, putE15, putE15]
    split
    · rw [putE_high hb, List.cons_append]
    · split <;> rfl
theorem ent_putL (c : Lf) : ∀ l : List Lf, (putL c l).map (fun x => (x.k, x.d)) = putE15 c.k c.d (l.map (fun x => (x.k, x.d)))
  | [] => rfl
  | x :: l => by
    rw [putL, List.map_cons, putE15]
    split
    · rw [List.map_cons, ent_putL c l]
    · split <;> rfl
def sepL (l : List (List UInt8 × Tr)) : Prop :=
  l.Pairwise (fun x y => bl x.1 y.1 ∧ ∀ e ∈ entT x.2, bl e.1 y.1) ∧ ∀ x ∈ l, entT x.2 ≠ [] ∧ ∀ e ∈ entT x.2, ¬ bl e.1 x.1
inductive SepT : Nat → Tr → Prop where
  | leaf (p : Int) (l : List Lf) (h : l.Pairwise (fun x y => bl x.k y.k)) : SepT 0 (.leaf p l)
  | branch (n : Nat) (p : Int) (l : List (List UInt8 × Tr)) (h : sepL l) (hk : ∀ x ∈ l, SepT n x.2) (hl : l ≠ []) (h0 : ∀ x ∈ l.head?, x.1 = []) : SepT (n + 1) (.branch p l)
theorem SepT.kind {n : Nat} {t : Tr} (h : SepT n t) : kindT t = decide (n = 0) := by
  cases h <;> rfl
theorem kid_some {l : List (List UInt8 × Tr)} {k : Nat} (hk : k < l.length) : l[k]? = some (kidT l k) := by
  rw [kidT, List.getD_eq_getElem?_getD, List.getElem?_eq_getElem hk]
  rfl
theorem kid_mem {l : List (List UInt8 × Tr)} {k : Nat} (hk : k < l.length) : kidT l k ∈ l := List.mem_of_getElem? (kid_some hk)
theorem even_sep {n : Nat} {l : List (List UInt8 × Tr)} (h : ∀ x ∈ l, SepT n x.2) : evenT l := fun i j hi hj => by
  rw [(h _ (kid_mem hi)).kind, (h _ (kid_mem hj)).kind]
theorem wayTo_no {l : List (List UInt8 × Tr)} {s : List UInt8} : ∀ n j, wayTo l s n < j → j ≤ n → bl s (kidT l j).1
  | 0, j, h1, h2 => by
    unfold wayTo at h1
    omega
  | n + 1, j, h1, h2 => by
    unfold wayTo at h1
    split at h1
    · rename_i h3
      by_cases e : j = n + 1
      · subst e
        exact h3
      · exact wayTo_no n j h1 (by omega)
    · omega
theorem wayTo_yes {l : List (List UInt8 × Tr)} {s : List UInt8} : ∀ n, wayTo l s n ≠ 0 → ¬ bl s (kidT l (wayTo l s n)).1
  | 0, h => absurd rfl h
  | n + 1, h => by
    unfold wayTo at h ⊢
    split
    · rename_i h3
      rw [if_pos h3] at h
      exact wayTo_yes n h
    · rename_i h3
      exact h3
theorem way_parts {l : List (List UInt8 × Tr)} (hs : sepL l) (s : List UInt8) (hl : l ≠ []) : (∀ e ∈ entTs (l.take (wayT l s)), bl e.1 s) ∧ (∀ e ∈ entTs (l.drop (wayT l s + 1)), bl s e.1) ∧ l = l.take (wayT l s) ++ kidT l (wayT l s) :: l.drop (wayT l s + 1) := by
  have hlt := wayT_lt s hl
  have hp := at_parts hlt
  have h1 := hs.1
  rw [hp, List.pairwise_append] at h1
  refine ⟨fun e he => ?_, fun e he => ?_, hp⟩
  · obtain ⟨x, hx, hxe⟩ := List.mem_flatMap.1 he
    have hn : wayT l s ≠ 0 := fun e0 => by rw [e0] at hx; simp at hx
    have h2 := (h1.2.2 x hx _ (List.mem_cons_self)).2 e hxe
    exact bl_lt_le h2 (wayTo_yes _ hn)
  · obtain ⟨x, hx, hxe⟩ := List.mem_flatMap.1 he
    obtain ⟨j, hj, rfl⟩ := List.getElem_of_mem hx
    rw [List.length_drop] at hj
    have h3 : (l.drop (wayT l s + 1))[j] = kidT l (wayT l s + 1 + j) := by
      rw [List.getElem_drop, kidT, List.getD_eq_getElem?_getD, List.getElem?_eq_getElem (by omega)]
      rfl
    have h4 : bl s (kidT l (wayT l s + 1 + j)).1 := wayTo_no (l.length - 1) _ (by unfold wayT; omega) (by omega)
    have h5 := (hs.2 _ (List.mem_of_mem_drop hx)).2 e hxe
    rw [← h3] at h4
    exact bl_lt_le h4 h5
theorem set_parts {l : List (List UInt8 × Tr)} {k : Nat} (hk : k < l.length) (x : List UInt8 × Tr) : l.set k x = l.take k ++ x :: l.drop (k + 1) := by
  rw [List.set_eq_take_append_cons_drop, if_pos hk]
theorem kind_put (c : Lf) (t : Tr) : kindT (putT c t) = kindT t := by
  cases t with
  | leaf p l => rw [putT]; rfl
  | branch p l =>
    rw [putT]
    split
    · unfold mendT
      split
      · rfl
      · split <;> rfl
    · rfl
theorem even_set {l : List (List UInt8 × Tr)} (he : evenT l) {k : Nat} {x : List UInt8 × Tr} (hk : k < l.length) (hx : kindT x.2 = kindT (kidT l k).2) : evenT (l.set k x) := by
  have h : ∀ i, i < l.length → kindT (kidT (l.set k x) i).2 = kindT (kidT l i).2 := fun i hi => by
    rw [kidT, List.getD_eq_getElem?_getD, List.getElem?_set]
    split
    · rename_i e
      subst e
      exact hx
    · rw [kidT, List.getD_eq_getElem?_getD]
  intro i j hi hj
  rw [List.length_set] at hi hj
  rw [h i hi, h j hj]
  exact he i j hi hj
theorem putT_branch (c : Lf) (p : Int) {l : List (List UInt8 × Tr)} (hl : l ≠ []) : putT c (.branch p l) = mendT 0 (l.set (wayT l c.k) ((kidT l (wayT l c.k)).1, putT c (kidT l (wayT l c.k)).2)) (wayT l c.k) := by
  have hk := kid_some (wayT_lt c.k hl)
  rw [putT]
  split
  · rename_i x h
    rw [hk] at h
    injection h with h
    rw [h]
  · rename_i h
    rw [hk] at h
    cases h
theorem ent_put (c : Lf) : ∀ (t : Tr) (n : Nat), SepT n t → entT (putT c t) = putE15 c.k c.d (entT t) := by
  refine Tr.ind (fun p l n h => ?_) (fun p l ih n h => ?_)
  · rw [putT, entT_leaf, entT_leaf, ent_putL]
  · rcases h with _ | ⟨n, _, _, h, hk, hl, h0⟩
    have he := even_sep hk
    have hlt := wayT_lt c.k hl
    obtain ⟨h1, h2, h3⟩ := way_parts h c.k hl
    rw [putT_branch c p hl, ent_mend 0 (by rw [List.length_set]; exact hlt) (even_set he hlt (kind_put c _)), set_parts hlt, entTs_app, entTs_cons, ih _ (kid_mem hlt) _ (hk _ (kid_mem hlt)), entT_br]
    conv => rhs; rw [h3, entTs_app, entTs_cons, putE_low h1, putE_high h2]
def getE15 (s : List UInt8) (l : List (List UInt8 × List UInt8)) : Option (List UInt8) := (l.find? (fun x => x.1 == s)).map (·.2)
theorem findT_branch (p : Int) {l : List (List UInt8 × Tr)} (s : List UInt8) (hl : l ≠ []) : findT (.branch p l) s = findT (kidT l (wayT l s)).2 s := by
  have hk := kid_some (wayT_lt s hl)
  rw [findT]
  split
  · rename_i x h
    rw [hk] at h
    injection h with h
    rw [h]
  · rename_i h
    rw [hk] at h
    cases h
end Go.Proofs.Ytpaklhifnndeoaa
end

section
namespace Go.Proofs.Ytpaklhifnndeoaa
open Go.RowKit
set_option linter.unusedVariables false

theorem sep_replace {a m b m' : List (List UInt8 × Tr)} (h : sepL (a ++ (m ++ b))) (hm : sepL m') (h1 : ∀ y ∈ m', ∃ z ∈ m, ¬ bl y.1 z.1) (h2 : ∀ x ∈ m', ∀ e ∈ entT x.2, (∃ z ∈ m, e ∈ entT z.2) ∨ ∀ y ∈ b, bl e.1 y.1) : sepL (a ++ (m' ++ b)) := by
  obtain ⟨hp, hg⟩ := h
  obtain ⟨hp', hg'⟩ := hm
  rw [List.pairwise_append, List.pairwise_append] at hp
  obtain ⟨pa, ⟨pm, pb, pmb⟩, pam⟩ := hp
  have hgb : ∀ y ∈ b, entT y.2 ≠ [] ∧ ∀ e ∈ entT y.2, ¬ bl e.1 y.1 := fun y hy => hg y (by simp [hy])
  have he : ∀ x ∈ m', ∀ y ∈ b, ∀ e ∈ entT x.2, bl e.1 y.1 := fun x hx y hy e hxe => by
    rcases h2 x hx e hxe with ⟨z, hz, hze⟩ | h3
    · exact (pmb z hz y hy).2 e hze
    · exact h3 y hy
  refine ⟨?_, fun x hx => ?_⟩
  · rw [List.pairwise_append, List.pairwise_append]
    refine ⟨pa, ⟨hp', pb, fun x hx y hy => ⟨?_, he x hx y hy⟩⟩, fun x hx y hy => ?_⟩
    · obtain ⟨e, he2⟩ := List.exists_mem_of_ne_nil _ (hg' x hx).1
      exact bl_le_trans ((hg' x hx).2 e he2) (he x hx y hy e he2)
    · rcases List.mem_append.1 hy with hy | hy
      · obtain ⟨z, hz, hzy⟩ := h1 y hy
        have h3 := pam x hx z (List.mem_append_left _ hz)
        exact ⟨bl_lt_le h3.1 hzy, fun e hxe => bl_lt_le (h3.2 e hxe) hzy⟩
      · exact pam x hx y (List.mem_append_right _ hy)
  · rcases List.mem_append.1 hx with hx | hx
    · exact hg x (List.mem_append_left _ hx)
    · rcases List.mem_append.1 hx with hx | hx
      · exact hg' x hx
      · exact hgb x hx
theorem head_replace {a m b m' : List (List UInt8 × Tr)} (h : ∀ x ∈ (a ++ (m ++ b)).head?, x.1 = []) (z y : List UInt8 × Tr) (hm : m.head? = some z) (hm' : m'.head? = some y) (hzy : y.1 = z.1) : ∀ x ∈ (a ++ (m' ++ b)).head?, x.1 = [] := by
  intro x hx
  cases a with
  | cons u a => exact h x (by simpa using hx)
  | nil =>
    cases m with
    | nil => cases hm
    | cons v m =>
      cases m' with
      | nil => cases hm'
      | cons v' m' =>
        simp at hx hm hm'
        subst hx hm hm'
        rw [hzy]
        exact h _ (by simp)
theorem nil_le (a : List UInt8) : ¬ bl a [] := by simp [bl, bl_nil]
theorem ents_ne {l : List (List UInt8 × Tr)} (h : ∀ x ∈ l, entT x.2 ≠ []) (hl : l ≠ []) : entTs l ≠ [] := by
  cases l with
  | nil => exact absurd rfl hl
  | cons x l =>
    rw [entTs_cons]
    intro e
    exact h x (List.mem_cons_self) (List.append_eq_nil_iff.1 e).1
theorem mem_entTs {l : List (List UInt8 × Tr)} {e : List UInt8 × List UInt8} : e ∈ entTs l ↔ ∃ x ∈ l, e ∈ entT x.2 := List.mem_flatMap
theorem sep_keyed {l : List (List UInt8 × Tr)} (h : sepL l) (s : List UInt8) (hs : ∀ e ∈ entTs l, ¬ bl e.1 s) : sepL (keyed s l) := by
  cases l with
  | nil => exact h
  | cons x l =>
    obtain ⟨hp, hg⟩ := h
    rw [List.pairwise_cons] at hp
    have hx := hg x (List.mem_cons_self)
    have hxs : ∀ e ∈ entT x.2, ¬ bl e.1 s := fun e he => hs e (mem_entTs.2 ⟨x, List.mem_cons_self, he⟩)
    refine ⟨?_, fun y hy => ?_⟩
    · rw [keyed, List.pairwise_cons]
      refine ⟨fun y hy => ⟨?_, (hp.1 y hy).2⟩, hp.2⟩
      obtain ⟨e, he⟩ := List.exists_mem_of_ne_nil _ hx.1
      exact bl_le_trans (hxs e he) ((hp.1 y hy).2 e he)
    · rw [keyed] at hy
      rcases List.mem_cons.1 hy with rfl | hy
      · exact ⟨hx.1, hxs⟩
      · exact hg y (List.mem_cons_of_mem _ hy)
theorem sep_sub {a l : List (List UInt8 × Tr)} (h : sepL l) (hs : a.Sublist l) : sepL a := ⟨h.1.sublist hs, fun x hx => h.2 x (hs.subset hx)⟩
theorem sep_parts {n : Nat} {t : Tr} (h : SepT n t) {k : Nat} (h1 : 1 ≤ k) (h2 : k < (sizesT t).length) :
    SepT n (frontT k t) ∧ SepT n (backT k t) ∧ entT (frontT k t) ≠ [] ∧ entT (backT k t) ≠ [] ∧ (∀ e ∈ entT (frontT k t), bl e.1 (keyT k t)) ∧ (∀ e ∈ entT (backT k t), ¬ bl e.1 (keyT k t)) := by
  cases h with
  | leaf p l h =>
    rw [sizesT, List.length_map] at h2
    have hk : l.getD k default = l[k] := by rw [List.getD_eq_getElem?_getD, List.getElem?_eq_getElem h2]; rfl
    have hp := h
    rw [← List.take_append_drop k l, List.drop_eq_getElem_cons h2, List.pairwise_append, List.pairwise_cons] at hp
    rw [frontT, backT, keyT, entT_leaf, entT_leaf, hk]
    refine ⟨.leaf _ _ (h.sublist (List.take_sublist _ _)), .leaf _ _ (h.sublist (List.drop_sublist _ _)), ?_, ?_, fun e he => ?_, fun e he => ?_⟩
    · intro e
      have := congrArg List.length e
      rw [List.length_map, List.length_take, List.length_nil] at this
      omega
    · intro e
      have := congrArg List.length e
      rw [List.length_map, List.length_drop, List.length_nil] at this
      omega
    · obtain ⟨x, hx, rfl⟩ := List.mem_map.1 he
      exact hp.2.2 x hx _ (List.mem_cons_self)
    · obtain ⟨x, hx, rfl⟩ := List.mem_map.1 he
      rw [List.drop_eq_getElem_cons h2] at hx
      rcases List.mem_cons.1 hx with rfl | hx
      · simp [bl, bl_irrefl]
      · exact bl_asym (hp.2.1.1 x hx)
  | branch n p l h hk hl h0 =>
    rw [sizesT, List.length_map] at h2
    have hke : l.getD k default = l[k] := by rw [List.getD_eq_getElem?_getD, List.getElem?_eq_getElem h2]; rfl
    have hp := h.1
    rw [← List.take_append_drop k l, List.drop_eq_getElem_cons h2, List.pairwise_append, List.pairwise_cons] at hp
    have hne := fun x hx => (h.2 x hx).1
    have hft : l.take k ≠ [] := by
      intro e
      have := congrArg List.length e
      rw [List.length_take, List.length_nil] at this
      omega
    have hbt : l.drop k ≠ [] := by
      intro e
      have := congrArg List.length e
      rw [List.length_drop, List.length_nil] at this
      omega
    rw [frontT, backT, keyT, entT_br, entT_br, entTs_keyed, hke]
    refine ⟨.branch n _ _ (sep_sub h (List.take_sublist _ _)) (fun x hx => hk x (List.mem_of_mem_take hx)) hft (fun x hx => h0 x ?_), .branch n _ _ (sep_keyed (sep_sub h (List.drop_sublist _ _)) [] (fun e _ => nil_le _)) (fun x hx => ?_) ?_ (fun x hx => ?_), ents_ne (fun x hx => hne x (List.mem_of_mem_take hx)) hft, ents_ne (fun x hx => hne x (List.mem_of_mem_drop hx)) hbt, fun e he => ?_, fun e he => ?_⟩
    · rw [List.head?_take] at hx
      split at hx
      · cases hx
      · exact hx
    · rw [List.drop_eq_getElem_cons h2, keyed] at hx
      rcases List.mem_cons.1 hx with rfl | hx
      · have := hk l[k] (List.getElem_mem h2)
        exact this
      · exact hk x (List.mem_of_mem_drop hx)
    · rw [List.drop_eq_getElem_cons h2, keyed]
      simp
    · rw [List.drop_eq_getElem_cons h2, keyed] at hx
      simp at hx
      rw [← hx]
    · obtain ⟨x, hx, hxe⟩ := mem_entTs.1 he
      exact (hp.2.2 x hx _ (List.mem_cons_self)).2 e hxe
    · obtain ⟨x, hx, hxe⟩ := mem_entTs.1 he
      rw [List.drop_eq_getElem_cons h2] at hx
      rcases List.mem_cons.1 hx with rfl | hx
      · exact (h.2 _ (List.getElem_mem h2)).2 e hxe
      · have h3 := (hp.2.1.1 x hx).1
        have h4 := (h.2 x (List.mem_of_mem_drop hx)).2 e hxe
        exact fun h5 => h4 (bl_trans _ _ _ h5 h3)
theorem sep_split {n : Nat} {l : List (List UInt8 × Tr)} (h : sepL l) (hk : ∀ x ∈ l, SepT n x.2) (h0 : ∀ x ∈ l.head?, x.1 = []) {k j : Nat} (hkl : k < l.length) (h1 : 1 ≤ j) (h2 : j < (sizesT (kidT l k).2).length) :
    sepL (splitT l k j) ∧ (∀ x ∈ splitT l k j, SepT n x.2) ∧ splitT l k j ≠ [] ∧ (∀ x ∈ (splitT l k j).head?, x.1 = []) := by
  have hp := at_parts hkl
  have hmem := kid_mem hkl
  have hg := h.2 _ hmem
  obtain ⟨p1, p2, p3, p4, p5, p6⟩ := sep_parts (hk _ hmem) h1 h2
  have hall := ent_parts j (kidT l k).2
  have e1 : splitT l k j = l.take k ++ ([((kidT l k).1, frontT j (kidT l k).2), (keyT j (kidT l k).2, backT j (kidT l k).2)] ++ l.drop (k + 1)) := by rw [splitT, List.append_assoc]
  generalize kidT l k = x at *
  have hf : ∀ e ∈ entT (frontT j x.2), e ∈ entT x.2 := fun e he => by rw [← hall]; exact List.mem_append_left _ he
  have hb : ∀ e ∈ entT (backT j x.2), e ∈ entT x.2 := fun e he => by rw [← hall]; exact List.mem_append_right _ he
  have hkey : bl x.1 (keyT j x.2) := by
    obtain ⟨e, he⟩ := List.exists_mem_of_ne_nil _ p3
    exact bl_le_trans (hg.2 e (hf e he)) (p5 e he)
  rw [e1]
  have hp' : l = l.take k ++ ([x] ++ l.drop (k + 1)) := hp
  have hs : sepL (l.take k ++ ([x] ++ l.drop (k + 1))) := hp' ▸ h
  have hh : ∀ y ∈ (l.take k ++ ([x] ++ l.drop (k + 1))).head?, y.1 = [] := hp' ▸ h0
  refine ⟨sep_replace hs ⟨?_, fun y hy => ?_⟩ (fun y hy => ⟨x, List.mem_singleton.2 rfl, ?_⟩) (fun y hy e he => .inl ⟨x, List.mem_singleton.2 rfl, ?_⟩), fun y hy => ?_, by simp, head_replace hh x (x.1, frontT j x.2) rfl rfl rfl⟩
  · rw [List.pairwise_cons]
    exact ⟨fun y hy => by rw [List.mem_singleton] at hy; subst hy; exact ⟨hkey, p5⟩, List.pairwise_singleton _ _⟩
  · simp at hy
    rcases hy with rfl | rfl
    · exact ⟨p3, fun e he => hg.2 e (hf e he)⟩
    · exact ⟨p4, p6⟩
  · simp at hy
    rcases hy with rfl | rfl
    · simp [bl, bl_irrefl]
    · exact bl_asym hkey
  · simp at hy
    rcases hy with rfl | rfl
    · exact hf e he
    · exact hb e he
  · rcases List.mem_append.1 hy with hy | hy
    · exact hk y (List.mem_of_mem_take hy)
    · rcases List.mem_append.1 hy with hy | hy
      · simp at hy
        rcases hy with rfl | rfl
        · exact p1
        · exact p2
      · exact hk y (List.mem_of_mem_drop hy)
theorem sep_join {n : Nat} {x y : List UInt8 × Tr} (hx : SepT n x.2) (hy : SepT n y.2) (hgx : entT x.2 ≠ []) (hgy : entT y.2 ≠ [] ∧ ∀ e ∈ entT y.2, ¬ bl e.1 y.1) (hxy : ∀ e ∈ entT x.2, bl e.1 y.1) : SepT n (joinT y.1 x.2 y.2) := by
  obtain ⟨kx, tx⟩ := x
  obtain ⟨s, ty⟩ := y
  simp only at *
  cases hx with
  | leaf p a ha =>
    cases hy with
    | leaf q b hb =>
      rw [joinT]
      refine .leaf _ _ ?_
      rw [List.pairwise_append]
      refine ⟨ha, hb, fun u hu v hv => ?_⟩
      exact bl_lt_le (hxy (u.k, u.d) (by rw [entT_leaf]; exact List.mem_map.2 ⟨u, hu, rfl⟩)) (hgy.2 (v.k, v.d) (by rw [entT_leaf]; exact List.mem_map.2 ⟨v, hv, rfl⟩))
  | branch n p a ha hka hla h0a =>
    cases hy with
    | branch _ q b hb hkb hlb h0b =>
      rw [entT_br] at hxy hgy
      have hsk := sep_keyed hb s hgy.2
      rw [joinT]
      refine .branch n _ _ ⟨?_, fun u hu => ?_⟩ (fun u hu => ?_) (by simp [hla]) (fun u hu => ?_)
      · rw [List.pairwise_append]
        refine ⟨ha.1, hsk.1, fun u hu v hv => ?_⟩
        have hu1 : ∀ e ∈ entT u.2, bl e.1 s := fun e he => hxy e (mem_entTs.2 ⟨u, hu, he⟩)
        have hus : bl u.1 s := by
          obtain ⟨e, he⟩ := List.exists_mem_of_ne_nil _ (ha.2 u hu).1
          exact bl_le_trans ((ha.2 u hu).2 e he) (hu1 e he)
        cases b with
        | nil => cases hv
        | cons b0 b =>
          rw [keyed] at hv hsk
          rcases List.mem_cons.1 hv with rfl | hv
          · exact ⟨hus, hu1⟩
          · have h3 := ((List.pairwise_cons.1 hsk.1).1 v hv).1
            exact ⟨bl_trans _ _ _ hus h3, fun e he => bl_trans _ _ _ (hu1 e he) h3⟩
      · rcases List.mem_append.1 hu with hu | hu
        · exact ha.2 u hu
        · exact hsk.2 u hu
      · rcases List.mem_append.1 hu with hu | hu
        · exact hka u hu
        · cases b with
          | nil => cases hu
          | cons b0 b =>
            rw [keyed] at hu
            rcases List.mem_cons.1 hu with rfl | hu
            · have := hkb b0 (List.mem_cons_self)
              exact this
            · exact hkb u (List.mem_cons_of_mem _ hu)
      · cases a with
        | nil => exact absurd rfl hla
        | cons a0 a => exact h0a u (by simpa using hu)
theorem sep_merge {n : Nat} {l : List (List UInt8 × Tr)} (h : sepL l) (hk : ∀ x ∈ l, SepT n x.2) (h0 : ∀ x ∈ l.head?, x.1 = []) {j : Nat} (hj : j + 1 < l.length) :
    sepL (mergeT l j) ∧ (∀ x ∈ mergeT l j, SepT n x.2) ∧ mergeT l j ≠ [] ∧ (∀ x ∈ (mergeT l j).head?, x.1 = []) := by
  have h1 := at_parts (l := l) (k := j) (by omega)
  have h2 : l.drop (j + 1) = kidT l (j + 1) :: l.drop (j + 2) := by
    have h3 : kidT l (j + 1) = l[j + 1] := by rw [kidT, List.getD_eq_getElem?_getD, List.getElem?_eq_getElem hj]; rfl
    rw [h3]
    exact List.drop_eq_getElem_cons hj
  rw [h2] at h1
  have hm1 := kid_mem (l := l) (k := j) (by omega)
  have hm2 := kid_mem hj
  have e1 : mergeT l j = l.take j ++ ([((kidT l j).1, joinT (kidT l (j + 1)).1 (kidT l j).2 (kidT l (j + 1)).2)] ++ l.drop (j + 2)) := by rw [mergeT, List.append_assoc]
  generalize kidT l j = x at *
  generalize kidT l (j + 1) = y at *
  have hp' : l = l.take j ++ ([x, y] ++ l.drop (j + 2)) := h1
  have hs : sepL (l.take j ++ ([x, y] ++ l.drop (j + 2))) := hp' ▸ h
  have hh : ∀ z ∈ (l.take j ++ ([x, y] ++ l.drop (j + 2))).head?, z.1 = [] := hp' ▸ h0
  have hgx := h.2 x hm1
  have hgy := h.2 y hm2
  have hR : bl x.1 y.1 ∧ ∀ e ∈ entT x.2, bl e.1 y.1 := by
    have := hs.1
    rw [List.pairwise_append, List.pairwise_append] at this
    exact (List.pairwise_cons.1 this.2.1.1).1 y (List.mem_singleton.2 rfl)
  have hkx := hk x hm1
  have hky := hk y hm2
  have hje : entT (joinT y.1 x.2 y.2) = entT x.2 ++ entT y.2 := ent_join _ (by rw [hkx.kind, hky.kind])
  rw [e1]
  refine ⟨sep_replace hs ⟨List.pairwise_singleton _ _, fun z hz => ?_⟩ (fun z hz => ⟨x, List.mem_cons_self, ?_⟩) (fun z hz e he => ?_), fun z hz => ?_, by simp, head_replace hh x (x.1, joinT y.1 x.2 y.2) rfl rfl rfl⟩
  · rw [List.mem_singleton] at hz
    subst hz
    refine ⟨fun e => ?_, fun e he => ?_⟩
    · simp only at e
      rw [hje] at e
      exact hgx.1 (List.append_eq_nil_iff.1 e).1
    · simp only at he
      rw [hje] at he
      rcases List.mem_append.1 he with he | he
      · exact hgx.2 e he
      · exact fun h5 => hgy.2 e he (bl_trans _ _ _ h5 hR.1)
  · rw [List.mem_singleton] at hz
    subst hz
    simp [bl, bl_irrefl]
  · rw [List.mem_singleton] at hz
    subst hz
    simp only at he
    rw [hje] at he
    rcases List.mem_append.1 he with he | he
    · exact .inl ⟨x, List.mem_cons_self, he⟩
    · exact .inl ⟨y, List.mem_cons_of_mem _ (List.mem_singleton.2 rfl), he⟩
  · rcases List.mem_append.1 hz with hz | hz
    · exact hk z (List.mem_of_mem_take hz)
    · rcases List.mem_append.1 hz with hz | hz
      · rw [List.mem_singleton] at hz
        subst hz
        exact sep_join hkx hky hgx.1 hgy hR.2
      · exact hk z (List.mem_of_mem_drop hz)
theorem sep_mend {n : Nat} (p : Int) {l : List (List UInt8 × Tr)} (h : sepL l) (hk : ∀ x ∈ l, SepT n x.2) (hl : l ≠ []) (h0 : ∀ x ∈ l.head?, x.1 = []) {k : Nat} (hkl : k < l.length) : SepT (n + 1) (mendT p l k) := by
  have hat : ∀ {l : List (List UInt8 × Tr)} {k : Nat}, atT l k ≠ 0 → 1 ≤ atT l k ∧ atT l k < (sizesT (kidT l k).2).length := fun {l k} hne => atZ_in (fun hx => hne (atZ_zero hx))
  unfold mendT
  split
  · rename_i h1
    obtain ⟨a, b, c, d⟩ := sep_split h hk h0 hkl (hat h1).1 (hat h1).2
    exact .branch n _ _ a b c d
  · split
    · exact .branch n _ _ h hk hl h0
    · have hf : firstT l k + 1 < l.length := by
        unfold firstT
        split <;> omega
      have hm := merge_len hf
      obtain ⟨a, b, c, d⟩ := sep_merge h hk h0 hf
      unfold partT
      split
      · exact .branch n _ _ a b c d
      · rename_i h1
        obtain ⟨a', b', c', d'⟩ := sep_split a b d (k := firstT l k) (by omega) (hat h1).1 (hat h1).2
        exact .branch n _ _ a' b' c' d'
theorem mem_putE {k d : List UInt8} {e : List UInt8 × List UInt8} : ∀ {l : List (List UInt8 × List UInt8)}, e ∈ putE15 k d l → e = (k, d) ∨ e ∈ l
  | [], h => .inl (List.mem_singleton.1 h)
  | x :: l, h => by
    rw [putE15] at h
    split at h
    · rcases List.mem_cons.1 h with rfl | h
      · exact .inr (List.mem_cons_self)
      · rcases mem_putE h with h | h
        · exact .inl h
        · exact .inr (List.mem_cons_of_mem _ h)
    · split at h
      · rcases List.mem_cons.1 h with rfl | h
        · exact .inl rfl
        · exact .inr (List.mem_cons_of_mem _ h)
      · rcases List.mem_cons.1 h with rfl | h
        · exact .inl rfl
        · exact .inr h
theorem putE_ne {k d : List UInt8} (l : List (List UInt8 × List UInt8)) : putE15 k d l ≠ [] := by
  cases l with
  | nil => simp [putE15]
  | cons x l =>
    rw [putE15]
    split
    · simp
    · split <;> simp
theorem putL_sep (c : Lf) : ∀ {l : List Lf}, l.Pairwise (fun x y => bl x.k y.k) → (putL c l).Pairwise (fun x y => bl x.k y.k) ∧ ∀ x ∈ putL c l, x = c ∨ x ∈ l
  | [], _ => ⟨List.pairwise_singleton _ _, fun x hx => .inl (List.mem_singleton.1 hx)⟩
  | y :: l, h => by
    have h' := h
    rw [List.pairwise_cons] at h
    obtain ⟨a, b⟩ := putL_sep c h.2
    rw [putL]
    split
    · rename_i h1
      refine ⟨List.pairwise_cons.2 ⟨fun x hx => ?_, a⟩, fun x hx => ?_⟩
      · rcases b x hx with rfl | hx
        · exact h1
        · exact h.1 x hx
      · rcases List.mem_cons.1 hx with rfl | hx
        · exact .inr (List.mem_cons_self)
        · rcases b x hx with hx | hx
          · exact .inl hx
          · exact .inr (List.mem_cons_of_mem _ hx)
    · rename_i h1
      split
      · rename_i h2
        refine ⟨List.pairwise_cons.2 ⟨fun x hx => h2 ▸ h.1 x hx, h.2⟩, fun x hx => ?_⟩
        rcases List.mem_cons.1 hx with hx | hx
        · exact .inl hx
        · exact .inr (List.mem_cons_of_mem _ hx)
      · rename_i h2
        have h3 : bl c.k y.k := by
          by_cases e : bl c.k y.k
          · exact e
          · exact absurd (bl_total _ _ (by simpa using h1) (by simpa [bl] using e)) h2
        refine ⟨List.pairwise_cons.2 ⟨fun x hx => ?_, h'⟩, fun x hx => ?_⟩
        · rcases List.mem_cons.1 hx with rfl | hx
          · exact h3
          · exact bl_trans _ _ _ h3 (h.1 x hx)
        · rcases List.mem_cons.1 hx with hx | hx
          · exact .inl hx
          · exact .inr hx
theorem sep_put (c : Lf) : ∀ (t : Tr) (n : Nat), SepT n t → SepT n (putT c t) := by
  refine Tr.ind (fun p l n h => ?_) (fun p l ih n h => ?_)
  · rcases h with ⟨_, _, h⟩ | _
    rw [putT]
    exact .leaf _ _ (putL_sep c h).1
  · rcases h with _ | ⟨n, _, _, h, hk, hl, h0⟩
    have hlt := wayT_lt c.k hl
    obtain ⟨h1, h2, h3⟩ := way_parts h c.k hl
    have hm := kid_mem hlt
    have hno : ∀ y ∈ l.drop (wayT l c.k + 1), bl c.k y.1 := fun y hy => by
      obtain ⟨j, hj, rfl⟩ := List.getElem_of_mem hy
      rw [List.length_drop] at hj
      have h4 : bl c.k (kidT l (wayT l c.k + 1 + j)).1 := wayTo_no (l.length - 1) _ (by unfold wayT; omega) (by omega)
      rw [kidT, List.getD_eq_getElem?_getD, List.getElem?_eq_getElem (by omega)] at h4
      rw [List.getElem_drop]
      exact h4
    have hge : ¬ bl c.k (kidT l (wayT l c.k)).1 := by
      by_cases e : wayT l c.k = 0
      · rw [e, h0 (kidT l 0) (by rw [List.head?_eq_getElem?]; exact kid_some (by omega))]
        exact nil_le _
      · exact wayTo_yes _ e
    have hen := ent_put c _ n (hk _ hm)
    have hsp := ih _ hm n (hk _ hm)
    have hg := h.2 _ hm
    rw [putT_branch c p hl]
    have hh0 := h0
    rw [h3] at h hh0
    generalize hx : kidT l (wayT l c.k) = x at *
    have hs : sepL (l.take (wayT l c.k) ++ ([x] ++ l.drop (wayT l c.k + 1))) := h
    have hh : ∀ y ∈ (l.take (wayT l c.k) ++ ([x] ++ l.drop (wayT l c.k + 1))).head?, y.1 = [] := hh0
    have e1 : l.set (wayT l c.k) (x.1, putT c x.2) = l.take (wayT l c.k) ++ ([(x.1, putT c x.2)] ++ l.drop (wayT l c.k + 1)) := set_parts hlt _
    refine sep_mend 0 ?_ (fun z hz => ?_) (by rw [e1]; simp) ?_ (by rw [List.length_set]; exact hlt)
    · rw [e1]
      refine sep_replace hs ⟨List.pairwise_singleton _ _, fun z hz => ?_⟩ (fun z hz => ⟨x, List.mem_singleton.2 rfl, ?_⟩) (fun z hz e he => ?_)
      · rw [List.mem_singleton] at hz
        subst hz
        refine ⟨fun e => putE_ne _ (hen ▸ e), fun e he => ?_⟩
        simp only at he
        rw [hen] at he
        rcases mem_putE he with rfl | he
        · exact hge
        · exact hg.2 e he
      · rw [List.mem_singleton] at hz
        subst hz
        simp [bl, bl_irrefl]
      · rw [List.mem_singleton] at hz
        subst hz
        simp only at he
        rw [hen] at he
        rcases mem_putE he with rfl | he
        · exact .inr hno
        · exact .inl ⟨x, List.mem_singleton.2 rfl, he⟩
    · rcases List.mem_or_eq_of_mem_set hz with hz | rfl
      · exact hk z hz
      · exact hsp
    · rw [e1]
      exact head_replace hh x (x.1, putT c x.2) rfl rfl rfl
end Go.Proofs.Ytpaklhifnndeoaa
end
