/- What is shown is parsed: mathematics of ConfBack and ConfOnce, second part: a configuration's lines; no statement. -/
import Derived.Test.YtlecfjingghblaaGreatDoorJBkm
import Derived.Test.YtlecfjingghblaaGreatDoorJSho
namespace Go.Proofs.YtlecfjingghblaaGreatDoor
open Go.RowKit
set_option linter.unusedVariables false

/-! ### Words -/
theorem plain_asc {w : List UInt8} (hn : w ≠ []) (h : ∀ b ∈ w, 48 ≤ b.toNat ∧ b.toNat < 128) : PlainW w := by
  refine ⟨hn, fun x hx => ?_, fun b hb => ?_⟩
  · have e := cut_asc w [] (fun b hb => (h b hb).2)
    rw [List.append_nil, cut_nil, List.append_nil] at e
    rw [e] at hx
    obtain ⟨b, hb, rfl⟩ := List.mem_map.1 hx
    have := (h b hb).1
    refine ⟨?_, ?_, ?_⟩ <;> simp only <;> omega
  · have := (h b hb).1
    constructor <;> rintro rfl <;> simp at this
theorem plain_label : PlainW labelT := plain_asc (by decide) (by decide)
theorem plain_under : PlainW underT := plain_asc (by decide) (by decide)
theorem plain_grant : PlainW grantT := plain_asc (by decide) (by decide)
theorem plain_name {w : List UInt8} (h : nameB w = true) : PlainW w := by
  unfold nameB at h
  simp only [Bool.and_eq_true, decide_eq_true_eq, List.all_eq_true] at h
  obtain ⟨h1, _, h3, _⟩ := h
  have hl : ∀ x ∈ cut w, 65 ≤ x.1 := fun x hx => by
    have := of_decide_eq_true (h1 x hx)
    omega
  refine ⟨fun e => ?_, fun x hx => ?_, fun b hb => ?_⟩
  · subst e
    rw [cut_nil] at h3
    simp at h3
  · have := hl x hx
    refine ⟨?_, ?_, ?_⟩ <;> omega
  · have key : ∀ v : UInt8, v.toNat < 65 → b ≠ v := by
      rintro v hv rfl
      obtain ⟨s, t, rfl⟩ := List.append_of_mem hb
      have := hl (b.toNat, [b]) (by rw [cut_stop s t b (by omega)]; simp)
      simp only at this
      omega
    exact ⟨key 10 (by decide), key 32 (by decide)⟩
theorem digN_digits : ∀ (n : Nat), ∀ b ∈ digN n, 48 ≤ b.toNat ∧ b.toNat ≤ 57 := by
  intro n
  induction n using Nat.strongRecOn with
  | ind n ih =>
    intro b hb
    by_cases h0 : n = 0
    · subst h0; rw [digN_zero] at hb; cases hb
    · rw [digN_pos (by omega)] at hb
      rcases List.mem_append.1 hb with h | h
      · exact ih (n / 10) (by omega) b h
      · obtain rfl := List.mem_singleton.1 h
        have : (UInt8.ofNat (48 + n % 10)).toNat = 48 + n % 10 := by simp; omega
        omega
theorem digN_ne {n : Nat} (h : 0 < n) : digN n ≠ [] := by rw [digN_pos h]; simp
theorem plain_dig {n : Nat} (h : 0 < n) : PlainW (digN n) := plain_asc (digN_ne h) (fun b hb => by have := digN_digits n b hb; omega)
theorem valN_snoc (l : List UInt8) (b : UInt8) : valN (l ++ [b]) = valN l * 10 + (b.toNat - 48) := by simp [valN]
theorem val_dig : ∀ n, valN (digN n) = n := by
  intro n
  induction n using Nat.strongRecOn with
  | ind n ih =>
    by_cases h0 : n = 0
    · subst h0; rw [digN_zero]; rfl
    · rw [digN_pos (by omega), valN_snoc, ih (n / 10) (by omega)]
      have : (UInt8.ofNat (48 + n % 10)).toNat = 48 + n % 10 := by simp; omega
      omega
theorem quota_dig {n : Nat} (h1 : 4 ≤ n) (h2 : n ≤ 1000) : quotaN (digN n) = (n : Int) := by
  unfold quotaN
  rw [val_dig, if_pos]
  refine ⟨?_, ?_, digN_len (by omega), h1, h2⟩
  · rw [List.all_eq_true]
    intro b hb
    exact decide_eq_true (by have := digN_digits n b hb; omega)
  · exact List.length_pos_iff.2 (digN_ne (by omega))

/-! ### Names that differ are found -/
theorem find_own {c : Cf} (h : Okc c) {i : Nat} (hi : i < c.names.length) : findN c.names (nmAt c i) = (i : Int) := by
  unfold findN
  refine firstN_some hi (decide_eq_true rfl) (fun j hj => ?_)
  refine decide_eq_false (fun e => ?_)
  have h1 := h.once i hi
  have h2 : 0 ≤ findN (c.names.take i) (nmAt c i) := by
    unfold findN
    rw [firstN_nonneg]
    refine ⟨j, by rw [List.length_take]; omega, decide_eq_true ?_⟩
    rw [← e]
    simp only [List.getD, List.getElem?_take, if_pos hj]
  omega
theorem find_new {c : Cf} (h : Okc c) {i : Nat} (hi : i < c.names.length) : findN (c.names.take i) (nmAt c i) < 0 := h.once i hi

/-! ### A configuration's lines -/
def labW (c : Cf) (i : Nat) : List (List UInt8) := [labelT, nmAt c i, digN (c.quotas.getD i 0).toNat]
def undW (c : Cf) (p : Nat × Nat) : List (List UInt8) := [underT, nmAt c p.1, nmAt c p.2]
def graW (c : Cf) (g : G) : List (List UInt8) := [grantT, nmAt c g.a.toNat, nmAt c g.f.toNat, nmAt c g.t.toNat]
def undP (c : Cf) : List (Nat × Nat) := (List.range c.names.length).flatMap fun a => ((List.range c.names.length).filter fun b => decide (a ≠ b ∧ ubit c.up a b = true)).map fun b => (a, b)
def cWs (c : Cf) : List (List (List UInt8)) := (List.range c.names.length).map (labW c) ++ ((undP c).map (undW c) ++ c.grants.map (graW c))
theorem undP_mem {c : Cf} {a b : Nat} : (a, b) ∈ undP c ↔ a < c.names.length ∧ b < c.names.length ∧ a ≠ b ∧ ubit c.up a b = true := by
  unfold undP
  simp only [List.mem_flatMap, List.mem_map, List.mem_filter, List.mem_range, decide_eq_true_eq, Prod.mk.injEq]
  constructor
  · rintro ⟨x, hx, y, ⟨hy, h1, h2⟩, rfl, rfl⟩
    exact ⟨hx, hy, h1, h2⟩
  · rintro ⟨h1, h2, h3, h4⟩
    exact ⟨a, h1, b, ⟨h2, h3, h4⟩, rfl, rfl⟩
theorem take_one {α : Type} (l : List α) (k : Nat) (hk : k < l.length) : l.take k ++ [l[k]] = l.take (k + 1) := (List.take_succ_eq_append_getElem hk).symm
def labS (c : Cf) (k : Nat) : Cf := ⟨c.names.take k, (List.range k).map (2 ^ ·), c.quotas.take k, []⟩
theorem run_labels {c : Cf} (h : Okc c) : ∀ k, k ≤ c.names.length → RunL cf0 ((List.range k).map (labW c)) (labS c k)
  | 0, _ => by
    have e : labS c 0 = cf0 := rfl
    rw [e]
    exact .nil
  | k + 1, hk => by
    have hq := h.quota k (by omega)
    have hqn : c.quotas.getD k 0 = (((c.quotas.getD k 0).toNat : Nat) : Int) := by omega
    have hkl : k < c.quotas.length := by have := h.quo; omega
    rw [List.range_succ, List.map_append]
    refine (run_labels h k (by omega)).app (.cons (c1 := labS c (k + 1)) ?_ .nil)
    have hd : quotaN (digN (c.quotas.getD k 0).toNat) = c.quotas.getD k 0 := by rw [quota_dig (by omega) (by omega)]; omega
    have g : GoodL (labS c k) (labW c k) _ := GoodL.label (c := labS c k) (nm := nmAt c k) (dg := digN (c.quotas.getD k 0).toNat) (h.name k (by omega)) (h.once k (by omega)) (by
      have := h.n64
      show (c.names.take k).length < 64
      rw [List.length_take]
      omega) (by rw [hd]; omega)
    have e : (⟨(labS c k).names ++ [nmAt c k], (labS c k).up ++ [2 ^ (labS c k).up.length], (labS c k).quotas ++ [quotaN (digN (c.quotas.getD k 0).toNat)], (labS c k).grants⟩ : Cf) = labS c (k + 1) := by
      have e1 : nmAt c k = c.names[k] := getT_at _ _ (by omega)
      have e2 : c.quotas.getD k 0 = c.quotas[k] := by simp [List.getD, List.getElem?_eq_getElem hkl]
      unfold labS
      simp only [List.length_map, List.length_range]
      rw [hd, e1, e2, take_one _ _ (by omega), take_one _ _ hkl, List.range_succ, List.map_append]
      rfl
    rw [e] at g
    exact g
def addU (U : List Nat) (p : Nat × Nat) : List Nat := if ubit U p.1 p.2 = true then U else U.set p.1 (U.getD p.1 0 + 2 ^ p.2)
theorem addU_len (U : List Nat) (p : Nat × Nat) : (addU U p).length = U.length := by unfold addU; split <;> simp
theorem foldU_len (P : List (Nat × Nat)) : ∀ U, (P.foldl addU U).length = U.length := by
  induction P with
  | nil => intro _; rfl
  | cons p P ih => intro U; rw [List.foldl_cons, ih, addU_len]
theorem addU_bit (U : List Nat) (p : Nat × Nat) (hp : p.1 < U.length) (x y : Nat) : ubit (addU U p) x y = (ubit U x y || decide ((x, y) = p)) := by
  obtain ⟨a, b⟩ := p
  unfold addU
  by_cases h : ubit U a b = true
  · rw [if_pos h]
    by_cases e : (x, y) = (a, b)
    · injection e with e1 e2
      subst e1 e2
      rw [h]
      simp
    · simp [e]
  · rw [if_neg h]
    have h' : (U.getD a 0).testBit b = false := by simpa [ubit] using h
    unfold ubit
    by_cases hx : x = a
    · subst hx
      have e1 : (U.set x (U.getD x 0 + 2 ^ b)).getD x 0 = U.getD x 0 + 2 ^ b := by simp only [List.getD, List.getElem?_set_self hp]; rfl
      rw [e1, add_bit _ _ _ h']
      congr 1
      simp
    · have e1 : (U.set a (U.getD a 0 + 2 ^ b)).getD x 0 = U.getD x 0 := by simp only [List.getD]; rw [List.getElem?_set_ne (by omega)]
      rw [e1]
      simp [hx]
theorem foldU_bit (P : List (Nat × Nat)) : ∀ U, (∀ p ∈ P, p.1 < U.length) → ∀ x y, ubit (P.foldl addU U) x y = (ubit U x y || decide ((x, y) ∈ P)) := by
  induction P with
  | nil => intro U _ x y; simp
  | cons p P ih =>
    intro U h x y
    rw [List.foldl_cons, ih (addU U p) (fun q hq => by rw [addU_len]; exact h q (by simp [hq])), addU_bit U p (h p (by simp)), Bool.or_assoc]
    congr 1
    simp
theorem run_unders {c : Cf} (h : Okc c) (q : List Int) (gs : List G) : ∀ (P : List (Nat × Nat)) (U : List Nat), (∀ p ∈ P, p.1 < c.names.length ∧ p.2 < c.names.length) → RunL ⟨c.names, U, q, gs⟩ (P.map (undW c)) ⟨c.names, P.foldl addU U, q, gs⟩
  | [], _, _ => .nil
  | p :: P, U, hp => by
    have h1 := hp p (by simp)
    have g : GoodL ⟨c.names, U, q, gs⟩ (undW c p) _ := GoodL.under (c := ⟨c.names, U, q, gs⟩) (a := nmAt c p.1) (b := nmAt c p.2) (i := p.1) (j := p.2) (find_own h h1.1) (find_own h h1.2)
    have e : (if ubit (⟨c.names, U, q, gs⟩ : Cf).up p.1 p.2 = true then (⟨c.names, U, q, gs⟩ : Cf) else { (⟨c.names, U, q, gs⟩ : Cf) with up := U.set p.1 (U.getD p.1 0 + 2 ^ p.2) }) = ⟨c.names, addU U p, q, gs⟩ := by
      unfold addU
      simp only
      split <;> rfl
    have g2 : GoodL ⟨c.names, U, q, gs⟩ (undW c p) ⟨c.names, addU U p, q, gs⟩ := e ▸ g
    exact .cons g2 (run_unders h q gs P (addU U p) (fun x hx => hp x (by simp [hx])))
theorem less_trans {x y z : G} (h1 : lessG x y = true) (h2 : lessG y z = true) : lessG x z = true := by
  simp only [lessG] at h1 h2 ⊢
  repeat' split at h1
  all_goals repeat' split at h2
  all_goals repeat' split
  all_goals simp_all
  all_goals omega
theorem less_irr (x : G) : lessG x x = false := by simp [lessG]
theorem rise_of {up : List Nat} {l : List G} (h : checkG up l = true) : ∀ j, j < l.length → ∀ i, i < j → lessG (l.getD i g0) (l.getD j g0) = true := by
  unfold checkG at h
  simp only [Bool.and_eq_true, decide_eq_true_eq, List.all_eq_true, List.mem_range] at h
  have step : ∀ j, j + 1 < l.length → lessG (l.getD j g0) (l.getD (j + 1) g0) = true := fun j hj => by
    have := h.2 (j + 1) hj
    unfold okG at this
    simp only [Bool.and_eq_true, Bool.or_eq_true, decide_eq_true_eq] at this
    rcases this.2 with e | e
    · omega
    · exact e
  intro j
  induction j with
  | zero => intro _ i hi; omega
  | succ j ih =>
    intro hj i hi
    by_cases e : i = j
    · subst e; exact step i hj
    · exact less_trans (ih (by omega) i (by omega)) (step j hj)
theorem tw_all {α : Type} {p : α → Bool} {l : List α} (h : ∀ x ∈ l, p x = true) : l.takeWhile p = l := by
  induction l with
  | nil => rfl
  | cons x l ih => rw [List.takeWhile_cons_of_pos (h x (by simp)), ih (fun y hy => h y (by simp [hy]))]
theorem dw_all {α : Type} {p : α → Bool} {l : List α} (h : ∀ x ∈ l, p x = true) : l.dropWhile p = [] := by
  induction l with
  | nil => rfl
  | cons x l ih => rw [List.dropWhile_cons_of_pos (h x (by simp)), ih (fun y hy => h y (by simp [hy]))]
theorem insG_end {l : List G} {g : G} (h : ∀ x ∈ l, lessG x g = true) : insG l g = l ++ [g] := by
  unfold insG
  rw [if_neg (fun hg => by have := h g hg; rw [less_irr] at this; cases this)]
  rw [tw_all h, dw_all h]
theorem run_grants {c : Cf} (h : Okc c) (U : List Nat) (q : List Int) : ∀ k, k ≤ c.grants.length → RunL ⟨c.names, U, q, []⟩ ((c.grants.take k).map (graW c)) ⟨c.names, U, q, c.grants.take k⟩
  | 0, _ => .nil
  | k + 1, hk => by
    have hkl : k < c.grants.length := by omega
    rw [← take_one _ _ hkl, List.map_append]
    refine (run_grants h U q k (by omega)).app (.cons ?_ .nil)
    obtain ⟨a, f, t, he, ha, hf, ht⟩ := fits_nat (h.fits _ (List.getElem_mem hkl))
    have hn := h.ups
    have g := GoodL.grant (c := ⟨c.names, U, q, c.grants.take k⟩) (a := nmAt c a) (f := nmAt c f) (t := nmAt c t) (i := a) (j := f) (k := t) (find_own h (by omega)) (find_own h (by omega)) (find_own h (by omega))
    have e : insG (c.grants.take k) ⟨a, f, t⟩ = c.grants.take k ++ [c.grants[k]] := by
      rw [← he]
      refine insG_end (fun x hx => ?_)
      obtain ⟨i, hi, rfl⟩ := List.getElem_of_mem hx
      rw [List.length_take] at hi
      rw [List.getElem_take]
      have := rise_of h.gra k hkl i (by omega)
      rwa [getG_at _ _ (by omega), getG_at _ _ hkl] at this
    rw [show graW c c.grants[k] = [grantT, nmAt c a, nmAt c f, nmAt c t] by rw [he]; rfl]
    rw [show ({ (⟨c.names, U, q, c.grants.take k⟩ : Cf) with grants := insG (⟨c.names, U, q, c.grants.take k⟩ : Cf).grants ⟨a, f, t⟩ } : Cf) = ⟨c.names, U, q, c.grants.take k ++ [c.grants[k]]⟩ by rw [← e]] at g
    exact g
theorem ups_full {c : Cf} (h : Okc c) (hm : ∀ x ∈ c.up, x < 2 ^ 64) : (undP c).foldl addU ((List.range c.names.length).map (2 ^ ·)) = c.up := by
  have hn := h.ups
  have hlen : ((undP c).foldl addU ((List.range c.names.length).map (2 ^ ·))).length = c.up.length := by rw [foldU_len, List.length_map, List.length_range, hn]
  apply List.ext_getElem hlen
  intro x hx1 hx2
  have hb := fun y => foldU_bit (undP c) ((List.range c.names.length).map (2 ^ ·)) (fun p hp => by
    obtain ⟨a, b⟩ := p
    rw [List.length_map, List.length_range]
    exact (undP_mem.1 hp).1) x y
  apply Nat.eq_of_testBit_eq
  intro y
  have h1 := hb y
  unfold ubit at h1
  rw [getD_at _ _ hx1] at h1
  rw [h1]
  have e0 : ((List.range c.names.length).map (2 ^ ·)).getD x 0 = 2 ^ x := by
    rw [getD_at _ _ (by rw [List.length_map, List.length_range]; omega)]
    simp
  rw [e0, Nat.testBit_two_pow]
  have e1 : ubit c.up x y = c.up[x].testBit y := by unfold ubit; rw [getD_at _ _ hx2]
  rw [← e1, Bool.eq_iff_iff]
  simp only [Bool.or_eq_true, decide_eq_true_eq, undP_mem]
  constructor
  · rintro (rfl | ⟨_, _, _, h4⟩)
    · exact h.lat.2.2.1 x hx2
    · exact h4
  · intro hu
    by_cases hxy : x = y
    · exact .inl hxy
    · refine .inr ⟨by omega, ?_, hxy, hu⟩
      rw [hn]
      refine h.lat.2.1 x hx2 y ?_ hu
      by_cases hy : y < 64
      · exact hy
      · rw [e1, Nat.testBit_lt_two_pow (Nat.lt_of_lt_of_le (hm _ (List.getElem_mem hx2)) (Nat.pow_le_pow_right (by decide) (by omega)))] at hu
        cases hu
theorem run_all {c : Cf} (h : Okc c) (hm : ∀ x ∈ c.up, x < 2 ^ 64) : RunL cf0 (cWs c) c := by
  have h1 := run_labels h c.names.length (Nat.le_refl _)
  have e1 : labS c c.names.length = ⟨c.names, (List.range c.names.length).map (2 ^ ·), c.quotas, []⟩ := by
    unfold labS
    rw [List.take_length, h.quo, List.take_length, ← h.quo]
  rw [e1] at h1
  have h2 := run_unders h c.quotas [] (undP c) ((List.range c.names.length).map (2 ^ ·)) (fun p hp => by
    obtain ⟨a, b⟩ := p
    have := undP_mem.1 hp
    exact ⟨this.1, this.2.1⟩)
  rw [ups_full h hm] at h2
  have h3 := run_grants h c.up c.quotas c.grants.length (Nat.le_refl _)
  rw [List.take_length] at h3
  exact h1.app (h2.app h3)

/-! ### The text -/
theorem flat_if {α β : Type} (l : List α) (p : α → Bool) (f : α → List β) : (l.map fun x => if p x = true then f x else []).flatten = (l.filter p).flatMap f := by
  induction l with
  | nil => rfl
  | cons x l ih =>
    rw [List.map_cons, List.flatten_cons, ih]
    by_cases h : p x = true
    · rw [if_pos h, List.filter_cons_of_pos h, List.flatMap_cons]
    · rw [if_neg h, List.filter_cons_of_neg h, List.nil_append]
def lineP (ws : List (List UInt8)) : List UInt8 := lnT [32] [] ws ++ [10]
theorem lab_line (c : Cf) (i : Nat) : labN c i = lineP (labW c i) := by simp [labN, lineP, labW, lnT, labelT]
theorem und_line (c : Cf) (a b : Nat) : undN c a b = lineP (undW c (a, b)) := by simp [undN, lineP, undW, lnT, underT]
theorem gra_line (c : Cf) (g : G) : graN c g = lineP (graW c g) := by simp [graN, lineP, graW, lnT, grantT]
theorem show_lines {c : Cf} (h : checkC c = true) : showN c = (cWs c).flatMap lineP := by
  unfold showN
  rw [if_pos h]
  unfold cWs
  rw [List.flatMap_append, List.flatMap_append, List.append_assoc]
  congr 1
  · unfold labsN
    rw [List.flatMap_map, List.flatMap_def]
    congr 1
    exact List.map_congr_left fun i _ => lab_line c i
  · congr 1
    · unfold undsN undP
      rw [List.flatMap_map, List.flatMap_assoc, List.flatMap_def]
      congr 1
      refine List.map_congr_left fun a _ => ?_
      rw [List.flatMap_map]
      unfold undR
      have := flat_if (List.range c.names.length) (fun b => decide (a ≠ b ∧ ubit c.up a b = true)) (fun b => undN c a b)
      simp only [decide_eq_true_eq] at this
      show (List.map (undO c a) _).flatten = _
      unfold undO
      rw [this]
      exact congrArg (List.flatMap · _) (funext fun b => und_line c a b)
    · unfold grasN
      rw [List.take_length, List.flatMap_map, List.flatMap_def]
      congr 1
      exact List.map_congr_left fun g _ => gra_line c g
theorem plain_all {c : Cf} (h : Okc c) : ∀ ws ∈ cWs c, ws ≠ [] ∧ ∀ w ∈ ws, PlainW w := by
  have hn := h.ups
  have hnm : ∀ i, i < c.names.length → PlainW (nmAt c i) := fun i hi => plain_name (h.name i hi)
  intro ws hw
  rcases List.mem_append.1 hw with hw | hw
  · obtain ⟨i, hi, rfl⟩ := List.mem_map.1 hw
    have hi := List.mem_range.1 hi
    have hq := h.quota i hi
    refine ⟨by simp [labW], fun w hw => ?_⟩
    simp only [labW, List.mem_cons, List.not_mem_nil, or_false] at hw
    rcases hw with rfl | rfl | rfl
    · exact plain_label
    · exact hnm i hi
    · exact plain_dig (by omega)
  · rcases List.mem_append.1 hw with hw | hw
    · obtain ⟨⟨a, b⟩, hp, rfl⟩ := List.mem_map.1 hw
      have hp := undP_mem.1 hp
      refine ⟨by simp [undW], fun w hw => ?_⟩
      simp only [undW, List.mem_cons, List.not_mem_nil, or_false] at hw
      rcases hw with rfl | rfl | rfl
      · exact plain_under
      · exact hnm a hp.1
      · exact hnm b hp.2.1
    · obtain ⟨g, hg, rfl⟩ := List.mem_map.1 hw
      obtain ⟨a, f, t, rfl, ha, hf, ht⟩ := fits_nat (h.fits g hg)
      refine ⟨by simp [graW], fun w hw => ?_⟩
      simp only [graW, List.mem_cons, List.not_mem_nil, or_false, Int.toNat_natCast] at hw
      rcases hw with rfl | rfl | rfl | rfl
      · exact plain_grant
      · exact hnm a (by omega)
      · exact hnm f (by omega)
      · exact hnm t (by omega)
theorem ln_clean {sep tail : List UInt8} (hs : ∀ b ∈ sep, b ≠ 10) (ht : ∀ b ∈ tail, b ≠ 10) : ∀ ws : List (List UInt8), (∀ w ∈ ws, PlainW w) → ∀ b ∈ lnT sep tail ws, b ≠ 10
  | [], _, b, hb => ht b hb
  | [w], hw, b, hb => by
    rcases List.mem_append.1 hb with h | h
    · exact ((hw w (by simp)).clean b h).1
    · exact ht b h
  | w :: v :: ws, hw, b, hb => by
    rcases List.mem_append.1 hb with h | h
    · exact ((hw w (by simp)).clean b h).1
    · rcases List.mem_append.1 h with h | h
      · exact hs b h
      · exact ln_clean hs ht (v :: ws) (fun x hx => hw x (List.mem_cons_of_mem _ hx)) b h
theorem parse_done_ {c : Cf} (h : checkC c = true) (hm : ∀ x ∈ c.up, x < 2 ^ 64) {s : List UInt8} (hp : parseL (linesN s) 1 cf0 = (c, none)) : parseN s = (c, 0, 0, 0) := by
  have e : ({ c with up := closeN c.up } : Cf) = c := by rw [closeN_lat c.up ((okc_iff c).1 h).lat hm]
  unfold parseN
  rw [hp]
  simp only
  rw [e, if_pos h]
/-- P5.4: what is shown is parsed. -/
theorem back_plain {c : Cf} (h : checkC c = true) (hm : ∀ x ∈ c.up, x < 2 ^ 64) : parseN (showN c) = (c, 0, 0, 0) := by
  have hk := (okc_iff c).1 h
  have hp := plain_all hk
  refine parse_done_ h hm ?_
  have e : (cWs c).flatMap lineP = ((cWs c).map (lnT [32] [])).flatMap fun x => x ++ [10] := by rw [List.flatMap_map]; rfl
  rw [show_lines h, e, linesN_flat _ (fun x hx b hb => by
    obtain ⟨ws, hw, rfl⟩ := List.mem_map.1 hx
    exact ln_clean (by simp) (by simp) ws (hp ws hw).2 b hb)]
  refine parseL_run _ _ _ _ ?_
  have e2 : (((cWs c).map (lnT [32] []) ++ [[]]).map saysN).filter (fun ws => !ws.isEmpty) = cWs c := by
    rw [List.map_append, List.filter_append, List.map_map]
    have e3 : (cWs c).map (saysN ∘ lnT [32] []) = cWs c := by
      conv => rhs; rw [← List.map_id (cWs c)]
      exact List.map_congr_left fun ws hw => says_ln sep_plain (hp ws hw).1 (hp ws hw).2
    rw [e3, List.filter_eq_self.2 (fun ws hw => by simpa using (hp ws hw).1)]
    simp [says_nil]
  rw [e2]
  exact run_all hk hm
/-! ### With notes and spaces besides -/
def decB (note : List UInt8) (b : UInt8) : List UInt8 := if b = 10 then [32, 9, 35] ++ note ++ [10, 32, 10] else if b = 32 then [9, 32, 32] else [b]
theorem dec_word (note : List UInt8) {w : List UInt8} (h : ∀ b ∈ w, b ≠ 10 ∧ b ≠ 32) : w.flatMap (decB note) = w := by
  induction w with
  | nil => rfl
  | cons b w ih =>
    have hb := h b (by simp)
    rw [List.flatMap_cons, ih (fun x hx => h x (by simp [hx]))]
    unfold decB
    rw [if_neg hb.1, if_neg hb.2]
    rfl
def noteT (note : List UInt8) : List UInt8 := [32, 9, 35] ++ note
theorem sep_noteT (note : List UInt8) : SepT [9, 32, 32] (noteT note) := sep_note note
theorem dec_ten (note : List UInt8) : decB note 10 = noteT note ++ ([10] ++ ([32] ++ [10])) := by simp [decB, noteT]
theorem dec_ln (note : List UInt8) : ∀ ws : List (List UInt8), ws ≠ [] → (∀ w ∈ ws, PlainW w) → (lineP ws).flatMap (decB note) = lnT [9, 32, 32] (noteT note) ws ++ [10] ++ ([32] ++ [10])
  | [], h, _ => absurd rfl h
  | [w], _, hw => by
    unfold lineP
    rw [lnT, lnT, List.append_nil, List.flatMap_append, dec_word note (hw w (by simp)).clean, List.flatMap_cons, dec_ten]
    simp
  | w :: v :: ws, _, hw => by
    have ih := dec_ln note (v :: ws) (by simp) (fun x hx => hw x (List.mem_cons_of_mem _ hx))
    unfold lineP at ih ⊢
    rw [lnT, lnT, List.append_assoc, List.append_assoc, List.flatMap_append, dec_word note (hw w (by simp)).clean, List.flatMap_append, ih]
    simp [decB]
theorem back_note {c : Cf} (h : checkC c = true) (hm : ∀ x ∈ c.up, x < 2 ^ 64) (note : List UInt8) (hn : ∀ b ∈ note, b ≠ 10) : parseN ((35 :: note) ++ 10 :: (showN c).flatMap (decB note)) = (c, 0, 0, 0) := by
  have hk := (okc_iff c).1 h
  have hp := plain_all hk
  refine parse_done_ h hm ?_
  have e : (35 :: note) ++ 10 :: (showN c).flatMap (decB note) = ((35 :: note) :: (cWs c).flatMap fun ws => [lnT [9, 32, 32] (noteT note) ws, [32]]).flatMap fun x => x ++ [10] := by
    rw [List.flatMap_cons, show_lines h, List.flatMap_assoc, List.flatMap_assoc, List.append_assoc]
    congr 1
    show 10 :: _ = 10 :: _
    congr 1
    rw [List.flatMap_def, List.flatMap_def]
    congr 1
    refine List.map_congr_left fun ws hw => ?_
    rw [dec_ln note ws (hp ws hw).1 (hp ws hw).2]
    simp
  rw [e, linesN_flat _ (fun x hx b hb => by
    rcases List.mem_cons.1 hx with rfl | hx
    · rcases List.mem_cons.1 hb with rfl | hb
      · decide
      · exact hn b hb
    · obtain ⟨ws, hw, hx⟩ := List.mem_flatMap.1 hx
      simp only [List.mem_cons, List.not_mem_nil, or_false] at hx
      rcases hx with rfl | rfl
      · refine ln_clean (by simp) (fun b hb => ?_) ws (hp ws hw).2 b hb
        unfold noteT at hb
        rcases List.mem_append.1 hb with hb | hb
        · simp at hb; rcases hb with rfl | rfl | rfl <;> decide
        · exact hn b hb
      · simp at hb; subst hb; decide)]
  refine parseL_run _ _ _ _ ?_
  have e2 : ((((35 :: note) :: (cWs c).flatMap fun ws => [lnT [9, 32, 32] (noteT note) ws, [32]]) ++ [[]]).map saysN).filter (fun ws => !ws.isEmpty) = cWs c := by
    have e3 : ∀ L : List (List (List UInt8)), (∀ ws ∈ L, ws ≠ [] ∧ ∀ w ∈ ws, PlainW w) → (((L.flatMap fun ws => [lnT [9, 32, 32] (noteT note) ws, [32]]).map saysN).filter (fun ws => !ws.isEmpty)) = L := by
      intro L
      induction L with
      | nil => intro _; rfl
      | cons ws L ih =>
        intro hL
        have h1 := hL ws (by simp)
        rw [List.flatMap_cons, List.map_append, List.filter_append, ih (fun x hx => hL x (by simp [hx]))]
        simp [says_ln (sep_noteT note) h1.1 h1.2, says_blank, h1.1]
    rw [List.map_append, List.filter_append, List.map_cons, says_note]
    simp [says_nil, e3 (cWs c) hp]
  rw [e2]
  exact run_all hk hm
/-- A configuration that may be has a text. -/
theorem show_ne {c : Cf} (h : checkC c = true) : showN c ≠ [] := by
  have hk := (okc_iff c).1 h
  have hn := hk.lat.1.1
  have hu := hk.ups
  rw [show_lines h]
  obtain ⟨n, hn⟩ : ∃ n, c.names.length = n + 1 := ⟨c.names.length - 1, by omega⟩
  unfold cWs
  rw [hn, List.range_succ_eq_map]
  simp [lineP]
theorem check0 : checkC cf0 = false := by
  cases h : checkC cf0
  · rfl
  · have := ((okc_iff cf0).1 h).lat.1.1
    simp [cf0] at this
theorem show0 : showN cf0 = [] := by unfold showN; rw [check0]; rfl

end Go.Proofs.YtlecfjingghblaaGreatDoor
