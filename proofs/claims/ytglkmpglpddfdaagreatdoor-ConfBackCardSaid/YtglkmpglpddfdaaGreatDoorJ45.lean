import Derived.Test.YtglkmpglpddfdaaGreatDoorJ28
import Derived.Test.YtglkmpglpddfdaaGreatDoorJ18
import Derived.Test.YtglkmpglpddfdaaGreatDoorJSho
/- Of a claim's texts, joined: Bkm Bkn Bkl. No statement but in the last. -/
section
namespace Go.Proofs.YtglkmpglpddfdaaGreatDoor
open Go.RowKit
set_option linter.unusedVariables false

/-! ### Words of signs, without their places -/
def addT (o : List (List UInt8)) (b : List UInt8) : List (List UInt8) := o.dropLast ++ (o.getLast?.toList.map fun t => t ++ b)
theorem addT_snoc (o : List (List UInt8)) (t b : List UInt8) : addT (o ++ [t]) b = o ++ [t ++ b] := by simp [addT]
def wT : List (Nat × List UInt8) → Bool → List (List UInt8) → List (List UInt8)
  | [], _, o => o
  | x :: t, inn, o => if x.1 = 35 then o else if x.1 = 32 ∨ x.1 = 9 then wT t false o else wT t true (addT (if inn then o else o ++ [[]]) x.2)
theorem addLast_txt (o : List Wd) (b : List UInt8) : (addLast o b).map (·.1) = addT (o.map (·.1)) b := by
  rcases List.eq_nil_or_concat o with rfl | ⟨p, x, rfl⟩
  · rfl
  · obtain ⟨t, k⟩ := x
    rw [List.concat_eq_append, addLast_snoc, List.map_append, List.map_append]
    exact (addT_snoc _ _ _).symm
theorem wordsM_wT (l : List (Nat × List UInt8)) : ∀ (at_ en : Nat) (inn : Bool) (out : List Wd), (wordsM l at_ en inn out).1.map (·.1) = wT l inn (out.map (·.1)) := by
  induction l with
  | nil => intro _ _ _ _; rfl
  | cons x l ih =>
    intro at_ en inn out
    unfold wordsM wT
    split
    · rfl
    · split
      · exact ih _ _ _ _
      · rw [ih, addLast_txt]
        cases inn <;> simp
theorem wordsN_wT (x : List UInt8) : (wordsN x).1.map (·.1) = wT (cut x) false [] := wordsM_wT _ _ _ _ _
def PlainS (x : Nat × List UInt8) : Prop := x.1 ≠ 35 ∧ x.1 ≠ 32 ∧ x.1 ≠ 9
theorem wT_in (l r : List (Nat × List UInt8)) (o : List (List UInt8)) (t : List UInt8) (h : ∀ x ∈ l, PlainS x) : wT (l ++ r) true (o ++ [t]) = wT r true (o ++ [t ++ (l.map (·.2)).flatten]) := by
  induction l generalizing t with
  | nil => simp
  | cons x l ih =>
    have hx := h x (by simp)
    rw [List.cons_append, wT, if_neg hx.1, if_neg (by rintro (e | e); exact hx.2.1 e; exact hx.2.2 e), if_pos rfl, addT_snoc, ih _ (fun y hy => h y (by simp [hy]))]
    simp
theorem wT_word (l r : List (Nat × List UInt8)) (o : List (List UInt8)) (h : ∀ x ∈ l, PlainS x) (hn : l ≠ []) : wT (l ++ r) false o = wT r true (o ++ [(l.map (·.2)).flatten]) := by
  rcases l with _ | ⟨x, l⟩
  · exact absurd rfl hn
  · have hx := h x (by simp)
    rw [List.cons_append, wT, if_neg hx.1, if_neg (by rintro (e | e); exact hx.2.1 e; exact hx.2.2 e), if_neg (by simp), addT_snoc, wT_in _ _ _ _ (fun y hy => h y (by simp [hy]))]
    simp
theorem wT_blank (s : List UInt8) (r : List (Nat × List UInt8)) (o : List (List UInt8)) (h : ∀ b ∈ s, b = 32 ∨ b = 9) (hn : s ≠ []) : ∀ inn, wT (s.map (fun b => (b.toNat, [b])) ++ r) inn o = wT r false o := by
  induction s with
  | nil => exact absurd rfl hn
  | cons b s ih =>
    intro inn
    have hb : b.toNat ≠ 35 ∧ (b.toNat = 32 ∨ b.toNat = 9) := by
      rcases h b (by simp) with rfl | rfl
      · exact ⟨by decide, .inl rfl⟩
      · exact ⟨by decide, .inr rfl⟩
    rw [List.map_cons, List.cons_append, wT, if_neg hb.1, if_pos hb.2]
    by_cases hs : s = []
    · subst hs; rfl
    · exact ih (fun y hy => h y (by simp [hy])) hs false
theorem cut_asc (s r : List UInt8) (h : ∀ b ∈ s, b.toNat < 128) : cut (s ++ r) = s.map (fun b => (b.toNat, [b])) ++ cut r := by
  induction s with
  | nil => rfl
  | cons b s ih =>
    have := cut_stop [] (s ++ r) b (h b (by simp))
    rw [cut_nil, List.nil_append, List.nil_append] at this
    rw [List.cons_append, this, ih (fun y hy => h y (by simp [hy]))]
    rfl
theorem cut_join (w s : List UInt8) (h : s = [] ∨ ∃ b t, s = b :: t ∧ b.toNat < 128) : cut (w ++ s) = cut w ++ cut s := by
  rcases h with rfl | ⟨b, t, rfl, hb⟩
  · rw [List.append_nil, cut_nil, List.append_nil]
  · rw [cut_stop _ _ _ hb]
    have := cut_stop [] t b hb
    rw [cut_nil, List.nil_append, List.nil_append] at this
    rw [this]
structure PlainW (w : List UInt8) : Prop where
  ne : w ≠ []
  signs : ∀ x ∈ cut w, PlainS x
  clean : ∀ b ∈ w, b ≠ 10 ∧ b ≠ 32
def lnT (sep tail : List UInt8) : List (List UInt8) → List UInt8
  | [] => tail
  | [w] => w ++ tail
  | w :: v :: ws => w ++ (sep ++ lnT sep tail (v :: ws))
structure SepT (sep tail : List UInt8) : Prop where
  some_ : sep ≠ []
  blank : ∀ b ∈ sep, b = 32 ∨ b = 9
  tail_ : tail = [] ∨ ∃ b t, tail = b :: t ∧ b.toNat < 128
  done : ∀ o, wT (cut tail) true o = o
theorem blank_asc {b : UInt8} (h : b = 32 ∨ b = 9) : b.toNat < 128 := by rcases h with rfl | rfl <;> decide
theorem cut_ne {w : List UInt8} (h : w ≠ []) : cut w ≠ [] := by rw [cut_cons h]; simp
theorem ln_words {sep tail : List UInt8} (hs : SepT sep tail) : ∀ (ws : List (List UInt8)), ws ≠ [] → (∀ w ∈ ws, PlainW w) → ∀ o, wT (cut (lnT sep tail ws)) false o = o ++ ws
  | [], h, _, _ => absurd rfl h
  | [w], _, hw, o => by
    have h1 := hw w (by simp)
    rw [lnT, cut_join _ _ hs.tail_, wT_word _ _ _ h1.signs (cut_ne h1.ne), hs.done, cut_flat]
  | w :: v :: ws, _, hw, o => by
    have h1 := hw w (by simp)
    have hj : sep ++ lnT sep tail (v :: ws) = [] ∨ ∃ b t, sep ++ lnT sep tail (v :: ws) = b :: t ∧ b.toNat < 128 := by
      rcases hsp : sep with _ | ⟨b, s⟩
      · exact absurd hsp hs.some_
      · exact .inr ⟨b, _, rfl, blank_asc (hs.blank b (by rw [hsp]; simp))⟩
    rw [lnT, cut_join _ _ hj, cut_asc _ _ (fun b hb => blank_asc (hs.blank b hb)), wT_word _ _ _ h1.signs (cut_ne h1.ne), wT_blank _ _ _ hs.blank hs.some_, cut_flat, ln_words hs (v :: ws) (by simp) (fun x hx => hw x (List.mem_cons_of_mem _ hx))]
    simp
def saysN (x : List UInt8) : List (List UInt8) := (wordsN x).1.map (·.1)
theorem says_ln {sep tail : List UInt8} (hs : SepT sep tail) {ws : List (List UInt8)} (h : ws ≠ []) (hw : ∀ w ∈ ws, PlainW w) : saysN (lnT sep tail ws) = ws := by
  unfold saysN
  rw [wordsN_wT, ln_words hs ws h hw]
  rfl
theorem sep_plain : SepT [32] [] := ⟨by simp, fun b hb => by simp at hb; exact .inl hb, .inl rfl, fun o => by rw [cut_nil]; rfl⟩
theorem sep_note (note : List UInt8) : SepT [9, 32, 32] ([32, 9, 35] ++ note) := by
  refine ⟨by simp, fun b hb => ?_, .inr ⟨32, _, rfl, by decide⟩, fun o => ?_⟩
  · simp at hb
    rcases hb with rfl | rfl <;> simp
  · rw [cut_asc _ _ (fun b hb => by simp at hb; rcases hb with rfl | rfl | rfl <;> decide)]
    simp [wT]
theorem says_note (note : List UInt8) : saysN (35 :: note) = [] := by
  unfold saysN
  rw [wordsN_wT, show (35 :: note : List UInt8) = [35] ++ note from rfl, cut_asc _ _ (fun b hb => by simp at hb; subst hb; decide)]
  simp [wT]
theorem says_blank : saysN [32] = [] := by
  unfold saysN
  rw [wordsN_wT, show ([32] : List UInt8) = [32] ++ [] from rfl, cut_asc _ _ (fun b hb => by simp at hb; subst hb; decide), cut_nil]
  simp [wT]
theorem says_nil : saysN [] = [] := by
  unfold saysN
  rw [wordsN_wT, cut_nil]
  rfl

/-! ### Lines that are right -/
theorem wAt_txt (l : List Wd) (i : Nat) : (wAt l i).1 = (l.map (·.1)).getD i [] := by
  unfold wAt
  simp only [List.getD, List.getElem?_map]
  cases l[i]? <;> rfl
inductive GoodL (c : Cf) : List (List UInt8) → Cf → Prop
  | label {nm dg : List UInt8} : nameB nm = true → findN c.names nm < 0 → c.names.length < 64 → 0 ≤ quotaN dg → GoodL c [labelT, nm, dg] ⟨c.names ++ [nm], c.up ++ [2 ^ c.up.length], c.quotas ++ [quotaN dg], c.grants⟩
  | under {a b : List UInt8} {i j : Nat} : findN c.names a = (i : Int) → findN c.names b = (j : Int) → GoodL c [underT, a, b] (if ubit c.up i j = true then c else { c with up := c.up.set i (c.up.getD i 0 + 2 ^ j) })
  | grant {a f t : List UInt8} {i j k : Nat} : findN c.names a = (i : Int) → findN c.names f = (j : Int) → findN c.names t = (k : Int) → GoodL c [grantT, a, f, t] { c with grants := insG c.grants ⟨i, j, k⟩ }
theorem many_label : manyN labelT = 3 := by decide
theorem many_under : manyN underT = 3 := by decide
theorem many_grant : manyN grantT = 4 := by decide
theorem lineN_right {c c' : Cf} {ws : List (List UInt8)} (h : GoodL c ws c') (l : List Wd) (en : Nat) (hl : l.map (·.1) = ws) : lineN c l en = (c', 0) := by
  have hlen : l.length = ws.length := by rw [← hl, List.length_map]
  have hw : ∀ i, (wAt l i).1 = ws.getD i [] := fun i => by rw [wAt_txt, hl]
  cases h with
  | @label nm dg h1 h2 h3 h4 =>
    have w0 : (wAt l 0).1 = labelT := hw 0
    have w1 : (wAt l 1).1 = nm := hw 1
    have w2 : (wAt l 2).1 = dg := hw 2
    have hlen : l.length = 3 := hlen
    unfold lineN
    rw [w0, many_label, if_neg (by decide), badFrom_none (fun j hj1 hj2 => ?_)]
    · simp only
      rw [if_neg (by omega)]
      unfold doLine doLabel
      rw [w0, if_pos rfl, w1, w2]
    · unfold badAt
      rw [if_neg (by omega), w0, if_pos rfl]
      obtain rfl | rfl : j = 1 ∨ j = 2 := by omega
      · rw [w1, if_neg]
        rintro (⟨_, h | h | h⟩ | ⟨h, _⟩)
        · rw [h1] at h; cases h
        · omega
        · omega
        · omega
      · rw [w2, if_neg]
        rintro (⟨h, _⟩ | ⟨_, h⟩) <;> omega
  | @under a b i j h1 h2 =>
    have w0 : (wAt l 0).1 = underT := hw 0
    have w1 : (wAt l 1).1 = a := hw 1
    have w2 : (wAt l 2).1 = b := hw 2
    have hlen : l.length = 3 := hlen
    have hne : ¬ underT = labelT := by decide
    unfold lineN
    rw [w0, many_under, if_neg (by decide), badFrom_none (fun j' hj1 hj2 => ?_)]
    · simp only
      rw [if_neg (by omega)]
      unfold doLine doUnder numAt
      rw [w0, if_neg hne, if_pos rfl, w1, w2, h1, h2]
      simp only [Int.toNat_natCast]
    · unfold badAt
      rw [if_neg (by omega), w0, if_neg hne]
      obtain rfl | rfl : j' = 1 ∨ j' = 2 := by omega
      · rw [w1, h1, if_neg (by omega)]
      · rw [w2, h2, if_neg (by omega)]
  | @grant a f t i j k h1 h2 h3 =>
    have w0 : (wAt l 0).1 = grantT := hw 0
    have w1 : (wAt l 1).1 = a := hw 1
    have w2 : (wAt l 2).1 = f := hw 2
    have w3 : (wAt l 3).1 = t := hw 3
    have hlen : l.length = 4 := hlen
    have hne : ¬ grantT = labelT := by decide
    have hne2 : ¬ grantT = underT := by decide
    unfold lineN
    rw [w0, many_grant, if_neg (by decide), badFrom_none (fun j' hj1 hj2 => ?_)]
    · simp only
      rw [if_neg (by omega)]
      unfold doLine doGrant numAt
      rw [w0, if_neg hne, if_neg hne2, w1, w2, w3, h1, h2, h3]
    · unfold badAt
      rw [if_neg (by omega), w0, if_neg hne]
      obtain rfl | rfl | rfl : j' = 1 ∨ j' = 2 ∨ j' = 3 := by omega
      · rw [w1, h1, if_neg (by omega)]
      · rw [w2, h2, if_neg (by omega)]
      · rw [w3, h3, if_neg (by omega)]
inductive RunL : Cf → List (List (List UInt8)) → Cf → Prop
  | nil {c : Cf} : RunL c [] c
  | cons {c c1 c' : Cf} {ws : List (List UInt8)} {r : List (List (List UInt8))} : GoodL c ws c1 → RunL c1 r c' → RunL c (ws :: r) c'
theorem RunL.app {c c1 c2 : Cf} {a b : List (List (List UInt8))} (h : RunL c a c1) (k : RunL c1 b c2) : RunL c (a ++ b) c2 := by
  induction h with
  | nil => exact k
  | cons g _ ih => exact .cons g (ih k)
theorem parseL_run : ∀ (X : List (List UInt8)) (a : Nat) (c c' : Cf), RunL c ((X.map saysN).filter (fun ws => !ws.isEmpty)) c' → parseL X a c = (c', none)
  | [], _, _, _, h => by cases h; rfl
  | x :: X, a, c, c', h => by
    rw [parseL]
    by_cases hx : saysN x = []
    · have hx' : (wordsN x).1 = [] := List.map_eq_nil_iff.1 hx
      rw [List.map_cons, hx] at h
      rw [if_pos hx']
      exact parseL_run X (a + 1) c c' (by simpa using h)
    · have hx' : ¬ (wordsN x).1 = [] := fun e => hx (by unfold saysN; rw [e]; rfl)
      rw [List.map_cons, List.filter_cons_of_pos (by simpa using hx)] at h
      cases h with
      | cons g r =>
        have hl := lineN_right g (wordsN x).1 (wordsN x).2 rfl
        rw [if_neg hx', hl, if_neg (by simp)]
        exact parseL_run X (a + 1) _ c' r
theorem linesN_flat (LL : List (List UInt8)) (h : ∀ x ∈ LL, ∀ b ∈ x, b ≠ 10) : linesN (LL.flatMap fun x => x ++ [10]) = LL ++ [[]] := by
  induction LL with
  | nil => rfl
  | cons x LL ih =>
    rw [List.flatMap_cons, List.append_assoc, List.singleton_append, linesN_mid x _ (h x (by simp)), ih (fun y hy => h y (by simp [hy]))]
    rfl

end Go.Proofs.YtglkmpglpddfdaaGreatDoor
end

section
namespace Go.Proofs.YtglkmpglpddfdaaGreatDoor
open Go.RowKit
set_option linter.unusedVariables false

/-! ### Words -/
theorem plain_asc {w : List UInt8} (hn : w ≠ []) (h : ∀ b ∈ w, 48 ≤ b.toNat ∧ b.toNat < 128) : PlainW w := by
  refine ⟨hn, fun x hx => ?_, fun b hb => ?_⟩
  · have e := cut_asc w [] (fun b hb => (h b hb).2)
    rw [List.append_nil, cut_nil, List.append_nil] at e
    rw [e] at hx
    obtain ⟨b, hb, rfl⟩ := List.mem_map.1 hx
    have := (h b hb).1
    refine ⟨?_, ?_, ?_⟩ <;> simp only <;> omega
  · have := (h b hb).1
    constructor <;> rintro rfl <;> simp at this
theorem plain_label : PlainW labelT := plain_asc (by decide) (by decide)
theorem plain_under : PlainW underT := plain_asc (by decide) (by decide)
theorem plain_grant : PlainW grantT := plain_asc (by decide) (by decide)
theorem plain_name {w : List UInt8} (h : nameB w = true) : PlainW w := by
  unfold nameB at h
  simp only [Bool.and_eq_true, decide_eq_true_eq, List.all_eq_true] at h
  obtain ⟨h1, _, h3, _⟩ := h
  have hl : ∀ x ∈ cut w, 65 ≤ x.1 := fun x hx => by
    have := of_decide_eq_true (h1 x hx)
    omega
  refine ⟨fun e => ?_, fun x hx => ?_, fun b hb => ?_⟩
  · subst e
    rw [cut_nil] at h3
    simp at h3
  · have := hl x hx
    refine ⟨?_, ?_, ?_⟩ <;> omega
  · have key : ∀ v : UInt8, v.toNat < 65 → b ≠ v := by
      rintro v hv rfl
      obtain ⟨s, t, rfl⟩ := List.append_of_mem hb
      have := hl (b.toNat, [b]) (by rw [cut_stop s t b (by omega)]; simp)
      simp only at this
      omega
    exact ⟨key 10 (by decide), key 32 (by decide)⟩
theorem digN_digits : ∀ (n : Nat), ∀ b ∈ digN n, 48 ≤ b.toNat ∧ b.toNat ≤ 57 := by
  intro n
  induction n using Nat.strongRecOn with
  | ind n ih =>
    intro b hb
    by_cases h0 : n = 0
    · subst h0; rw [digN_zero] at hb; cases hb
    · rw [digN_pos (by omega)] at hb
      rcases List.mem_append.1 hb with h | h
      · exact ih (n / 10) (by omega) b h
      · obtain rfl := List.mem_singleton.1 h
        have : (UInt8.ofNat (48 + n % 10)).toNat = 48 + n % 10 := by simp; omega
        omega
theorem digN_ne {n : Nat} (h : 0 < n) : digN n ≠ [] := by rw [digN_pos h]; simp
theorem plain_dig {n : Nat} (h : 0 < n) : PlainW (digN n) := plain_asc (digN_ne h) (fun b hb => by have := digN_digits n b hb; omega)
theorem valN_snoc (l : List UInt8) (b : UInt8) : valN (l ++ [b]) = valN l * 10 + (b.toNat - 48) := by simp [valN]
theorem val_dig : ∀ n, valN (digN n) = n := by
  intro n
  induction n using Nat.strongRecOn with
  | ind n ih =>
    by_cases h0 : n = 0
    · subst h0; rw [digN_zero]; rfl
    · rw [digN_pos (by omega), valN_snoc, ih (n / 10) (by omega)]
      have : (UInt8.ofNat (48 + n % 10)).toNat = 48 + n % 10 := by simp; omega
      omega
theorem quota_dig {n : Nat} (h1 : 4 ≤ n) (h2 : n ≤ 1000) : quotaN (digN n) = (n : Int) := by
  unfold quotaN
  rw [val_dig, if_pos]
  refine ⟨?_, ?_, digN_len (by omega), h1, h2⟩
  · rw [List.all_eq_true]
    intro b hb
    exact decide_eq_true (by have := digN_digits n b hb; omega)
  · exact List.length_pos_iff.2 (digN_ne (by omega))

/-! ### Names that differ are found -/
theorem find_own {c : Cf} (h : Okc c) {i : Nat} (hi : i < c.names.length) : findN c.names (nmAt c i) = (i : Int) := by
  unfold findN
  refine firstN_some hi (decide_eq_true rfl) (fun j hj => ?_)
  refine decide_eq_false (fun e => ?_)
  have h1 := h.once i hi
  have h2 : 0 ≤ findN (c.names.take i) (nmAt c i) := by
    unfold findN
    rw [firstN_nonneg]
    refine ⟨j, by rw [List.length_take]; omega, decide_eq_true ?_⟩
    rw [← e]
    simp only [List.getD, List.getElem?_take, if_pos hj]
  omega
/-! ### A configuration's lines -/
def labW (c : Cf) (i : Nat) : List (List UInt8) := [labelT, nmAt c i, digN (c.quotas.getD i 0).toNat]
def undW (c : Cf) (p : Nat × Nat) : List (List UInt8) := [underT, nmAt c p.1, nmAt c p.2]
def graW (c : Cf) (g : G) : List (List UInt8) := [grantT, nmAt c g.a.toNat, nmAt c g.f.toNat, nmAt c g.t.toNat]
def undP (c : Cf) : List (Nat × Nat) := (List.range c.names.length).flatMap fun a => ((List.range c.names.length).filter fun b => decide (a ≠ b ∧ ubit c.up a b = true)).map fun b => (a, b)
def cWs (c : Cf) : List (List (List UInt8)) := (List.range c.names.length).map (labW c) ++ ((undP c).map (undW c) ++ c.grants.map (graW c))
theorem undP_mem {c : Cf} {a b : Nat} : (a, b) ∈ undP c ↔ a < c.names.length ∧ b < c.names.length ∧ a ≠ b ∧ ubit c.up a b = true := by
  unfold undP
  simp only [List.mem_flatMap, List.mem_map, List.mem_filter, List.mem_range, decide_eq_true_eq, Prod.mk.injEq]
  constructor
  · rintro ⟨x, hx, y, ⟨hy, h1, h2⟩, rfl, rfl⟩
    exact ⟨hx, hy, h1, h2⟩
  · rintro ⟨h1, h2, h3, h4⟩
    exact ⟨a, h1, b, ⟨h2, h3, h4⟩, rfl, rfl⟩
theorem take_one {α : Type} (l : List α) (k : Nat) (hk : k < l.length) : l.take k ++ [l[k]] = l.take (k + 1) := (List.take_succ_eq_append_getElem hk).symm
def labS (c : Cf) (k : Nat) : Cf := ⟨c.names.take k, (List.range k).map (2 ^ ·), c.quotas.take k, []⟩
theorem run_labels {c : Cf} (h : Okc c) : ∀ k, k ≤ c.names.length → RunL cf0 ((List.range k).map (labW c)) (labS c k)
  | 0, _ => by
    have e : labS c 0 = cf0 := rfl
    rw [e]
    exact .nil
  | k + 1, hk => by
    have hq := h.quota k (by omega)
    have hqn : c.quotas.getD k 0 = (((c.quotas.getD k 0).toNat : Nat) : Int) := by omega
    have hkl : k < c.quotas.length := by have := h.quo; omega
    rw [List.range_succ, List.map_append]
    refine (run_labels h k (by omega)).app (.cons (c1 := labS c (k + 1)) ?_ .nil)
    have hd : quotaN (digN (c.quotas.getD k 0).toNat) = c.quotas.getD k 0 := by rw [quota_dig (by omega) (by omega)]; omega
    have g : GoodL (labS c k) (labW c k) _ := GoodL.label (c := labS c k) (nm := nmAt c k) (dg := digN (c.quotas.getD k 0).toNat) (h.name k (by omega)) (h.once k (by omega)) (by
      have := h.n64
      show (c.names.take k).length < 64
      rw [List.length_take]
      omega) (by rw [hd]; omega)
    have e : (⟨(labS c k).names ++ [nmAt c k], (labS c k).up ++ [2 ^ (labS c k).up.length], (labS c k).quotas ++ [quotaN (digN (c.quotas.getD k 0).toNat)], (labS c k).grants⟩ : Cf) = labS c (k + 1) := by
      have e1 : nmAt c k = c.names[k] := getT_at _ _ (by omega)
      have e2 : c.quotas.getD k 0 = c.quotas[k] := by simp [List.getD, List.getElem?_eq_getElem hkl]
      unfold labS
      simp only [List.length_map, List.length_range]
      rw [hd, e1, e2, take_one _ _ (by omega), take_one _ _ hkl, List.range_succ, List.map_append]
      rfl
    rw [e] at g
    exact g
def addU (U : List Nat) (p : Nat × Nat) : List Nat := if ubit U p.1 p.2 = true then U else U.set p.1 (U.getD p.1 0 + 2 ^ p.2)
theorem addU_len (U : List Nat) (p : Nat × Nat) : (addU U p).length = U.length := by unfold addU; split <;> simp
theorem foldU_len (P : List (Nat × Nat)) : ∀ U, (P.foldl addU U).length = U.length := by
  induction P with
  | nil => intro _; rfl
  | cons p P ih => intro U; rw [List.foldl_cons, ih, addU_len]
theorem addU_bit (U : List Nat) (p : Nat × Nat) (hp : p.1 < U.length) (x y : Nat) : ubit (addU U p) x y = (ubit U x y || decide ((x, y) = p)) := by
  obtain ⟨a, b⟩ := p
  unfold addU
  by_cases h : ubit U a b = true
  · rw [if_pos h]
    by_cases e : (x, y) = (a, b)
    · injection e with e1 e2
      subst e1 e2
      rw [h]
      simp
    · simp [e]
  · rw [if_neg h]
    have h' : (U.getD a 0).testBit b = false := by simpa [ubit] using h
    unfold ubit
    by_cases hx : x = a
    · subst hx
      have e1 : (U.set x (U.getD x 0 + 2 ^ b)).getD x 0 = U.getD x 0 + 2 ^ b := by simp only [List.getD, List.getElem?_set_self hp]; rfl
      rw [e1, add_bit _ _ _ h']
      congr 1
      simp
    · have e1 : (U.set a (U.getD a 0 + 2 ^ b)).getD x 0 = U.getD x 0 := by simp only [List.getD]; rw [List.getElem?_set_ne (by omega)]
      rw [e1]
      simp [hx]
theorem foldU_bit (P : List (Nat × Nat)) : ∀ U, (∀ p ∈ P, p.1 < U.length) → ∀ x y, ubit (P.foldl addU U) x y = (ubit U x y || decide ((x, y) ∈ P)) := by
  induction P with
  | nil => intro U _ x y; simp
  | cons p P ih =>
    intro U h x y
    rw [List.foldl_cons, ih (addU U p) (fun q hq => by rw [addU_len]; exact h q (by simp [hq])), addU_bit U p (h p (by simp)), Bool.or_assoc]
    congr 1
    simp
theorem run_unders {c : Cf} (h : Okc c) (q : List Int) (gs : List G) : ∀ (P : List (Nat × Nat)) (U : List Nat), (∀ p ∈ P, p.1 < c.names.length ∧ p.2 < c.names.length) → RunL ⟨c.names, U, q, gs⟩ (P.map (undW c)) ⟨c.names, P.foldl addU U, q, gs⟩
  | [], _, _ => .nil
  | p :: P, U, hp => by
    have h1 := hp p (by simp)
    have g : GoodL ⟨c.names, U, q, gs⟩ (undW c p) _ := GoodL.under (c := ⟨c.names, U, q, gs⟩) (a := nmAt c p.1) (b := nmAt c p.2) (i := p.1) (j := p.2) (find_own h h1.1) (find_own h h1.2)
    have e : (if ubit (⟨c.names, U, q, gs⟩ : Cf).up p.1 p.2 = true then (⟨c.names, U, q, gs⟩ : Cf) else { (⟨c.names, U, q, gs⟩ : Cf) with up := U.set p.1 (U.getD p.1 0 + 2 ^ p.2) }) = ⟨c.names, addU U p, q, gs⟩ := by
      unfold addU
      simp only
      split <;> rfl
    have g2 : GoodL ⟨c.names, U, q, gs⟩ (undW c p) ⟨c.names, addU U p, q, gs⟩ := e ▸ g
    exact .cons g2 (run_unders h q gs P (addU U p) (fun x hx => hp x (by simp [hx])))
theorem less_trans {x y z : G} (h1 : lessG x y = true) (h2 : lessG y z = true) : lessG x z = true := by
  simp only [lessG] at h1 h2 ⊢
  repeat' split at h1
  all_goals repeat' split at h2
  all_goals repeat' split
  all_goals simp_all
  all_goals omega
theorem less_irr (x : G) : lessG x x = false := by simp [lessG]
theorem rise_of {up : List Nat} {l : List G} (h : checkG up l = true) : ∀ j, j < l.length → ∀ i, i < j → lessG (l.getD i g0) (l.getD j g0) = true := by
  unfold checkG at h
  simp only [Bool.and_eq_true, decide_eq_true_eq, List.all_eq_true, List.mem_range] at h
  have step : ∀ j, j + 1 < l.length → lessG (l.getD j g0) (l.getD (j + 1) g0) = true := fun j hj => by
    have := h.2 (j + 1) hj
    unfold okG at this
    simp only [Bool.and_eq_true, Bool.or_eq_true, decide_eq_true_eq] at this
    rcases this.2 with e | e
    · omega
    · exact e
  intro j
  induction j with
  | zero => intro _ i hi; omega
  | succ j ih =>
    intro hj i hi
    by_cases e : i = j
    · subst e; exact step i hj
    · exact less_trans (ih (by omega) i (by omega)) (step j hj)
theorem tw_all {α : Type} {p : α → Bool} {l : List α} (h : ∀ x ∈ l, p x = true) : l.takeWhile p = l := by
  induction l with
  | nil => rfl
  | cons x l ih => rw [List.takeWhile_cons_of_pos (h x (by simp)), ih (fun y hy => h y (by simp [hy]))]
theorem dw_all {α : Type} {p : α → Bool} {l : List α} (h : ∀ x ∈ l, p x = true) : l.dropWhile p = [] := by
  induction l with
  | nil => rfl
  | cons x l ih => rw [List.dropWhile_cons_of_pos (h x (by simp)), ih (fun y hy => h y (by simp [hy]))]
theorem insG_end {l : List G} {g : G} (h : ∀ x ∈ l, lessG x g = true) : insG l g = l ++ [g] := by
  unfold insG
  rw [if_neg (fun hg => by have := h g hg; rw [less_irr] at this; cases this)]
  rw [tw_all h, dw_all h]
theorem run_grants {c : Cf} (h : Okc c) (U : List Nat) (q : List Int) : ∀ k, k ≤ c.grants.length → RunL ⟨c.names, U, q, []⟩ ((c.grants.take k).map (graW c)) ⟨c.names, U, q, c.grants.take k⟩
  | 0, _ => .nil
  | k + 1, hk => by
    have hkl : k < c.grants.length := by omega
    rw [← take_one _ _ hkl, List.map_append]
    refine (run_grants h U q k (by omega)).app (.cons ?_ .nil)
    obtain ⟨a, f, t, he, ha, hf, ht⟩ := fits_nat (h.fits _ (List.getElem_mem hkl))
    have hn := h.ups
    have g := GoodL.grant (c := ⟨c.names, U, q, c.grants.take k⟩) (a := nmAt c a) (f := nmAt c f) (t := nmAt c t) (i := a) (j := f) (k := t) (find_own h (by omega)) (find_own h (by omega)) (find_own h (by omega))
    have e : insG (c.grants.take k) ⟨a, f, t⟩ = c.grants.take k ++ [c.grants[k]] := by
      rw [← he]
      refine insG_end (fun x hx => ?_)
      obtain ⟨i, hi, rfl⟩ := List.getElem_of_mem hx
      rw [List.length_take] at hi
      rw [List.getElem_take]
      have := rise_of h.gra k hkl i (by omega)
      rwa [getG_at _ _ (by omega), getG_at _ _ hkl] at this
    rw [show graW c c.grants[k] = [grantT, nmAt c a, nmAt c f, nmAt c t] by rw [he]; rfl]
    rw [show ({ (⟨c.names, U, q, c.grants.take k⟩ : Cf) with grants := insG (⟨c.names, U, q, c.grants.take k⟩ : Cf).grants ⟨a, f, t⟩ } : Cf) = ⟨c.names, U, q, c.grants.take k ++ [c.grants[k]]⟩ by rw [← e]] at g
    exact g
theorem ups_full {c : Cf} (h : Okc c) (hm : ∀ x ∈ c.up, x < 2 ^ 64) : (undP c).foldl addU ((List.range c.names.length).map (2 ^ ·)) = c.up := by
  have hn := h.ups
  have hlen : ((undP c).foldl addU ((List.range c.names.length).map (2 ^ ·))).length = c.up.length := by rw [foldU_len, List.length_map, List.length_range, hn]
  apply List.ext_getElem hlen
  intro x hx1 hx2
  have hb := fun y => foldU_bit (undP c) ((List.range c.names.length).map (2 ^ ·)) (fun p hp => by
    obtain ⟨a, b⟩ := p
    rw [List.length_map, List.length_range]
    exact (undP_mem.1 hp).1) x y
  apply Nat.eq_of_testBit_eq
  intro y
  have h1 := hb y
  unfold ubit at h1
  rw [getD_at _ _ hx1] at h1
  rw [h1]
  have e0 : ((List.range c.names.length).map (2 ^ ·)).getD x 0 = 2 ^ x := by
    rw [getD_at _ _ (by rw [List.length_map, List.length_range]; omega)]
    simp
  rw [e0, Nat.testBit_two_pow]
  have e1 : ubit c.up x y = c.up[x].testBit y := by unfold ubit; rw [getD_at _ _ hx2]
  rw [← e1, Bool.eq_iff_iff]
  simp only [Bool.or_eq_true, decide_eq_true_eq, undP_mem]
  constructor
  · rintro (rfl | ⟨_, _, _, h4⟩)
    · exact h.lat.2.2.1 x hx2
    · exact h4
  · intro hu
    by_cases hxy : x = y
    · exact .inl hxy
    · refine .inr ⟨by omega, ?_, hxy, hu⟩
      rw [hn]
      refine h.lat.2.1 x hx2 y ?_ hu
      by_cases hy : y < 64
      · exact hy
      · rw [e1, Nat.testBit_lt_two_pow (Nat.lt_of_lt_of_le (hm _ (List.getElem_mem hx2)) (Nat.pow_le_pow_right (by decide) (by omega)))] at hu
        cases hu
theorem run_all {c : Cf} (h : Okc c) (hm : ∀ x ∈ c.up, x < 2 ^ 64) : RunL cf0 (cWs c) c := by
  have h1 := run_labels h c.names.length (Nat.le_refl _)
  have e1 : labS c c.names.length = ⟨c.names, (List.range c.names.length).map (2 ^ ·), c.quotas, []⟩ := by
    unfold labS
    rw [List.take_length, h.quo, List.take_length, ← h.quo]
  rw [e1] at h1
  have h2 := run_unders h c.quotas [] (undP c) ((List.range c.names.length).map (2 ^ ·)) (fun p hp => by
    obtain ⟨a, b⟩ := p
    have := undP_mem.1 hp
    exact ⟨this.1, this.2.1⟩)
  rw [ups_full h hm] at h2
  have h3 := run_grants h c.up c.quotas c.grants.length (Nat.le_refl _)
  rw [List.take_length] at h3
  exact h1.app (h2.app h3)

/-! ### The text -/
theorem flat_if {α β : Type} (l : List α) (p : α → Bool) (f : α → List β) : (l.map fun x => if p x = true then f x else []).flatten = (l.filter p).flatMap f := by
  induction l with
  | nil => rfl
  | cons x l ih =>
    rw [List.map_cons, List.flatten_cons, ih]
    by_cases h : p x = true
    · rw [if_pos h, List.filter_cons_of_pos h, List.flatMap_cons]
    · rw [if_neg h, List.filter_cons_of_neg h, List.nil_append]
def lineP (ws : List (List UInt8)) : List UInt8 := lnT [32] [] ws ++ [10]
theorem lab_line (c : Cf) (i : Nat) : labN c i = lineP (labW c i) := by simp [labN, lineP, labW, lnT, labelT]
theorem und_line (c : Cf) (a b : Nat) : undN c a b = lineP (undW c (a, b)) := by simp [undN, lineP, undW, lnT, underT]
theorem gra_line (c : Cf) (g : G) : graN c g = lineP (graW c g) := by simp [graN, lineP, graW, lnT, grantT]
theorem show_lines {c : Cf} (h : checkC c = true) : showN c = (cWs c).flatMap lineP := by
  unfold showN
  rw [if_pos h]
  unfold cWs
  rw [List.flatMap_append, List.flatMap_append, List.append_assoc]
  congr 1
  · unfold labsN
    rw [List.flatMap_map, List.flatMap_def]
    congr 1
    exact List.map_congr_left fun i _ => lab_line c i
  · congr 1
    · unfold undsN undP
      rw [List.flatMap_map, List.flatMap_assoc, List.flatMap_def]
      congr 1
      refine List.map_congr_left fun a _ => ?_
      rw [List.flatMap_map]
      unfold undR
      have := flat_if (List.range c.names.length) (fun b => decide (a ≠ b ∧ ubit c.up a b = true)) (fun b => undN c a b)
      simp only [decide_eq_true_eq] at this
      show (List.map (undO c a) _).flatten = _
      unfold undO
      rw [this]
      exact congrArg (List.flatMap · _) (funext fun b => und_line c a b)
    · unfold grasN
      rw [List.take_length, List.flatMap_map, List.flatMap_def]
      congr 1
      exact List.map_congr_left fun g _ => gra_line c g
theorem plain_all {c : Cf} (h : Okc c) : ∀ ws ∈ cWs c, ws ≠ [] ∧ ∀ w ∈ ws, PlainW w := by
  have hn := h.ups
  have hnm : ∀ i, i < c.names.length → PlainW (nmAt c i) := fun i hi => plain_name (h.name i hi)
  intro ws hw
  rcases List.mem_append.1 hw with hw | hw
  · obtain ⟨i, hi, rfl⟩ := List.mem_map.1 hw
    have hi := List.mem_range.1 hi
    have hq := h.quota i hi
    refine ⟨by simp [labW], fun w hw => ?_⟩
    simp only [labW, List.mem_cons, List.not_mem_nil, or_false] at hw
    rcases hw with rfl | rfl | rfl
    · exact plain_label
    · exact hnm i hi
    · exact plain_dig (by omega)
  · rcases List.mem_append.1 hw with hw | hw
    · obtain ⟨⟨a, b⟩, hp, rfl⟩ := List.mem_map.1 hw
      have hp := undP_mem.1 hp
      refine ⟨by simp [undW], fun w hw => ?_⟩
      simp only [undW, List.mem_cons, List.not_mem_nil, or_false] at hw
      rcases hw with rfl | rfl | rfl
      · exact plain_under
      · exact hnm a hp.1
      · exact hnm b hp.2.1
    · obtain ⟨g, hg, rfl⟩ := List.mem_map.1 hw
      obtain ⟨a, f, t, rfl, ha, hf, ht⟩ := fits_nat (h.fits g hg)
      refine ⟨by simp [graW], fun w hw => ?_⟩
      simp only [graW, List.mem_cons, List.not_mem_nil, or_false, Int.toNat_natCast] at hw
      rcases hw with rfl | rfl | rfl | rfl
      · exact plain_grant
      · exact hnm a (by omega)
      · exact hnm f (by omega)
      · exact hnm t (by omega)
theorem ln_clean {sep tail : List UInt8} (hs : ∀ b ∈ sep, b ≠ 10) (ht : ∀ b ∈ tail, b ≠ 10) : ∀ ws : List (List UInt8), (∀ w ∈ ws, PlainW w) → ∀ b ∈ lnT sep tail ws, b ≠ 10
  | [], _, b, hb => ht b hb
  | [w], hw, b, hb => by
    rcases List.mem_append.1 hb with h | h
    · exact ((hw w (by simp)).clean b h).1
    · exact ht b h
  | w :: v :: ws, hw, b, hb => by
    rcases List.mem_append.1 hb with h | h
    · exact ((hw w (by simp)).clean b h).1
    · rcases List.mem_append.1 h with h | h
      · exact hs b h
      · exact ln_clean hs ht (v :: ws) (fun x hx => hw x (List.mem_cons_of_mem _ hx)) b h
theorem parse_done_ {c : Cf} (h : checkC c = true) (hm : ∀ x ∈ c.up, x < 2 ^ 64) {s : List UInt8} (hp : parseL (linesN s) 1 cf0 = (c, none)) : parseN s = (c, 0, 0, 0) := by
  have e : ({ c with up := closeN c.up } : Cf) = c := by rw [closeN_lat c.up ((okc_iff c).1 h).lat hm]
  unfold parseN
  rw [hp]
  simp only
  rw [e, if_pos h]
theorem back_plain {c : Cf} (h : checkC c = true) (hm : ∀ x ∈ c.up, x < 2 ^ 64) : parseN (showN c) = (c, 0, 0, 0) := by
  have hk := (okc_iff c).1 h
  have hp := plain_all hk
  refine parse_done_ h hm ?_
  have e : (cWs c).flatMap lineP = ((cWs c).map (lnT [32] [])).flatMap fun x => x ++ [10] := by rw [List.flatMap_map]; rfl
  rw [show_lines h, e, linesN_flat _ (fun x hx b hb => by
    obtain ⟨ws, hw, rfl⟩ := List.mem_map.1 hx
    exact ln_clean (by simp) (by simp) ws (hp ws hw).2 b hb)]
  refine parseL_run _ _ _ _ ?_
  have e2 : (((cWs c).map (lnT [32] []) ++ [[]]).map saysN).filter (fun ws => !ws.isEmpty) = cWs c := by
    rw [List.map_append, List.filter_append, List.map_map]
    have e3 : (cWs c).map (saysN ∘ lnT [32] []) = cWs c := by
      conv => rhs; rw [← List.map_id (cWs c)]
      exact List.map_congr_left fun ws hw => says_ln sep_plain (hp ws hw).1 (hp ws hw).2
    rw [e3, List.filter_eq_self.2 (fun ws hw => by simpa using (hp ws hw).1)]
    simp [says_nil]
  rw [e2]
  exact run_all hk hm
/-! ### With notes and spaces besides -/
def decB (note : List UInt8) (b : UInt8) : List UInt8 := if b = 10 then [32, 9, 35] ++ note ++ [10, 32, 10] else if b = 32 then [9, 32, 32] else [b]
theorem dec_word (note : List UInt8) {w : List UInt8} (h : ∀ b ∈ w, b ≠ 10 ∧ b ≠ 32) : w.flatMap (decB note) = w := by
  induction w with
  | nil => rfl
  | cons b w ih =>
    have hb := h b (by simp)
    rw [List.flatMap_cons, ih (fun x hx => h x (by simp [hx]))]
    unfold decB
    rw [if_neg hb.1, if_neg hb.2]
    rfl
def noteT (note : List UInt8) : List UInt8 := [32, 9, 35] ++ note
theorem sep_noteT (note : List UInt8) : SepT [9, 32, 32] (noteT note) := sep_note note
theorem dec_ten (note : List UInt8) : decB note 10 = noteT note ++ ([10] ++ ([32] ++ [10])) := by simp [decB, noteT]
theorem dec_ln (note : List UInt8) : ∀ ws : List (List UInt8), ws ≠ [] → (∀ w ∈ ws, PlainW w) → (lineP ws).flatMap (decB note) = lnT [9, 32, 32] (noteT note) ws ++ [10] ++ ([32] ++ [10])
  | [], h, _ => absurd rfl h
  | [w], _, hw => by
    unfold lineP
    rw [lnT, lnT, List.append_nil, List.flatMap_append, dec_word note (hw w (by simp)).clean, List.flatMap_cons, dec_ten]
    simp
  | w :: v :: ws, _, hw => by
    have ih := dec_ln note (v :: ws) (by simp) (fun x hx => hw x (List.mem_cons_of_mem _ hx))
    unfold lineP at ih ⊢
    rw [lnT, lnT, List.append_assoc, List.append_assoc, List.flatMap_append, dec_word note (hw w (by simp)).clean, List.flatMap_append, ih]
    simp [decB]
theorem back_note {c : Cf} (h : checkC c = true) (hm : ∀ x ∈ c.up, x < 2 ^ 64) (note : List UInt8) (hn : ∀ b ∈ note, b ≠ 10) : parseN ((35 :: note) ++ 10 :: (showN c).flatMap (decB note)) = (c, 0, 0, 0) := by
  have hk := (okc_iff c).1 h
  have hp := plain_all hk
  refine parse_done_ h hm ?_
  have e : (35 :: note) ++ 10 :: (showN c).flatMap (decB note) = ((35 :: note) :: (cWs c).flatMap fun ws => [lnT [9, 32, 32] (noteT note) ws, [32]]).flatMap fun x => x ++ [10] := by
    rw [List.flatMap_cons, show_lines h, List.flatMap_assoc, List.flatMap_assoc, List.append_assoc]
    congr 1
    show 10 :: _ = 10 :: _
    congr 1
    rw [List.flatMap_def, List.flatMap_def]
    congr 1
    refine List.map_congr_left fun ws hw => ?_
    rw [dec_ln note ws (hp ws hw).1 (hp ws hw).2]
    simp
  rw [e, linesN_flat _ (fun x hx b hb => by
    rcases List.mem_cons.1 hx with rfl | hx
    · rcases List.mem_cons.1 hb with rfl | hb
      · decide
      · exact hn b hb
    · obtain ⟨ws, hw, hx⟩ := List.mem_flatMap.1 hx
      simp only [List.mem_cons, List.not_mem_nil, or_false] at hx
      rcases hx with rfl | rfl
      · refine ln_clean (by simp) (fun b hb => ?_) ws (hp ws hw).2 b hb
        unfold noteT at hb
        rcases List.mem_append.1 hb with hb | hb
        · simp at hb; rcases hb with rfl | rfl | rfl <;> decide
        · exact hn b hb
      · simp at hb; subst hb; decide)]
  refine parseL_run _ _ _ _ ?_
  have e2 : ((((35 :: note) :: (cWs c).flatMap fun ws => [lnT [9, 32, 32] (noteT note) ws, [32]]) ++ [[]]).map saysN).filter (fun ws => !ws.isEmpty) = cWs c := by
    have e3 : ∀ L : List (List (List UInt8)), (∀ ws ∈ L, ws ≠ [] ∧ ∀ w ∈ ws, PlainW w) → (((L.flatMap fun ws => [lnT [9, 32, 32] (noteT note) ws, [32]]).map saysN).filter (fun ws => !ws.isEmpty)) = L := by
      intro L
      induction L with
      | nil => intro _; rfl
      | cons ws L ih =>
        intro hL
        have h1 := hL ws (by simp)
        rw [List.flatMap_cons, List.map_append, List.filter_append, ih (fun x hx => hL x (by simp [hx]))]
        simp [says_ln (sep_noteT note) h1.1 h1.2, says_blank, h1.1]
    rw [List.map_append, List.filter_append, List.map_cons, says_note]
    simp [says_nil, e3 (cWs c) hp]
  rw [e2]
  exact run_all hk hm
end Go.Proofs.YtglkmpglpddfdaaGreatDoor
end

section
namespace Go.Proofs.YtglkmpglpddfdaaGreatDoor
open Go.RowKit
set_option linter.unusedVariables false

theorem dec_one (note : List UInt8) (b : UInt8) : (decB note b).length ≤ 3 + (if b = 10 then 1 else 0) * (note.length + 6) := by
  unfold decB
  by_cases h1 : b = 10
  · rw [if_pos h1, if_pos h1]
    simp only [List.length_append, List.length_cons, List.length_nil]
    omega
  · rw [if_neg h1, if_neg h1]
    by_cases h2 : b = 32
    · rw [if_pos h2]
      simp
    · rw [if_neg h2]
      simp
theorem dec_len (note : List UInt8) : ∀ l : List UInt8, (l.flatMap (decB note)).length ≤ 3 * l.length + l.count 10 * (note.length + 6)
  | [] => by simp
  | b :: l => by
    have h := dec_len note l
    have h1 := dec_one note b
    rw [List.flatMap_cons, List.length_append, List.length_cons, List.count_cons, Nat.add_mul]
    simp only [beq_iff_eq]
    generalize (if b = 10 then 1 else 0) * (note.length + 6) = x at h1 ⊢
    generalize List.count 10 l * (note.length + 6) = y at h ⊢
    omega
theorem count_ln : ∀ ws : List (List UInt8), (∀ w ∈ ws, ∀ b ∈ w, b ≠ 10) → (lnT [32] [] ws).count 10 = 0
  | [], _ => rfl
  | [w], h => by
    unfold lnT
    rw [List.append_nil, List.count_eq_zero]
    exact fun hm => h w (by simp) 10 hm rfl
  | w :: v :: ws, h => by
    have := count_ln (v :: ws) (fun x hx => h x (by simp [hx]))
    rw [lnT, List.count_append, List.count_append, this, List.count_eq_zero.2 (fun hm => h w (by simp) 10 hm rfl)]
    decide
theorem count_lines : ∀ l : List (List (List UInt8)), (∀ ws ∈ l, ∀ w ∈ ws, ∀ b ∈ w, b ≠ 10) → (l.flatMap lineP).count 10 = l.length
  | [], _ => rfl
  | ws :: l, h => by
    rw [List.flatMap_cons, List.count_append, count_lines l (fun x hx => h x (by simp [hx])), List.length_cons]
    unfold lineP
    rw [List.count_append, count_ln ws (h ws (by simp))]
    simp
    omega
theorem flat_len {α β : Type} (f : α → List β) (m : Nat) : ∀ l : List α, (∀ x ∈ l, (f x).length ≤ m) → (l.flatMap f).length ≤ l.length * m
  | [], _ => by simp
  | x :: l, h => by
    have h1 := h x (by simp)
    have h2 := flat_len f m l (fun y hy => h y (by simp [hy]))
    rw [List.flatMap_cons, List.length_append, List.length_cons, Nat.add_mul]
    omega
theorem back_len {c : Cf} (h : checkC c = true) (hn : c.names.length ≤ 12) (note : List UInt8) (hl : note.length ≤ 100) : (showN c).length ≤ 100000 ∧ ((showN c).flatMap (decB note)).length ≤ 400000 := by
  have hk := (okc_iff c).1 h
  have h1 := labs_len hk c.names.length (Nat.le_refl _)
  have h2 := unds_len hk c.names.length
  have h3 := gras_len hk c.grants.length (Nat.le_refl _)
  have h5 := checkG64 hk.gra
  have hs : (showN c).length ≤ 100000 := by
    unfold showN
    rw [if_pos h, List.length_append, List.length_append]
    have e1 : c.names.length * 60 ≤ 12 * 60 := Nat.mul_le_mul_right _ hn
    have e2 : c.names.length * 6656 ≤ 12 * 6656 := Nat.mul_le_mul_right _ hn
    omega
  refine ⟨hs, ?_⟩
  have hd := dec_len note (showN c)
  have hp := plain_all hk
  have hc : (showN c).count 10 ≤ 220 := by
    rw [show_lines h, count_lines (cWs c) (fun ws hws w hw b hb => (((hp ws hws).2 w hw).clean b hb).1)]
    unfold cWs
    rw [List.length_append, List.length_append, List.length_map, List.length_map, List.length_map, List.length_range]
    have hu : (undP c).length ≤ c.names.length * c.names.length := by
      unfold undP
      have := flat_len (fun a => ((List.range c.names.length).filter fun b => decide (a ≠ b ∧ ubit c.up a b = true)).map fun b => (a, b)) c.names.length (List.range c.names.length) (fun a _ => by
        rw [List.length_map]
        exact Nat.le_trans (List.length_filter_le _ _) (by rw [List.length_range]; exact Nat.le_refl _))
      rwa [List.length_range] at this
    have hu2 : c.names.length * c.names.length ≤ 12 * 12 := Nat.mul_le_mul hn hn
    omega
  have h6 : (showN c).count 10 * (note.length + 6) ≤ 220 * 106 := Nat.mul_le_mul hc (by omega)
  omega
end Go.Proofs.YtglkmpglpddfdaaGreatDoor
end
