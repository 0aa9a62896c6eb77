/- What is shown is parsed: mathematics of ConfBack and ConfOnce, first part: words and lines; no statement. -/
import Derived.Test.YtlecfjingghblaaGreatDoorJ28
import Derived.Test.YtlecfjingghblaaGreatDoorJ18
namespace Go.Proofs.YtlecfjingghblaaGreatDoor
open Go.RowKit
set_option linter.unusedVariables false

/-! ### Words of signs, without their places -/
def addT (o : List (List UInt8)) (b : List UInt8) : List (List UInt8) := o.dropLast ++ (o.getLast?.toList.map fun t => t ++ b)
theorem addT_snoc (o : List (List UInt8)) (t b : List UInt8) : addT (o ++ [t]) b = o ++ [t ++ b] := by simp [addT]
def wT : List (Nat × List UInt8) → Bool → List (List UInt8) → List (List UInt8)
  | [], _, o => o
  | x :: t, inn, o => if x.1 = 35 then o else if x.1 = 32 ∨ x.1 = 9 then wT t false o else wT t true (addT (if inn then o else o ++ [[]]) x.2)
theorem addLast_txt (o : List Wd) (b : List UInt8) : (addLast o b).map (·.1) = addT (o.map (·.1)) b := by
  rcases List.eq_nil_or_concat o with rfl | ⟨p, x, rfl⟩
  · rfl
  · obtain ⟨t, k⟩ := x
    rw [List.concat_eq_append, addLast_snoc, List.map_append, List.map_append]
    exact (addT_snoc _ _ _).symm
theorem wordsM_wT (l : List (Nat × List UInt8)) : ∀ (at_ en : Nat) (inn : Bool) (out : List Wd), (wordsM l at_ en inn out).1.map (·.1) = wT l inn (out.map (·.1)) := by
  induction l with
  | nil => intro _ _ _ _; rfl
  | cons x l ih =>
    intro at_ en inn out
    unfold wordsM wT
    split
    · rfl
    · split
      · exact ih _ _ _ _
      · rw [ih, addLast_txt]
        cases inn <;> simp
theorem wordsN_wT (x : List UInt8) : (wordsN x).1.map (·.1) = wT (cut x) false [] := wordsM_wT _ _ _ _ _
def PlainS (x : Nat × List UInt8) : Prop := x.1 ≠ 35 ∧ x.1 ≠ 32 ∧ x.1 ≠ 9
theorem wT_in (l r : List (Nat × List UInt8)) (o : List (List UInt8)) (t : List UInt8) (h : ∀ x ∈ l, PlainS x) : wT (l ++ r) true (o ++ [t]) = wT r true (o ++ [t ++ (l.map (·.2)).flatten]) := by
  induction l generalizing t with
  | nil => simp
  | cons x l ih =>
    have hx := h x (by simp)
    rw [List.cons_append, wT, if_neg hx.1, if_neg (by rintro (e | e); exact hx.2.1 e; exact hx.2.2 e), if_pos rfl, addT_snoc, ih _ (fun y hy => h y (by simp [hy]))]
    simp
theorem wT_word (l r : List (Nat × List UInt8)) (o : List (List UInt8)) (h : ∀ x ∈ l, PlainS x) (hn : l ≠ []) : wT (l ++ r) false o = wT r true (o ++ [(l.map (·.2)).flatten]) := by
  rcases l with _ | ⟨x, l⟩
  · exact absurd rfl hn
  · have hx := h x (by simp)
    rw [List.cons_append, wT, if_neg hx.1, if_neg (by rintro (e | e); exact hx.2.1 e; exact hx.2.2 e), if_neg (by simp), addT_snoc, wT_in _ _ _ _ (fun y hy => h y (by simp [hy]))]
    simp
theorem wT_blank (s : List UInt8) (r : List (Nat × List UInt8)) (o : List (List UInt8)) (h : ∀ b ∈ s, b = 32 ∨ b = 9) (hn : s ≠ []) : ∀ inn, wT (s.map (fun b => (b.toNat, [b])) ++ r) inn o = wT r false o := by
  induction s with
  | nil => exact absurd rfl hn
  | cons b s ih =>
    intro inn
    have hb : b.toNat ≠ 35 ∧ (b.toNat = 32 ∨ b.toNat = 9) := by
      rcases h b (by simp) with rfl | rfl
      · exact ⟨by decide, .inl rfl⟩
      · exact ⟨by decide, .inr rfl⟩
    rw [List.map_cons, List.cons_append, wT, if_neg hb.1, if_pos hb.2]
    by_cases hs : s = []
    · subst hs; rfl
    · exact ih (fun y hy => h y (by simp [hy])) hs false
theorem cut_asc (s r : List UInt8) (h : ∀ b ∈ s, b.toNat < 128) : cut (s ++ r) = s.map (fun b => (b.toNat, [b])) ++ cut r := by
  induction s with
  | nil => rfl
  | cons b s ih =>
    have := cut_stop [] (s ++ r) b (h b (by simp))
    rw [cut_nil, List.nil_append, List.nil_append] at this
    rw [List.cons_append, this, ih (fun y hy => h y (by simp [hy]))]
    rfl
theorem cut_join (w s : List UInt8) (h : s = [] ∨ ∃ b t, s = b :: t ∧ b.toNat < 128) : cut (w ++ s) = cut w ++ cut s := by
  rcases h with rfl | ⟨b, t, rfl, hb⟩
  · rw [List.append_nil, cut_nil, List.append_nil]
  · rw [cut_stop _ _ _ hb]
    have := cut_stop [] t b hb
    rw [cut_nil, List.nil_append, List.nil_append] at this
    rw [this]
/-- A word: no blank, no newline, no '#'. -/
structure PlainW (w : List UInt8) : Prop where
  ne : w ≠ []
  signs : ∀ x ∈ cut w, PlainS x
  clean : ∀ b ∈ w, b ≠ 10 ∧ b ≠ 32
def lnT (sep tail : List UInt8) : List (List UInt8) → List UInt8
  | [] => tail
  | [w] => w ++ tail
  | w :: v :: ws => w ++ (sep ++ lnT sep tail (v :: ws))
structure SepT (sep tail : List UInt8) : Prop where
  some_ : sep ≠ []
  blank : ∀ b ∈ sep, b = 32 ∨ b = 9
  tail_ : tail = [] ∨ ∃ b t, tail = b :: t ∧ b.toNat < 128
  done : ∀ o, wT (cut tail) true o = o
theorem blank_asc {b : UInt8} (h : b = 32 ∨ b = 9) : b.toNat < 128 := by rcases h with rfl | rfl <;> decide
theorem cut_ne {w : List UInt8} (h : w ≠ []) : cut w ≠ [] := by rw [cut_cons h]; simp
theorem ln_words {sep tail : List UInt8} (hs : SepT sep tail) : ∀ (ws : List (List UInt8)), ws ≠ [] → (∀ w ∈ ws, PlainW w) → ∀ o, wT (cut (lnT sep tail ws)) false o = o ++ ws
  | [], h, _, _ => absurd rfl h
  | [w], _, hw, o => by
    have h1 := hw w (by simp)
    rw [lnT, cut_join _ _ hs.tail_, wT_word _ _ _ h1.signs (cut_ne h1.ne), hs.done, cut_flat]
  | w :: v :: ws, _, hw, o => by
    have h1 := hw w (by simp)
    have hj : sep ++ lnT sep tail (v :: ws) = [] ∨ ∃ b t, sep ++ lnT sep tail (v :: ws) = b :: t ∧ b.toNat < 128 := by
      rcases hsp : sep with _ | ⟨b, s⟩
      · exact absurd hsp hs.some_
      · exact .inr ⟨b, _, rfl, blank_asc (hs.blank b (by rw [hsp]; simp))⟩
    rw [lnT, cut_join _ _ hj, cut_asc _ _ (fun b hb => blank_asc (hs.blank b hb)), wT_word _ _ _ h1.signs (cut_ne h1.ne), wT_blank _ _ _ hs.blank hs.some_, cut_flat, ln_words hs (v :: ws) (by simp) (fun x hx => hw x (List.mem_cons_of_mem _ hx))]
    simp
/-- What a line says. -/
def saysN (x : List UInt8) : List (List UInt8) := (wordsN x).1.map (·.1)
theorem says_ln {sep tail : List UInt8} (hs : SepT sep tail) {ws : List (List UInt8)} (h : ws ≠ []) (hw : ∀ w ∈ ws, PlainW w) : saysN (lnT sep tail ws) = ws := by
  unfold saysN
  rw [wordsN_wT, ln_words hs ws h hw]
  rfl
theorem sep_plain : SepT [32] [] := ⟨by simp, fun b hb => by simp at hb; exact .inl hb, .inl rfl, fun o => by rw [cut_nil]; rfl⟩
theorem sep_note (note : List UInt8) : SepT [9, 32, 32] ([32, 9, 35] ++ note) := by
  refine ⟨by simp, fun b hb => ?_, .inr ⟨32, _, rfl, by decide⟩, fun o => ?_⟩
  · simp at hb
    rcases hb with rfl | rfl <;> simp
  · rw [cut_asc _ _ (fun b hb => by simp at hb; rcases hb with rfl | rfl | rfl <;> decide)]
    simp [wT]
theorem says_note (note : List UInt8) : saysN (35 :: note) = [] := by
  unfold saysN
  rw [wordsN_wT, show (35 :: note : List UInt8) = [35] ++ note from rfl, cut_asc _ _ (fun b hb => by simp at hb; subst hb; decide)]
  simp [wT]
theorem says_blank : saysN [32] = [] := by
  unfold saysN
  rw [wordsN_wT, show ([32] : List UInt8) = [32] ++ [] from rfl, cut_asc _ _ (fun b hb => by simp at hb; subst hb; decide), cut_nil]
  simp [wT]
theorem says_nil : saysN [] = [] := by
  unfold saysN
  rw [wordsN_wT, cut_nil]
  rfl

/-! ### Lines that are right -/
theorem wAt_txt (l : List Wd) (i : Nat) : (wAt l i).1 = (l.map (·.1)).getD i [] := by
  unfold wAt
  simp only [List.getD, List.getElem?_map]
  cases l[i]? <;> rfl
inductive GoodL (c : Cf) : List (List UInt8) → Cf → Prop
  | label {nm dg : List UInt8} : nameB nm = true → findN c.names nm < 0 → c.names.length < 64 → 0 ≤ quotaN dg → GoodL c [labelT, nm, dg] ⟨c.names ++ [nm], c.up ++ [2 ^ c.up.length], c.quotas ++ [quotaN dg], c.grants⟩
  | under {a b : List UInt8} {i j : Nat} : findN c.names a = (i : Int) → findN c.names b = (j : Int) → GoodL c [underT, a, b] (if ubit c.up i j = true then c else { c with up := c.up.set i (c.up.getD i 0 + 2 ^ j) })
  | grant {a f t : List UInt8} {i j k : Nat} : findN c.names a = (i : Int) → findN c.names f = (j : Int) → findN c.names t = (k : Int) → GoodL c [grantT, a, f, t] { c with grants := insG c.grants ⟨i, j, k⟩ }
theorem many_label : manyN labelT = 3 := by decide
theorem many_under : manyN underT = 3 := by decide
theorem many_grant : manyN grantT = 4 := by decide
theorem lineN_right {c c' : Cf} {ws : List (List UInt8)} (h : GoodL c ws c') (l : List Wd) (en : Nat) (hl : l.map (·.1) = ws) : lineN c l en = (c', 0) := by
  have hlen : l.length = ws.length := by rw [← hl, List.length_map]
  have hw : ∀ i, (wAt l i).1 = ws.getD i [] := fun i => by rw [wAt_txt, hl]
  cases h with
  | @label nm dg h1 h2 h3 h4 =>
    have w0 : (wAt l 0).1 = labelT := hw 0
    have w1 : (wAt l 1).1 = nm := hw 1
    have w2 : (wAt l 2).1 = dg := hw 2
    have hlen : l.length = 3 := hlen
    unfold lineN
    rw [w0, many_label, if_neg (by decide), badFrom_none (fun j hj1 hj2 => ?_)]
    · simp only
      rw [if_neg (by omega)]
      unfold doLine doLabel
      rw [w0, if_pos rfl, w1, w2]
    · unfold badAt
      rw [if_neg (by omega), w0, if_pos rfl]
      obtain rfl | rfl : j = 1 ∨ j = 2 := by omega
      · rw [w1, if_neg]
        rintro (⟨_, h | h | h⟩ | ⟨h, _⟩)
        · rw [h1] at h; cases h
        · omega
        · omega
        · omega
      · rw [w2, if_neg]
        rintro (⟨h, _⟩ | ⟨_, h⟩) <;> omega
  | @under a b i j h1 h2 =>
    have w0 : (wAt l 0).1 = underT := hw 0
    have w1 : (wAt l 1).1 = a := hw 1
    have w2 : (wAt l 2).1 = b := hw 2
    have hlen : l.length = 3 := hlen
    have hne : ¬ underT = labelT := by decide
    unfold lineN
    rw [w0, many_under, if_neg (by decide), badFrom_none (fun j' hj1 hj2 => ?_)]
    · simp only
      rw [if_neg (by omega)]
      unfold doLine doUnder numAt
      rw [w0, if_neg hne, if_pos rfl, w1, w2, h1, h2]
      simp only [Int.toNat_natCast]
    · unfold badAt
      rw [if_neg (by omega), w0, if_neg hne]
      obtain rfl | rfl : j' = 1 ∨ j' = 2 := by omega
      · rw [w1, h1, if_neg (by omega)]
      · rw [w2, h2, if_neg (by omega)]
  | @grant a f t i j k h1 h2 h3 =>
    have w0 : (wAt l 0).1 = grantT := hw 0
    have w1 : (wAt l 1).1 = a := hw 1
    have w2 : (wAt l 2).1 = f := hw 2
    have w3 : (wAt l 3).1 = t := hw 3
    have hlen : l.length = 4 := hlen
    have hne : ¬ grantT = labelT := by decide
    have hne2 : ¬ grantT = underT := by decide
    unfold lineN
    rw [w0, many_grant, if_neg (by decide), badFrom_none (fun j' hj1 hj2 => ?_)]
    · simp only
      rw [if_neg (by omega)]
      unfold doLine doGrant numAt
      rw [w0, if_neg hne, if_neg hne2, w1, w2, w3, h1, h2, h3]
    · unfold badAt
      rw [if_neg (by omega), w0, if_neg hne]
      obtain rfl | rfl | rfl : j' = 1 ∨ j' = 2 ∨ j' = 3 := by omega
      · rw [w1, h1, if_neg (by omega)]
      · rw [w2, h2, if_neg (by omega)]
      · rw [w3, h3, if_neg (by omega)]
inductive RunL : Cf → List (List (List UInt8)) → Cf → Prop
  | nil {c : Cf} : RunL c [] c
  | cons {c c1 c' : Cf} {ws : List (List UInt8)} {r : List (List (List UInt8))} : GoodL c ws c1 → RunL c1 r c' → RunL c (ws :: r) c'
theorem RunL.app {c c1 c2 : Cf} {a b : List (List (List UInt8))} (h : RunL c a c1) (k : RunL c1 b c2) : RunL c (a ++ b) c2 := by
  induction h with
  | nil => exact k
  | cons g _ ih => exact .cons g (ih k)
theorem goodL_ne {c c' : Cf} {ws : List (List UInt8)} (h : GoodL c ws c') : ws ≠ [] := by cases h <;> simp
theorem parseL_run : ∀ (X : List (List UInt8)) (a : Nat) (c c' : Cf), RunL c ((X.map saysN).filter (fun ws => !ws.isEmpty)) c' → parseL X a c = (c', none)
  | [], _, _, _, h => by cases h; rfl
  | x :: X, a, c, c', h => by
    rw [parseL]
    by_cases hx : saysN x = []
    · have hx' : (wordsN x).1 = [] := List.map_eq_nil_iff.1 hx
      rw [List.map_cons, hx] at h
      rw [if_pos hx']
      exact parseL_run X (a + 1) c c' (by simpa using h)
    · have hx' : ¬ (wordsN x).1 = [] := fun e => hx (by unfold saysN; rw [e]; rfl)
      rw [List.map_cons, List.filter_cons_of_pos (by simpa using hx)] at h
      cases h with
      | cons g r =>
        have hl := lineN_right g (wordsN x).1 (wordsN x).2 rfl
        rw [if_neg hx', hl, if_neg (by simp)]
        exact parseL_run X (a + 1) _ c' r
theorem linesN_flat (LL : List (List UInt8)) (h : ∀ x ∈ LL, ∀ b ∈ x, b ≠ 10) : linesN (LL.flatMap fun x => x ++ [10]) = LL ++ [[]] := by
  induction LL with
  | nil => rfl
  | cons x LL ih =>
    rw [List.flatMap_cons, List.append_assoc, List.singleton_append, linesN_mid x _ (h x (by simp)), ih (fun y hy => h y (by simp [hy]))]
    rfl

end Go.Proofs.YtlecfjingghblaaGreatDoor
