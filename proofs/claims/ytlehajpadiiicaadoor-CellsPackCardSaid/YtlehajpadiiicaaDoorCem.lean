/- Pages of cells, as lists of bytes: plain mathematics, no program and no statement. -/
import Derived.Test.YtlehajpadiiicaaDoorCrca
import Derived.Laws.CopyOwn
namespace Go.Proofs.YtlehajpadiiicaaDoor
open Go.RowKit
set_option linter.unusedVariables false

/-- How many bytes cells take, with a slot each. -/
def cSz : List (List UInt8) → Nat
  | [] => 0
  | c :: l => c.length + 1 + cSz l
theorem cSz_app (a b : List (List UInt8)) : cSz (a ++ b) = cSz a + cSz b := by
  induction a with
  | nil => simp [cSz]
  | cons c a ih => simp only [List.cons_append, cSz, ih]; omega
theorem cSz_len (l : List (List UInt8)) : l.length ≤ cSz l := by
  induction l with
  | nil => simp
  | cons c l ih => simp only [List.length_cons, cSz]; omega
theorem cSz_more {l : List (List UInt8)} {k : Nat} {c : List UInt8} (h : l[k]? = some c) : cSz (l.take (k + 1)) = cSz (l.take k) + (c.length + 1) := by
  obtain ⟨hk, hc⟩ := List.getElem?_eq_some_iff.1 h
  rw [List.take_succ_eq_append_getElem hk, hc, cSz_app]
  simp [cSz]
theorem cSz_take (l : List (List UInt8)) (k : Nat) : cSz (l.take k) ≤ cSz l := by
  have h := cSz_app (l.take k) (l.drop k)
  rw [List.take_append_drop] at h
  omega
theorem cSz_few (l : List (List UInt8)) (n m : Nat) (hn : l.length ≤ n) (hm : ∀ c ∈ l, c.length ≤ m) : cSz l ≤ n * (m + 1) := by
  have h : cSz l ≤ l.length * (m + 1) := by
    clear hn
    induction l with
    | nil => simp [cSz]
    | cons c l ih =>
      have h1 := hm c (List.mem_cons_self ..)
      have h2 := ih fun d hd => hm d (List.mem_cons_of_mem _ hd)
      simp only [List.length_cons, cSz, Nat.add_mul, Nat.one_mul] at *
      omega
  exact Nat.le_trans h (Nat.mul_le_mul_right _ hn)
/-- The cells, the last one first. -/
def cBack (l : List (List UInt8)) : List UInt8 := l.reverse.flatten
theorem cBack_snoc (l : List (List UInt8)) (c : List UInt8) : cBack (l ++ [c]) = c ++ cBack l := by simp [cBack]
theorem cBack_cons (l : List (List UInt8)) (c : List UInt8) : cBack (c :: l) = cBack l ++ c := by simp [cBack]
theorem cBack_len (l : List (List UInt8)) : (cBack l).length + l.length = cSz l := by
  induction l with
  | nil => rfl
  | cons c l ih =>
    rw [cBack_cons, List.length_append, List.length_cons, cSz]
    omega
/-- Where each begins, the first one ending at 'at_'. -/
def cSlots (at_ : Nat) : List (List UInt8) → List UInt8
  | [] => []
  | c :: l => UInt8.ofNat (at_ - c.length) :: cSlots (at_ - c.length) l
theorem cSlots_len (l : List (List UInt8)) : ∀ at_, (cSlots at_ l).length = l.length := by
  induction l with
  | nil => intro _; rfl
  | cons c l ih => intro at_; simp [cSlots, ih]
theorem cSlots_snoc (l : List (List UInt8)) (c : List UInt8) : ∀ at_, cSlots at_ (l ++ [c]) = cSlots at_ l ++ [UInt8.ofNat (at_ - (cBack l).length - c.length)] := by
  induction l with
  | nil => intro at_; simp [cSlots, cBack]
  | cons d l ih =>
    intro at_
    simp only [List.cons_append, cSlots, ih, cBack_cons, List.length_append]
    congr 4
    omega
/-- What stands behind the sum. -/
def cBody (kind : UInt8) (n : Nat) (l : List (List UInt8)) : List UInt8 := kind :: UInt8.ofNat n :: (cSlots 128 l ++ (List.replicate (122 - cSz l) 0 ++ cBack l))
theorem cBody_len (kind : UInt8) (n : Nat) (l : List (List UInt8)) (h : cSz l ≤ 122) : (cBody kind n l).length = 124 := by
  have := cBack_len l
  have := cSz_len l
  simp only [cBody, List.length_cons, List.length_append, List.length_replicate, cSlots_len]
  omega
def cPage (kind : UInt8) (l : List (List UInt8)) : List UInt8 := tagB (cBody kind l.length l)
theorem cPage_len (kind : UInt8) (l : List (List UInt8)) (h : cSz l ≤ 122) : (cPage kind l).length = 128 := by
  rw [cPage, tagB_len, cBody_len _ _ _ h]
/-- May cells be packed? -/
def cFits (kind : UInt8) (l : List (List UInt8)) : Prop := kind ≠ 0 ∧ cSz l ≤ 122
instance (kind : UInt8) (l : List (List UInt8)) : Decidable (cFits kind l) := by unfold cFits; infer_instance

/-! ### The page while it is assembled -/
def cDraft (kind : UInt8) (n : Nat) (l : List (List UInt8)) : List UInt8 := [0, 0, 0, 0] ++ cBody kind n l
theorem cDraft_len (kind : UInt8) (n : Nat) (l : List (List UInt8)) (h : cSz l ≤ 122) : (cDraft kind n l).length = 128 := by
  rw [cDraft, List.length_append, cBody_len _ _ _ h]
  rfl
theorem cDraft_nil (kind : UInt8) (n : Nat) : cDraft kind n [] = [0, 0, 0, 0, kind, UInt8.ofNat n] ++ List.replicate 122 0 := by simp [cDraft, cBody, cSlots, cBack, cSz]
theorem cDraft_drop (kind : UInt8) (n : Nat) (l : List (List UInt8)) : (cDraft kind n l).drop 4 = cBody kind n l := rfl
theorem repl_add (a b : Nat) : List.replicate (a + b) (0 : UInt8) = List.replicate a 0 ++ List.replicate b 0 := by simp
/-- A slot is set, and a cell is laid ahead of those that lie there. -/
theorem cDraft_step (kind : UInt8) (n : Nat) (l : List (List UInt8)) (c : List UInt8) (h : cSz l + (c.length + 1) ≤ 122) :
    splice ((cDraft kind n l).set (6 + l.length) (UInt8.ofNat (128 - (cBack l).length - c.length))) (128 - (cBack l).length - c.length) c = cDraft kind n (l ++ [c]) := by
  have hb := cBack_len l
  have e1 : 122 - cSz l = 1 + ((122 - cSz (l ++ [c])) + c.length) := by rw [cSz_app]; simp only [cSz]; omega
  have e0 : cDraft kind n l = ([0, 0, 0, 0, kind, UInt8.ofNat n] ++ cSlots 128 l) ++ ([0] ++ (List.replicate (122 - cSz (l ++ [c])) 0 ++ (List.replicate c.length 0 ++ cBack l))) := by
    unfold cDraft cBody
    rw [e1, repl_add 1, repl_add (122 - cSz (l ++ [c]))]
    simp only [List.append_assoc, List.cons_append, List.nil_append, List.replicate_one]
  have l0 : ([0, 0, 0, 0, kind, UInt8.ofNat n] ++ cSlots 128 l : List UInt8).length = 6 + l.length := by simp [cSlots_len]; omega
  generalize hs : UInt8.ofNat (128 - (cBack l).length - c.length) = s
  have e2 : (cDraft kind n l).set (6 + l.length) s = (([0, 0, 0, 0, kind, UInt8.ofNat n] ++ cSlots 128 l) ++ ([s] ++ List.replicate (122 - cSz (l ++ [c])) 0)) ++ (List.replicate c.length 0 ++ cBack l) := by
    rw [e0, List.set_append_right _ _ (by omega), l0, Nat.sub_self]
    simp
  have l2 : (([0, 0, 0, 0, kind, UInt8.ofNat n] ++ cSlots 128 l) ++ ([s] ++ List.replicate (122 - cSz (l ++ [c])) 0) : List UInt8).length = 128 - (cBack l).length - c.length := by
    rw [List.length_append, l0, cSz_app]
    simp only [List.length_append, List.length_replicate, List.length_cons, List.length_nil, cSz]
    omega
  rw [e2]
  unfold splice
  rw [List.take_append_of_le_length (by omega), List.take_of_length_le (by omega), ← l2, List.drop_append, List.drop_eq_nil_of_le (by omega), Nat.add_sub_cancel_left, List.nil_append,
    List.drop_append, List.drop_eq_nil_of_le (by simp), List.length_replicate, Nat.sub_self, List.drop_zero, List.nil_append]
  unfold cDraft cBody
  rw [cSlots_snoc, cBack_snoc, hs]
  simp

/-! ### Cells cut out of a page -/
def cCut (b : List UInt8) : List UInt8 → Nat → List (List UInt8)
  | [], _ => []
  | s :: ss, end_ => if s.toNat > end_ then [] else (b.drop s.toNat).take (end_ - s.toNat) :: cCut b ss s.toNat
theorem cCut_len (b : List UInt8) (ss : List UInt8) : ∀ end_, (cCut b ss end_).length ≤ ss.length := by
  induction ss with
  | nil => intro _; simp [cCut]
  | cons s ss ih =>
    intro end_
    simp only [cCut]
    split
    · simp
    · have := ih s.toNat
      simp only [List.length_cons]
      omega
def cCount (b : List UInt8) : Nat := (b[5]?.getD 0).toNat
def cKind (b : List UInt8) : UInt8 := b[4]?.getD 0
def cSlotsOf (b : List UInt8) : List UInt8 := (b.drop 6).take (cCount b)
def cCells (b : List UInt8) : List (List UInt8) := cCut b (cSlotsOf b) 128
theorem cCut_back (b : List UInt8) (l : List (List UInt8)) : ∀ end_, end_ ≤ 128 → (cBack l).length ≤ end_ → (b.drop (end_ - (cBack l).length)).take (cBack l).length = cBack l → cCut b (cSlots end_ l) end_ = l := by
  induction l with
  | nil => intro _ _ _ _; rfl
  | cons c l ih =>
    intro end_ h1 h2 h3
    rw [cBack_cons, List.length_append] at h2 h3
    have hs : (UInt8.ofNat (end_ - c.length)).toNat = end_ - c.length := by simp; omega
    have ha : (b.drop (end_ - c.length - (cBack l).length)).take (cBack l).length = cBack l := by
      have := congrArg (List.take (cBack l).length) h3
      rw [List.take_take, Nat.min_eq_left (by omega), List.take_left] at this
      rw [Nat.sub_sub, Nat.add_comm c.length]
      exact this
    have hc : (b.drop (end_ - c.length)).take c.length = c := by
      have := congrArg (List.drop (cBack l).length) h3
      rw [List.drop_left, List.drop_take, List.drop_drop] at this
      have e1 : end_ - ((cBack l).length + c.length) + (cBack l).length = end_ - c.length := by omega
      have e2 : (cBack l).length + c.length - (cBack l).length = c.length := by omega
      rw [e1, e2] at this
      exact this
    simp only [cSlots, cCut, hs]
    rw [if_neg (by omega)]
    have e3 : end_ - (end_ - c.length) = c.length := by omega
    rw [e3, hc, ih _ (by omega) (by omega) ha]
theorem tag_split (l : List UInt8) : ∃ a b c d, tagB l = [a, b, c, d] ++ l := ⟨_, _, _, _, rfl⟩
theorem cKind_page (kind : UInt8) (l : List (List UInt8)) : cKind (cPage kind l) = kind := by
  obtain ⟨a, b, c, d, h⟩ := tag_split (cBody kind l.length l)
  unfold cPage
  rw [h]
  rfl
theorem cCount_page (kind : UInt8) (l : List (List UInt8)) (h : cSz l ≤ 122) : cCount (cPage kind l) = l.length := by
  obtain ⟨a, b, c, d, hh⟩ := tag_split (cBody kind l.length l)
  have hl := cSz_len l
  unfold cPage
  rw [hh]
  show (UInt8.ofNat l.length).toNat = l.length
  simp
  omega
theorem cCells_page (kind : UInt8) (l : List (List UInt8)) (h : cSz l ≤ 122) : cCells (cPage kind l) = l := by
  have hlen := cPage_len kind l h
  have hn := cCount_page kind l h
  have hb := cBack_len l
  have hs : cSlotsOf (cPage kind l) = cSlots 128 l := by
    unfold cSlotsOf
    rw [hn]
    obtain ⟨a, b, c, d, hh⟩ := tag_split (cBody kind l.length l)
    unfold cPage
    rw [hh]
    show (cSlots 128 l ++ _).take l.length = _
    rw [List.take_append_of_le_length (by rw [cSlots_len]; omega), List.take_of_length_le (by rw [cSlots_len]; omega)]
  unfold cCells
  rw [hs]
  refine cCut_back _ l 128 (by omega) (by omega) ?_
  have hd : (cPage kind l).drop (128 - (cBack l).length) = cBack l := by
    obtain ⟨a, b, c, d, hh⟩ := tag_split (cBody kind l.length l)
    have e : cPage kind l = ([a, b, c, d, kind, UInt8.ofNat l.length] ++ cSlots 128 l ++ List.replicate (122 - cSz l) 0) ++ cBack l := by
      unfold cPage
      rw [hh]
      simp [cBody]
    have e2 : 128 - (cBack l).length = ([a, b, c, d, kind, UInt8.ofNat l.length] ++ cSlots 128 l ++ List.replicate (122 - cSz l) 0 : List UInt8).length := by
      have := congrArg List.length e
      rw [List.length_append, hlen] at this
      omega
    rw [e2, e, List.drop_left]
  rw [hd, List.take_of_length_le (Nat.le_refl _)]
/-- Is it a page? -/
def cForm (b : List UInt8) : Prop := cFits (cKind b) (cCells b) ∧ cPage (cKind b) (cCells b) = b
instance (b : List UInt8) : Decidable (cForm b) := by unfold cForm; infer_instance
theorem cForm_page {kind : UInt8} {l : List (List UInt8)} (h : cFits kind l) : cForm (cPage kind l) := by
  unfold cForm
  rw [cKind_page, cCells_page _ _ h.2]
  exact ⟨h, rfl⟩
theorem cForm_count {b : List UInt8} (h : cForm b) : (cCells b).length = cCount b := by
  have h1 := cCount_page (cKind b) (cCells b) h.1.2
  rw [h.2] at h1
  exact h1.symm
theorem cPage_inj {k k' : UInt8} {l l' : List (List UInt8)} (h : cSz l ≤ 122) (h' : cSz l' ≤ 122) : cPage k l = cPage k' l' ↔ k = k' ∧ l = l' := by
  constructor
  · intro e
    have e1 := congrArg cKind e
    have e2 := congrArg cCells e
    rw [cKind_page, cKind_page] at e1
    rw [cCells_page _ _ h, cCells_page _ _ h'] at e2
    exact ⟨e1, e2⟩
  · rintro ⟨rfl, rfl⟩; rfl
theorem isTag_page (kind : UInt8) (l : List (List UInt8)) : isTag (cPage kind l) := isTag_tag _
instance (l : List UInt8) : Decidable (isTag l) := by unfold isTag; infer_instance
/-- What Unpack answers: the kind, the cells, the error. -/
def unpN (b : List UInt8) : UInt8 × List (List UInt8) × Int :=
  if b.length ≠ 128 then (0, [], 1) else if ¬ isTag b then (0, [], 12) else if ¬ cForm b then (0, [], 11) else (cKind b, cCells b, 0)
theorem unpN_no {b : List UInt8} (h : b.length = 128) (ht : isTag b) (hn : ¬ cForm b) : unpN b = (0, [], 11) := by
  unfold unpN
  rw [if_neg (by rw [h]; simp), if_neg (by simpa using ht), if_pos hn]
theorem unpN_yes {b : List UInt8} (h : b.length = 128) (ht : isTag b) (hn : cForm b) : unpN b = (cKind b, cCells b, 0) := by
  unfold unpN
  rw [if_neg (by rw [h]; simp), if_neg (by simpa using ht), if_neg (by simpa using hn)]
theorem unpN_page {kind : UInt8} {l : List (List UInt8)} (h : cFits kind l) : unpN (cPage kind l) = (kind, l, 0) := by
  unfold unpN
  rw [if_neg (by rw [cPage_len _ _ h.2]; simp), if_neg (by simpa using isTag_page kind l), if_neg (by simpa using cForm_page h), cKind_page, cCells_page _ _ h.2]

/-! ### A bit that is turned -/
theorem turned (l : List UInt8) (at_ : Nat) (h : at_ < l.length) (ht : isTag l) : ¬ isTag (l.set at_ (l[at_] ^^^ 1)) := by
  intro hh
  have hx : ∀ x : UInt8, x ^^^ 1 ≠ x := by
    intro x e
    have h2 : x ^^^ (x ^^^ 1) = x ^^^ x := by rw [e]
    rw [← UInt8.xor_assoc, UInt8.xor_self, UInt8.zero_xor] at h2
    exact absurd h2 (by decide)
  have e1 := ht.2
  have e2 := hh.2
  have l4 := ht.1
  have lb := onN_lt 0 (l.drop 4)
  unfold tagB at e1 e2
  by_cases h4 : at_ < 4
  · rw [List.drop_set, if_pos h4] at e2
    have e3 := e1.symm.trans (congrArg (numB (ofN (l.drop 4)) 4 ++ ·) rfl)
    rw [e1] at e2
    have e4 : l[at_]? = (l.set at_ (l[at_] ^^^ 1))[at_]? := by rw [← e2]
    rw [List.getElem?_set_self h, List.getElem?_eq_getElem h] at e4
    injection e4 with e4
    exact hx _ e4.symm
  · rw [List.drop_set, if_neg h4] at e2
    have t1 : numB (ofN (l.drop 4)) 4 = l.take 4 := by
      have := congrArg (List.take 4) e1
      rwa [List.take_append_of_le_length (by rw [numB_len]; omega), List.take_of_length_le (by rw [numB_len]; omega)] at this
    have t2 : numB (ofN ((l.drop 4).set (at_ - 4) (l[at_] ^^^ 1))) 4 = l.take 4 := by
      have := congrArg (List.take 4) e2
      rwa [List.take_append_of_le_length (by rw [numB_len]; omega), List.take_of_length_le (by rw [numB_len]; omega), List.take_set_of_le (by omega)] at this
    have e5 := t2.trans t1.symm
    have e6 := congrArg numOf e5
    rw [numOf_four _ (ofN_lt _), numOf_four _ (ofN_lt _)] at e6
    have hj : at_ - 4 < (l.drop 4).length := by simp; omega
    have hg : (l.drop 4)[at_ - 4] = l[at_] := by
      rw [List.getElem_drop]
      congr 1
      omega
    have hd := dg_xor (l.drop 4) (at_ - 4) 1 hj
    rw [hg] at hd
    refine burst (l.drop 4) _ (8 * (at_ - 4)) 1 (by simp) ?_ (by omega) (by decide) (by decide) e6
    rw [hd]
    congr 1
    have : (256 : Nat) = 2 ^ 8 := by decide
    rw [this, ← Nat.pow_mul, Nat.mul_one]
    simp

end Go.Proofs.YtlehajpadiiicaaDoor
