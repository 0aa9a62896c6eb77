import Derived.Test.YthcjledpjlpfaaaDoorJ01
import Derived.Lib.SlBytesConst
import Derived.Laws.CopyOwn
import Derived.Test.YthcjledpjlpfaaaDoorJ00
/- Of a claim's texts, joined: Crca Cem Chm Flm. No statement but in the last. -/
section
namespace Go.Proofs.YthcjledpjlpfaaaDoor
open Go.RowKit
set_option linter.unusedVariables false

theorem isTag_tag (l : List UInt8) : isTag (tagB l) := by
  have e : (tagB l).drop 4 = l := by
    unfold tagB
    have := List.drop_left (l₁ := numB (ofN l) 4) (l₂ := l)
    rwa [numB_len] at this
  exact ⟨by rw [tagB_len]; omega, by rw [e]⟩
def TagEnd (w : World) (l : List UInt8) (e : Ending) (w' : World) : Prop := ∃ A c, e = .returned (.tuple #[.slice A l.length c, .bool true]) ∧ Row w' 5 w.heap.size A (l.map byteV) ∧ Below w.heap.size w w'
theorem open_no (l : List UInt8) (w : World) (A : Option Addr) (n c : Nat) (htab : Tab w) (hn : n = l.length) (hc : n ≤ c) (hl : l.length ≤ 1000000) (ht : ¬ isTag l) (h : Reads w A (l.map byteV)) :
    Calls Tryd.prog 64 #[.slice A n c] w fun e w' => e = .returned (.tuple #[.slice none 0 0, .bool false]) ∧ Below w.heap.size w w' :=
  (cOpen_any A n c l w htab hn hc hl h).mono fun e w' hh => by
    rcases hh with ⟨hn, _⟩ | ⟨_, he, hb⟩
    · exact absurd hn ht
    · exact ⟨he, hb⟩

end Go.Proofs.YthcjledpjlpfaaaDoor
end

section
namespace Go.Proofs.YthcjledpjlpfaaaDoor
open Go.RowKit
set_option linter.unusedVariables false

def cSz : List (List UInt8) → Nat
  | [] => 0
  | c :: l => c.length + 1 + cSz l
theorem cSz_app (a b : List (List UInt8)) : cSz (a ++ b) = cSz a + cSz b := by
  induction a with
  | nil => simp [cSz]
  | cons c a ih => simp only [List.cons_append, cSz, ih]; omega
theorem cSz_len (l : List (List UInt8)) : l.length ≤ cSz l := by
  induction l with
  | nil => simp
  | cons c l ih => simp only [List.length_cons, cSz]; omega
theorem cSz_more {l : List (List UInt8)} {k : Nat} {c : List UInt8} (h : l[k]? = some c) : cSz (l.take (k + 1)) = cSz (l.take k) + (c.length + 1) := by
  obtain ⟨hk, hc⟩ := List.getElem?_eq_some_iff.1 h
  rw [List.take_succ_eq_append_getElem hk, hc, cSz_app]
  simp [cSz]
theorem cSz_take (l : List (List UInt8)) (k : Nat) : cSz (l.take k) ≤ cSz l := by
  have h := cSz_app (l.take k) (l.drop k)
  rw [List.take_append_drop] at h
  omega
theorem cSz_few (l : List (List UInt8)) (n m : Nat) (hn : l.length ≤ n) (hm : ∀ c ∈ l, c.length ≤ m) : cSz l ≤ n * (m + 1) := by
  have h : cSz l ≤ l.length * (m + 1) := by
    clear hn
    induction l with
    | nil => simp [cSz]
    | cons c l ih =>
      have h1 := hm c (List.mem_cons_self ..)
      have h2 := ih fun d hd => hm d (List.mem_cons_of_mem _ hd)
      simp only [List.length_cons, cSz, Nat.add_mul, Nat.one_mul] at *
      omega
  exact Nat.le_trans h (Nat.mul_le_mul_right _ hn)
def cBack (l : List (List UInt8)) : List UInt8 := l.reverse.flatten
theorem cBack_snoc (l : List (List UInt8)) (c : List UInt8) : cBack (l ++ [c]) = c ++ cBack l := by simp [cBack]
theorem cBack_cons (l : List (List UInt8)) (c : List UInt8) : cBack (c :: l) = cBack l ++ c := by simp [cBack]
theorem cBack_len (l : List (List UInt8)) : (cBack l).length + l.length = cSz l := by
  induction l with
  | nil => rfl
  | cons c l ih =>
    rw [cBack_cons, List.length_append, List.length_cons, cSz]
    omega
def cSlots (at_ : Nat) : List (List UInt8) → List UInt8
  | [] => []
  | c :: l => UInt8.ofNat (at_ - c.length) :: cSlots (at_ - c.length) l
theorem cSlots_len (l : List (List UInt8)) : ∀ at_, (cSlots at_ l).length = l.length := by
  induction l with
  | nil => intro _; rfl
  | cons c l ih => intro at_; simp [cSlots, ih]
theorem cSlots_snoc (l : List (List UInt8)) (c : List UInt8) : ∀ at_, cSlots at_ (l ++ [c]) = cSlots at_ l ++ [UInt8.ofNat (at_ - (cBack l).length - c.length)] := by
  induction l with
  | nil => intro at_; simp [cSlots, cBack]
  | cons d l ih =>
    intro at_
    simp only [List.cons_append, cSlots, ih, cBack_cons, List.length_append]
    congr 4
    omega
def cBody (kind : UInt8) (n : Nat) (l : List (List UInt8)) : List UInt8 := kind :: UInt8.ofNat n :: (cSlots 128 l ++ (List.replicate (122 - cSz l) 0 ++ cBack l))
theorem cBody_len (kind : UInt8) (n : Nat) (l : List (List UInt8)) (h : cSz l ≤ 122) : (cBody kind n l).length = 124 := by
  have := cBack_len l
  have := cSz_len l
  simp only [cBody, List.length_cons, List.length_append, List.length_replicate, cSlots_len]
  omega
def cPage (kind : UInt8) (l : List (List UInt8)) : List UInt8 := tagB (cBody kind l.length l)
theorem cPage_len (kind : UInt8) (l : List (List UInt8)) (h : cSz l ≤ 122) : (cPage kind l).length = 128 := by
  rw [cPage, tagB_len, cBody_len _ _ _ h]
def cFits (kind : UInt8) (l : List (List UInt8)) : Prop := kind ≠ 0 ∧ cSz l ≤ 122
instance (kind : UInt8) (l : List (List UInt8)) : Decidable (cFits kind l) := by unfold cFits; infer_instance

/-! ### The page while it is assembled -/
def cDraft (kind : UInt8) (n : Nat) (l : List (List UInt8)) : List UInt8 := [0, 0, 0, 0] ++ cBody kind n l
theorem cDraft_len (kind : UInt8) (n : Nat) (l : List (List UInt8)) (h : cSz l ≤ 122) : (cDraft kind n l).length = 128 := by
  rw [cDraft, List.length_append, cBody_len _ _ _ h]
  rfl
theorem cDraft_nil (kind : UInt8) (n : Nat) : cDraft kind n [] = [0, 0, 0, 0, kind, UInt8.ofNat n] ++ List.replicate 122 0 := by simp [cDraft, cBody, cSlots, cBack, cSz]
theorem cDraft_drop (kind : UInt8) (n : Nat) (l : List (List UInt8)) : (cDraft kind n l).drop 4 = cBody kind n l := rfl
theorem repl_add (a b : Nat) : List.replicate (a + b) (0 : UInt8) = List.replicate a 0 ++ List.replicate b 0 := by simp
theorem cDraft_step (kind : UInt8) (n : Nat) (l : List (List UInt8)) (c : List UInt8) (h : cSz l + (c.length + 1) ≤ 122) :
    splice ((cDraft kind n l).set (6 + l.length) (UInt8.ofNat (128 - (cBack l).length - c.length))) (128 - (cBack l).length - c.length) c = cDraft kind n (l ++ [c]) := by
  have hb := cBack_len l
  have e1 : 122 - cSz l = 1 + ((122 - cSz (l ++ [c])) + c.length) := by rw [cSz_app]; simp only [cSz]; omega
  have e0 : cDraft kind n l = ([0, 0, 0, 0, kind, UInt8.ofNat n] ++ cSlots 128 l) ++ ([0] ++ (List.replicate (122 - cSz (l ++ [c])) 0 ++ (List.replicate c.length 0 ++ cBack l))) := by
    unfold cDraft cBody
    rw [e1, repl_add 1, repl_add (122 - cSz (l ++ [c]))]
    simp only [List.append_assoc, List.cons_append, List.nil_append, List.replicate_one]
  have l0 : ([0, 0, 0, 0, kind, UInt8.ofNat n] ++ cSlots 128 l : List UInt8).length = 6 + l.length := by simp [cSlots_len]; omega
  generalize hs : UInt8.ofNat (128 - (cBack l).length - c.length) = s
  have e2 : (cDraft kind n l).set (6 + l.length) s = (([0, 0, 0, 0, kind, UInt8.ofNat n] ++ cSlots 128 l) ++ ([s] ++ List.replicate (122 - cSz (l ++ [c])) 0)) ++ (List.replicate c.length 0 ++ cBack l) := by
    rw [e0, List.set_append_right _ _ (by omega), l0, Nat.sub_self]
    simp
  have l2 : (([0, 0, 0, 0, kind, UInt8.ofNat n] ++ cSlots 128 l) ++ ([s] ++ List.replicate (122 - cSz (l ++ [c])) 0) : List UInt8).length = 128 - (cBack l).length - c.length := by
    rw [List.length_append, l0, cSz_app]
    simp only [List.length_append, List.length_replicate, List.length_cons, List.length_nil, cSz]
    omega
  rw [e2]
  unfold splice
  rw [List.take_append_of_le_length (by omega), List.take_of_length_le (by omega), ← l2, List.drop_append, List.drop_eq_nil_of_le (by omega), Nat.add_sub_cancel_left, List.nil_append,
    List.drop_append, List.drop_eq_nil_of_le (by simp), List.length_replicate, Nat.sub_self, List.drop_zero, List.nil_append]
  unfold cDraft cBody
  rw [cSlots_snoc, cBack_snoc, hs]
  simp

/-! ### Cells cut out of a page -/
def cCut (b : List UInt8) : List UInt8 → Nat → List (List UInt8)
  | [], _ => []
  | s :: ss, end_ => if s.toNat > end_ then [] else (b.drop s.toNat).take (end_ - s.toNat) :: cCut b ss s.toNat
theorem cCut_len (b : List UInt8) (ss : List UInt8) : ∀ end_, (cCut b ss end_).length ≤ ss.length := by
  induction ss with
  | nil => intro _; simp [cCut]
  | cons s ss ih =>
    intro end_
    simp only [cCut]
    split
    · simp
    · have := ih s.toNat
      simp only [List.length_cons]
      omega
def cCount (b : List UInt8) : Nat := (b[5]?.getD 0).toNat
def cKind (b : List UInt8) : UInt8 := b[4]?.getD 0
def cSlotsOf (b : List UInt8) : List UInt8 := (b.drop 6).take (cCount b)
def cCells (b : List UInt8) : List (List UInt8) := cCut b (cSlotsOf b) 128
theorem cCut_back (b : List UInt8) (l : List (List UInt8)) : ∀ end_, end_ ≤ 128 → (cBack l).length ≤ end_ → (b.drop (end_ - (cBack l).length)).take (cBack l).length = cBack l → cCut b (cSlots end_ l) end_ = l := by
  induction l with
  | nil => intro _ _ _ _; rfl
  | cons c l ih =>
    intro end_ h1 h2 h3
    rw [cBack_cons, List.length_append] at h2 h3
    have hs : (UInt8.ofNat (end_ - c.length)).toNat = end_ - c.length := by simp; omega
    have ha : (b.drop (end_ - c.length - (cBack l).length)).take (cBack l).length = cBack l := by
      have := congrArg (List.take (cBack l).length) h3
      rw [List.take_take, Nat.min_eq_left (by omega), List.take_left] at this
      rw [Nat.sub_sub, Nat.add_comm c.length]
      exact this
    have hc : (b.drop (end_ - c.length)).take c.length = c := by
      have := congrArg (List.drop (cBack l).length) h3
      rw [List.drop_left, List.drop_take, List.drop_drop] at this
      have e1 : end_ - ((cBack l).length + c.length) + (cBack l).length = end_ - c.length := by omega
      have e2 : (cBack l).length + c.length - (cBack l).length = c.length := by omega
      rw [e1, e2] at this
      exact this
    simp only [cSlots, cCut, hs]
    rw [if_neg (by omega)]
    have e3 : end_ - (end_ - c.length) = c.length := by omega
    rw [e3, hc, ih _ (by omega) (by omega) ha]
theorem tag_split (l : List UInt8) : ∃ a b c d, tagB l = [a, b, c, d] ++ l := ⟨_, _, _, _, rfl⟩
theorem cKind_page (kind : UInt8) (l : List (List UInt8)) : cKind (cPage kind l) = kind := by
  obtain ⟨a, b, c, d, h⟩ := tag_split (cBody kind l.length l)
  unfold cPage
  rw [h]
  rfl
theorem cCount_page (kind : UInt8) (l : List (List UInt8)) (h : cSz l ≤ 122) : cCount (cPage kind l) = l.length := by
  obtain ⟨a, b, c, d, hh⟩ := tag_split (cBody kind l.length l)
  have hl := cSz_len l
  unfold cPage
  rw [hh]
  show (UInt8.ofNat l.length).toNat = l.length
  simp
  omega
theorem cCells_page (kind : UInt8) (l : List (List UInt8)) (h : cSz l ≤ 122) : cCells (cPage kind l) = l := by
  have hlen := cPage_len kind l h
  have hn := cCount_page kind l h
  have hb := cBack_len l
  have hs : cSlotsOf (cPage kind l) = cSlots 128 l := by
    unfold cSlotsOf
    rw [hn]
    obtain ⟨a, b, c, d, hh⟩ := tag_split (cBody kind l.length l)
    unfold cPage
    rw [hh]
    show (cSlots 128 l ++ _).take l.length = _
    rw [List.take_append_of_le_length (by rw [cSlots_len]; omega), List.take_of_length_le (by rw [cSlots_len]; omega)]
  unfold cCells
  rw [hs]
  refine cCut_back _ l 128 (by omega) (by omega) ?_
  have hd : (cPage kind l).drop (128 - (cBack l).length) = cBack l := by
    obtain ⟨a, b, c, d, hh⟩ := tag_split (cBody kind l.length l)
    have e : cPage kind l = ([a, b, c, d, kind, UInt8.ofNat l.length] ++ cSlots 128 l ++ List.replicate (122 - cSz l) 0) ++ cBack l := by
      unfold cPage
      rw [hh]
      simp [cBody]
    have e2 : 128 - (cBack l).length = ([a, b, c, d, kind, UInt8.ofNat l.length] ++ cSlots 128 l ++ List.replicate (122 - cSz l) 0 : List UInt8).length := by
      have := congrArg List.length e
      rw [List.length_append, hlen] at this
      omega
    rw [e2, e, List.drop_left]
  rw [hd, List.take_of_length_le (Nat.le_refl _)]
def cForm (b : List UInt8) : Prop := cFits (cKind b) (cCells b) ∧ cPage (cKind b) (cCells b) = b
instance (b : List UInt8) : Decidable (cForm b) := by unfold cForm; infer_instance
theorem cForm_page {kind : UInt8} {l : List (List UInt8)} (h : cFits kind l) : cForm (cPage kind l) := by
  unfold cForm
  rw [cKind_page, cCells_page _ _ h.2]
  exact ⟨h, rfl⟩
theorem cForm_count {b : List UInt8} (h : cForm b) : (cCells b).length = cCount b := by
  have h1 := cCount_page (cKind b) (cCells b) h.1.2
  rw [h.2] at h1
  exact h1.symm
theorem isTag_page (kind : UInt8) (l : List (List UInt8)) : isTag (cPage kind l) := isTag_tag _
instance (l : List UInt8) : Decidable (isTag l) := by unfold isTag; infer_instance
def unpN (b : List UInt8) : UInt8 × List (List UInt8) × Int :=
  if b.length ≠ 128 then (0, [], 1) else if ¬ isTag b then (0, [], 12) else if ¬ cForm b then (0, [], 11) else (cKind b, cCells b, 0)
theorem unpN_no {b : List UInt8} (h : b.length = 128) (ht : isTag b) (hn : ¬ cForm b) : unpN b = (0, [], 11) := by
  unfold unpN
  rw [if_neg (by rw [h]; simp), if_neg (by simpa using ht), if_pos hn]
theorem unpN_yes {b : List UInt8} (h : b.length = 128) (ht : isTag b) (hn : cForm b) : unpN b = (cKind b, cCells b, 0) := by
  unfold unpN
  rw [if_neg (by rw [h]; simp), if_neg (by simpa using ht), if_neg (by simpa using hn)]
theorem unpN_page {kind : UInt8} {l : List (List UInt8)} (h : cFits kind l) : unpN (cPage kind l) = (kind, l, 0) := by
  unfold unpN
  rw [if_neg (by rw [cPage_len _ _ h.2]; simp), if_neg (by simpa using isTag_page kind l), if_neg (by simpa using cForm_page h), cKind_page, cCells_page _ _ h.2]

/-! ### A bit that is turned -/
theorem turned (l : List UInt8) (at_ : Nat) (h : at_ < l.length) (ht : isTag l) : ¬ isTag (l.set at_ (l[at_] ^^^ 1)) := by
  intro hh
  have hx : ∀ x : UInt8, x ^^^ 1 ≠ x := by
    intro x e
    have h2 : x ^^^ (x ^^^ 1) = x ^^^ x := by rw [e]
    rw [← UInt8.xor_assoc, UInt8.xor_self, UInt8.zero_xor] at h2
    exact absurd h2 (by decide)
  have e1 := ht.2
  have e2 := hh.2
  have l4 := ht.1
  have lb := onN_lt 0 (l.drop 4)
  unfold tagB at e1 e2
  by_cases h4 : at_ < 4
  · rw [List.drop_set, if_pos h4] at e2
    have e3 := e1.symm.trans (congrArg (numB (ofN (l.drop 4)) 4 ++ ·) rfl)
    rw [e1] at e2
    have e4 : l[at_]? = (l.set at_ (l[at_] ^^^ 1))[at_]? := by rw [← e2]
    rw [List.getElem?_set_self h, List.getElem?_eq_getElem h] at e4
    injection e4 with e4
    exact hx _ e4.symm
  · rw [List.drop_set, if_neg h4] at e2
    have t1 : numB (ofN (l.drop 4)) 4 = l.take 4 := by
      have := congrArg (List.take 4) e1
      rwa [List.take_append_of_le_length (by rw [numB_len]; omega), List.take_of_length_le (by rw [numB_len]; omega)] at this
    have t2 : numB (ofN ((l.drop 4).set (at_ - 4) (l[at_] ^^^ 1))) 4 = l.take 4 := by
      have := congrArg (List.take 4) e2
      rwa [List.take_append_of_le_length (by rw [numB_len]; omega), List.take_of_length_le (by rw [numB_len]; omega), List.take_set_of_le (by omega)] at this
    have e5 := t2.trans t1.symm
    have e6 := congrArg numOf e5
    rw [numOf_four _ (ofN_lt _), numOf_four _ (ofN_lt _)] at e6
    have hj : at_ - 4 < (l.drop 4).length := by simp; omega
    have hg : (l.drop 4)[at_ - 4] = l[at_] := by
      rw [List.getElem_drop]
      congr 1
      omega
    have hd := dg_xor (l.drop 4) (at_ - 4) 1 hj
    rw [hg] at hd
    refine burst (l.drop 4) _ (8 * (at_ - 4)) 1 (by simp) ?_ (by omega) (by decide) (by decide) e6
    rw [hd]
    congr 1
    have : (256 : Nat) = 2 ^ 8 := by decide
    rw [this, ← Nat.pow_mul, Nat.mul_one]
    simp

end Go.Proofs.YthcjledpjlpfaaaDoor
end

section
namespace Go.Proofs.YthcjledpjlpfaaaDoor
open Go.RowKit
set_option linter.unusedVariables false

def lgB (z : Int) : Bool := decide (16 < z) && decide (z ≤ 400)
def needN (z : Int) : Nat := if 16 < z ∧ z ≤ 400 then (z.toNat + 118) / 119 else 0
def partZ (z k : Nat) : Nat := min (z - 119 * k) 119
def partL (s : List UInt8) (k : Nat) : List UInt8 := (s.drop (119 * k)).take 119
theorem partL_len (s : List UInt8) (k : Nat) : (partL s k).length = partZ s.length k := by
  unfold partL partZ
  rw [List.length_take, List.length_drop, Nat.min_comm]
def pgOk (x : Int) : Bool := decide (2 ≤ x) && decide (x ≤ 999)
def okP (l : List Int) : Prop := ∀ k, k < l.length → pgOk (l.getD k 0) = true ∧ l.getD k 0 ∉ l.take k
instance (l : List Int) : Decidable (okP l) := by unfold okP; infer_instance
def cellN (s : List UInt8) (l : List Int) (k : Nat) : List UInt8 := numB (l.getD (k + 1) 0).toNat 2 ++ partL s k
def pageN (s : List UInt8) (l : List Int) (k : Nat) : List UInt8 := cPage 3 [cellN s l k]
def goodP (s : List UInt8) (l : List Int) : Prop := lgB s.length = true ∧ l.length = needN s.length ∧ okP l
instance (s : List UInt8) (l : List Int) : Decidable (goodP s l) := by unfold goodP; infer_instance
def pagesN (s : List UInt8) (l : List Int) : List (List UInt8) := (List.range l.length).map (pageN s l)
def putN (s : List UInt8) (l : List Int) : List (List UInt8) × Int := if goodP s l then (pagesN s l, 0) else ([], 1)

def badNext (f : Nat) (x : Int) (l : List Int) : Prop := (f = 0 ∧ x ≠ 0) ∨ (f ≠ 0 ∧ (pgOk x = false ∨ x ∈ l))
instance (f : Nat) (x : Int) (l : List Int) : Decidable (badNext f x l) := by unfold badNext; infer_instance
def nextN (b : List UInt8) : Int := ((numOf (((unpN b).2.1.headD []).take 2) : Nat) : Int)
def restN (b : List UInt8) : List UInt8 := ((unpN b).2.1.headD []).drop 2
def badForm (z i : Nat) (b : List UInt8) : Prop := (unpN b).1 ≠ 3 ∨ (unpN b).2.1.length ≠ 1 ∨ ((unpN b).2.1.headD []).length ≠ 2 + partZ z i
instance (z i : Nat) (b : List UInt8) : Decidable (badForm z i b) := by unfold badForm; infer_instance
def getF (rd : Int → List UInt8 × Int) (z : Nat) : Nat → Nat → Int → List UInt8 → List Int → List UInt8 × List Int × Int
  | 0, _, _, s, l => (s, l, 0)
  | f + 1, i, p, s, l =>
    if (rd p).2 ≠ 0 then ([], [], (rd p).2)
    else if (unpN (rd p).1).2.2 ≠ 0 then ([], [], (unpN (rd p).1).2.2)
    else if badForm z i (rd p).1 then ([], [], 11)
    else if badNext f (nextN (rd p).1) (l ++ [p]) then ([], [], 11)
    else getF rd z f (i + 1) (nextN (rd p).1) (s ++ restN (rd p).1) (l ++ [p])
def getC (rd : Int → List UInt8 × Int) (z : Int) (p : Int) : List UInt8 × List Int × Int := if needN z = 0 then ([], [], 1) else getF rd z.toNat (needN z) 0 p [] []
section
variable {rd : Int → List UInt8 × Int} {z f i : Nat} {p : Int} {s : List UInt8} {l : List Int} {b : List UInt8} {er : Int} {kd : UInt8} {cs : List (List UInt8)} {c : List UInt8} {R : List UInt8 × List Int × Int}
end
end Go.Proofs.YthcjledpjlpfaaaDoor
end

section
namespace Go.Proofs.YthcjledpjlpfaaaDoor
open Go.RowKit
set_option linter.unusedVariables false

def needL (z : Int) : Nat := (z.toNat + 58) / 59
def ownL (f w : Int) : Nat := max ((f.toNat + w.toNat + 59) / 60) ((w.toNat + 58) / 59)
theorem own_least (f w : Int) (k : Nat) : needL (((f.toNat - k : Nat) : Int) + (w.toNat : Int)) ≤ k ↔ ownL f w ≤ k := by
  unfold needL ownL
  omega
theorem pgOk_iff {x : Int} : pgOk x = true ↔ 2 ≤ x ∧ x ≤ 999 := by
  unfold pgOk
  simp
def folB (l : List Int) (x : Int) : Bool := pgOk x && (decide (l = []) || decide (l.getLastD 0 < x))
def okLTo (l : List Int) (k : Nat) : Prop := ∀ j, j < k → pgOk (l.getD j 0) = true ∧ (j = 0 ∨ l.getD (j - 1) 0 < l.getD j 0)
def okL (l : List Int) : Prop := okLTo l l.length
instance (l : List Int) (k : Nat) : Decidable (okLTo l k) := by unfold okLTo; infer_instance
instance (l : List Int) : Decidable (okL l) := by unfold okL; infer_instance
theorem okLTo_snoc {l : List Int} {k : Nat} (h : okLTo l k) (h1 : pgOk (l.getD k 0) = true) (h2 : k = 0 ∨ l.getD (k - 1) 0 < l.getD k 0) : okLTo l (k + 1) := fun j hj => by
  by_cases e : j = k
  · subst e; exact ⟨h1, h2⟩
  · exact h j (by omega)
theorem getD_app_left {l m : List Int} {j : Nat} (hj : j < l.length) : (l ++ m).getD j 0 = l.getD j 0 := by
  rw [List.getD_eq_getElem?_getD, List.getD_eq_getElem?_getD, List.getElem?_append_left hj]
theorem getD_at_len {l : List Int} {x : Int} : (l ++ [x]).getD l.length 0 = x := by
  rw [List.getD_eq_getElem?_getD, List.getElem?_append_right (Nat.le_refl _), Nat.sub_self]
  rfl
theorem getLastD_eq (l : List Int) : l.getLastD 0 = l.getD (l.length - 1) 0 := by
  rw [List.getD_eq_getElem?_getD, List.getLastD_eq_getLast?, List.getLast?_eq_getElem?]
theorem okL_snoc (l : List Int) (x : Int) : okL (l ++ [x]) ↔ okL l ∧ folB l x = true := by
  have hfol : folB l x = true ↔ pgOk x = true ∧ (l.length = 0 ∨ l.getD (l.length - 1) 0 < x) := by
    unfold folB
    rw [getLastD_eq]
    simp [List.length_eq_zero_iff]
  rw [hfol]
  unfold okL okLTo
  constructor
  · intro h
    refine ⟨fun j hj => ?_, ?_⟩
    · have := h j (by rw [List.length_append]; omega)
      rwa [getD_app_left hj, getD_app_left (by omega)] at this
    · have := h l.length (by rw [List.length_append]; simp)
      rw [getD_at_len] at this
      refine ⟨this.1, ?_⟩
      rcases this.2 with e | e
      · exact Or.inl e
      · by_cases h0 : l.length = 0
        · exact Or.inl h0
        · rw [getD_app_left (by omega)] at e
          exact Or.inr e
  · rintro ⟨h1, h2, h3⟩ j hj
    rw [List.length_append, List.length_singleton] at hj
    by_cases e : j = l.length
    · subst e
      rw [getD_at_len]
      refine ⟨h2, ?_⟩
      by_cases h0 : l.length = 0
      · exact Or.inl h0
      · rw [getD_app_left (by omega)]
        rcases h3 with h3 | h3
        · exact absurd h3 h0
        · exact Or.inr h3
    · have := h1 j (by omega)
      rw [getD_app_left (by omega), getD_app_left (by omega)]
      exact this
theorem okL_app_left {l m : List Int} (h : okL (l ++ m)) : okL l := fun j hj => by
  have := h j (by rw [List.length_append]; omega)
  rwa [getD_app_left hj, getD_app_left (by omega)] at this
theorem okL_mem {l : List Int} (h : okL l) {x : Int} (hx : x ∈ l) : 2 ≤ x ∧ x ≤ 999 := by
  obtain ⟨j, hj, rfl⟩ := List.mem_iff_getElem.1 hx
  have := (h j hj).1
  rw [List.getD_eq_getElem?_getD, List.getElem?_eq_getElem hj] at this
  exact pgOk_iff.1 this
theorem okL_take {l : List Int} (h : okL l) (k : Nat) : okL (l.take k) := by
  rw [← List.take_append_drop k l] at h
  exact okL_app_left h

def okATo (l a : List Int) (k : Nat) : Prop := ∀ j, j < k → pgOk (a.getD j 0) = true ∧ a.getD j 0 ∉ l ++ a.take j
def okA (l a : List Int) : Prop := okATo l a a.length
instance (l a : List Int) (k : Nat) : Decidable (okATo l a k) := by unfold okATo; infer_instance
instance (l a : List Int) : Decidable (okA l a) := by unfold okA; infer_instance
theorem okATo_snoc {l a : List Int} {k : Nat} (h : okATo l a k) (h1 : pgOk (a.getD k 0) = true) (h2 : a.getD k 0 ∉ l ++ a.take k) : okATo l a (k + 1) := fun j hj => by
  by_cases e : j = k
  · subst e; exact ⟨h1, h2⟩
  · exact h j (by omega)
theorem okA_pg {l a : List Int} (h : okA l a) {k : Nat} {x : Int} (hk : a[k]? = some x) : 2 ≤ x ∧ x ≤ 999 := by
  have hkl := (List.getElem?_eq_some_iff.1 hk).1
  have := (h k hkl).1
  rw [List.getD_eq_getElem?_getD, hk, Option.getD_some] at this
  exact pgOk_iff.1 this
theorem okA_ne {l a : List Int} (h : okA l a) {j k : Nat} {x y : Int} (hj : a[j]? = some x) (hk : a[k]? = some y) (hjk : j < k) : x ≠ y := by
  have hkl := (List.getElem?_eq_some_iff.1 hk).1
  have := (h k hkl).2
  rw [List.getD_eq_getElem?_getD, hk, Option.getD_some, List.mem_append, not_or] at this
  rintro rfl
  exact this.2 (List.mem_iff_getElem?.2 ⟨j, by rw [List.getElem?_take, if_pos hjk]; exact hj⟩)
theorem okA_next {l a : List Int} (h : okA l a) (k : Nat) : ∃ y : Nat, a.getD (k + 1) 0 = (y : Int) ∧ y ≤ 999 := by
  by_cases hk : k + 1 < a.length
  · have := okA_pg h (k := k + 1) (x := a.getD (k + 1) 0) (by rw [List.getD_eq_getElem?_getD, List.getElem?_eq_getElem hk]; rfl)
    exact ⟨(a.getD (k + 1) 0).toNat, by omega, by omega⟩
  · rw [List.getD_eq_getElem?_getD, List.getElem?_eq_none (by omega)]
    exact ⟨0, rfl, by omega⟩

def numsB (l : List Int) : List UInt8 := l.flatMap fun x => numB x.toNat 2
theorem numsB_nil : numsB [] = [] := rfl
theorem numsB_cons (x : Int) (l : List Int) : numsB (x :: l) = numB x.toNat 2 ++ numsB l := by simp [numsB]
theorem numsB_snoc (l : List Int) (x : Int) : numsB (l ++ [x]) = numsB l ++ numB x.toNat 2 := by simp [numsB]
theorem numsB_len : ∀ l : List Int, (numsB l).length = 2 * l.length
  | [] => rfl
  | x :: l => by rw [numsB_cons, List.length_append, numB_len, numsB_len l, List.length_cons]; omega
def numsL : List UInt8 → List Int
  | a :: b :: t => ((numOf [a, b] : Nat) : Int) :: numsL t
  | _ => []
theorem numsL_len : ∀ (n : Nat) (b : List UInt8), b.length = 2 * n → (numsL b).length = n
  | 0, [], _ => rfl
  | n + 1, x :: y :: t, h => by
    rw [numsL, List.length_cons, numsL_len n t (by simp only [List.length_cons] at h; omega)]
  | 0, _ :: _, h => by simp at h
  | n + 1, [], h => by simp at h
  | n + 1, [x], h => by simp at h; omega
theorem numsL_snoc : ∀ (n : Nat) (b c : List UInt8), b.length = 2 * n → c.length = 2 → numsL (b ++ c) = numsL b ++ [((numOf c : Nat) : Int)]
  | 0, [], c, _, hc => by
    obtain ⟨x, y, rfl⟩ : ∃ x y, c = [x, y] := by
      rcases c with _ | ⟨x, _ | ⟨y, _ | ⟨z, r⟩⟩⟩
      · cases hc
      · cases hc
      · exact ⟨x, y, rfl⟩
      · simp at hc
    rfl
  | n + 1, x :: y :: t, c, h, hc => by
    show numsL (x :: y :: (t ++ c)) = _
    rw [numsL, numsL, numsL_snoc n t c (by simp only [List.length_cons] at h; omega) hc]
    rfl
  | 0, _ :: _, _, h, _ => by simp at h
  | n + 1, [], _, h, _ => by simp at h
  | n + 1, [x], _, h, _ => by simp at h; omega
theorem numOf_two {y : Nat} (h : y < 65536) : numOf (numB y 2) = y := by
  simp only [numB, numOf, List.range, List.range.loop, List.map_cons, List.map_nil, List.foldl_cons, List.foldl_nil, UInt8.toNat_ofNat']
  omega
theorem numsL_B {l : List Int} (h : ∀ x ∈ l, 0 ≤ x ∧ x < 65536) : numsL (numsB l) = l := by
  induction l with
  | nil => rfl
  | cons x t ih =>
    have hx := h x (by simp)
    have h2 := numOf_two (y := x.toNat) (by omega)
    have hl := numB_len x.toNat 2
    rw [numsB_cons]
    obtain ⟨a, b, e⟩ : ∃ a b, numB x.toNat 2 = [a, b] := by
      generalize numB x.toNat 2 = q at hl
      rcases q with _ | ⟨x, _ | ⟨y, _ | ⟨z, r⟩⟩⟩
      · cases hl
      · cases hl
      · exact ⟨x, y, rfl⟩
      · simp at hl
    rw [e] at h2
    rw [e, List.cons_append, List.cons_append, List.nil_append, numsL, h2, ih (fun y hy => h y (by simp [hy]))]
    congr 1
    omega
def partI (l : List Int) (k : Nat) : List Int := (l.drop (59 * k)).take 59
theorem partI_len (l : List Int) (k : Nat) : (partI l k).length = min (l.length - 59 * k) 59 := by
  unfold partI
  rw [List.length_take, List.length_drop, Nat.min_comm]
theorem partI_next (l : List Int) (k : Nat) : l.take (59 * k) ++ partI l k = l.take (59 * (k + 1)) := by
  unfold partI
  rw [show 59 * (k + 1) = 59 * k + 59 by omega, List.take_add]
theorem partI_mem {l : List Int} {k : Nat} {x : Int} (h : x ∈ partI l k) : x ∈ l := List.mem_of_mem_drop (List.mem_of_mem_take h)
def cellL (l a : List Int) (k : Nat) : List UInt8 := numB (a.getD (k + 1) 0).toNat 2 ++ numsB (partI l k)
theorem cellL_len (l a : List Int) (k : Nat) : (cellL l a k).length = 2 + 2 * min (l.length - 59 * k) 59 := by
  unfold cellL
  rw [List.length_append, numB_len, numsB_len, partI_len]
theorem cellL_fits (l a : List Int) (k : Nat) : cFits 4 [cellL l a k] := by
  refine ⟨by decide, ?_⟩
  have h1 := cellL_len l a k
  simp only [cSz, h1]
  omega
def pageL (l a : List Int) (k : Nat) : List UInt8 := cPage 4 [cellL l a k]
theorem pageL_len (l a : List Int) (k : Nat) : (pageL l a k).length = 128 := cPage_len _ _ (cellL_fits l a k).2
def goodL (l a : List Int) : Prop := okL l ∧ needL l.length ≤ a.length ∧ okA l a
instance (l a : List Int) : Decidable (goodL l a) := by unfold goodL; infer_instance
def pgsL (l a : List Int) : List (List UInt8) := (List.range a.length).map (pageL l a)
def putL (l a : List Int) : List (List UInt8) × Int := if goodL l a then (pgsL l a, 0) else ([], 1)

def leftP (a : List Int) : Nat := ((List.range 1000).filter fun (x : Nat) => decide ((x : Int) ∉ a)).length
theorem filter_lt {p q : Nat → Bool} (hpq : ∀ x, q x = true → p x = true) {y : Nat} (h1 : p y = true) (h2 : q y = false) : ∀ l : List Nat, (l.filter q).length ≤ (l.filter p).length ∧ (y ∈ l → (l.filter q).length < (l.filter p).length)
  | [] => ⟨Nat.le_refl _, fun h => by cases h⟩
  | x :: t => by
    have ih := filter_lt hpq h1 h2 t
    by_cases hx : q x = true
    · rw [List.filter_cons_of_pos hx, List.filter_cons_of_pos (hpq x hx)]
      refine ⟨by simp [ih.1], fun h => ?_⟩
      rcases List.mem_cons.1 h with e | e
      · subst e
        rw [h2] at hx
        cases hx
      · simpa using ih.2 e
    · rw [List.filter_cons_of_neg hx]
      by_cases hp : p x = true
      · rw [List.filter_cons_of_pos hp, List.length_cons]
        exact ⟨by have := ih.1; omega, fun _ => by have := ih.1; omega⟩
      · rw [List.filter_cons_of_neg hp]
        refine ⟨ih.1, fun h => ?_⟩
        rcases List.mem_cons.1 h with e | e
        · subst e
          exact absurd h1 hp
        · exact ih.2 e
theorem leftP_lt {a : List Int} {p : Int} (h0 : 0 ≤ p) (h1 : p < 1000) (hp : p ∉ a) : leftP (a ++ [p]) < leftP a := by
  unfold leftP
  refine (filter_lt (y := p.toNat) (fun x hx => ?_) ?_ ?_ _).2 ?_
  · simp only [List.mem_append, not_or, decide_eq_true_eq] at hx ⊢
    exact hx.1
  · simp only [decide_eq_true_eq]
    rw [Int.toNat_of_nonneg h0]
    exact hp
  · simp only [decide_eq_false_iff_not, Decidable.not_not, List.mem_append, List.mem_singleton]
    exact Or.inr (by omega)
  · rw [List.mem_range]
    omega
theorem leftP_nil : leftP [] ≤ 1000 := by
  unfold leftP
  exact Nat.le_trans (List.length_filter_le _ _) (by simp)

def nextL (b : List UInt8) : Int := ((numOf (((unpN b).2.1.headD []).take 2) : Nat) : Int)
def restL (b : List UInt8) : List Int := numsL (((unpN b).2.1.headD []).drop 2)
def badPg (b : List UInt8) : Prop := (unpN b).1 ≠ 4 ∨ (unpN b).2.1.length ≠ 1 ∨ ((unpN b).2.1.headD []).length < 2 ∨ ((unpN b).2.1.headD []).length % 2 = 1
instance (b : List UInt8) : Decidable (badPg b) := by unfold badPg; infer_instance
def badNum (l a m : List Int) : Prop := 59 < m.length ∨ (0 < m.length ∧ l.length < 59 * a.length) ∨ ¬ okL (l ++ m)
instance (l a m : List Int) : Decidable (badNum l a m) := by unfold badNum; infer_instance
def badNx (a : List Int) (x : Int) : Prop := pgOk x = false ∨ x ∈ a
instance (a : List Int) (x : Int) : Decidable (badNx a x) := by unfold badNx; infer_instance
def getLs (rd : Int → List UInt8 × Int) : Nat → Int → List Int → List Int → List Int × List Int × Int
  | 0, _, l, a => (l, a, 0)
  | f + 1, p, l, a =>
    if (rd p).2 ≠ 0 then ([], [], (rd p).2)
    else if (unpN (rd p).1).2.2 ≠ 0 then ([], [], (unpN (rd p).1).2.2)
    else if badPg (rd p).1 then ([], [], 11)
    else if badNum l a (restL (rd p).1) then ([], [], 11)
    else if nextL (rd p).1 = 0 then (l ++ restL (rd p).1, a ++ [p], 0)
    else if badNx (a ++ [p]) (nextL (rd p).1) then ([], [], 11)
    else getLs rd f (nextL (rd p).1) (l ++ restL (rd p).1) (a ++ [p])
def getL (rd : Int → List UInt8 × Int) (p : Int) : List Int × List Int × Int := if p = 0 then ([], [], 0) else getLs rd 1001 p [] []
def gpL (b : List UInt8) (er : Int) : List Int × Int × Int := if er ≠ 0 then ([], 0, er) else if (unpN b).2.2 ≠ 0 then ([], 0, (unpN b).2.2) else if badPg b then ([], 0, 11) else (restL b, nextL b, 0)
section
variable {rd : Int → List UInt8 × Int} {f : Nat} {p : Int} {l a : List Int} {r : List Int × Int × Int}
theorem gpL_ok {b : List UInt8} {er : Int} (hr : gpL b er = r) (he : r.2.2 = 0) : er = 0 ∧ (unpN b).2.2 = 0 ∧ ¬ badPg b ∧ r = (restL b, nextL b, 0) := by
  subst hr
  unfold gpL at he ⊢
  by_cases h1 : er = 0
  · rw [if_neg (by simpa using h1)] at he ⊢
    by_cases h2 : (unpN b).2.2 = 0
    · rw [if_neg (by simpa using h2)] at he ⊢
      by_cases h3 : badPg b
      · rw [if_pos h3] at he
        cases he
      · rw [if_neg h3]
        exact ⟨h1, h2, h3, rfl⟩
    · rw [if_pos h2] at he
      exact absurd he h2
  · rw [if_pos h1] at he
    exact absurd he h1
theorem getLs_bad (hr : gpL (rd p).1 (rd p).2 = r) (he : r.2.2 ≠ 0) : getLs rd (f + 1) p l a = ([], [], r.2.2) := by
  subst hr
  unfold gpL at he ⊢
  rw [getLs]
  split
  · rfl
  · split
    · rfl
    · rename_i h1 h2
      rw [if_neg h1, if_neg h2] at he
      by_cases h3 : badPg (rd p).1
      · rw [if_pos h3, if_pos h3]
      · rw [if_neg h3] at he
        exact absurd rfl he
theorem getLs_num (hr : gpL (rd p).1 (rd p).2 = r) (he : r.2.2 = 0) (hb : badNum l a r.1) : getLs rd (f + 1) p l a = ([], [], 11) := by
  obtain ⟨h1, h2, h3, rfl⟩ := gpL_ok hr he
  rw [getLs, if_neg (by simpa using h1), if_neg (by simpa using h2), if_neg h3, if_pos hb]
theorem getLs_last (hr : gpL (rd p).1 (rd p).2 = r) (he : r.2.2 = 0) (hb : ¬ badNum l a r.1) (hn : r.2.1 = 0) : getLs rd (f + 1) p l a = (l ++ r.1, a ++ [p], 0) := by
  obtain ⟨h1, h2, h3, rfl⟩ := gpL_ok hr he
  rw [getLs, if_neg (by simpa using h1), if_neg (by simpa using h2), if_neg h3, if_neg hb, if_pos hn]
theorem getLs_next (hr : gpL (rd p).1 (rd p).2 = r) (he : r.2.2 = 0) (hn : r.2.1 ≠ 0) (hx : badNx (a ++ [p]) r.2.1) : getLs rd (f + 1) p l a = ([], [], 11) := by
  obtain ⟨h1, h2, h3, rfl⟩ := gpL_ok hr he
  rw [getLs, if_neg (by simpa using h1), if_neg (by simpa using h2), if_neg h3]
  by_cases hb : badNum l a (restL (rd p).1)
  · rw [if_pos hb]
  · rw [if_neg hb, if_neg hn, if_pos hx]
theorem getLs_go (hr : gpL (rd p).1 (rd p).2 = r) (he : r.2.2 = 0) (hb : ¬ badNum l a r.1) (hn : r.2.1 ≠ 0) (hx : ¬ badNx (a ++ [p]) r.2.1) : getLs rd (f + 1) p l a = getLs rd f r.2.1 (l ++ r.1) (a ++ [p]) := by
  obtain ⟨h1, h2, h3, rfl⟩ := gpL_ok hr he
  rw [getLs, if_neg (by simpa using h1), if_neg (by simpa using h2), if_neg h3, if_neg hb, if_neg hn, if_neg hx]
end
theorem gpL_page {l a : List Int} (hg : goodL l a) (k : Nat) : gpL (pageL l a k) 0 = (partI l k, a.getD (k + 1) 0, 0) := by
  obtain ⟨h1, h2, h3⟩ := hg
  have hu : unpN (pageL l a k) = (4, [cellL l a k], 0) := unpN_page (cellL_fits l a k)
  have hc := cellL_len l a k
  have hb : ¬ badPg (pageL l a k) := by
    unfold badPg
    rw [hu]
    simp only [List.headD_cons, hc]
    simp
  obtain ⟨y, hy, hy9⟩ := okA_next h3 k
  have hnx : nextL (pageL l a k) = a.getD (k + 1) 0 := by
    unfold nextL
    rw [hu]
    simp only [List.headD_cons]
    unfold cellL
    rw [List.take_left' (numB_len _ _), hy, Int.toNat_natCast, numOf_two (by omega)]
  have hrs : restL (pageL l a k) = partI l k := by
    unfold restL
    rw [hu]
    simp only [List.headD_cons]
    unfold cellL
    rw [List.drop_left' (numB_len _ _)]
    exact numsL_B (fun x hx => by have := okL_mem h1 (partI_mem hx); omega)
  unfold gpL
  rw [if_neg (by simp), hu, if_neg (by simp), if_neg hb, hnx, hrs]
theorem step_good {l a : List Int} (hg : goodL l a) {i : Nat} (hi : i < a.length) : ¬ badNum (l.take (59 * i)) (a.take i) (partI l i) := by
  unfold badNum
  rw [partI_next, partI_len, List.length_take, List.length_take]
  rintro (h | h | h)
  · omega
  · omega
  · exact h (okL_take hg.1 _)
theorem next_good {l a : List Int} (hg : goodL l a) {i : Nat} (hi : i + 1 < a.length) : a.getD (i + 1) 0 ≠ 0 ∧ ¬ badNx (a.take i ++ [a.getD i 0]) (a.getD (i + 1) 0) := by
  have hx : a[i]? = some (a.getD i 0) := by rw [List.getD_eq_getElem?_getD, List.getElem?_eq_getElem (by omega : i < a.length)]; rfl
  have hx1 : a[i + 1]? = some (a.getD (i + 1) 0) := by rw [List.getD_eq_getElem?_getD, List.getElem?_eq_getElem hi]; rfl
  have h6 := okA_pg hg.2.2 hx1
  have h7 := hg.2.2 (i + 1) hi
  refine ⟨by omega, ?_⟩
  unfold badNx
  rintro (hq | hq)
  · rw [h7.1] at hq; cases hq
  · refine h7.2 (List.mem_append.2 (Or.inr ?_))
    rw [List.take_add_one, hx]
    exact hq
theorem take_go {a : List Int} {i : Nat} (hi : i < a.length) : a.take i ++ [a.getD i 0] = a.take (i + 1) := by
  rw [List.take_add_one, List.getD_eq_getElem?_getD, List.getElem?_eq_getElem hi]
  rfl
theorem getD_end {a : List Int} {i : Nat} (hi : a.length ≤ i) : a.getD i 0 = 0 := by
  rw [List.getD_eq_getElem?_getD, List.getElem?_eq_none hi]
  rfl
theorem getLs_put {rd : Int → List UInt8 × Int} {l a : List Int} (hg : goodL l a) (hrd : ∀ k x, a[k]? = some x → rd x = (pageL l a k, 0)) :
    ∀ (m i f : Nat), i + m + 1 = a.length → m < f → getLs rd f (a.getD i 0) (l.take (59 * i)) (a.take i) = (l, a, 0)
  | m, i, 0, _, h => by omega
  | 0, i, f + 1, h, _ => by
    have hi : i < a.length := by omega
    have hx : a[i]? = some (a.getD i 0) := by rw [List.getD_eq_getElem?_getD, List.getElem?_eq_getElem hi]; rfl
    have hr := gpL_page hg i
    have hl := hg.2.1
    unfold needL at hl
    rw [Int.toNat_natCast] at hl
    rw [getLs_last (r := (partI l i, a.getD (i + 1) 0, 0)) (by rw [hrd i _ hx]; exact hr) rfl (step_good hg hi) (getD_end (by omega)), partI_next, take_go hi, List.take_of_length_le (by omega), List.take_of_length_le (by omega)]
  | m + 1, i, f + 1, h, hf => by
    have hi : i < a.length := by omega
    have hx : a[i]? = some (a.getD i 0) := by rw [List.getD_eq_getElem?_getD, List.getElem?_eq_getElem hi]; rfl
    have hr := gpL_page hg i
    obtain ⟨n1, n2⟩ := next_good hg (i := i) (by omega)
    rw [getLs_go (r := (partI l i, a.getD (i + 1) 0, 0)) (by rw [hrd i _ hx]; exact hr) rfl (step_good hg hi) n1 n2, partI_next, take_go hi]
    exact getLs_put hg hrd m (i + 1) f (by omega) (by omega)
theorem getL_put {rd : Int → List UInt8 × Int} {l a : List Int} (hg : goodL l a) (ha : a.length ≤ 1000) (hrd : ∀ k x, a[k]? = some x → rd x = (pageL l a k, 0)) : getL rd (a.getD 0 0) = (l, a, 0) := by
  unfold getL
  by_cases h0 : a.length = 0
  · have e : a = [] := List.length_eq_zero_iff.1 h0
    subst e
    have hl := hg.2.1
    unfold needL at hl
    simp only [List.length_nil] at hl
    have e2 : l = [] := List.length_eq_zero_iff.1 (by omega)
    subst e2
    rfl
  · have hx : a[0]? = some (a.getD 0 0) := by rw [List.getD_eq_getElem?_getD, List.getElem?_eq_getElem (by omega : 0 < a.length)]; rfl
    have := okA_pg hg.2.2 hx
    rw [if_neg (by omega)]
    simpa using getLs_put hg hrd (a.length - 1) 0 1001 (by omega) (by omega)
theorem getLs_lost {rd : Int → List UInt8 × Int} {l a : List Int} (hg : goodL l a) (q : Nat) (hq : q < a.length) (hrd : ∀ k x, k < q → a[k]? = some x → rd x = (pageL l a k, 0)) (b : List UInt8) (hb : rd (a.getD q 0) = (b, 0)) (hu : (unpN b).2.2 = 12) :
    ∀ (m i f : Nat), i + m = q → m < f → (getLs rd f (a.getD i 0) (l.take (59 * i)) (a.take i)).2.2 = 12
  | m, i, 0, _, h => by omega
  | 0, i, f + 1, h, _ => by
    obtain rfl : i = q := by omega
    rw [getLs_bad (r := ([], 0, 12)) (by rw [hb]; unfold gpL; rw [if_neg (by simp), hu, if_pos (by decide)]) (by decide)]
  | m + 1, i, f + 1, h, hf => by
    have hi : i < a.length := by omega
    have hx : a[i]? = some (a.getD i 0) := by rw [List.getD_eq_getElem?_getD, List.getElem?_eq_getElem hi]; rfl
    have hr := gpL_page hg i
    obtain ⟨n1, n2⟩ := next_good hg (i := i) (by omega)
    rw [getLs_go (r := (partI l i, a.getD (i + 1) 0, 0)) (by rw [hrd i _ (by omega) hx]; exact hr) rfl (step_good hg hi) n1 n2, partI_next, take_go hi]
    exact getLs_lost hg q hq hrd b hb hu m (i + 1) f (by omega) (by omega)
theorem getL_lost {rd : Int → List UInt8 × Int} {l a : List Int} (hg : goodL l a) (ha : a.length ≤ 1000) (q : Nat) (hq : q < a.length) (hrd : ∀ k x, k < q → a[k]? = some x → rd x = (pageL l a k, 0)) (b : List UInt8) (hb : rd (a.getD q 0) = (b, 0)) (hu : (unpN b).2.2 = 12) : (getL rd (a.getD 0 0)).2.2 = 12 := by
  unfold getL
  have hx : a[0]? = some (a.getD 0 0) := by rw [List.getD_eq_getElem?_getD, List.getElem?_eq_getElem (by omega : 0 < a.length)]; rfl
  have := okA_pg hg.2.2 hx
  rw [if_neg (by omega)]
  simpa using getLs_lost hg q hq hrd b hb hu q 0 1001 (by omega) (by omega)
end Go.Proofs.YthcjledpjlpfaaaDoor
end
