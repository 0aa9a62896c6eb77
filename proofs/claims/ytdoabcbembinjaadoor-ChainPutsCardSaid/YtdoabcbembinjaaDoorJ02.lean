import Derived.Test.YtdoabcbembinjaaDoorJ01
import Derived.Laws.CopyOwn
import Derived.Deep.RegionHeld
import Derived.BigQuiet
import Derived.Deep.Slices
import Derived.SliceStrings
import Derived.Test.YtdoabcbembinjaaDoorJ00
/- Of a claim's texts, joined: Cem Cea Argz Lay7 Chm. No statement but in the last. -/
section
namespace Go.Proofs.YtdoabcbembinjaaDoor
open Go.RowKit
set_option linter.unusedVariables false

def cSz : List (List UInt8) → Nat
  | [] => 0
  | c :: l => c.length + 1 + cSz l
theorem cSz_app (a b : List (List UInt8)) : cSz (a ++ b) = cSz a + cSz b := by
  induction a with
  | nil => simp [cSz]
  | cons c a ih => simp only [List.cons_append, cSz, ih]; omega
theorem cSz_len (l : List (List UInt8)) : l.length ≤ cSz l := by
  induction l with
  | nil => simp
  | cons c l ih => simp only [List.length_cons, cSz]; omega
theorem cSz_more {l : List (List UInt8)} {k : Nat} {c : List UInt8} (h : l[k]? = some c) : cSz (l.take (k + 1)) = cSz (l.take k) + (c.length + 1) := by
  obtain ⟨hk, hc⟩ := List.getElem?_eq_some_iff.1 h
  rw [List.take_succ_eq_append_getElem hk, hc, cSz_app]
  simp [cSz]
theorem cSz_take (l : List (List UInt8)) (k : Nat) : cSz (l.take k) ≤ cSz l := by
  have h := cSz_app (l.take k) (l.drop k)
  rw [List.take_append_drop] at h
  omega
theorem cSz_few (l : List (List UInt8)) (n m : Nat) (hn : l.length ≤ n) (hm : ∀ c ∈ l, c.length ≤ m) : cSz l ≤ n * (m + 1) := by
  have h : cSz l ≤ l.length * (m + 1) := by
    clear hn
    induction l with
    | nil => simp [cSz]
    | cons c l ih =>
      have h1 := hm c (List.mem_cons_self ..)
      have h2 := ih fun d hd => hm d (List.mem_cons_of_mem _ hd)
      simp only [List.length_cons, cSz, Nat.add_mul, Nat.one_mul] at *
      omega
  exact Nat.le_trans h (Nat.mul_le_mul_right _ hn)
def cBack (l : List (List UInt8)) : List UInt8 := l.reverse.flatten
theorem cBack_snoc (l : List (List UInt8)) (c : List UInt8) : cBack (l ++ [c]) = c ++ cBack l := by simp [cBack]
theorem cBack_cons (l : List (List UInt8)) (c : List UInt8) : cBack (c :: l) = cBack l ++ c := by simp [cBack]
theorem cBack_len (l : List (List UInt8)) : (cBack l).length + l.length = cSz l := by
  induction l with
  | nil => rfl
  | cons c l ih =>
    rw [cBack_cons, List.length_append, List.length_cons, cSz]
    omega
def cSlots (at_ : Nat) : List (List UInt8) → List UInt8
  | [] => []
  | c :: l => UInt8.ofNat (at_ - c.length) :: cSlots (at_ - c.length) l
theorem cSlots_len (l : List (List UInt8)) : ∀ at_, (cSlots at_ l).length = l.length := by
  induction l with
  | nil => intro _; rfl
  | cons c l ih => intro at_; simp [cSlots, ih]
theorem cSlots_snoc (l : List (List UInt8)) (c : List UInt8) : ∀ at_, cSlots at_ (l ++ [c]) = cSlots at_ l ++ [UInt8.ofNat (at_ - (cBack l).length - c.length)] := by
  induction l with
  | nil => intro at_; simp [cSlots, cBack]
  | cons d l ih =>
    intro at_
    simp only [List.cons_append, cSlots, ih, cBack_cons, List.length_append]
    congr 4
    omega
def cBody (kind : UInt8) (n : Nat) (l : List (List UInt8)) : List UInt8 := kind :: UInt8.ofNat n :: (cSlots 128 l ++ (List.replicate (122 - cSz l) 0 ++ cBack l))
theorem cBody_len (kind : UInt8) (n : Nat) (l : List (List UInt8)) (h : cSz l ≤ 122) : (cBody kind n l).length = 124 := by
  have := cBack_len l
  have := cSz_len l
  simp only [cBody, List.length_cons, List.length_append, List.length_replicate, cSlots_len]
  omega
def cPage (kind : UInt8) (l : List (List UInt8)) : List UInt8 := tagB (cBody kind l.length l)
theorem cPage_len (kind : UInt8) (l : List (List UInt8)) (h : cSz l ≤ 122) : (cPage kind l).length = 128 := by
  rw [cPage, tagB_len, cBody_len _ _ _ h]
def cFits (kind : UInt8) (l : List (List UInt8)) : Prop := kind ≠ 0 ∧ cSz l ≤ 122
instance (kind : UInt8) (l : List (List UInt8)) : Decidable (cFits kind l) := by unfold cFits; infer_instance

/-! ### The page while it is assembled -/
def cDraft (kind : UInt8) (n : Nat) (l : List (List UInt8)) : List UInt8 := [0, 0, 0, 0] ++ cBody kind n l
theorem cDraft_len (kind : UInt8) (n : Nat) (l : List (List UInt8)) (h : cSz l ≤ 122) : (cDraft kind n l).length = 128 := by
  rw [cDraft, List.length_append, cBody_len _ _ _ h]
  rfl
theorem cDraft_nil (kind : UInt8) (n : Nat) : cDraft kind n [] = [0, 0, 0, 0, kind, UInt8.ofNat n] ++ List.replicate 122 0 := by simp [cDraft, cBody, cSlots, cBack, cSz]
theorem cDraft_drop (kind : UInt8) (n : Nat) (l : List (List UInt8)) : (cDraft kind n l).drop 4 = cBody kind n l := rfl
theorem repl_add (a b : Nat) : List.replicate (a + b) (0 : UInt8) = List.replicate a 0 ++ List.replicate b 0 := by simp
theorem cDraft_step (kind : UInt8) (n : Nat) (l : List (List UInt8)) (c : List UInt8) (h : cSz l + (c.length + 1) ≤ 122) :
    splice ((cDraft kind n l).set (6 + l.length) (UInt8.ofNat (128 - (cBack l).length - c.length))) (128 - (cBack l).length - c.length) c = cDraft kind n (l ++ [c]) := by
  have hb := cBack_len l
  have e1 : 122 - cSz l = 1 + ((122 - cSz (l ++ [c])) + c.length) := by rw [cSz_app]; simp only [cSz]; omega
  have e0 : cDraft kind n l = ([0, 0, 0, 0, kind, UInt8.ofNat n] ++ cSlots 128 l) ++ ([0] ++ (List.replicate (122 - cSz (l ++ [c])) 0 ++ (List.replicate c.length 0 ++ cBack l))) := by
    unfold cDraft cBody
    rw [e1, repl_add 1, repl_add (122 - cSz (l ++ [c]))]
    simp only [List.append_assoc, List.cons_append, List.nil_append, List.replicate_one]
  have l0 : ([0, 0, 0, 0, kind, UInt8.ofNat n] ++ cSlots 128 l : List UInt8).length = 6 + l.length := by simp [cSlots_len]; omega
  generalize hs : UInt8.ofNat (128 - (cBack l).length - c.length) = s
  have e2 : (cDraft kind n l).set (6 + l.length) s = (([0, 0, 0, 0, kind, UInt8.ofNat n] ++ cSlots 128 l) ++ ([s] ++ List.replicate (122 - cSz (l ++ [c])) 0)) ++ (List.replicate c.length 0 ++ cBack l) := by
    rw [e0, List.set_append_right _ _ (by omega), l0, Nat.sub_self]
    simp
  have l2 : (([0, 0, 0, 0, kind, UInt8.ofNat n] ++ cSlots 128 l) ++ ([s] ++ List.replicate (122 - cSz (l ++ [c])) 0) : List UInt8).length = 128 - (cBack l).length - c.length := by
    rw [List.length_append, l0, cSz_app]
    simp only [List.length_append, List.length_replicate, List.length_cons, List.length_nil, cSz]
    omega
  rw [e2]
  unfold splice
  rw [List.take_append_of_le_length (by omega), List.take_of_length_le (by omega), ← l2, List.drop_append, List.drop_eq_nil_of_le (by omega), Nat.add_sub_cancel_left, List.nil_append,
    List.drop_append, List.drop_eq_nil_of_le (by simp), List.length_replicate, Nat.sub_self, List.drop_zero, List.nil_append]
  unfold cDraft cBody
  rw [cSlots_snoc, cBack_snoc, hs]
  simp

/-! ### Cells cut out of a page -/
def cCut (b : List UInt8) : List UInt8 → Nat → List (List UInt8)
  | [], _ => []
  | s :: ss, end_ => if s.toNat > end_ then [] else (b.drop s.toNat).take (end_ - s.toNat) :: cCut b ss s.toNat
theorem cCut_len (b : List UInt8) (ss : List UInt8) : ∀ end_, (cCut b ss end_).length ≤ ss.length := by
  induction ss with
  | nil => intro _; simp [cCut]
  | cons s ss ih =>
    intro end_
    simp only [cCut]
    split
    · simp
    · have := ih s.toNat
      simp only [List.length_cons]
      omega
def cCount (b : List UInt8) : Nat := (b[5]?.getD 0).toNat
def cKind (b : List UInt8) : UInt8 := b[4]?.getD 0
def cSlotsOf (b : List UInt8) : List UInt8 := (b.drop 6).take (cCount b)
def cCells (b : List UInt8) : List (List UInt8) := cCut b (cSlotsOf b) 128
theorem cCut_back (b : List UInt8) (l : List (List UInt8)) : ∀ end_, end_ ≤ 128 → (cBack l).length ≤ end_ → (b.drop (end_ - (cBack l).length)).take (cBack l).length = cBack l → cCut b (cSlots end_ l) end_ = l := by
  induction l with
  | nil => intro _ _ _ _; rfl
  | cons c l ih =>
    intro end_ h1 h2 h3
    rw [cBack_cons, List.length_append] at h2 h3
    have hs : (UInt8.ofNat (end_ - c.length)).toNat = end_ - c.length := by simp; omega
    have ha : (b.drop (end_ - c.length - (cBack l).length)).take (cBack l).length = cBack l := by
      have := congrArg (List.take (cBack l).length) h3
      rw [List.take_take, Nat.min_eq_left (by omega), List.take_left] at this
      rw [Nat.sub_sub, Nat.add_comm c.length]
      exact this
    have hc : (b.drop (end_ - c.length)).take c.length = c := by
      have := congrArg (List.drop (cBack l).length) h3
      rw [List.drop_left, List.drop_take, List.drop_drop] at this
      have e1 : end_ - ((cBack l).length + c.length) + (cBack l).length = end_ - c.length := by omega
      have e2 : (cBack l).length + c.length - (cBack l).length = c.length := by omega
      rw [e1, e2] at this
      exact this
    simp only [cSlots, cCut, hs]
    rw [if_neg (by omega)]
    have e3 : end_ - (end_ - c.length) = c.length := by omega
    rw [e3, hc, ih _ (by omega) (by omega) ha]
theorem tag_split (l : List UInt8) : ∃ a b c d, tagB l = [a, b, c, d] ++ l := ⟨_, _, _, _, rfl⟩
theorem cKind_page (kind : UInt8) (l : List (List UInt8)) : cKind (cPage kind l) = kind := by
  obtain ⟨a, b, c, d, h⟩ := tag_split (cBody kind l.length l)
  unfold cPage
  rw [h]
  rfl
theorem cCount_page (kind : UInt8) (l : List (List UInt8)) (h : cSz l ≤ 122) : cCount (cPage kind l) = l.length := by
  obtain ⟨a, b, c, d, hh⟩ := tag_split (cBody kind l.length l)
  have hl := cSz_len l
  unfold cPage
  rw [hh]
  show (UInt8.ofNat l.length).toNat = l.length
  simp
  omega
theorem cCells_page (kind : UInt8) (l : List (List UInt8)) (h : cSz l ≤ 122) : cCells (cPage kind l) = l := by
  have hlen := cPage_len kind l h
  have hn := cCount_page kind l h
  have hb := cBack_len l
  have hs : cSlotsOf (cPage kind l) = cSlots 128 l := by
    unfold cSlotsOf
    rw [hn]
    obtain ⟨a, b, c, d, hh⟩ := tag_split (cBody kind l.length l)
    unfold cPage
    rw [hh]
    show (cSlots 128 l ++ _).take l.length = _
    rw [List.take_append_of_le_length (by rw [cSlots_len]; omega), List.take_of_length_le (by rw [cSlots_len]; omega)]
  unfold cCells
  rw [hs]
  refine cCut_back _ l 128 (by omega) (by omega) ?_
  have hd : (cPage kind l).drop (128 - (cBack l).length) = cBack l := by
    obtain ⟨a, b, c, d, hh⟩ := tag_split (cBody kind l.length l)
    have e : cPage kind l = ([a, b, c, d, kind, UInt8.ofNat l.length] ++ cSlots 128 l ++ List.replicate (122 - cSz l) 0) ++ cBack l := by
      unfold cPage
      rw [hh]
      simp [cBody]
    have e2 : 128 - (cBack l).length = ([a, b, c, d, kind, UInt8.ofNat l.length] ++ cSlots 128 l ++ List.replicate (122 - cSz l) 0 : List UInt8).length := by
      have := congrArg List.length e
      rw [List.length_append, hlen] at this
      omega
    rw [e2, e, List.drop_left]
  rw [hd, List.take_of_length_le (Nat.le_refl _)]
def cForm (b : List UInt8) : Prop := cFits (cKind b) (cCells b) ∧ cPage (cKind b) (cCells b) = b
instance (b : List UInt8) : Decidable (cForm b) := by unfold cForm; infer_instance
theorem cForm_page {kind : UInt8} {l : List (List UInt8)} (h : cFits kind l) : cForm (cPage kind l) := by
  unfold cForm
  rw [cKind_page, cCells_page _ _ h.2]
  exact ⟨h, rfl⟩
theorem cForm_count {b : List UInt8} (h : cForm b) : (cCells b).length = cCount b := by
  have h1 := cCount_page (cKind b) (cCells b) h.1.2
  rw [h.2] at h1
  exact h1.symm
theorem isTag_page (kind : UInt8) (l : List (List UInt8)) : isTag (cPage kind l) := isTag_tag _
instance (l : List UInt8) : Decidable (isTag l) := by unfold isTag; infer_instance
def unpN (b : List UInt8) : UInt8 × List (List UInt8) × Int :=
  if b.length ≠ 128 then (0, [], 1) else if ¬ isTag b then (0, [], 12) else if ¬ cForm b then (0, [], 11) else (cKind b, cCells b, 0)
theorem unpN_no {b : List UInt8} (h : b.length = 128) (ht : isTag b) (hn : ¬ cForm b) : unpN b = (0, [], 11) := by
  unfold unpN
  rw [if_neg (by rw [h]; simp), if_neg (by simpa using ht), if_pos hn]
theorem unpN_yes {b : List UInt8} (h : b.length = 128) (ht : isTag b) (hn : cForm b) : unpN b = (cKind b, cCells b, 0) := by
  unfold unpN
  rw [if_neg (by rw [h]; simp), if_neg (by simpa using ht), if_neg (by simpa using hn)]
theorem unpN_page {kind : UInt8} {l : List (List UInt8)} (h : cFits kind l) : unpN (cPage kind l) = (kind, l, 0) := by
  unfold unpN
  rw [if_neg (by rw [cPage_len _ _ h.2]; simp), if_neg (by simpa using isTag_page kind l), if_neg (by simpa using cForm_page h), cKind_page, cCells_page _ _ h.2]

/-! ### A bit that is turned -/
theorem turned (l : List UInt8) (at_ : Nat) (h : at_ < l.length) (ht : isTag l) : ¬ isTag (l.set at_ (l[at_] ^^^ 1)) := by
  intro hh
  have hx : ∀ x : UInt8, x ^^^ 1 ≠ x := by
    intro x e
    have h2 : x ^^^ (x ^^^ 1) = x ^^^ x := by rw [e]
    rw [← UInt8.xor_assoc, UInt8.xor_self, UInt8.zero_xor] at h2
    exact absurd h2 (by decide)
  have e1 := ht.2
  have e2 := hh.2
  have l4 := ht.1
  have lb := onN_lt 0 (l.drop 4)
  unfold tagB at e1 e2
  by_cases h4 : at_ < 4
  · rw [List.drop_set, if_pos h4] at e2
    have e3 := e1.symm.trans (congrArg (numB (ofN (l.drop 4)) 4 ++ ·) rfl)
    rw [e1] at e2
    have e4 : l[at_]? = (l.set at_ (l[at_] ^^^ 1))[at_]? := by rw [← e2]
    rw [List.getElem?_set_self h, List.getElem?_eq_getElem h] at e4
    injection e4 with e4
    exact hx _ e4.symm
  · rw [List.drop_set, if_neg h4] at e2
    have t1 : numB (ofN (l.drop 4)) 4 = l.take 4 := by
      have := congrArg (List.take 4) e1
      rwa [List.take_append_of_le_length (by rw [numB_len]; omega), List.take_of_length_le (by rw [numB_len]; omega)] at this
    have t2 : numB (ofN ((l.drop 4).set (at_ - 4) (l[at_] ^^^ 1))) 4 = l.take 4 := by
      have := congrArg (List.take 4) e2
      rwa [List.take_append_of_le_length (by rw [numB_len]; omega), List.take_of_length_le (by rw [numB_len]; omega), List.take_set_of_le (by omega)] at this
    have e5 := t2.trans t1.symm
    have e6 := congrArg numOf e5
    rw [numOf_four _ (ofN_lt _), numOf_four _ (ofN_lt _)] at e6
    have hj : at_ - 4 < (l.drop 4).length := by simp; omega
    have hg : (l.drop 4)[at_ - 4] = l[at_] := by
      rw [List.getElem_drop]
      congr 1
      omega
    have hd := dg_xor (l.drop 4) (at_ - 4) 1 hj
    rw [hg] at hd
    refine burst (l.drop 4) _ (8 * (at_ - 4)) 1 (by simp) ?_ (by omega) (by decide) (by decide) e6
    rw [hd]
    congr 1
    have : (256 : Nat) = 2 ^ 8 := by decide
    rw [this, ← Nat.pow_mul, Nat.mul_one]
    simp

end Go.Proofs.YtdoabcbembinjaaDoor
end

section
namespace Go.Proofs.YtdoabcbembinjaaDoor
open Go.RowKit
set_option linter.unusedVariables false

structure Hd where
  a : Option Addr
  n : Nat
  c : Nat
  l : List UInt8
def Hd.v (h : Hd) : Value := .slice h.a h.n h.c
structure CellsA (w : World) (A : Option Addr) (n c : Nat) (q : List Hd) : Prop where
  len : n = q.length
  reads : Reads w A (q.map Hd.v)
  each : ∀ h ∈ q, Arg w h.a h.n h.c h.l
  room : n ≤ c
  most : c ≤ maxLen
  nil : A = none → c = 0
def lq (q : List Hd) : List (List UInt8) := q.map Hd.l
theorem CellsA.below {w w' : World} {A : Option Addr} {n c : Nat} {q : List Hd} (h : CellsA w A n c q) (hb : Below w.heap.size w w') : CellsA w' A n c q :=
  ⟨h.len, h.reads.keep_ hb, fun x hx => (h.each x hx).below hb, h.room, h.most, h.nil⟩
theorem CellsA.at {w : World} {A : Option Addr} {n c : Nat} {q : List Hd} (h : CellsA w A n c q) {k : Nat} (hk : k < q.length) :
    ∃ g off, A = some ⟨g, off, none⟩ ∧ w.cell? ⟨g, off + k, none⟩ = some (.slice (q[k]).a (q[k]).n (q[k]).c) := by
  obtain ⟨g, off, hA, hc⟩ := h.reads (by simp; omega)
  exact ⟨g, off, hA, hc k _ (by simp [List.getElem?_eq_getElem hk, Hd.v])⟩
theorem CellsA.hdr {w : World} {A : Option Addr} {n c : Nat} {q : List Hd} (h : CellsA w A n c q) {k : Nat} (hk : k < q.length) : Arg w (q[k]).a (q[k]).n (q[k]).c (q[k]).l := h.each _ (List.getElem_mem hk)
theorem lq_len (q : List Hd) : (lq q).length = q.length := by simp [lq]
theorem lq_at (q : List Hd) {k : Nat} (hk : k < q.length) : (lq q)[k]? = some (q[k]).l := by simp [lq, hk]
theorem CellsA.none_ (w : World) : CellsA w none 0 0 [] := ⟨rfl, Reads.empty, fun x hx => (by cases hx), Nat.le_refl _, Nat.zero_le _, fun _ => rfl⟩
def Few (q : List Hd) : Prop := q.length ≤ 1000 ∧ ∀ x ∈ q, x.l.length ≤ 1000
theorem Few.size {q : List Hd} (h : Few q) : cSz (lq q) ≤ 1001000 := by
  have := cSz_few (lq q) 1000 1000 (by rw [lq_len]; exact h.1) (fun c hc => by
    obtain ⟨x, hx, rfl⟩ := List.mem_map.1 hc
    exact h.2 x hx)
  omega
theorem cSz_step {q : List Hd} {k : Nat} (hk : k < q.length) : cSz ((lq q).take (k + 1)) = cSz ((lq q).take k) + ((q[k]).l.length + 1) := cSz_more (lq_at q hk)

set_option maxHeartbeats 400000 in
theorem ceSize_any (A : Option Addr) (n c : Nat) (q : List Hd) (w : World) (h : CellsA w A n c q) (hf : Few q) :
    Calls Tryd.prog 66 #[.slice A n c] w fun e w' => e = .returned (.int .i64 (cSz (lq q) : Int)) ∧ w = w' := by
  have HA := Lib.hid h
  have HF := Lib.hid hf
  have HL := Lib.hid h.len
  have hs := hf.size
  have hn : n ≤ 1000 := by rw [h.len]; exact hf.1
  clear h hf
  go_enter Tryd.func66, Tryd.ntmps66
  go_wp2
  go_loop [3, 10] (fun s i => ∃ k x : Nat, k ≤ n ∧ i = .int .i64 k ∧ s = .int .i64 x ∧ x + k = n + cSz ((lq q).take k)) (fun _ i => n - (intOf i).toNat)
  case atStart => exact ⟨0, n, Nat.zero_le _, rfl, rfl, by simp [cSz]⟩
  case round =>
    obtain ⟨k, x, hk, rfl, rfl, hx⟩ := hrel
    by_cases hlt : k < n
    · have hkl : k < q.length := by rw [← HL.out]; exact hlt
      have ht := cSz_take (lq q) (k + 1)
      have hm := cSz_step hkl
      obtain ⟨g, off, rfl, hc⟩ := HA.out.at hkl
      have hlen := (HA.out.hdr hkl).len
      have HS := Lib.hid (show x + (q[k]).n + (k + 1) = n + cSz ((lq q).take (k + 1)) by rw [hm, hlen]; omega)
      have hb : x + (q[k]).n ≤ 2000000 := by have := HS.out; omega
      clear hx ht hm hlen
      generalize q[k] = y at *
      clear hkl
      go_wp2
      go_round
      case rel => exact ⟨k + 1, x + y.n, by omega, by go_num, by go_num, HS.out⟩
      case measure => simp [intOf]; omega
    · obtain rfl : k = n := by omega
      have e : (lq q).take k = lq q := List.take_of_length_le (by rw [lq_len, ← HL.out]; exact Nat.le_refl _)
      rw [e] at hx
      obtain rfl : x = cSz (lq q) := by omega
      go_wp2
      go_ret
      exact ⟨rfl, rfl⟩

def smallB (q : List Hd) : Bool := decide (q.length ≤ 300 ∧ ∀ x ∈ q, x.l.length ≤ 300)
/-! Texts. -/
def cstV (l : List UInt8) : Value := .string ⟨l.toArray⟩
structure TxtA (w : World) (A : Option Addr) (n : Nat) (l : List (List UInt8)) : Prop where
  len : n = l.length
  reads : Reads w A (l.map cstV)
theorem TxtA.below {w w' : World} {A : Option Addr} {n : Nat} {l : List (List UInt8)} (h : TxtA w A n l) (hb : Below w.heap.size w w') : TxtA w' A n l := ⟨h.len, h.reads.keep_ hb⟩
theorem TxtA.at {w : World} {A : Option Addr} {n : Nat} {l : List (List UInt8)} (h : TxtA w A n l) {k : Nat} (hk : k < l.length) :
    ∃ g off, A = some ⟨g, off, none⟩ ∧ w.cell? ⟨g, off + k, none⟩ = some (.string ⟨(l[k]).toArray⟩) := by
  obtain ⟨g, off, hA, hc⟩ := h.reads (by simp; omega)
  exact ⟨g, off, hA, hc k _ (by simp [List.getElem?_eq_getElem hk, cstV])⟩
theorem TxtA.of_own {w : World} {base n : Nat} {v : Value} {l : List (List UInt8)} (h : w.ownsRow base 9 1 v n (l.map cstV)) : ∃ A c, v = .slice A n c ∧ n ≤ c ∧ TxtA w A n l := by
  have hn : n = l.length := by have := h.1; simpa using this.symm
  rcases h.2 with ⟨rfl, rfl⟩ | ⟨g, cap, cur, rfl, h1, h2, h3, h4, h5, h6⟩
  · have := List.eq_nil_of_length_eq_zero hn.symm
    subst this
    exact ⟨none, 0, rfl, Nat.le_refl _, rfl, Reads.empty⟩
  · refine ⟨_, cap, rfl, h3, hn, fun hx => ⟨g, 0, rfl, fun j u hj => ?_⟩⟩
    have hjl := (List.getElem?_eq_some_iff.1 hj).1
    have : Has w g 9 cur := h2
    rw [this.cell, Nat.zero_add, ← hj, ← h6, List.getElem?_take, if_pos (by have := h.1; omega)]
    simp
def TxtEnd (w : World) (l : List (List UInt8)) (e : Ending) (w' : World) : Prop := ∃ A c, e = .returned (.slice A l.length c) ∧ TxtA w' A l.length l ∧ Below w.heap.size w w'
theorem stinfo : (Tryd.prog.info? 9).map (fun i => (i.zero, i.size, i.bytes)) = some (some (.string ByteArray.empty), 1, 16) := by kernel_rfl
theorem st_own_nil (w : World) (B : Nat) : w.ownsRow B 9 1 (.slice none 0 0) 0 [] := ⟨rfl, .inl ⟨rfl, rfl⟩⟩


theorem ceOwnBelow {w w' : World} {b : Nat} {e : TypeId} {s n : Nat} {v : Value} {xs : List Value} (h : w.ownsRow b e s v n xs) (hb : Below w.heap.size w w') : w'.ownsRow b e s v n xs :=
  h.kept (row := none) ⟨hb.os, hb.tape, hb.output, hb.size, fun k hk _ => hb.block k hk⟩ (by
    rcases v.ownBlock with _ | g
    · exact .inl rfl
    · exact .inr (by simp))
theorem wpList_append_one {P : Program} {w : World} {ops : Array Oper} {rest : List Oper} {o : Oper} {a : Act} {Q : Exit → Act → World → Prop} (hgd : o.guard = none) (s x : Operand) (t t' : TypeId)
    (ho : o.op = .call { callee := .builtin .append, args := #[s, x], argTypes := #[t, t] }) (base : Nat) (e : TypeId) (i : TypeInfo) (z : Value) (bytes : Nat) (ht : P.underlying t = some (.slice e)) (hi : P.info? e = some i) (hz : i.zero = some z)
    (hsize : i.size = 1) (hby : i.bytes = bytes) (hzs : z.cells.size = 1) (v : Value) (n : Nat) (xs : List Value) (hs : a.eval s = v) (hown : w.ownsRow base e 1 v n xs) (u : Value) (hx : a.eval x = .slice (some ⟨w.heap.size, 0, none⟩) 1 1) (hu : u.oneCell' = true)
    (hmax : (n + 1) * bytes ≤ 140737488355328) (h63 : n + 1 ≤ maxLen) (hbase : base ≤ w.heap.size)
    (h : ∀ v' w', w'.ownsRow base e 1 v' (n + 1) (xs ++ [u]) → Below base w w' → wpList P ops Q rest (a.put o.dst v') w') : wpList P ops Q (o :: rest) a (w.alloc (.cells #[u] t')) := by
  refine wpList_append_own _ hgd s x t ho base e i z 1 bytes ht hi hz hsize hby hzs (by decide) v n xs hs (hown.alloc _) ⟨w.heap.size, 0, none⟩ 1 1 [u] hx rfl (fun j y hj => ?_) (fun y hy => ?_) (by omega) (by omega) (by simp; omega) (fun v' w' h1 h2 _ => h v' w' h1 ?_)
  · rw [add_plain, (Has.made w t' #[u]).cell]
    simpa using hj
  · obtain rfl := List.mem_singleton.1 hy
    exact hu
  · exact ((Below.refl _ w).mono hbase |>.alloc hbase _).grown h2 (by simp; omega) (fun k hk => (hown.lt k hk).1)


set_option maxHeartbeats 1000000 in
theorem r7Size_any (A : Option Addr) (n c : Nat) (l : List (List UInt8)) (w : World) (h : TxtA w A n l) (hs : cSz l ≤ 1001000) :
    Calls Tryd.prog 52 #[.slice A n c] w fun e w' => e = .returned (.int .i64 (cSz l : Int)) ∧ w = w' := by
  have HA := Lib.hid h
  have HL := Lib.hid h.len
  have hn : n ≤ 1001000 := by have := cSz_len l; rw [h.len]; omega
  clear h
  go_enter Tryd.func52, Tryd.ntmps52
  go_wp2
  go_loop [3, 4] (fun s i => ∃ k : Nat, k ≤ n ∧ i = .int .i64 k ∧ s = .int .i64 (cSz (l.take k) : Int)) (fun _ i => n - (intOf i).toNat)
  case atStart => exact ⟨0, Nat.zero_le _, rfl, rfl⟩
  case round =>
    obtain ⟨k, hk, rfl, rfl⟩ := hrel
    by_cases hlt : k < n
    · have hkl : k < l.length := by rw [← HL.out]; exact hlt
      have ht := cSz_take l (k + 1)
      have hm := cSz_more (List.getElem?_eq_getElem hkl)
      obtain ⟨g, off, rfl, hc⟩ := HA.out.at hkl
      generalize l[k] = y at *
      have hz : (⟨y.toArray⟩ : ByteArray).size = y.length := size_list y
      have HS := Lib.hid hm
      have hb : cSz (l.take k) + y.length + 1 ≤ 2000000 := by omega
      generalize cSz (l.take k) = x at *
      obtain ⟨sz, hsz⟩ : ∃ z : ByteArray, (⟨y.toArray⟩ : ByteArray) = z := ⟨_, rfl⟩
      rw [hsz] at hc hz
      have HZ := Lib.hid hz
      have hb2 : x + sz.size + 1 ≤ 2000000 := by omega
      clear hm ht hkl hsz hz hb
      go_wp2
      go_round
      case rel => exact ⟨k + 1, by omega, by go_num, by rw [HS.out, ← HZ.out]; go_num⟩
      case measure => simp [intOf]; omega
    · obtain rfl : k = n := by omega
      have e : l.take k = l := List.take_of_length_le (by rw [← HL.out]; exact Nat.le_refl _)
      rw [e]
      go_wp2
      go_ret
      exact ⟨rfl, rfl⟩

def sameB (l m : List (List UInt8)) : Bool := decide (l = m)
set_option maxHeartbeats 2000000 in
theorem r7Same_any (A B : Option Addr) (n c m d : Nat) (l x : List (List UInt8)) (w : World) (h : TxtA w A n l) (h' : TxtA w B m x) (hl : n ≤ 1000000) :
    Calls Tryd.prog 13 #[.slice A n c, .slice B m d] w (fun e w' => e = .returned (.bool (sameB l x)) ∧ Below w.heap.size w w') := by
  have HA := Lib.hid h
  have HB := Lib.hid h'
  have HL := Lib.hid h.len
  have HM := Lib.hid h'.len
  clear h h'
  by_cases hnm : n = m
  · subst hnm
    go_enter Tryd.func13, Tryd.ntmps13
    go_wp2
    go_loopw [5] (fun i wr => ∃ k : Nat, k ≤ n ∧ i = .int .i64 k ∧ l.take k = x.take k ∧ Below w.heap.size w wr) (fun i _ => n - (intOf i).toNat)
    case atStart => exact ⟨0, Nat.zero_le _, rfl, rfl, Below.refl _ _⟩
    case round =>
      obtain ⟨k, hk, rfl, hE, hB⟩ := hrel
      have BW := Lib.hid hB
      have HE := Lib.hid hE
      clear hB hE
      by_cases hlt : k < n
      · have hk1 : k < l.length := by rw [← HL.out]; exact hlt
        have hk2 : k < x.length := by rw [← HM.out]; exact hlt
        have NX1 := List.take_succ_eq_append_getElem hk1
        have NX2 := List.take_succ_eq_append_getElem hk2
        have g1 := List.getElem?_eq_getElem hk1
        have g2 := List.getElem?_eq_getElem hk2
        obtain ⟨a1, o1, rfl, c1⟩ := (HA.out.below BW.out).at hk1
        obtain ⟨a2, o2, rfl, c2⟩ := (HB.out.below BW.out).at hk2
        generalize l[k] = y at *
        generalize x[k] = z at *
        have NX1 := Lib.hid NX1
        have NX2 := Lib.hid NX2
        have i0 : (0 : Int) ≤ (k : Int) := by omega
        have i1 : (k : Int) < (n : Int) := by omega
        by_cases hyz : y = z
        · subst hyz
          clear hk1 hk2 g1 g2
          go_wp2
          go_region
          all_goals
            go_wp2
            go_roundw
            case rel => exact ⟨k + 1, by omega, by go_num, by rw [NX1.out, NX2.out, HE.out], BW.out.drew⟩
            case measure => simp [intOf]; omega
        · have HD : Hid (sameB l x = false) := Lib.hid (decide_eq_false (by
            rintro rfl
            rw [g1] at g2
            injection g2 with g2
            exact hyz g2))
          have hq : (y == z) = false := by simpa using hyz
          clear hk1 hk2 g1 g2
          go_wp2
          go_region
          all_goals
            go_wp2
            go_ret
            exact ⟨by rw [HD.out]; rfl, BW.out.drew⟩
      · obtain rfl : k = n := by omega
        have HD : Hid (sameB l x = true) := Lib.hid (decide_eq_true (by
          have h1 := HE.out
          rwa [List.take_of_length_le (Nat.le_of_eq HL.out.symm), List.take_of_length_le (Nat.le_of_eq HM.out.symm)] at h1))
        obtain ⟨w3, hw3⟩ : ∃ w3 : World, w3 = wr := ⟨_, rfl⟩
        subst hw3
        go_wp2
        go_ret
        exact ⟨by rw [HD.out]; rfl, BW.out⟩
  · have HD : Hid (sameB l x = false) := Lib.hid (decide_eq_false (by
      rintro rfl
      exact hnm (HL.out.trans HM.out.symm)))
    have hne : ((n : Int) == (m : Int)) = false := beq_false_of_ne (by omega)
    go_enter Tryd.func13, Tryd.ntmps13
    go_wp2
    go_ret
    exact ⟨by rw [HD.out]; rfl, Below.refl _ _⟩

end Go.Proofs.YtdoabcbembinjaaDoor
end

section
namespace Go.Proofs.YtdoabcbembinjaaDoor
open Go.ChangeShapes Go.WideShapes Go.ChangeAt Go.RowKit Go.Deep
set_option linter.unusedVariables false

theorem arg_bytes_v {H : Type} {enc : TypeId × Value → H} {W : World} {fuel : Nat} {v : Value} {x : DataW H × List MemPlace} (h : DataW.trod enc Tryd.prog W 0 (fun _ => true) true fuel 31 [v] = some x) :
    ∃ (A : Option Addr) (n c : Nat) (l : List UInt8), v = .slice A n c ∧ Arg W A n c l := by
  rcases open_ints Tryd.underlying31 Tryd.underlying5 (by kernel_rfl) h with ⟨hcs, _⟩ | ⟨x, len, cap, zs, hcs, _, hl, hm, hz, hx, hcell, hwz⟩
  · simp at hcs
    exact ⟨none, 0, 0, [], hcs, rfl, Reads.empty, fun _ a ha => (by cases ha), Nat.le_refl _, Nat.zero_le _, fun _ => rfl⟩
  · simp at hcs
    have hz' : zs.length = cap := by simpa using hz
    obtain ⟨bs, hbl, hbm⟩ := bytes_of zs hwz
    have hat : ∀ i, i < zs.length → W.cell? (x.add i) = (zs.map (Value.int .u8))[i]? := fun i hi => by
      rw [hcell i hi]
      simp [hi]
    by_cases hc0 : cap = 0
    · have hn : len = 0 := by omega
      exact ⟨some x, len, cap, [], hcs, hn, Reads.empty, fun h => absurd h (by omega), hl, hm, fun h => by cases h⟩
    · obtain ⟨b, off, spot⟩ := x
      have hspot : spot = none := by
        have := hcell 0 (by omega)
        simpa [Addr.add] using World.cell?_spot this
      subst hspot
      have hblk : b < W.heap.size := by
        have := hcell 0 (by omega)
        exact World.block_lt_of_cell? W _ (by simpa [Addr.add] using this)
      refine ⟨_, len, cap, bs.take len, hcs, by simp; omega, fun hx => ⟨b, off, rfl, fun j u hj => ?_⟩, fun _ a ha => (by injection ha with ha; subst ha; exact hblk), hl, hm, fun h => by cases h⟩
      have hjn : j < len := by
        have := (List.getElem?_eq_some_iff.1 hj).1
        simp at this
        omega
      have h2 := hat j (by omega)
      rw [add_plain] at h2
      rw [h2, hbm]
      rw [List.map_take, List.getElem?_take, if_pos hjn] at hj
      exact hj

end Go.Proofs.YtdoabcbembinjaaDoor
end

section
namespace Go.Proofs.YtdoabcbembinjaaDoor
open Go.ChangeShapes Go.WideShapes Go.ChangeAt Go.RowKit
set_option linter.unusedVariables false

abbrev layN : Nat := 14
abbrev layKinds : List LaidKind := [.data]
theorem base_of_laid {W : World} (h : laidMetH Tryd.prog lay W) : Tab W := tab_of_laid h

end Go.Proofs.YtdoabcbembinjaaDoor
end

section
namespace Go.Proofs.YtdoabcbembinjaaDoor
open Go.RowKit
set_option linter.unusedVariables false

def lgB (z : Int) : Bool := decide (16 < z) && decide (z ≤ 400)
def needN (z : Int) : Nat := if 16 < z ∧ z ≤ 400 then (z.toNat + 118) / 119 else 0
theorem lg_need (z : Int) : lgB z = true ↔ needN z ≠ 0 := by
  unfold lgB needN
  by_cases h : 16 < z ∧ z ≤ 400
  · rw [if_pos h]
    simp only [h.1, h.2, decide_true, Bool.and_self, true_iff]
    omega
  · rw [if_neg h]
    simp only [ne_eq, not_true_eq_false, iff_false, Bool.and_eq_true, decide_eq_true_eq]
    exact h
theorem need_pos {z : Int} (h : lgB z = true) : needN z = (z.toNat + 118) / 119 ∧ 16 < z ∧ z ≤ 400 := by
  unfold lgB at h
  simp only [Bool.and_eq_true, decide_eq_true_eq] at h
  unfold needN
  rw [if_pos h]
  exact ⟨rfl, h⟩
theorem need_no {z : Int} (h : lgB z = false) : needN z = 0 := by
  by_cases h0 : needN z = 0
  · exact h0
  · rw [(lg_need z).2 h0] at h
    cases h
theorem need_few (z : Int) : needN z ≤ 4 := by
  unfold needN
  split <;> omega
def partZ (z k : Nat) : Nat := min (z - 119 * k) 119
def partL (s : List UInt8) (k : Nat) : List UInt8 := (s.drop (119 * k)).take 119
theorem partL_len (s : List UInt8) (k : Nat) : (partL s k).length = partZ s.length k := by
  unfold partL partZ
  rw [List.length_take, List.length_drop, Nat.min_comm]
def pgOk (x : Int) : Bool := decide (2 ≤ x) && decide (x ≤ 999)
def okP (l : List Int) : Prop := ∀ k, k < l.length → pgOk (l.getD k 0) = true ∧ l.getD k 0 ∉ l.take k
instance (l : List Int) : Decidable (okP l) := by unfold okP; infer_instance
theorem okP_pg {l : List Int} (h : okP l) {k : Nat} {x : Int} (hk : l[k]? = some x) : 2 ≤ x ∧ x ≤ 999 := by
  have hkl := (List.getElem?_eq_some_iff.1 hk).1
  have := (h k hkl).1
  rw [List.getD_eq_getElem?_getD, hk, Option.getD_some] at this
  unfold pgOk at this
  simpa using this
theorem okP_ne {l : List Int} (h : okP l) {j k : Nat} {x y : Int} (hj : l[j]? = some x) (hk : l[k]? = some y) (hjk : j < k) : x ≠ y := by
  have hkl := (List.getElem?_eq_some_iff.1 hk).1
  have := (h k hkl).2
  rw [List.getD_eq_getElem?_getD, hk, Option.getD_some] at this
  rintro rfl
  exact this (List.mem_iff_getElem?.2 ⟨j, by rw [List.getElem?_take, if_pos hjk]; exact hj⟩)
def cellN (s : List UInt8) (l : List Int) (k : Nat) : List UInt8 := numB (l.getD (k + 1) 0).toNat 2 ++ partL s k
theorem cellN_len (s : List UInt8) (l : List Int) (k : Nat) : (cellN s l k).length = 2 + partZ s.length k := by
  unfold cellN
  rw [List.length_append, numB_len, partL_len]
theorem cellN_fits (s : List UInt8) (l : List Int) (k : Nat) : cFits 3 [cellN s l k] := by
  refine ⟨by decide, ?_⟩
  have h1 := cellN_len s l k
  have h2 : partZ s.length k ≤ 119 := Nat.min_le_right _ _
  simp only [cSz, h1]
  omega
def pageN (s : List UInt8) (l : List Int) (k : Nat) : List UInt8 := cPage 3 [cellN s l k]
theorem pageN_len (s : List UInt8) (l : List Int) (k : Nat) : (pageN s l k).length = 128 := cPage_len _ _ (cellN_fits s l k).2
def goodP (s : List UInt8) (l : List Int) : Prop := lgB s.length = true ∧ l.length = needN s.length ∧ okP l
instance (s : List UInt8) (l : List Int) : Decidable (goodP s l) := by unfold goodP; infer_instance
def pagesN (s : List UInt8) (l : List Int) : List (List UInt8) := (List.range l.length).map (pageN s l)
def putN (s : List UInt8) (l : List Int) : List (List UInt8) × Int := if goodP s l then (pagesN s l, 0) else ([], 1)

def badNext (f : Nat) (x : Int) (l : List Int) : Prop := (f = 0 ∧ x ≠ 0) ∨ (f ≠ 0 ∧ (pgOk x = false ∨ x ∈ l))
instance (f : Nat) (x : Int) (l : List Int) : Decidable (badNext f x l) := by unfold badNext; infer_instance
def nextN (b : List UInt8) : Int := ((numOf (((unpN b).2.1.headD []).take 2) : Nat) : Int)
def restN (b : List UInt8) : List UInt8 := ((unpN b).2.1.headD []).drop 2
def badForm (z i : Nat) (b : List UInt8) : Prop := (unpN b).1 ≠ 3 ∨ (unpN b).2.1.length ≠ 1 ∨ ((unpN b).2.1.headD []).length ≠ 2 + partZ z i
instance (z i : Nat) (b : List UInt8) : Decidable (badForm z i b) := by unfold badForm; infer_instance
def getF (rd : Int → List UInt8 × Int) (z : Nat) : Nat → Nat → Int → List UInt8 → List Int → List UInt8 × List Int × Int
  | 0, _, _, s, l => (s, l, 0)
  | f + 1, i, p, s, l =>
    if (rd p).2 ≠ 0 then ([], [], (rd p).2)
    else if (unpN (rd p).1).2.2 ≠ 0 then ([], [], (unpN (rd p).1).2.2)
    else if badForm z i (rd p).1 then ([], [], 11)
    else if badNext f (nextN (rd p).1) (l ++ [p]) then ([], [], 11)
    else getF rd z f (i + 1) (nextN (rd p).1) (s ++ restN (rd p).1) (l ++ [p])
def getC (rd : Int → List UInt8 × Int) (z : Int) (p : Int) : List UInt8 × List Int × Int := if needN z = 0 then ([], [], 1) else getF rd z.toNat (needN z) 0 p [] []
section
variable {rd : Int → List UInt8 × Int} {z f i : Nat} {p : Int} {s : List UInt8} {l : List Int} {b : List UInt8} {er : Int} {kd : UInt8} {cs : List (List UInt8)} {c : List UInt8} {R : List UInt8 × List Int × Int}
theorem nextN_eq (hu : unpN b = (kd, [c], er)) : nextN b = ((numOf (c.take 2) : Nat) : Int) := by
  unfold nextN
  rw [hu]
  rfl
theorem restN_eq (hu : unpN b = (kd, [c], er)) : restN b = c.drop 2 := by
  unfold restN
  rw [hu]
  rfl
theorem badForm_no (hu : unpN b = (3, [c], er)) (hc : c.length = 2 + partZ z i) : ¬ badForm z i b := by
  unfold badForm
  rw [hu]
  simp [hc]
theorem getF_end : getF rd z 0 i p s l = (s, l, 0) := rfl
theorem getF_read (hr : rd p = (b, er)) (he : er ≠ 0) : getF rd z (f + 1) i p s l = ([], [], er) := by
  rw [getF, hr, if_pos he]
theorem getF_unp (hr : rd p = (b, 0)) (hu : unpN b = (kd, cs, er)) (he : er ≠ 0) : getF rd z (f + 1) i p s l = ([], [], er) := by
  rw [getF, hr, if_neg (by simp), hu, if_pos he]
theorem getF_form (hr : rd p = (b, 0)) (hu : unpN b = (kd, cs, 0)) (he : kd ≠ 3 ∨ cs.length ≠ 1 ∨ (cs.headD []).length ≠ 2 + partZ z i) : getF rd z (f + 1) i p s l = ([], [], 11) := by
  have hb : badForm z i b := by
    unfold badForm
    rw [hu]
    exact he
  rw [getF, hr, if_neg (by simp), if_neg (by rw [hu]; simp), if_pos hb]
theorem getF_next (hr : rd p = (b, 0)) (hu : unpN b = (3, [c], 0)) (hc : c.length = 2 + partZ z i) (he : badNext f ((numOf (c.take 2) : Nat) : Int) (l ++ [p])) : getF rd z (f + 1) i p s l = ([], [], 11) := by
  rw [getF, hr, if_neg (by simp), if_neg (by rw [hu]; simp), if_neg (badForm_no hu hc), if_pos (by rw [nextN_eq hu]; exact he)]
theorem getF_go (hr : rd p = (b, 0)) (hu : unpN b = (3, [c], 0)) (hc : c.length = 2 + partZ z i) (he : ¬ badNext f ((numOf (c.take 2) : Nat) : Int) (l ++ [p])) : getF rd z (f + 1) i p s l = getF rd z f (i + 1) ((numOf (c.take 2) : Nat) : Int) (s ++ c.drop 2) (l ++ [p]) := by
  rw [getF, hr, if_neg (by simp), if_neg (by rw [hu]; simp), if_neg (badForm_no hu hc), if_neg (by rw [nextN_eq hu]; exact he), nextN_eq hu, restN_eq hu]
end
theorem getF_put {rd : Int → List UInt8 × Int} {s : List UInt8} {l : List Int} (hg : goodP s l) (hrd : ∀ k x, l[k]? = some x → rd x = (pageN s l k, 0)) :
    ∀ (f i : Nat), f + i = l.length → getF rd s.length f i (l.getD i 0) (s.take (119 * i)) (l.take i) = (s, l, 0)
  | 0, i, h => by
    obtain ⟨h1, h2, h3⟩ := hg
    obtain ⟨e, h4, h5⟩ := need_pos h1
    rw [getF_end, List.take_of_length_le (by omega), List.take_of_length_le (by omega)]
  | f + 1, i, h => by
    obtain ⟨h1, h2, h3⟩ := hg
    have hi : i < l.length := by omega
    have hx : l[i]? = some (l.getD i 0) := by rw [List.getD_eq_getElem?_getD, List.getElem?_eq_getElem hi]; rfl
    have hr := hrd i _ hx
    have hu : unpN (pageN s l i) = (3, [cellN s l i], 0) := unpN_page (cellN_fits s l i)
    have hnx : numOf ((cellN s l i).take 2) = (l.getD (i + 1) 0).toNat := by
      unfold cellN
      rw [List.take_left' (numB_len _ _)]
      have hb : (l.getD (i + 1) 0).toNat < 65536 := by
        by_cases hj : i + 1 < l.length
        · have := okP_pg h3 (k := i + 1) (x := l.getD (i + 1) 0) (by rw [List.getD_eq_getElem?_getD, List.getElem?_eq_getElem hj]; rfl)
          omega
        · rw [List.getD_eq_getElem?_getD, List.getElem?_eq_none (by omega)]
          decide
      generalize (l.getD (i + 1) 0).toNat = y at hb
      simp only [numB, numOf, List.range, List.range.loop, List.map_cons, List.map_nil, List.foldl_cons, List.foldl_nil, UInt8.toNat_ofNat']
      omega
    have hdrop : (cellN s l i).drop 2 = partL s i := by
      unfold cellN
      rw [List.drop_left' (numB_len _ _)]
    have hs : s.take (119 * i) ++ partL s i = s.take (119 * (i + 1)) := by
      unfold partL
      rw [show 119 * (i + 1) = 119 * i + 119 by omega, List.take_add]
    have hl : l.take i ++ [l.getD i 0] = l.take (i + 1) := by
      rw [List.take_add_one, hx]
      rfl
    have hnb : ¬ badNext f (numOf ((cellN s l i).take 2) : Nat) (l.take i ++ [l.getD i 0]) := by
      rw [hnx, hl]
      unfold badNext
      by_cases hj : i + 1 < l.length
      · have hx1 : l[i + 1]? = some (l.getD (i + 1) 0) := by rw [List.getD_eq_getElem?_getD, List.getElem?_eq_getElem hj]; rfl
        have h6 := okP_pg h3 hx1
        have e1 : (((l.getD (i + 1) 0).toNat : Nat) : Int) = l.getD (i + 1) 0 := by omega
        rw [e1]
        have h7 := h3 (i + 1) hj
        rintro (⟨hf, _⟩ | ⟨_, hq | hq⟩)
        · omega
        · rw [h7.1] at hq; cases hq
        · exact h7.2 hq
      · have e1 : l.getD (i + 1) 0 = 0 := by rw [List.getD_eq_getElem?_getD, List.getElem?_eq_none (by omega)]; rfl
        rw [e1]
        rintro (⟨_, hq⟩ | ⟨hf, _⟩)
        · exact hq rfl
        · omega
    rw [getF_go hr hu (cellN_len s l i) hnb, hdrop, hs, hl, hnx]
    by_cases hj : i + 1 < l.length
    · have hx1 : l[i + 1]? = some (l.getD (i + 1) 0) := by rw [List.getD_eq_getElem?_getD, List.getElem?_eq_getElem hj]; rfl
      have h6 := okP_pg h3 hx1
      have e1 : (((l.getD (i + 1) 0).toNat : Nat) : Int) = l.getD (i + 1) 0 := by omega
      rw [e1]
      exact getF_put ⟨h1, h2, h3⟩ hrd f (i + 1) (by omega)
    · obtain rfl : f = 0 := by omega
      obtain ⟨e, h4, h5⟩ := need_pos h1
      rw [getF_end, List.take_of_length_le (by omega), List.take_of_length_le (by omega)]
theorem getC_put {rd : Int → List UInt8 × Int} {s : List UInt8} {l : List Int} (hg : goodP s l) (hrd : ∀ k x, l[k]? = some x → rd x = (pageN s l k, 0)) : getC rd s.length (l.getD 0 0) = (s, l, 0) := by
  unfold getC
  have h0 := (lg_need s.length).1 hg.1
  rw [if_neg h0, ← hg.2.1, Int.toNat_natCast]
  have := getF_put hg hrd l.length 0 (by omega)
  simpa using this
theorem getF_lost {rd : Int → List UInt8 × Int} {s : List UInt8} {l : List Int} (hg : goodP s l) (q : Nat) (hq : q < l.length) (hrd : ∀ k x, k < q → l[k]? = some x → rd x = (pageN s l k, 0)) (b : List UInt8) (hb : rd (l.getD q 0) = (b, 0)) (hu : (unpN b).2.2 = 12) :
    ∀ (m i : Nat), i + m = q → (getF rd s.length (l.length - i) i (l.getD i 0) (s.take (119 * i)) (l.take i)).2.2 = 12
  | 0, i, h => by
    obtain rfl : i = q := by omega
    obtain ⟨f, hf⟩ : ∃ f, l.length - i = f + 1 := ⟨l.length - i - 1, by omega⟩
    rw [hf, getF_unp (kd := (unpN b).1) (cs := (unpN b).2.1) (er := 12) hb (by rw [← hu]) (by decide)]
  | m + 1, i, h => by
    obtain ⟨h1, h2, h3⟩ := hg
    have hi : i < l.length := by omega
    have hi1 : i + 1 < l.length := by omega
    have hx : l[i]? = some (l.getD i 0) := by rw [List.getD_eq_getElem?_getD, List.getElem?_eq_getElem hi]; rfl
    have hx1 : l[i + 1]? = some (l.getD (i + 1) 0) := by rw [List.getD_eq_getElem?_getD, List.getElem?_eq_getElem hi1]; rfl
    have h6 := okP_pg h3 hx1
    have e1 : (((l.getD (i + 1) 0).toNat : Nat) : Int) = l.getD (i + 1) 0 := by omega
    have hr := hrd i _ (by omega) hx
    have hu2 : unpN (pageN s l i) = (3, [cellN s l i], 0) := unpN_page (cellN_fits s l i)
    have hnx : numOf ((cellN s l i).take 2) = (l.getD (i + 1) 0).toNat := by
      unfold cellN
      rw [List.take_left' (numB_len _ _)]
      have hb : (l.getD (i + 1) 0).toNat < 65536 := by omega
      generalize (l.getD (i + 1) 0).toNat = y at hb
      simp only [numB, numOf, List.range, List.range.loop, List.map_cons, List.map_nil, List.foldl_cons, List.foldl_nil, UInt8.toNat_ofNat']
      omega
    have hdrop : (cellN s l i).drop 2 = partL s i := by
      unfold cellN
      rw [List.drop_left' (numB_len _ _)]
    have hs : s.take (119 * i) ++ partL s i = s.take (119 * (i + 1)) := by
      unfold partL
      rw [show 119 * (i + 1) = 119 * i + 119 by omega, List.take_add]
    have hl : l.take i ++ [l.getD i 0] = l.take (i + 1) := by
      rw [List.take_add_one, hx]
      rfl
    obtain ⟨f, hf⟩ : ∃ f, l.length - i = f + 1 := ⟨l.length - i - 1, by omega⟩
    have hnb : ¬ badNext f (numOf ((cellN s l i).take 2) : Nat) (l.take i ++ [l.getD i 0]) := by
      rw [hnx, hl, e1]
      unfold badNext
      have h7 := h3 (i + 1) hi1
      rintro (⟨hf, _⟩ | ⟨_, hq | hq⟩)
      · omega
      · rw [h7.1] at hq; cases hq
      · exact h7.2 hq
    rw [hf, getF_go hr hu2 (cellN_len s l i) hnb, hdrop, hs, hl, hnx, e1, show f = l.length - (i + 1) by omega]
    exact getF_lost ⟨h1, h2, h3⟩ q hq hrd b hb hu m (i + 1) (by omega)
theorem getC_lost {rd : Int → List UInt8 × Int} {s : List UInt8} {l : List Int} (hg : goodP s l) (q : Nat) (hq : q < l.length) (hrd : ∀ k x, k < q → l[k]? = some x → rd x = (pageN s l k, 0)) (b : List UInt8) (hb : rd (l.getD q 0) = (b, 0)) (hu : (unpN b).2.2 = 12) : (getC rd s.length (l.getD 0 0)).2.2 = 12 := by
  unfold getC
  have h0 := (lg_need s.length).1 hg.1
  rw [if_neg h0, ← hg.2.1, Int.toNat_natCast]
  have := getF_lost hg q hq hrd b hb hu q 0 (by omega)
  simpa using this

end Go.Proofs.YtdoabcbembinjaaDoor
end
