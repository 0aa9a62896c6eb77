import Derived.Test.YtpikcodnonodlaaDoorJ01
import Derived.Test.YtpikcodnonodlaaDoorCards
import Derived.Test.YtpikcodnonodlaaDoorTie
import Derived.LaidMore
import Derived.SevenTiedAt
import Derived.Stop.Joined
import Derived.Test.YtpikcodnonodlaaDoorJ00
import Derived.Lib.SlBytesConst
import Derived.Laws.CopyOwn
import Derived.OrdersHeld
import Derived.Deep.RegionHeld
import Derived.RangeFuncNested
import Derived.RangeFuncCalls
import Derived.OwnWalkIn
import Derived.OrdersIn
import Derived.Below
/- Of a claim's texts, joined: Laid Lay10 Ocn Backm Crca Cem Mtm Mtc Rdr Lit. No statement but in the last. -/
section
namespace Go.Proofs.YtpikcodnonodlaaDoor
open Go.ChangeShapes Go.WideShapes Go.ChangeAt Go.RowKit
set_option linter.unusedVariables false

def tab : List Nat := [0, 498536548, 997073096, 651767980, 1994146192, 1802195444, 1303535960, 1342533948, 3988292384, 4027552580, 3604390888, 3412177804, 2607071920, 2262029012, 2685067896, 3183342108]
theorem tab_ok : ∀ i, i < 16 → tab[i]? = some (half i) := by decide
abbrev lay : List (String × DataW Unit) := [("jalousie/crc.effect", Rows.laid_jalousie_crc_effect)]
theorem lay_tab : (Rows.laid_jalousie_crc_effect : DataW Unit) = .agg (tab.map fun x : Nat => .lit (.int .u32 (x : Int))) := rfl
theorem gEff : Tryd.prog.globalNamed "jalousie/crc.effect" = some 0 := by kernel_rfl
theorem tEff : (Tryd.prog.globals[0]?).map (·.type) = some 101 := by kernel_rfl
theorem tab_of_laid {W : World} (h : laidMetH Tryd.prog lay W) : Tab W := by
  rw [MakeChecks.laidMetH_plain _ _ _ (by kernel_rfl)] at h
  obtain ⟨ps, ⟨g0, t0, cs0, f0, p0, q0, hg0, ht0, hv0, hd0, _, _⟩, _⟩ := h
  obtain rfl := Option.some.inj (gEff.symm.trans hg0)
  obtain rfl := Option.some.inj (tEff.symm.trans ht0)
  obtain ⟨xs, m1, rfl, hx1, hlen, hn, hel⟩ := DataW.trod_array Tryd.underlying101 hd0
  have c1 : Tryd.prog.cellsOf 79 = 1 := by kernel_rfl
  have c16 : Tryd.prog.cellsOf 101 = 16 := by kernel_rfl
  rw [c16] at hlen
  simp only [Prod.mk.injEq] at hx1
  have hx := hx1.1
  rw [lay_tab] at hx
  injection hx with hx
  intro i hi
  have he := hel i hi
  rw [c1, Nat.mul_one] at he
  obtain ⟨x, hxi⟩ : ∃ x, xs[i]? = some x := ⟨_, List.getElem?_eq_getElem (by omega)⟩
  obtain ⟨c, hci⟩ : ∃ c, cs0.toList[i]? = some c := ⟨_, List.getElem?_eq_getElem (by omega)⟩
  have hcl : (cs0.toList.drop i).take 1 = [c] := by
    obtain ⟨hlt, hget⟩ := List.getElem?_eq_some_iff.1 hci
    rw [List.drop_eq_getElem_cons hlt, hget]
    rfl
  rw [hcl, hxi] at he
  obtain ⟨k, hk1, hk2, _⟩ := DataW.trod_int Tryd.underlying79 he
  have hq : (xs.map (·.1))[i]? = some x.1 := by rw [List.getElem?_map, hxi]; rfl
  rw [← hx, List.getElem?_map, tab_ok i hi, hk2] at hq
  simp only [Option.map_some, Option.some.injEq, DataW.lit.injEq, Lit.int.injEq, true_and] at hq
  have hv := World.var?_cell hg0 hv0 i
  rw [hv, ← Array.getElem?_toList, hci]
  rw [(List.cons.inj hk1).1, hq]

theorem door_met (os : Os) (args : Array Value) : laidMetH Tryd.prog lay ((World.doorLaid Tryd.prog 14 os).forCall (fun _ _ => 0) ⟨#[], args, []⟩).memory :=
  laidMetH_of_parts3 (fuel := 8) (laidMet_of_run' 8 (by kernel_rfl) (by kernel_rfl)) (by kernel_rfl) (by kernel_rfl)

end Go.Proofs.YtpikcodnonodlaaDoor
end

section
namespace Go.Proofs.YtpikcodnonodlaaDoor
open Go.ChangeShapes Go.WideShapes Go.ChangeAt Go.RowKit
set_option linter.unusedVariables false

abbrev layN : Nat := 14
abbrev layKinds : List LaidKind := [.data]
theorem base_of_laid {W : World} (h : laidMetH Tryd.prog lay W) : Tab W := tab_of_laid h

end Go.Proofs.YtpikcodnonodlaaDoor
end

section
namespace Go.Proofs.YtpikcodnonodlaaDoor
open Go.RowKit
set_option linter.unusedVariables false

def textB (l : List UInt8) : List UInt8 := UInt8.ofNat (l.take 255).length :: l.take 255

def Short (W : Nat) (s : ByteArray) (w : World) (e : Ending) (w' : World) : Prop :=
  ∃ A c, e = .returned (.slice A (s.size + 1) c) ∧ s.size + 1 ≤ c ∧ Row w' 5 W A ((UInt8.ofNat s.size :: s.data.toList).map byteV) ∧ Below W w w'

end Go.Proofs.YtpikcodnonodlaaDoor
end

section
namespace Go.Proofs.YtpikcodnonodlaaDoor
open Go.RowKit
set_option linter.unusedVariables false

theorem foldl_num (l : List UInt8) : ∀ x : Nat, l.foldl (fun x c => x * 256 + c.toNat) x = x * 256 ^ l.length + numOf l := by
  unfold numOf
  induction l with
  | nil => intro x; simp
  | cons c l ih =>
    intro x
    rw [List.foldl_cons, List.foldl_cons, ih, ih (0 * 256 + c.toNat), List.length_cons, Nat.pow_succ]
    simp only [Nat.zero_mul, Nat.zero_add, Nat.add_mul]
    rw [Nat.mul_comm (256 ^ l.length) 256, Nat.mul_assoc, Nat.add_assoc]
theorem numOf_cons (c : UInt8) (l : List UInt8) : numOf (c :: l) = c.toNat * 256 ^ l.length + numOf l := by
  have h := foldl_num (c :: l) 0
  have h2 := foldl_num l (0 * 256 + c.toNat)
  unfold numOf at *
  rw [List.foldl_cons, h2]
  simp
theorem numOf_numB (x n : Nat) : numOf (numB x n) = x % 256 ^ n := by
  induction n with
  | zero => simp [numB, numOf, Nat.mod_one]
  | succ n ih =>
    rw [numB_succ, numOf_cons, ih, numB_len, Nat.pow_succ, Nat.mod_mul]
    simp
    rw [Nat.mul_comm, Nat.add_comm]

theorem stN_put (x n : Nat) (r : List UInt8) (h1 : 1 ≤ n) (h8 : n ≤ 8) (hx : x < 256 ^ n) : stN (numB x n ++ r) 0 (n : Int) = (x, r, 0) := by
  have h2 : ¬ ((n : Int) < 1 ∨ 8 < (n : Int)) := by omega
  have h3 : ¬ (((numB x n ++ r).length : Nat) : Int) < (n : Int) := by simp [numB_len]; omega
  unfold stN
  rw [if_neg (by simp), if_neg h2, if_neg h3, Int.toNat_natCast]
  have ht : (numB x n ++ r).take n = numB x n := by rw [List.take_append_of_le_length (by rw [numB_len]; omega), List.take_of_length_le (by rw [numB_len]; omega)]
  have hd : (numB x n ++ r).drop n = r := by
    have := List.drop_left (l₁ := numB x n) (l₂ := r)
    rwa [numB_len] at this
  rw [ht, hd, numOf_numB, Nat.mod_eq_of_lt hx]

def textS (t : List UInt8) : List UInt8 := UInt8.ofNat t.length :: t
theorem ofNat_toNat (n : Nat) (h : n ≤ 255) : (UInt8.ofNat n).toNat = n := by simp; omega
def enc (ps : List (Nat × Nat)) : List UInt8 := ps.flatMap fun p => numB p.1 p.2
end Go.Proofs.YtpikcodnonodlaaDoor
end

section
namespace Go.Proofs.YtpikcodnonodlaaDoor
open Go.RowKit
set_option linter.unusedVariables false

theorem isTag_tag (l : List UInt8) : isTag (tagB l) := by
  have e : (tagB l).drop 4 = l := by
    unfold tagB
    have := List.drop_left (l₁ := numB (ofN l) 4) (l₂ := l)
    rwa [numB_len] at this
  exact ⟨by rw [tagB_len]; omega, by rw [e]⟩
def TagEnd (w : World) (l : List UInt8) (e : Ending) (w' : World) : Prop := ∃ A c, e = .returned (.tuple #[.slice A l.length c, .bool true]) ∧ Row w' 5 w.heap.size A (l.map byteV) ∧ Below w.heap.size w w'
theorem open_no (l : List UInt8) (w : World) (A : Option Addr) (n c : Nat) (htab : Tab w) (hn : n = l.length) (hc : n ≤ c) (hl : l.length ≤ 1000000) (ht : ¬ isTag l) (h : Reads w A (l.map byteV)) :
    Calls Tryd.prog 47 #[.slice A n c] w fun e w' => e = .returned (.tuple #[.slice none 0 0, .bool false]) ∧ Below w.heap.size w w' :=
  (cOpen_any A n c l w htab hn hc hl h).mono fun e w' hh => by
    rcases hh with ⟨hn, _⟩ | ⟨_, he, hb⟩
    · exact absurd hn ht
    · exact ⟨he, hb⟩

end Go.Proofs.YtpikcodnonodlaaDoor
end

section
namespace Go.Proofs.YtpikcodnonodlaaDoor
open Go.RowKit
set_option linter.unusedVariables false

def cSz : List (List UInt8) → Nat
  | [] => 0
  | c :: l => c.length + 1 + cSz l
theorem cSz_app (a b : List (List UInt8)) : cSz (a ++ b) = cSz a + cSz b := by
  induction a with
  | nil => simp [cSz]
  | cons c a ih => simp only [List.cons_append, cSz, ih]; omega
theorem cSz_len (l : List (List UInt8)) : l.length ≤ cSz l := by
  induction l with
  | nil => simp
  | cons c l ih => simp only [List.length_cons, cSz]; omega
theorem cSz_more {l : List (List UInt8)} {k : Nat} {c : List UInt8} (h : l[k]? = some c) : cSz (l.take (k + 1)) = cSz (l.take k) + (c.length + 1) := by
  obtain ⟨hk, hc⟩ := List.getElem?_eq_some_iff.1 h
  rw [List.take_succ_eq_append_getElem hk, hc, cSz_app]
  simp [cSz]
theorem cSz_take (l : List (List UInt8)) (k : Nat) : cSz (l.take k) ≤ cSz l := by
  have h := cSz_app (l.take k) (l.drop k)
  rw [List.take_append_drop] at h
  omega
theorem cSz_few (l : List (List UInt8)) (n m : Nat) (hn : l.length ≤ n) (hm : ∀ c ∈ l, c.length ≤ m) : cSz l ≤ n * (m + 1) := by
  have h : cSz l ≤ l.length * (m + 1) := by
    clear hn
    induction l with
    | nil => simp [cSz]
    | cons c l ih =>
      have h1 := hm c (List.mem_cons_self ..)
      have h2 := ih fun d hd => hm d (List.mem_cons_of_mem _ hd)
      simp only [List.length_cons, cSz, Nat.add_mul, Nat.one_mul] at *
      omega
  exact Nat.le_trans h (Nat.mul_le_mul_right _ hn)
def cBack (l : List (List UInt8)) : List UInt8 := l.reverse.flatten
theorem cBack_snoc (l : List (List UInt8)) (c : List UInt8) : cBack (l ++ [c]) = c ++ cBack l := by simp [cBack]
theorem cBack_cons (l : List (List UInt8)) (c : List UInt8) : cBack (c :: l) = cBack l ++ c := by simp [cBack]
theorem cBack_len (l : List (List UInt8)) : (cBack l).length + l.length = cSz l := by
  induction l with
  | nil => rfl
  | cons c l ih =>
    rw [cBack_cons, List.length_append, List.length_cons, cSz]
    omega
def cSlots (at_ : Nat) : List (List UInt8) → List UInt8
  | [] => []
  | c :: l => UInt8.ofNat (at_ - c.length) :: cSlots (at_ - c.length) l
theorem cSlots_len (l : List (List UInt8)) : ∀ at_, (cSlots at_ l).length = l.length := by
  induction l with
  | nil => intro _; rfl
  | cons c l ih => intro at_; simp [cSlots, ih]
theorem cSlots_snoc (l : List (List UInt8)) (c : List UInt8) : ∀ at_, cSlots at_ (l ++ [c]) = cSlots at_ l ++ [UInt8.ofNat (at_ - (cBack l).length - c.length)] := by
  induction l with
  | nil => intro at_; simp [cSlots, cBack]
  | cons d l ih =>
    intro at_
    simp only [List.cons_append, cSlots, ih, cBack_cons, List.length_append]
    congr 4
    omega
def cBody (kind : UInt8) (n : Nat) (l : List (List UInt8)) : List UInt8 := kind :: UInt8.ofNat n :: (cSlots 128 l ++ (List.replicate (122 - cSz l) 0 ++ cBack l))
theorem cBody_len (kind : UInt8) (n : Nat) (l : List (List UInt8)) (h : cSz l ≤ 122) : (cBody kind n l).length = 124 := by
  have := cBack_len l
  have := cSz_len l
  simp only [cBody, List.length_cons, List.length_append, List.length_replicate, cSlots_len]
  omega
def cPage (kind : UInt8) (l : List (List UInt8)) : List UInt8 := tagB (cBody kind l.length l)
theorem cPage_len (kind : UInt8) (l : List (List UInt8)) (h : cSz l ≤ 122) : (cPage kind l).length = 128 := by
  rw [cPage, tagB_len, cBody_len _ _ _ h]
def cFits (kind : UInt8) (l : List (List UInt8)) : Prop := kind ≠ 0 ∧ cSz l ≤ 122
instance (kind : UInt8) (l : List (List UInt8)) : Decidable (cFits kind l) := by unfold cFits; infer_instance

/-! ### The page while it is assembled -/
def cDraft (kind : UInt8) (n : Nat) (l : List (List UInt8)) : List UInt8 := [0, 0, 0, 0] ++ cBody kind n l
theorem cDraft_len (kind : UInt8) (n : Nat) (l : List (List UInt8)) (h : cSz l ≤ 122) : (cDraft kind n l).length = 128 := by
  rw [cDraft, List.length_append, cBody_len _ _ _ h]
  rfl
theorem cDraft_nil (kind : UInt8) (n : Nat) : cDraft kind n [] = [0, 0, 0, 0, kind, UInt8.ofNat n] ++ List.replicate 122 0 := by simp [cDraft, cBody, cSlots, cBack, cSz]
theorem cDraft_drop (kind : UInt8) (n : Nat) (l : List (List UInt8)) : (cDraft kind n l).drop 4 = cBody kind n l := rfl
theorem repl_add (a b : Nat) : List.replicate (a + b) (0 : UInt8) = List.replicate a 0 ++ List.replicate b 0 := by simp
theorem cDraft_step (kind : UInt8) (n : Nat) (l : List (List UInt8)) (c : List UInt8) (h : cSz l + (c.length + 1) ≤ 122) :
    splice ((cDraft kind n l).set (6 + l.length) (UInt8.ofNat (128 - (cBack l).length - c.length))) (128 - (cBack l).length - c.length) c = cDraft kind n (l ++ [c]) := by
  have hb := cBack_len l
  have e1 : 122 - cSz l = 1 + ((122 - cSz (l ++ [c])) + c.length) := by rw [cSz_app]; simp only [cSz]; omega
  have e0 : cDraft kind n l = ([0, 0, 0, 0, kind, UInt8.ofNat n] ++ cSlots 128 l) ++ ([0] ++ (List.replicate (122 - cSz (l ++ [c])) 0 ++ (List.replicate c.length 0 ++ cBack l))) := by
    unfold cDraft cBody
    rw [e1, repl_add 1, repl_add (122 - cSz (l ++ [c]))]
    simp only [List.append_assoc, List.cons_append, List.nil_append, List.replicate_one]
  have l0 : ([0, 0, 0, 0, kind, UInt8.ofNat n] ++ cSlots 128 l : List UInt8).length = 6 + l.length := by simp [cSlots_len]; omega
  generalize hs : UInt8.ofNat (128 - (cBack l).length - c.length) = s
  have e2 : (cDraft kind n l).set (6 + l.length) s = (([0, 0, 0, 0, kind, UInt8.ofNat n] ++ cSlots 128 l) ++ ([s] ++ List.replicate (122 - cSz (l ++ [c])) 0)) ++ (List.replicate c.length 0 ++ cBack l) := by
    rw [e0, List.set_append_right _ _ (by omega), l0, Nat.sub_self]
    simp
  have l2 : (([0, 0, 0, 0, kind, UInt8.ofNat n] ++ cSlots 128 l) ++ ([s] ++ List.replicate (122 - cSz (l ++ [c])) 0) : List UInt8).length = 128 - (cBack l).length - c.length := by
    rw [List.length_append, l0, cSz_app]
    simp only [List.length_append, List.length_replicate, List.length_cons, List.length_nil, cSz]
    omega
  rw [e2]
  unfold splice
  rw [List.take_append_of_le_length (by omega), List.take_of_length_le (by omega), ← l2, List.drop_append, List.drop_eq_nil_of_le (by omega), Nat.add_sub_cancel_left, List.nil_append,
    List.drop_append, List.drop_eq_nil_of_le (by simp), List.length_replicate, Nat.sub_self, List.drop_zero, List.nil_append]
  unfold cDraft cBody
  rw [cSlots_snoc, cBack_snoc, hs]
  simp

/-! ### Cells cut out of a page -/
def cCut (b : List UInt8) : List UInt8 → Nat → List (List UInt8)
  | [], _ => []
  | s :: ss, end_ => if s.toNat > end_ then [] else (b.drop s.toNat).take (end_ - s.toNat) :: cCut b ss s.toNat
theorem cCut_len (b : List UInt8) (ss : List UInt8) : ∀ end_, (cCut b ss end_).length ≤ ss.length := by
  induction ss with
  | nil => intro _; simp [cCut]
  | cons s ss ih =>
    intro end_
    simp only [cCut]
    split
    · simp
    · have := ih s.toNat
      simp only [List.length_cons]
      omega
def cCount (b : List UInt8) : Nat := (b[5]?.getD 0).toNat
def cKind (b : List UInt8) : UInt8 := b[4]?.getD 0
def cSlotsOf (b : List UInt8) : List UInt8 := (b.drop 6).take (cCount b)
def cCells (b : List UInt8) : List (List UInt8) := cCut b (cSlotsOf b) 128
theorem cCut_back (b : List UInt8) (l : List (List UInt8)) : ∀ end_, end_ ≤ 128 → (cBack l).length ≤ end_ → (b.drop (end_ - (cBack l).length)).take (cBack l).length = cBack l → cCut b (cSlots end_ l) end_ = l := by
  induction l with
  | nil => intro _ _ _ _; rfl
  | cons c l ih =>
    intro end_ h1 h2 h3
    rw [cBack_cons, List.length_append] at h2 h3
    have hs : (UInt8.ofNat (end_ - c.length)).toNat = end_ - c.length := by simp; omega
    have ha : (b.drop (end_ - c.length - (cBack l).length)).take (cBack l).length = cBack l := by
      have := congrArg (List.take (cBack l).length) h3
      rw [List.take_take, Nat.min_eq_left (by omega), List.take_left] at this
      rw [Nat.sub_sub, Nat.add_comm c.length]
      exact this
    have hc : (b.drop (end_ - c.length)).take c.length = c := by
      have := congrArg (List.drop (cBack l).length) h3
      rw [List.drop_left, List.drop_take, List.drop_drop] at this
      have e1 : end_ - ((cBack l).length + c.length) + (cBack l).length = end_ - c.length := by omega
      have e2 : (cBack l).length + c.length - (cBack l).length = c.length := by omega
      rw [e1, e2] at this
      exact this
    simp only [cSlots, cCut, hs]
    rw [if_neg (by omega)]
    have e3 : end_ - (end_ - c.length) = c.length := by omega
    rw [e3, hc, ih _ (by omega) (by omega) ha]
theorem tag_split (l : List UInt8) : ∃ a b c d, tagB l = [a, b, c, d] ++ l := ⟨_, _, _, _, rfl⟩
theorem cKind_page (kind : UInt8) (l : List (List UInt8)) : cKind (cPage kind l) = kind := by
  obtain ⟨a, b, c, d, h⟩ := tag_split (cBody kind l.length l)
  unfold cPage
  rw [h]
  rfl
theorem cCount_page (kind : UInt8) (l : List (List UInt8)) (h : cSz l ≤ 122) : cCount (cPage kind l) = l.length := by
  obtain ⟨a, b, c, d, hh⟩ := tag_split (cBody kind l.length l)
  have hl := cSz_len l
  unfold cPage
  rw [hh]
  show (UInt8.ofNat l.length).toNat = l.length
  simp
  omega
theorem cCells_page (kind : UInt8) (l : List (List UInt8)) (h : cSz l ≤ 122) : cCells (cPage kind l) = l := by
  have hlen := cPage_len kind l h
  have hn := cCount_page kind l h
  have hb := cBack_len l
  have hs : cSlotsOf (cPage kind l) = cSlots 128 l := by
    unfold cSlotsOf
    rw [hn]
    obtain ⟨a, b, c, d, hh⟩ := tag_split (cBody kind l.length l)
    unfold cPage
    rw [hh]
    show (cSlots 128 l ++ _).take l.length = _
    rw [List.take_append_of_le_length (by rw [cSlots_len]; omega), List.take_of_length_le (by rw [cSlots_len]; omega)]
  unfold cCells
  rw [hs]
  refine cCut_back _ l 128 (by omega) (by omega) ?_
  have hd : (cPage kind l).drop (128 - (cBack l).length) = cBack l := by
    obtain ⟨a, b, c, d, hh⟩ := tag_split (cBody kind l.length l)
    have e : cPage kind l = ([a, b, c, d, kind, UInt8.ofNat l.length] ++ cSlots 128 l ++ List.replicate (122 - cSz l) 0) ++ cBack l := by
      unfold cPage
      rw [hh]
      simp [cBody]
    have e2 : 128 - (cBack l).length = ([a, b, c, d, kind, UInt8.ofNat l.length] ++ cSlots 128 l ++ List.replicate (122 - cSz l) 0 : List UInt8).length := by
      have := congrArg List.length e
      rw [List.length_append, hlen] at this
      omega
    rw [e2, e, List.drop_left]
  rw [hd, List.take_of_length_le (Nat.le_refl _)]
def cForm (b : List UInt8) : Prop := cFits (cKind b) (cCells b) ∧ cPage (cKind b) (cCells b) = b
instance (b : List UInt8) : Decidable (cForm b) := by unfold cForm; infer_instance
theorem cForm_page {kind : UInt8} {l : List (List UInt8)} (h : cFits kind l) : cForm (cPage kind l) := by
  unfold cForm
  rw [cKind_page, cCells_page _ _ h.2]
  exact ⟨h, rfl⟩
theorem cForm_count {b : List UInt8} (h : cForm b) : (cCells b).length = cCount b := by
  have h1 := cCount_page (cKind b) (cCells b) h.1.2
  rw [h.2] at h1
  exact h1.symm
theorem cPage_inj {k k' : UInt8} {l l' : List (List UInt8)} (h : cSz l ≤ 122) (h' : cSz l' ≤ 122) : cPage k l = cPage k' l' ↔ k = k' ∧ l = l' := by
  constructor
  · intro e
    have e1 := congrArg cKind e
    have e2 := congrArg cCells e
    rw [cKind_page, cKind_page] at e1
    rw [cCells_page _ _ h, cCells_page _ _ h'] at e2
    exact ⟨e1, e2⟩
  · rintro ⟨rfl, rfl⟩; rfl
theorem isTag_page (kind : UInt8) (l : List (List UInt8)) : isTag (cPage kind l) := isTag_tag _
instance (l : List UInt8) : Decidable (isTag l) := by unfold isTag; infer_instance
def unpN (b : List UInt8) : UInt8 × List (List UInt8) × Int :=
  if b.length ≠ 128 then (0, [], 1) else if ¬ isTag b then (0, [], 12) else if ¬ cForm b then (0, [], 11) else (cKind b, cCells b, 0)
theorem unpN_no {b : List UInt8} (h : b.length = 128) (ht : isTag b) (hn : ¬ cForm b) : unpN b = (0, [], 11) := by
  unfold unpN
  rw [if_neg (by rw [h]; simp), if_neg (by simpa using ht), if_pos hn]
theorem unpN_yes {b : List UInt8} (h : b.length = 128) (ht : isTag b) (hn : cForm b) : unpN b = (cKind b, cCells b, 0) := by
  unfold unpN
  rw [if_neg (by rw [h]; simp), if_neg (by simpa using ht), if_neg (by simpa using hn)]
theorem unpN_page {kind : UInt8} {l : List (List UInt8)} (h : cFits kind l) : unpN (cPage kind l) = (kind, l, 0) := by
  unfold unpN
  rw [if_neg (by rw [cPage_len _ _ h.2]; simp), if_neg (by simpa using isTag_page kind l), if_neg (by simpa using cForm_page h), cKind_page, cCells_page _ _ h.2]

/-! ### A bit that is turned -/
theorem turned (l : List UInt8) (at_ : Nat) (h : at_ < l.length) (ht : isTag l) : ¬ isTag (l.set at_ (l[at_] ^^^ 1)) := by
  intro hh
  have hx : ∀ x : UInt8, x ^^^ 1 ≠ x := by
    intro x e
    have h2 : x ^^^ (x ^^^ 1) = x ^^^ x := by rw [e]
    rw [← UInt8.xor_assoc, UInt8.xor_self, UInt8.zero_xor] at h2
    exact absurd h2 (by decide)
  have e1 := ht.2
  have e2 := hh.2
  have l4 := ht.1
  have lb := onN_lt 0 (l.drop 4)
  unfold tagB at e1 e2
  by_cases h4 : at_ < 4
  · rw [List.drop_set, if_pos h4] at e2
    have e3 := e1.symm.trans (congrArg (numB (ofN (l.drop 4)) 4 ++ ·) rfl)
    rw [e1] at e2
    have e4 : l[at_]? = (l.set at_ (l[at_] ^^^ 1))[at_]? := by rw [← e2]
    rw [List.getElem?_set_self h, List.getElem?_eq_getElem h] at e4
    injection e4 with e4
    exact hx _ e4.symm
  · rw [List.drop_set, if_neg h4] at e2
    have t1 : numB (ofN (l.drop 4)) 4 = l.take 4 := by
      have := congrArg (List.take 4) e1
      rwa [List.take_append_of_le_length (by rw [numB_len]; omega), List.take_of_length_le (by rw [numB_len]; omega)] at this
    have t2 : numB (ofN ((l.drop 4).set (at_ - 4) (l[at_] ^^^ 1))) 4 = l.take 4 := by
      have := congrArg (List.take 4) e2
      rwa [List.take_append_of_le_length (by rw [numB_len]; omega), List.take_of_length_le (by rw [numB_len]; omega), List.take_set_of_le (by omega)] at this
    have e5 := t2.trans t1.symm
    have e6 := congrArg numOf e5
    rw [numOf_four _ (ofN_lt _), numOf_four _ (ofN_lt _)] at e6
    have hj : at_ - 4 < (l.drop 4).length := by simp; omega
    have hg : (l.drop 4)[at_ - 4] = l[at_] := by
      rw [List.getElem_drop]
      congr 1
      omega
    have hd := dg_xor (l.drop 4) (at_ - 4) 1 hj
    rw [hg] at hd
    refine burst (l.drop 4) _ (8 * (at_ - 4)) 1 (by simp) ?_ (by omega) (by decide) (by decide) e6
    rw [hd]
    congr 1
    have : (256 : Nat) = 2 ^ 8 := by decide
    rw [this, ← Nat.pow_mul, Nat.mul_one]
    simp

end Go.Proofs.YtpikcodnonodlaaDoor
end

section
namespace Go.Proofs.YtpikcodnonodlaaDoor
open Go.RowKit
set_option linter.unusedVariables false

structure Mt where
  label : Int
  txn : Nat
  root : Int
  list : Int
  high : Int
def mt0 : Mt := ⟨0, 0, 0, 0, 0⟩
def mtV (m : Mt) : Value := .agg #[.int .i64 m.label, .int .u64 (m.txn : Int), .int .i64 m.root, .int .i64 m.list, .int .i64 m.high]
def mtC (m : Mt) : Array Value := #[.int .i64 m.label, .int .u64 (m.txn : Int), .int .i64 m.root, .int .i64 m.list, .int .i64 m.high]
def placeM (p high : Int) : Prop := p = 0 ∨ (2 ≤ p ∧ p < high)
instance (p high : Int) : Decidable (placeM p high) := by unfold placeM; infer_instance
def checkM (m : Mt) : Prop := 0 ≤ m.label ∧ m.label < 64 ∧ 0 < m.txn ∧ 2 ≤ m.high ∧ m.high ≤ 1000 ∧ placeM m.root m.high ∧ placeM m.list m.high ∧ (m.root ≠ m.list ∨ m.root = 0)
instance (m : Mt) : Decidable (checkM m) := by unfold checkM; infer_instance
theorem checkM_few {m : Mt} (h : checkM m) : 0 ≤ m.label ∧ m.label < 64 ∧ 0 < m.txn ∧ 0 ≤ m.root ∧ m.root < 1000 ∧ 0 ≤ m.list ∧ m.list < 1000 ∧ 2 ≤ m.high ∧ m.high ≤ 1000 := by
  obtain ⟨h1, h2, h3, h4, h5, h6, h7, h8⟩ := h
  unfold placeM at h6 h7
  omega
def cellM (m : Mt) : List UInt8 := [109, 101, 116, 97] ++ (numB m.label.toNat 1 ++ (numB m.txn 8 ++ (numB m.root.toNat 2 ++ (numB m.list.toNat 2 ++ numB m.high.toNat 2))))
theorem cellM_len (m : Mt) : (cellM m).length = 19 := by simp [cellM, numB_len]
theorem cellM_sz (m : Mt) : cSz [cellM m] = 20 := by simp [cSz, cellM_len]
theorem cellM_fits (m : Mt) : cFits 5 [cellM m] := ⟨by decide, by rw [cellM_sz]; omega⟩
def pageM (m : Mt) : List UInt8 := cPage 5 [cellM m]
theorem pageM_len (m : Mt) : (pageM m).length = 128 := cPage_len _ _ (cellM_fits m).2
theorem pageM_tag (m : Mt) : isTag (pageM m) := isTag_page _ _
theorem unpN_pageM (m : Mt) : unpN (pageM m) = (5, [cellM m], 0) := unpN_page (cellM_fits m)

/-! What a cell's numbers are. -/
def rdL (c : List UInt8) := stN (stN c 0 4).2.1 (stN c 0 4).2.2 1
def rdT (c : List UInt8) := stN (rdL c).2.1 (rdL c).2.2 8
def rdR (c : List UInt8) := stN (rdT c).2.1 (rdT c).2.2 2
def rdS (c : List UInt8) := stN (rdR c).2.1 (rdR c).2.2 2
def rdH (c : List UInt8) := stN (rdS c).2.1 (rdS c).2.2 2
def readM (c : List UInt8) : Mt := ⟨((rdL c).1 : Int), (rdT c).1, ((rdR c).1 : Int), ((rdS c).1 : Int), ((rdH c).1 : Int)⟩
theorem readM_cell {m : Mt} (h : checkM m) (ht : m.txn < 18446744073709551616) : readM (cellM m) = m := by
  obtain ⟨a0, a1, a2, a3, a4, a5, a6, a7, a8⟩ := checkM_few h
  obtain ⟨label, txn, root, list, high⟩ := m
  simp only at a0 a1 a2 a3 a4 a5 a6 a7 a8 ht
  have e0 : stN (cellM ⟨label, txn, root, list, high⟩) 0 4 = (1835365473, numB label.toNat 1 ++ (numB txn 8 ++ (numB root.toNat 2 ++ (numB list.toNat 2 ++ numB high.toNat 2))), 0) := by
    unfold cellM
    have : ([109, 101, 116, 97] : List UInt8) = numB 1835365473 4 := by decide
    rw [this]
    exact stN_put 1835365473 4 _ (by omega) (by omega) (by decide)
  have e1 : rdL (cellM ⟨label, txn, root, list, high⟩) = (label.toNat, numB txn 8 ++ (numB root.toNat 2 ++ (numB list.toNat 2 ++ numB high.toNat 2)), 0) := by
    unfold rdL
    rw [e0]
    exact stN_put label.toNat 1 _ (by omega) (by omega) (by omega)
  have e2 : rdT (cellM ⟨label, txn, root, list, high⟩) = (txn, numB root.toNat 2 ++ (numB list.toNat 2 ++ numB high.toNat 2), 0) := by
    unfold rdT
    rw [e1]
    exact stN_put txn 8 _ (by omega) (by omega) (by omega)
  have e3 : rdR (cellM ⟨label, txn, root, list, high⟩) = (root.toNat, numB list.toNat 2 ++ numB high.toNat 2, 0) := by
    unfold rdR
    rw [e2]
    exact stN_put root.toNat 2 _ (by omega) (by omega) (by omega)
  have e4 : rdS (cellM ⟨label, txn, root, list, high⟩) = (list.toNat, numB high.toNat 2, 0) := by
    unfold rdS
    rw [e3]
    exact stN_put list.toNat 2 _ (by omega) (by omega) (by omega)
  have e5 : rdH (cellM ⟨label, txn, root, list, high⟩) = (high.toNat, [], 0) := by
    unfold rdH
    rw [e4]
    have := stN_put high.toNat 2 [] (by omega) (by omega) (by omega)
    rwa [List.append_nil] at this
  unfold readM
  rw [e1, e2, e3, e4, e5]
  simp only [Mt.mk.injEq]
  exact ⟨by omega, trivial, by omega, by omega, by omega⟩
theorem cellM_inj {m n : Mt} (hm : checkM m) (hn : checkM n) (tm : m.txn < 18446744073709551616) (tn : n.txn < 18446744073709551616) (h : cellM m = cellM n) : m = n := by
  rw [← readM_cell hm tm, ← readM_cell hn tn, h]
theorem pageM_inj {m n : Mt} (hm : checkM m) (hn : checkM n) (tm : m.txn < 18446744073709551616) (tn : n.txn < 18446744073709551616) : pageM m = pageM n ↔ m = n := by
  constructor
  · intro h
    have h2 := (cPage_inj (cellM_fits m).2 (cellM_fits n).2).1 h
    exact cellM_inj hm hn tm tn (List.singleton_inj.1 h2.2)
  · rintro rfl; rfl

/-! The meta of a page. -/
def ansM (b : List UInt8) (m : Mt) : Prop := checkM m ∧ pageM m = b
instance (b : List UInt8) (m : Mt) : Decidable (ansM b m) := by unfold ansM; infer_instance
def getM (b : List UInt8) : Mt × Int :=
  if (unpN b).2.2 ≠ 0 then (mt0, (unpN b).2.2)
  else if (unpN b).2.1.length ≠ 1 then (mt0, 11)
  else if ansM b (readM ((unpN b).2.1.headD [])) then (readM ((unpN b).2.1.headD []), 0) else (mt0, 11)
theorem getM_er {b : List UInt8} (h : (unpN b).2.2 ≠ 0) : getM b = (mt0, (unpN b).2.2) := by unfold getM; rw [if_pos h]
theorem getM_len {b : List UInt8} (h : (unpN b).2.2 = 0) (hl : (unpN b).2.1.length ≠ 1) : getM b = (mt0, 11) := by unfold getM; rw [if_neg (by simp [h]), if_pos hl]
theorem getM_one {b : List UInt8} {k : UInt8} {c : List UInt8} (h : unpN b = (k, [c], 0)) : getM b = if ansM b (readM c) then (readM c, 0) else (mt0, 11) := by
  unfold getM
  rw [h]
  simp
theorem getM_page {m : Mt} (h : checkM m) (ht : m.txn < 18446744073709551616) : getM (pageM m) = (m, 0) := by
  rw [getM_one (unpN_pageM m), readM_cell h ht, if_pos ⟨h, rfl⟩]
theorem getM_ok {b : List UInt8} (h : (getM b).2 = 0) : checkM (getM b).1 ∧ pageM (getM b).1 = b := by
  unfold getM at h ⊢
  split at h
  · rename_i h1
    exact absurd h h1
  · rename_i h1
    rw [if_neg h1]
    split at h
    · exact absurd h (by decide)
    · rename_i h2
      rw [if_neg h2]
      split at h
      · rename_i h3
        rw [if_pos h3]
        exact h3
      · exact absurd h (by decide)
theorem getM_tag {b : List UInt8} (h : ¬ isTag b) : (getM b).2 ≠ 0 := by
  intro h0
  exact h (by rw [← (getM_ok h0).2]; exact pageM_tag _)

/-! Of two pages. -/
def countsM (b : List UInt8) (slot : Nat) (label : Int) : Prop := (getM b).2 = 0 ∧ (getM b).1.label = label ∧ (getM b).1.txn % 2 = slot
instance (b : List UInt8) (slot : Nat) (label : Int) : Decidable (countsM b slot label) := by unfold countsM; infer_instance
def countM (b : List UInt8) (slot : Nat) (label : Int) : Mt × Bool := if countsM b slot label then ((getM b).1, true) else (mt0, false)
def newerM (x y : Mt × Bool) : Mt × Bool := if y.2 = true ∧ (x.2 = false ∨ x.1.txn < y.1.txn) then y else x
def newestM (a b : List UInt8) (label : Int) : Mt × Bool := newerM (countM a 0 label) (countM b 1 label)
theorem countM_yes {b : List UInt8} {slot : Nat} {label : Int} (h : countsM b slot label) : countM b slot label = ((getM b).1, true) := if_pos h
theorem countM_no {b : List UInt8} {slot : Nat} {label : Int} (h : ¬ countsM b slot label) : countM b slot label = (mt0, false) := if_neg h
theorem countM_pos {b : List UInt8} {slot : Nat} {label : Int} (h : countsM b slot label) : 0 < (getM b).1.txn := (getM_ok h.1).1.2.2.1
theorem countM_page {m : Mt} (h : checkM m) (ht : m.txn < 18446744073709551616) (slot : Nat) (label : Int) : countM (pageM m) slot label = if m.label = label ∧ m.txn % 2 = slot then (m, true) else (mt0, false) := by
  unfold countM
  have : countsM (pageM m) slot label ↔ m.label = label ∧ m.txn % 2 = slot := by
    unfold countsM
    rw [getM_page h ht]
    simp
  by_cases hc : m.label = label ∧ m.txn % 2 = slot
  · rw [if_pos (this.2 hc), if_pos hc, getM_page h ht]
  · rw [if_neg (fun hh => hc (this.1 hh)), if_neg hc]
theorem newer_step {b : List UInt8} {slot : Nat} {label : Int} (x : Mt × Bool) (hx : x.2 = false → x.1 = mt0) : newerM x (countM b slot label) = if countsM b slot label ∧ x.1.txn < (getM b).1.txn then ((getM b).1, true) else x := by
  unfold newerM
  by_cases h : countsM b slot label
  · rw [countM_yes h]
    by_cases h2 : x.1.txn < (getM b).1.txn
    · rw [if_pos ⟨rfl, Or.inr h2⟩, if_pos ⟨h, h2⟩]
    · rw [if_neg (fun hh : countsM b slot label ∧ x.1.txn < (getM b).1.txn => h2 hh.2), if_neg ?_]
      rintro ⟨_, hh | hh⟩
      · refine h2 ?_
        rw [hx hh]
        exact countM_pos h
      · exact h2 hh
  · rw [countM_no h, if_neg (fun hh : (mt0, false).2 = true ∧ _ => by cases hh.1), if_neg (fun hh : countsM b slot label ∧ _ => h hh.1)]
theorem countM_zero {b : List UInt8} {slot : Nat} {label : Int} : (countM b slot label).2 = false → (countM b slot label).1 = mt0 := by
  unfold countM
  split
  · intro h; cases h
  · intro _; rfl

/-! A byte is turned. -/
theorem turned_any (l : List UInt8) (at_ : Nat) (o : UInt8) (ho : o ≠ 0) (h : at_ < l.length) (ht : isTag l) : ¬ isTag (l.set at_ (l[at_] ^^^ o)) := by
  intro hh
  have hx : ∀ x : UInt8, x ^^^ o ≠ x := by
    intro x e
    have h2 : x ^^^ (x ^^^ o) = x ^^^ x := by rw [e]
    rw [← UInt8.xor_assoc, UInt8.xor_self, UInt8.zero_xor] at h2
    exact absurd h2 ho
  have e1 := ht.2
  have e2 := hh.2
  have l4 := ht.1
  unfold tagB at e1 e2
  by_cases h4 : at_ < 4
  · rw [List.drop_set, if_pos h4, e1] at e2
    have e4 : l[at_]? = (l.set at_ (l[at_] ^^^ o))[at_]? := by rw [← e2]
    rw [List.getElem?_set_self h, List.getElem?_eq_getElem h] at e4
    injection e4 with e4
    exact hx _ e4.symm
  · rw [List.drop_set, if_neg h4] at e2
    have t1 : numB (ofN (l.drop 4)) 4 = l.take 4 := by
      have := congrArg (List.take 4) e1
      rwa [List.take_append_of_le_length (by rw [numB_len]; omega), List.take_of_length_le (by rw [numB_len]; omega)] at this
    have t2 : numB (ofN ((l.drop 4).set (at_ - 4) (l[at_] ^^^ o))) 4 = l.take 4 := by
      have := congrArg (List.take 4) e2
      rwa [List.take_append_of_le_length (by rw [numB_len]; omega), List.take_of_length_le (by rw [numB_len]; omega), List.take_set_of_le (by omega)] at this
    have e5 := t2.trans t1.symm
    have e6 := congrArg numOf e5
    rw [numOf_four _ (ofN_lt _), numOf_four _ (ofN_lt _)] at e6
    have hj : at_ - 4 < (l.drop 4).length := by simp; omega
    have hg : (l.drop 4)[at_ - 4] = l[at_] := by
      rw [List.getElem_drop]
      congr 1
      omega
    have hd := dg_xor (l.drop 4) (at_ - 4) o hj
    rw [hg] at hd
    have hol : o.toNat < 256 := UInt8.toNat_lt o
    refine burst (l.drop 4) _ (8 * (at_ - 4)) o.toNat (by simp) ?_ (by omega) (by omega) (fun hz => ho (UInt8.toNat_inj.1 hz)) e6
    rw [hd]
    congr 1
    have : (256 : Nat) = 2 ^ 8 := by decide
    rw [this, ← Nat.pow_mul, Nat.mul_comm]
theorem countM_bad {b : List UInt8} (h : ¬ isTag b) (slot : Nat) (label : Int) : countM b slot label = (mt0, false) := countM_no (fun hh => getM_tag h hh.1)

end Go.Proofs.YtpikcodnonodlaaDoor
end

section
namespace Go.Proofs.YtpikcodnonodlaaDoor
open Go.RowKit
set_option linter.unusedVariables false

theorem rbox (w : World) (m : Mt) : ∃ W, w.alloc (.cells (mtC m) 32) = W ∧ Below w.heap.size w W ∧ Has W w.heap.size 32 (mtC m) := ⟨_, rfl, (Below.refl _ w).alloc (Nat.le_refl _) _, Has.made w _ _⟩
set_option maxHeartbeats 4000000 in
theorem r10place_any (m : Mt) (p : Int) (w : World) : Calls Tryd.prog 27 #[mtV m, .int .i64 p] w fun e w' => e = .returned (.bool (decide (placeM p m.high))) ∧ Below w.heap.size w w' := by
  obtain ⟨label, txn, root, list, high⟩ := m
  obtain ⟨W, hW, hb, hh⟩ := rbox w ⟨label, txn, root, list, high⟩
  simp only [mtV, mtC] at hW hh ⊢
  have c4 := hh.cell 4
  have HB := Lib.hid hb
  have hd : decide (placeM p high) = (decide (p = 0) || (decide (2 ≤ p) && decide (p < high))) := by
    by_cases h1 : p = 0 <;> by_cases h2 : 2 ≤ p <;> by_cases h3 : p < high <;> simp [placeM, h1, h2, h3]
  rw [hd]
  clear hb hh hd
  go_enter Tryd.func27, Tryd.ntmps27
  go_wp2
  all_goals
    go_ret
    refine ⟨?_, HB.out⟩
    congr 2
    clear hW c4 HB
    by_cases h1 : p = 0 <;> by_cases h2 : 2 ≤ p <;> by_cases h3 : p < high <;> first | (exfalso; omega) | simp [h1, h2, h3]
theorem r10Slot_any (x : Nat) (w : World) (hx : x < 18446744073709551616) : Calls Tryd.prog 15 #[.int .u64 (x : Int)] w fun e w' => e = .returned (.int .i64 ((x % 2 : Nat) : Int)) ∧ w = w' := by
  have h1 : IntKind.i64.wrap (((x % 2 : Nat) : Int)) = ((x % 2 : Nat) : Int) := IntWalk.i64_in _ (by omega)
  go_enter Tryd.func15, Tryd.ntmps15
  go_wp2
  go_ret
  exact ⟨rfl, rfl⟩
end Go.Proofs.YtpikcodnonodlaaDoor
end

section
namespace Go.Proofs.YtpikcodnonodlaaDoor
open Go.RowKit
set_option linter.unusedVariables false

def Runs (M : Act → World → Prop) : Exit → Act → World → Prop := Exit.then M (fun _ _ _ => False)
theorem Runs.out (M : Act → World → Prop) : ¬ LetsOut (Runs M) := fun ⟨_, _, h⟩ => h
theorem wp_held {P : Program} {id : Nat} {ops : Array Oper} {K : Act → World → Prop} {Q : Exit → Act → World → Prop} {a : Act} {w : World} (S : World → Prop) (M : Act → World → Prop)
    (hm : P.follows .mixedOrders = true)
    (h : wpAnyH P .any ops (Runs M) S ops.size (Array.replicate ops.size false) a w.drew) (h2 : ∀ a w, M a w → K a w) : (Code.region id ops true).wp P (Exit.then K Q) a w :=
  wp_mono (Q := Runs M) (wp_region_held hm h) (fun e a w h => by cases e <;> first | exact h2 _ _ h | exact False.elim h)
end Go.Proofs.YtpikcodnonodlaaDoor
end

section
namespace Go.Proofs.YtpikcodnonodlaaDoor
open Go.RowKit
set_option linter.unusedVariables false

theorem lit {ops : Array Oper} {i : Nat} {o : Oper} {tl : List Oper} (h : ops.toList.drop i = o :: tl) : ops[i]? = some o := by
  have h2 := congrArg (fun l => l[0]?) h
  simp only [List.getElem?_drop, Nat.add_zero, List.getElem?_cons_zero] at h2
  rw [← h2]
  simp
theorem step_open {P : Program} {ops : Array Oper} {o : Oper} {a : Act} {w : World} {K : Act → World → Prop} {Q : Exit → Act → World → Prop} {E : Prop} (hgd : o.guard = none) (h : Oper.wp P o a w K Q) :
    if Region.wanted o (yielded ops a.tmps) = true then Oper.wp P o a w K Q else E := by
  have hw : Region.wanted o (yielded ops a.tmps) = true := by simp [Region.wanted, hgd]
  rw [if_pos hw]
  exact h
end Go.Proofs.YtpikcodnonodlaaDoor
end
