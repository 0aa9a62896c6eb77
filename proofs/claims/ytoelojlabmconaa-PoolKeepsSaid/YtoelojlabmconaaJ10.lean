import Derived.Test.YtoelojlabmconaaJPod
import Derived.Shelf.Sort.Plain
import Derived.Shelf.Slices.In.SortNone
import Derived.Ground.NamesProg
import Derived.Test.YtoelojlabmconaaProg
import Derived.Test.YtoelojlabmconaaJ09
/- Of a claim's texts, joined: Pom Shsz Pps Pon. No statement but in the last. -/
section
namespace Go.Proofs.Ytoelojlabmconaa
open Go.RowKit
set_option linter.unusedVariables false

def incZ (l : List Int) : Prop := l.Pairwise (· < ·)
theorem getZ_get {l : List Int} {i : Nat} (h : i < l.length) : l.getD i 0 = l[i] := by rw [List.getD_eq_getElem?_getD, List.getElem?_eq_getElem h]; rfl
theorem okZ_iff {l : List Int} {h : Int} {i : Nat} (hi : i < l.length) : okZ l h i = true ↔ 2 ≤ l[i] ∧ l[i] < h ∧ ∀ (h0 : 0 < i), l[i - 1] < l[i] := by
  unfold okZ
  rw [getZ_get hi]
  by_cases h0 : i = 0
  · subst h0
    simp
  · rw [getZ_get (by omega)]
    simp [h0]
    intro _ _
    exact Or.inl (by omega)
theorem inc_of_next {l : List Int} (h : ∀ i (hi : i < l.length), 0 < i → l[i - 1] < l[i]) : incZ l := by
  unfold incZ
  rw [List.pairwise_iff_getElem]
  intro i j hi hj hij
  induction j with
  | zero => omega
  | succ j ih =>
    have h1 := h (j + 1) hj (by omega)
    simp only [Nat.add_sub_cancel] at h1
    by_cases e : i = j
    · subst e
      exact h1
    · have := ih (by omega) (by omega)
      omega
theorem rowB_iff {l : List Int} {h : Int} : rowB l h = true ↔ incZ l ∧ ∀ x ∈ l, 2 ≤ x ∧ x < h := by
  constructor
  · intro e
    unfold rowB at e
    rw [List.all_eq_true] at e
    have e2 : ∀ i (hi : i < l.length), 2 ≤ l[i] ∧ l[i] < h ∧ ∀ (h0 : 0 < i), l[i - 1] < l[i] := fun i hi => (okZ_iff hi).1 (e i (List.mem_range.2 hi))
    refine ⟨inc_of_next (fun i hi h0 => (e2 i hi).2.2 h0), fun x hx => ?_⟩
    obtain ⟨i, hi, rfl⟩ := List.mem_iff_getElem.1 hx
    exact ⟨(e2 i hi).1, (e2 i hi).2.1⟩
  · rintro ⟨h1, h2⟩
    refine rowB_yes (fun i hi => (okZ_iff hi).2 ⟨(h2 _ (List.getElem_mem hi)).1, (h2 _ (List.getElem_mem hi)).2, fun h0 => ?_⟩)
    exact (List.pairwise_iff_getElem.1 h1) (i - 1) i (by omega) hi (by omega)
theorem incZ_ris {l : List Int} (h : incZ l) : risZ l := List.Pairwise.imp (fun h => Int.le_of_lt h) h
theorem incZ_nodup {l : List Int} (h : incZ l) : l.Nodup := List.Pairwise.imp (fun h e => by omega) h
theorem inc_of_ris {l : List Int} (h : risZ l) (hn : l.Nodup) : incZ l := (List.Pairwise.and h hn).imp (fun ⟨h1, h2⟩ => by omega)
theorem srtZ_id {l : List Int} (h : risZ l) : srtZ l = l := risZ_ext (srtZ_ris l) h (srtZ_perm l)
theorem srtZ_eq {a b : List Int} (h : a.Perm b) : srtZ a = srtZ b := risZ_ext (srtZ_ris a) (srtZ_ris b) ((srtZ_perm a).trans (h.trans (srtZ_perm b).symm))
theorem srtZ_len (l : List Int) : (srtZ l).length = l.length := (srtZ_perm l).length_eq
theorem srtZ_mem {l : List Int} {x : Int} : x ∈ srtZ l ↔ x ∈ l := (srtZ_perm l).mem_iff
theorem rowB_srt {l : List Int} {h : Int} : rowB (srtZ l) h = true ↔ l.Nodup ∧ ∀ x ∈ l, 2 ≤ x ∧ x < h := by
  rw [rowB_iff]
  constructor
  · rintro ⟨h1, h2⟩
    exact ⟨(srtZ_perm l).nodup (incZ_nodup h1), fun x hx => h2 x (srtZ_mem.2 hx)⟩
  · rintro ⟨h1, h2⟩
    exact ⟨inc_of_ris (srtZ_ris l) ((srtZ_perm l).symm.nodup h1), fun x hx => h2 x (srtZ_mem.1 hx)⟩
theorem getW_get {l : List (Nat × List Int)} {i : Nat} (h : i < l.length) : l.getD i w00 = l[i] := getW_at (List.getElem?_eq_getElem h)
theorem okW_iff {l : List (Nat × List Int)} {h : Int} {i : Nat} (hi : i < l.length) : okW l h i = true ↔ rowB l[i].2 h = true ∧ l[i].2 ≠ [] ∧ ∀ (h0 : 0 < i), l[i - 1].1 < l[i].1 := by
  unfold okW
  rw [getW_get hi]
  by_cases h0 : i = 0
  · subst h0
    simp
  · rw [getW_get (by omega)]
    simp [h0]
    intro _ _
    omega
theorem txn_of_next {l : List (Nat × List Int)} (h : ∀ i (hi : i < l.length), 0 < i → l[i - 1].1 < l[i].1) : l.Pairwise (fun a b => a.1 < b.1) := by
  rw [List.pairwise_iff_getElem]
  intro i j hi hj hij
  induction j with
  | zero => omega
  | succ j ih =>
    have h1 := h (j + 1) hj (by omega)
    simp only [Nat.add_sub_cancel] at h1
    by_cases e : i = j
    · subst e
      exact h1
    · have := ih (by omega) (by omega)
      omega
structure OkP (p : Pd) (q : Int) : Prop where
  hi2 : 2 ≤ p.hi
  hiq : p.hi ≤ q
  free : incZ p.free
  txn : p.wait.Pairwise (fun a b => a.1 < b.1)
  pages : ∀ x ∈ p.wait, x.2 ≠ [] ∧ incZ x.2
  once : (p.free ++ catZ p.wait).Nodup
  within : ∀ x ∈ p.free ++ catZ p.wait, 2 ≤ x ∧ x < p.hi
theorem mem_catZ {l : List (Nat × List Int)} {x : Int} : x ∈ catZ l ↔ ∃ y ∈ l, x ∈ y.2 := by unfold catZ; rw [List.mem_flatMap]
theorem checkP_iff {p : Pd} {q : Int} : checkP p q = true ↔ OkP p q := by
  constructor
  · intro e
    unfold checkP at e
    simp only [Bool.and_eq_true, Bool.not_eq_true', decide_eq_false_iff_not, List.all_eq_true, List.mem_range] at e
    obtain ⟨h1, h2, h3, h4, h5⟩ := e
    have h3' := rowB_iff.1 h3
    have h5' := rowB_srt.1 h5
    have h4' := fun i (hi : i < p.wait.length) => (okW_iff hi).1 (h4 i hi)
    refine ⟨by omega, by omega, h3'.1, txn_of_next (fun i hi h0 => (h4' i hi).2.2 h0), fun x hx => ?_, h5'.1, h5'.2⟩
    obtain ⟨i, hi, rfl⟩ := List.mem_iff_getElem.1 hx
    exact ⟨(h4' i hi).2.1, (rowB_iff.1 (h4' i hi).1).1⟩
  · intro h
    unfold checkP
    simp only [Bool.and_eq_true, Bool.not_eq_true', decide_eq_false_iff_not, List.all_eq_true, List.mem_range]
    have h1 := h.hi2
    have h2 := h.hiq
    refine ⟨by omega, by omega, rowB_iff.2 ⟨h.free, fun x hx => h.within x (List.mem_append_left _ hx)⟩, fun i hi => ?_, rowB_srt.2 ⟨h.once, h.within⟩⟩
    have hm := List.getElem_mem hi
    refine (okW_iff hi).2 ⟨rowB_iff.2 ⟨(h.pages _ hm).2, fun x hx => h.within x (List.mem_append_right _ (mem_catZ.2 ⟨_, hm, hx⟩))⟩, (h.pages _ hm).1, fun h0 => ?_⟩
    exact (List.pairwise_iff_getElem.1 h.txn) (i - 1) i (by omega) hi (by omega)
/-! ### Release -/
def goneB (o : Nat) (held : Bool) (x : Nat × List Int) : Bool := !held || decide (x.1 ≤ o)
def relP (p : Pd) (o : Nat) (held : Bool) : Pd := ⟨p.hi, srtZ (p.free ++ catZ (p.wait.filter (goneB o held))), p.wait.filter (fun x => !goneB o held x)⟩
theorem catZ_split (l : List (Nat × List Int)) (f : Nat × List Int → Bool) : (catZ (l.filter f) ++ catZ (l.filter (fun x => !f x))).Perm (catZ l) := by
  unfold catZ
  rw [← List.flatMap_append]
  exact (List.filter_append_perm f l).flatMap_right _
theorem relP_all (p : Pd) (o : Nat) (held : Bool) : ((relP p o held).free ++ catZ (relP p o held).wait).Perm (p.free ++ catZ p.wait) := by
  refine ((srtZ_perm _).append_right _).trans ?_
  rw [List.append_assoc]
  exact (catZ_split p.wait (goneB o held)).append_left _
theorem relP_listed (p : Pd) (o : Nat) (held : Bool) : listedP (relP p o held) = listedP p := srtZ_eq (relP_all p o held)
theorem relP_ok {p : Pd} {q : Int} (h : OkP p q) (o : Nat) (held : Bool) : OkP (relP p o held) q := by
  have hp := relP_all p o held
  have hn := hp.symm.nodup h.once
  refine ⟨h.hi2, h.hiq, inc_of_ris (srtZ_ris _) ?_, h.txn.sublist List.filter_sublist, fun x hx => h.pages x (List.mem_filter.1 hx).1, hn, fun x hx => h.within x (hp.mem_iff.1 hx)⟩
  exact (List.nodup_append.1 hn).1
theorem filter_two {l : List (Nat × List Int)} {a b : Nat} (h : a ≤ b) : (l.filter (fun x => !goneB a true x)).filter (fun x => !goneB b true x) = l.filter (fun x => !goneB b true x) := by
  rw [List.filter_filter]
  congr 1
  funext x
  simp [goneB]
  omega
theorem relP_two (p : Pd) {a b : Nat} (h : a ≤ b) : relP (relP p a true) b true = relP p b true := by
  have hw : (relP (relP p a true) b true).wait = (relP p b true).wait := filter_two h
  have hf : (relP (relP p a true) b true).free = (relP p b true).free := by
    have h1 := (relP_all (relP p a true) b true).trans (relP_all p a true)
    have h2 := relP_all p b true
    rw [hw] at h1
    exact risZ_ext (srtZ_ris _) (srtZ_ris _) ((List.perm_append_right_iff _).1 (h1.trans h2.symm))
  show Pd.mk _ _ _ = Pd.mk _ _ _
  exact congr (congr (congrArg Pd.mk rfl) hf) hw
theorem relP_none (p : Pd) (o : Nat) : (relP p o false).wait = [] := by
  unfold relP
  simp [goneB]
theorem relP_count (p : Pd) (o : Nat) (held : Bool) : (relP p o held).free.length + (catZ (relP p o held).wait).length = (listedP p).length := by
  rw [← List.length_append, (relP_all p o held).length_eq]
  exact (srtZ_len _).symm
theorem cat_sub {l l' : List (Nat × List Int)} (h : l'.Sublist l) : (catZ l').length ≤ (catZ l).length := by
  induction h with
  | slnil => exact Nat.le_refl _
  | cons a _ ih =>
    show _ ≤ (a.2 ++ catZ _).length
    rw [List.length_append]
    omega
  | cons_cons a _ ih =>
    show (a.2 ++ catZ _).length ≤ (a.2 ++ catZ _).length
    rw [List.length_append, List.length_append]
    omega
theorem relP_wait {p : Pd} {a b : Nat} (h : a ≤ b) : (catZ (relP p b true).wait).length ≤ (catZ (relP p a true).wait).length := by
  refine cat_sub ?_
  show (p.wait.filter (fun x => !goneB b true x)).Sublist (p.wait.filter (fun x => !goneB a true x))
  rw [← filter_two h]
  exact List.filter_sublist
def smallR (p : Pd) : Prop := p.free.length + (catZ p.wait).length ≤ 10000 ∧ p.wait.length ≤ 1000 ∧ p.hi < 2097152 ∧ -4096 < p.hi
theorem relP_small {p : Pd} (h : smallR p) (o : Nat) (held : Bool) : smallR (relP p o held) := by
  obtain ⟨h1, h2, h3⟩ := h
  refine ⟨?_, Nat.le_trans (List.length_filter_le _ _) h2, h3⟩
  rw [relP_count]
  unfold listedP
  rw [srtZ_len, List.length_append]
  exact h1
/-! ### Take -/
def newP (h : Int) (k : Nat) : List Int := (List.range k).map (fun (i : Nat) => h + (i : Int))
def takenP (p : Pd) (k : Nat) : List Int := (srtZ p.free).take k ++ newP p.hi (k - p.free.length)
def takeP (p : Pd) (k : Nat) : Pd := ⟨p.hi + ((k - p.free.length : Nat) : Int), (srtZ p.free).drop k, p.wait⟩
theorem newP_more (h : Int) (a b : Nat) : newP h (a + b) = newP h a ++ newP (h + (a : Int)) b := by
  unfold newP
  rw [List.range_add, List.map_append, List.map_map]
  congr 1
  refine List.map_congr_left (fun i _ => ?_)
  show h + ((a + i : Nat) : Int) = h + (a : Int) + (i : Int)
  omega
theorem newP_len (h : Int) (k : Nat) : (newP h k).length = k := by unfold newP; simp
theorem takeP_free (p : Pd) (k : Nat) : srtZ (takeP p k).free = (srtZ p.free).drop k := srtZ_id ((srtZ_ris p.free).sublist (List.drop_sublist _ _))
theorem takeP_len (p : Pd) (k : Nat) : (takeP p k).free.length = p.free.length - k := by
  show ((srtZ p.free).drop k).length = _
  rw [List.length_drop, srtZ_len]
theorem takeP_two (p : Pd) (a b : Nat) : takeP (takeP p a) b = takeP p (a + b) := by
  have e1 : (takeP (takeP p a) b).hi = (takeP p (a + b)).hi := by
    show p.hi + ((a - p.free.length : Nat) : Int) + ((b - (takeP p a).free.length : Nat) : Int) = p.hi + ((a + b - p.free.length : Nat) : Int)
    rw [takeP_len]
    omega
  have e2 : (takeP (takeP p a) b).free = (takeP p (a + b)).free := by
    show (srtZ (takeP p a).free).drop b = (srtZ p.free).drop (a + b)
    rw [takeP_free, List.drop_drop]
  show Pd.mk _ _ _ = Pd.mk _ _ _
  exact congr (congr (congrArg Pd.mk e1) e2) rfl
theorem takenP_two (p : Pd) (a b : Nat) : takenP p a ++ takenP (takeP p a) b = takenP p (a + b) := by
  unfold takenP
  rw [takeP_free, takeP_len]
  show _ ++ (((srtZ p.free).drop a).take b ++ newP (p.hi + ((a - p.free.length : Nat) : Int)) (b - (p.free.length - a))) = _
  by_cases h : p.free.length ≤ a
  · have hd : (srtZ p.free).drop a = [] := List.drop_eq_nil_of_le (by rw [srtZ_len]; exact h)
    rw [hd, List.take_nil, List.nil_append, List.append_assoc, show b - (p.free.length - a) = b by omega, ← newP_more, show a - p.free.length + b = a + b - p.free.length by omega, List.take_of_length_le (by rw [srtZ_len]; exact h), List.take_of_length_le (by rw [srtZ_len]; omega)]
  · have h0 : a - p.free.length = 0 := by omega
    have hn : newP p.hi 0 = [] := rfl
    rw [h0, hn, List.append_nil, ← List.append_assoc, ← List.take_add, show b - (p.free.length - a) = a + b - p.free.length by omega]
    simp
theorem takenP_len (p : Pd) (k : Nat) : (takenP p k).length = k := by
  unfold takenP
  rw [List.length_append, List.length_take, srtZ_len, newP_len]
  omega
theorem roomP_take {p : Pd} {q : Int} {k : Nat} (hq : p.hi ≤ q) (h : (k : Int) ≤ roomP p q) : roomP (takeP p k) q = roomP p q - (k : Int) ∧ (takeP p k).hi ≤ q := by
  unfold roomP at h ⊢
  rw [takeP_len]
  show _ = _ ∧ p.hi + ((k - p.free.length : Nat) : Int) ≤ q
  have e : (takeP p k).hi = p.hi + ((k - p.free.length : Nat) : Int) := rfl
  rw [e]
  split at h <;> split <;> omega
end Go.Proofs.Ytoelojlabmconaa
end

section
namespace Go.Proofs
open Go.Shelf
def Try.sz189_ren : Go.Shelf.Ren := ⟨fun | 189 => 37 | 125 => 41 | 257 => 40 | 128 => 53 | 129 => 54 | 294 => 44 | 295 => 45 | 296 => 46 | 297 => 47 | 298 => 48 | 299 => 49 | 216 => 50 | 300 => 51 | 301 => 52 | 328 => 56 | 329 => 57 | 330 => 58 | 331 => 59 | 332 => 60 | 215 => 61 | 343 => 63 | n => n, fun | 28 => 22 | 3 => 3 | 46 => 72 | 0 => 0 | 51 => 88 | 53 => 43 | 4 => 4 | 183 => 80 | 182 => 79 | 131 => 85 | 5 => 5 | 9 => 9 | 218 => 90 | 222 => 94 | 228 => 96 | 229 => 97 | n => n, fun | n => n⟩
theorem Try.sz189 : Go.Proofs.Lays.n189 Try.prog Try.sz189_ren := {
  mixed := by kernel_rfl
  f125 := Try.func41.trans (congrArg some (by kernel_rfl))
  f128 := Try.func53.trans (congrArg some (by kernel_rfl))
  f129 := Try.func54.trans (congrArg some (by kernel_rfl))
  f189 := Try.func37.trans (congrArg some (by kernel_rfl))
  f215 := Try.func61.trans (congrArg some (by kernel_rfl))
  f216 := Try.func50.trans (congrArg some (by kernel_rfl))
  f257 := Try.func40.trans (congrArg some (by kernel_rfl))
  f294 := Try.func44.trans (congrArg some (by kernel_rfl))
  f295 := Try.func45.trans (congrArg some (by kernel_rfl))
  f296 := Try.func46.trans (congrArg some (by kernel_rfl))
  f297 := Try.func47.trans (congrArg some (by kernel_rfl))
  f298 := Try.func48.trans (congrArg some (by kernel_rfl))
  f299 := Try.func49.trans (congrArg some (by kernel_rfl))
  f300 := Try.func51.trans (congrArg some (by kernel_rfl))
  f301 := Try.func52.trans (congrArg some (by kernel_rfl))
  f328 := Try.func56.trans (congrArg some (by kernel_rfl))
  f329 := Try.func57.trans (congrArg some (by kernel_rfl))
  f330 := Try.func58.trans (congrArg some (by kernel_rfl))
  f331 := Try.func59.trans (congrArg some (by kernel_rfl))
  f332 := Try.func60.trans (congrArg some (by kernel_rfl))
  f343 := Try.func63.trans (congrArg some (by kernel_rfl))
  t0 := Try.underlying0
  a0 := Try.isAgg0
  z0 := Try.sizeOf0
  v0 := Try.zeroValue0
  t3 := Try.underlying3
  a3 := Try.isAgg3
  z3 := Try.sizeOf3
  v3 := Try.zeroValue3
  t4 := Try.underlying4
  a4 := Try.isAgg4
  z4 := Try.sizeOf4
  v4 := Try.zeroValue4
  t5 := Try.underlying5
  a5 := Try.isAgg5
  z5 := Try.sizeOf5
  v5 := Try.zeroValue5
  t9 := Try.underlying9
  a9 := Try.isAgg9
  z9 := Try.sizeOf9
  v9 := Try.zeroValue9
  t28 := Try.underlying22
  a28 := Try.isAgg22
  z28 := Try.sizeOf22
  v28 := Try.zeroValue22
  t46 := Try.underlying72
  a46 := Try.isAgg72
  z46 := Try.sizeOf72
  v46 := Try.zeroValue72
  t51 := Try.underlying88
  a51 := Try.isAgg88
  z51 := Try.sizeOf88
  v51 := Try.zeroValue88
  t53 := Try.underlying43
  a53 := Try.isAgg43
  z53 := Try.sizeOf43
  v53 := Try.zeroValue43
  t131 := Try.underlying85
  a131 := Try.isAgg85
  z131 := Try.sizeOf85
  v131 := Try.zeroValue85
  t182 := Try.underlying79
  a182 := Try.isAgg79
  z182 := Try.sizeOf79
  v182 := Try.zeroValue79
  t183 := Try.underlying80
  a183 := Try.isAgg80
  z183 := Try.sizeOf80
  v183 := Try.zeroValue80
  t218 := Try.underlying90
  a218 := Try.isAgg90
  z218 := Try.sizeOf90
  v218 := Try.zeroValue90
  t222 := Try.underlying94
  a222 := Try.isAgg94
  z222 := Try.sizeOf94
  v222 := Try.zeroValue94
  t228 := Try.underlying96
  a228 := Try.isAgg96
  z228 := Try.sizeOf96
  v228 := Try.zeroValue96
  t229 := Try.underlying97
  a229 := Try.isAgg97
  z229 := Try.sizeOf97
  v229 := Try.zeroValue97 }
end Go.Proofs
end

section
namespace Go.Proofs.Ytoelojlabmconaa
open Go.RowKit
set_option linter.unusedVariables false

theorem srtZ_merge (l : List Int) : (l.mergeSort fun x y => decide (x ≤ y)) = srtZ l := by
  refine risZ_ext ?_ (srtZ_ris l) ((List.mergeSort_perm l _).trans (srtZ_perm l).symm)
  have := List.pairwise_mergeSort (le := fun x y : Int => decide (x ≤ y)) (fun a b c h1 h2 => by simp at h1 h2 ⊢; omega) (fun a b => by simp; omega) l
  exact this.imp (fun h => by simpa using h)
theorem grow_at {w : World} {os : Array Obj} {i : Nat} (h : i < w.heap.size) : (Go.Sort.grow w os).heap[i]? = w.heap[i]? := by
  show (w.heap ++ os)[i]? = _
  rw [Array.getElem?_append_left h]
theorem putRow_size13 (w : World) (g off : Nat) (d : Array Int) : (Go.Sort.putRow (Value.int .i64) w g off d).heap.size = w.heap.size := by
  show (w.heap.modify g _).size = _
  simp
theorem putRow_other13 {w : World} {g off i : Nat} (d : Array Int) (h : i ≠ g) : (Go.Sort.putRow (Value.int .i64) w g off d).heap[i]? = w.heap[i]? := by
  show (w.heap.modify g _)[i]? = _
  rw [Array.getElem?_modify, if_neg (Ne.symm h)]
theorem putRow_here13 {w : World} {g off : Nat} {cur : Array Value} {t : TypeId} {m : Nat × Nat} (d : Array Int) (h : w.heap[g]? = some (.cells cur t m)) : (Go.Sort.putRow (Value.int .i64) w g off d).heap[g]? = some (.cells (Go.Sort.putCells (Value.int .i64) off d cur) t m) := by
  show (w.heap.modify g _)[g]? = _
  rw [Array.getElem?_modify, if_pos rfl, h]
  rfl
theorem sortZ13_any (lo : Nat) (A : Option Addr) (n c : Nat) (l : List Int) (w : World) (h : w.ownsRow lo 3 1 (.slice A n c) n (l.map (Value.int .i64))) (hlo : lo ≤ w.heap.size) (hn : n ≤ 1000000) :
    Calls Try.prog 37 #[.slice A n c] w fun e w' => e = .returned (.tuple #[]) ∧ w'.ownsRow lo 3 1 (.slice A n c) n ((srtZ l).map (Value.int .i64)) ∧ Below lo w w' := by
  have hl : n = l.length := by have := h.1; simpa using this.symm
  rcases Nat.eq_zero_or_pos n with h0 | h0
  · obtain rfl : l = [] := List.length_eq_zero_iff.1 (by omega)
    subst h0
    refine (Any.slices_Sort_int_none Try.sz189 A c w).mono ?_
    rintro e w' ⟨rfl, rfl⟩
    exact ⟨rfl, h, Below.refl _ _⟩
  · rcases h.2 with ⟨_, hn0⟩ | ⟨g, cap, cur, e, hg, hc, h1, h2, h3, h4⟩
    · omega
    · injection e with e1 _ e3
      subst e1 e3
      have hlt : g < w.heap.size := (Array.getElem?_eq_some_iff.1 hc).1
      have hcur : n ≤ cur.size := by omega
      have hH : Go.Sort.Holds (Value.int .i64) w g 0 l.toArray := fun j hj => by
        have hj2 : j < l.length := by simpa using hj
        refine ⟨?_, by unfold World.frozen?; simp only; rw [hc]; simp⟩
        have h5 := congrArg (fun x => x[j]?) h4
        simp only [List.getElem?_take, if_pos (show j < n * 1 by omega), Array.getElem?_toList, List.getElem?_map, List.getElem?_eq_getElem hj2, Option.map_some] at h5
        rw [Nat.zero_add, cell_of_row w g j cur 3 (0, 0) hc, h5, getElem!_pos l.toArray j hj]
        simp
      subst hl
      refine (Any.slices_Sort_int Try.sz189 g 0 c l w hH hlt (by omega)).mono ?_
      rintro e w' ⟨rfl, k, os, rfl⟩
      rw [srtZ_merge]
      have hw : (Go.Sort.ahead w k).heap = w.heap := rfl
      have hs : g < (Go.Sort.putRow (Value.int .i64) (Go.Sort.ahead w k) g 0 (srtZ l).toArray).heap.size := by rw [putRow_size13]; exact hlt
      refine ⟨rfl, ⟨by rw [List.length_map, srtZ_len]; omega, Or.inr ⟨g, c, Go.Sort.putCells (Value.int .i64) 0 (srtZ l).toArray cur, rfl, hg, ?_, h1, h2, by rw [Go.Sort.putCells, Array.size_mapIdx]; exact h3, ?_⟩⟩, ⟨rfl, rfl, rfl, ?_, fun i hi => ?_⟩⟩
      · rw [grow_at hs]
        exact putRow_here13 (w := Go.Sort.ahead w k) _ hc
      · refine List.ext_getElem? (fun j => ?_)
        rw [List.getElem?_take]
        by_cases hj : j < l.length
        · rw [if_pos (by omega), Array.getElem?_toList, Go.Sort.putCells, Array.getElem?_mapIdx, Array.getElem?_eq_getElem (by omega), List.getElem?_map, List.getElem?_eq_getElem (by rw [srtZ_len]; exact hj)]
          simp only [Option.map_some, Nat.zero_add, Nat.zero_le, true_and, Nat.sub_zero, List.size_toArray, srtZ_len]
          rw [if_pos hj, getElem!_pos _ j (by simp [srtZ_len]; exact hj)]
          simp
        · rw [if_neg (by omega), List.getElem?_eq_none (by rw [List.length_map, srtZ_len]; omega)]
      · show w.heap.size ≤ (_ ++ os).size
        rw [Array.size_append, putRow_size13]
        exact Nat.le_add_right _ _
      · rw [grow_at (by rw [putRow_size13]; exact Nat.lt_of_lt_of_le hi hlo), putRow_other13 _ (by omega)]
        exact congrArg (fun h => h[i]?) hw
theorem sorted13_any (A : Option Addr) (n c : Nat) (q : List (Sl13 × List Int)) (w : World) (h : RowsZ w A n c q) (hl : (flatZ q).length ≤ 1000000) (hn : n ≤ 1000000) :
    Calls Try.prog 25 #[.slice A n c] w (OwnZ (srtZ (flatZ q)) w) := by
  have HC := Lib.hid (concatZ13_any A n c q w h hl hn)
  have HL := Lib.hid (srtTo_len (flatZ q) (flatZ q).length)
  obtain ⟨L, hL⟩ : ∃ L, (flatZ q).length = L := ⟨_, rfl⟩
  have HLL := Lib.hid hL
  clear h hL
  go_enter Try.func25, Try.ntmps25
  go_wp2_with (first
    | (go_at_call 36; (with_reducible refine HC.out.mono ?_); rintro e w1 ⟨A1, c1, rfl, o1, b1⟩; rw [HLL.out] at o1; rw [HLL.out]; have O1 := Lib.hid o1; have B1 := Lib.hid b1; have HS := Lib.hid (sortZ13_any w.heap.size A1 L c1 (flatZ q) w1 o1 b1.size (by have := HLL.out; omega)); clear o1 b1)
    | (go_at_call 37; (with_reducible refine HS.out.mono ?_); rintro e w2 ⟨rfl, o2, b2⟩; have O2 := Lib.hid o2; have B2 := Lib.hid b2; clear o2 b2))
  go_ret
  have e : (srtZ (flatZ q)).length = L := HL.out.trans HLL.out
  rw [← e] at O2 ⊢
  exact ⟨A1, c1, rfl, O2.out, B1.out.trans B2.out⟩
end Go.Proofs.Ytoelojlabmconaa
end

section
namespace Go.Proofs.Ytoelojlabmconaa
open Go.RowKit
set_option linter.unusedVariables false

def giveP (p : Pd) (t : Nat) (l : List Int) : Pd :=
  if l = [] then p else
    match p.wait.getLast? with
    | some x => if x.1 = t then ⟨p.hi, p.free, p.wait.dropLast ++ [(t, srtZ (x.2 ++ l))]⟩ else ⟨p.hi, p.free, p.wait ++ [(t, srtZ l)]⟩
    | none => ⟨p.hi, p.free, p.wait ++ [(t, srtZ l)]⟩
theorem mem_newP {h x : Int} {k : Nat} : x ∈ newP h k ↔ h ≤ x ∧ x < h + (k : Int) := by
  unfold newP
  rw [List.mem_map]
  constructor
  · rintro ⟨i, hi, rfl⟩
    have := List.mem_range.1 hi
    omega
  · rintro ⟨h1, h2⟩
    exact ⟨(x - h).toNat, List.mem_range.2 (by omega), by omega⟩
theorem newP_inc (h : Int) (k : Nat) : incZ (newP h k) := by
  unfold newP incZ
  rw [List.pairwise_map]
  exact (List.pairwise_lt_range (n := k)).imp (fun h => by omega)
theorem takenP_inc {p : Pd} {q : Int} (h : OkP p q) (k : Nat) : incZ (takenP p k) := by
  unfold takenP incZ
  rw [List.pairwise_append]
  refine ⟨?_, newP_inc _ _, fun x hx y hy => ?_⟩
  · rw [srtZ_id (incZ_ris h.free)]
    exact h.free.sublist (List.take_sublist _ _)
  · have h1 := (h.within x (List.mem_append_left _ (srtZ_mem.1 (List.mem_of_mem_take hx)))).2
    have h2 := (mem_newP.1 hy).1
    omega
theorem takeP_parts (p : Pd) (k : Nat) : (((takeP p k).free ++ catZ p.wait) ++ takenP p k).Perm ((p.free ++ catZ p.wait) ++ newP p.hi (k - p.free.length)) := by
  unfold takenP
  show (((srtZ p.free).drop k ++ catZ p.wait) ++ ((srtZ p.free).take k ++ newP p.hi (k - p.free.length))).Perm _
  rw [← List.append_assoc]
  refine List.Perm.append_right _ ?_
  refine (List.perm_append_comm).trans ?_
  rw [← List.append_assoc, List.take_append_drop]
  exact (srtZ_perm _).append_right _
theorem takeP_ok {p : Pd} {q q2 : Int} (h : OkP p q) (k : Nat) (hq : (takeP p k).hi ≤ q2) : OkP (takeP p k) q2 := by
  have hs : (takeP p k).free = p.free.drop k := by show (srtZ p.free).drop k = _; rw [srtZ_id (incZ_ris h.free)]
  have hsub : ((takeP p k).free ++ catZ p.wait).Sublist (p.free ++ catZ p.wait) := by
    rw [hs]
    exact (List.drop_sublist _ _).append (List.Sublist.refl _)
  have hh : p.hi ≤ (takeP p k).hi := by
    show p.hi ≤ p.hi + ((k - p.free.length : Nat) : Int)
    omega
  refine ⟨?_, hq, by rw [hs]; exact h.free.sublist (List.drop_sublist _ _), h.txn, h.pages, h.once.sublist hsub, fun x hx => ?_⟩
  · have := h.hi2
    omega
  · have := h.within x (hsub.mem hx)
    exact ⟨this.1, by omega⟩
theorem parts_nodup {p : Pd} {q : Int} (h : OkP p q) (k : Nat) : ((p.free ++ catZ p.wait) ++ newP p.hi k).Nodup := by
  refine List.nodup_append.2 ⟨h.once, incZ_nodup (newP_inc _ _), fun a ha b hb e => ?_⟩
  have h1 := (h.within a ha).2
  have h2 := (mem_newP.1 hb).1
  omega
theorem goes_ok {p : Pd} {q q2 : Int} (h : OkP p q) (k : Nat) (hq : (takeP p k).hi ≤ q2) (o : Nat) : OkP (giveP (relP (takeP p k) o false) 1 (takenP p k)) q2 := by
  have h1 := takeP_ok h k hq
  have h2 := relP_ok h1 o false
  have hw := relP_none (takeP p k) o
  unfold giveP
  by_cases he : takenP p k = []
  · rw [if_pos he]
    exact h2
  · rw [if_neg he, hw]
    have hall := relP_all (takeP p k) o false
    rw [hw] at hall
    have hcat : catZ ([] : List (Nat × List Int)) = [] := rfl
    rw [hcat, List.append_nil] at hall
    have hone : catZ ([] ++ [(1, srtZ (takenP p k))]) = srtZ (takenP p k) := by simp [catZ]
    have hperm : ((relP (takeP p k) o false).free ++ srtZ (takenP p k)).Perm ((p.free ++ catZ p.wait) ++ newP p.hi (k - p.free.length)) :=
      ((hall.append_right _).trans ((srtZ_perm _).append_left _)).trans (takeP_parts p k)
    refine ⟨h2.hi2, h2.hiq, h2.free, by simp, fun x hx => ?_, ?_, fun x hx => ?_⟩
    · obtain rfl : x = (1, srtZ (takenP p k)) := by simpa using hx
      refine ⟨fun e => he ?_, ?_⟩
      · have := srtZ_len (takenP p k)
        rw [show srtZ (takenP p k) = [] from e] at this
        exact List.length_eq_zero_iff.1 this.symm
      · show incZ (srtZ (takenP p k))
        rw [srtZ_id (incZ_ris (takenP_inc h k))]
        exact takenP_inc h k
    · show ((relP (takeP p k) o false).free ++ catZ ([] ++ [(1, srtZ (takenP p k))])).Nodup
      rw [hone]
      exact hperm.symm.nodup (parts_nodup h _)
    · have hx2 : x ∈ (relP (takeP p k) o false).free ++ catZ ([] ++ [(1, srtZ (takenP p k))]) := hx
      rw [hone] at hx2
      have hx3 := hperm.mem_iff.1 hx2
      show 2 ≤ x ∧ x < p.hi + ((k - p.free.length : Nat) : Int)
      rcases List.mem_append.1 hx3 with h3 | h3
      · have := h.within x h3
        omega
      · have := mem_newP.1 h3
        have := h.hi2
        omega
theorem takeP_small {p : Pd} (h : smallR p) {k : Nat} (hq : (takeP p k).hi < 2097152) : smallR (takeP p k) := by
  obtain ⟨h1, h2, h3, h4⟩ := h
  have e : (takeP p k).hi = p.hi + ((k - p.free.length : Nat) : Int) := rfl
  refine ⟨?_, h2, hq, by rw [e]; omega⟩
  rw [takeP_len]
  show p.free.length - k + (catZ p.wait).length ≤ 10000
  omega
theorem giveP_hi (p : Pd) (t : Nat) (l : List Int) : (giveP p t l).hi = p.hi := by
  unfold giveP
  split
  · rfl
  · split
    · split <;> rfl
    · rfl
theorem goes_small {p : Pd} {k : Nat} (h : p.free.length + (catZ p.wait).length ≤ 5000) (hk : k ≤ 5000) (hq : (takeP p k).hi < 2097152) (hl : -4096 < p.hi) : smallR (giveP (relP (takeP p k) 0 false) 1 (takenP p k)) := by
  have e : (takeP p k).hi = p.hi + ((k - p.free.length : Nat) : Int) := rfl
  have hw := relP_none (takeP p k) 0
  have hc := relP_count (takeP p k) 0 false
  have hn := takenP_len p k
  have hf := takeP_len p k
  have hh : (relP (takeP p k) 0 false).hi = (takeP p k).hi := rfl
  rw [hw] at hc
  unfold listedP at hc
  rw [srtZ_len, List.length_append, hf] at hc
  have h0 : (catZ ([] : List (Nat × List Int))).length = 0 := rfl
  have hz : (catZ (takeP p k).wait).length = (catZ p.wait).length := rfl
  have hg : giveP (relP (takeP p k) 0 false) 1 (takenP p k) = relP (takeP p k) 0 false ∨ giveP (relP (takeP p k) 0 false) 1 (takenP p k) = ⟨(takeP p k).hi, (relP (takeP p k) 0 false).free, [(1, srtZ (takenP p k))]⟩ := by
    unfold giveP
    rw [hw]
    by_cases he : takenP p k = []
    · rw [if_pos he]
      exact Or.inl rfl
    · rw [if_neg he]
      exact Or.inr rfl
  rcases hg with hg | hg
  · rw [hg]
    unfold smallR
    rw [hw, hh, h0]
    refine ⟨by omega, by simp, hq, by rw [e]; omega⟩
  · rw [hg]
    unfold smallR
    have h1 : (catZ [(1, srtZ (takenP p k))]).length = (takenP p k).length := by simp [catZ, srtZ_len]
    refine ⟨?_, by simp, hq, ?_⟩
    · show (relP (takeP p k) 0 false).free.length + (catZ [(1, srtZ (takenP p k))]).length ≤ 10000
      rw [h1]
      omega
    · show -4096 < (takeP p k).hi
      rw [e]
      omega
end Go.Proofs.Ytoelojlabmconaa
end
